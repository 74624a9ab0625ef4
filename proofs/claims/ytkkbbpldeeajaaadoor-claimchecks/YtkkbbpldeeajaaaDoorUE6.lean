/- What the reference's Fits answers: the same as the program's. -/
import Derived.Test.YtkkbbpldeeajaaaDoorUR
import Derived.Deep.RegionHeld3
import Derived.BigQuiet
import Derived.Deep.QuietTactic
import Derived.WalkSmall
import Derived.Test.YtkkbbpldeeajaaaDoorUQ
import Derived.Test.YtkkbbpldeeajaaaDoorUP
import Derived.Test.YtkkbbpldeeajaaaDoorUE2
import Derived.Test.YtkkbbpldeeajaaaDoorUC2
namespace Go.Proofs.YtkkbbpldeeajaaaDoor.Val
open Go.RowKit

set_option maxHeartbeats 400000 in
theorem rfits_no (vc vr : Value) (cols : List Bool) (xs : List Val) (w : World) (hc : BoolsIn w vc cols) (_hr : RowIn w vr xs) (h : mayT cols = false) :
    Calls Tryd.prog 55 #[.agg #[vc], vr] w fun e w' => e = .returned (.bool false) ∧ Below w.heap.size w w' := by
  have H : Hid (∀ w1, Below w.heap.size w w1 → Calls Tryd.prog 28 #[.agg #[vc]] w1 fun e w' => e = .returned (.bool false) ∧ Below w1.heap.size w1 w') := fun w1 hb => by
    have := rmay_any vc cols w1 (hc.below hb); rw [h] at this; exact this
  clear h hc
  go_enter Tryd.func55, Tryd.ntmps55
  go_wp2_with fail
  refine Calls.mono (H.out _ ((Below.refl _ _).alloc (Nat.le_refl _) _)) ?_
  rintro e w1 ⟨rfl, hb1⟩
  go_wp2
  go_ret
  exact ⟨rfl, back1 hb1⟩
set_option maxHeartbeats 400000 in
theorem rfits_len (vc vr : Value) (cols : List Bool) (xs : List Val) (w : World) (hc : BoolsIn w vc cols) (hr : RowIn w vr xs) (h : mayT cols = true) (hl : ¬ xs.length = cols.length) :
    Calls Tryd.prog 55 #[.agg #[vc], vr] w fun e w' => e = .returned (.bool false) ∧ Below w.heap.size w w' := by
  have H : Hid (∀ w1, Below w.heap.size w w1 → Calls Tryd.prog 28 #[.agg #[vc]] w1 fun e w' => e = .returned (.bool true) ∧ Below w1.heap.size w1 w') := fun w1 hb => by
    have := rmay_any vc cols w1 (hc.below hb); rw [h] at this; exact this
  obtain ⟨ac, cc, rfl, lc⟩ := hc.slice
  obtain ⟨ar, cr, rfl, lr⟩ := hr.slice
  have hd : ((xs.length : Int) != (cols.length : Int)) = true := by simp; omega
  clear h hc hr hl
  go_enter Tryd.func55, Tryd.ntmps55
  go_wp2_with fail
  refine Calls.mono (H.out _ ((Below.refl _ _).alloc (Nat.le_refl _) _)) ?_
  rintro e w1 ⟨rfl, hb1⟩
  have c0 := in1 hb1
  go_wp2
  go_ret
  exact ⟨rfl, back1 hb1⟩
theorem not_t {b : Bool} (h : (!b) = true) : b = false := by cases b <;> simp_all
theorem not_f {b : Bool} (h : (!b) = false) : b = true := by cases b <;> simp_all
theorem suitV_no {c : Bool} {x : Val} (h : rightV x.t x.n x.s = false) : suitV c x = false := by unfold suitV; rw [h]; rfl
theorem suitV_yes {c : Bool} {x : Val} (h : rightV x.t x.n x.s = true) : suitV c x = (x.t == c) := by unfold suitV; rw [h]; rfl
set_option maxHeartbeats 1000000 in
theorem rfits_yes (vc vr : Value) (cols : List Bool) (xs : List Val) (w : World) (hc : BoolsIn w vc cols) (hr : RowIn w vr xs) (ho : RowOk xs) (h : mayT cols = true) (hl : xs.length = cols.length) :
    Calls Tryd.prog 55 #[.agg #[vc], vr] w fun e w' => e = .returned (.bool (fitsL cols xs)) ∧ Below w.heap.size w w' := by
  have H : Hid (∀ w1, Below w.heap.size w w1 → Calls Tryd.prog 28 #[.agg #[vc]] w1 fun e w' => e = .returned (.bool true) ∧ Below w1.heap.size w1 w') := fun w1 hb => by
    have := rmay_any vc cols w1 (hc.below hb); rw [h] at this; exact this
  have HS : Hid (∀ w1 (k : Nat) (h2 : k < xs.length), Calls Tryd.prog 29 #[V xs[k].t xs[k].n xs[k].s] w1 fun e w' => e = .returned (.bool (rightV xs[k].t xs[k].n xs[k].s)) ∧ Below w1.heap.size w1 w') :=
    fun w1 k h2 => rright_any _ _ _ w1 (ho _ (List.getElem_mem _)).2
  obtain ⟨ac, cc, rfl, lc⟩ := hc.slice
  obtain ⟨ar, cr, rfl, lr⟩ := hr.slice
  have HR : Hid (RowIn w (.slice ar xs.length cr) xs) := hr
  have HC : Hid (BoolsIn w (.slice ac cols.length cc) cols) := hc
  have hd : ((xs.length : Int) != (cols.length : Int)) = false := by simp; omega
  clear h hc hr ho
  have HL : Hid (xs.length = cols.length) := hl
  clear hl
  go_enter Tryd.func55, Tryd.ntmps55
  go_wp2_with fail
  refine Calls.mono (H.out _ ((Below.refl _ _).alloc (Nat.le_refl _) _)) ?_
  rintro e w1 ⟨rfl, hb1⟩
  have c0 := in1 hb1
  have HB : Hid (Below (w.heap.size + 1) (w.alloc (.cells #[.slice ac cols.length cc] 50)) w1) := hb1.mono (by simp)
  clear hb1 H
  go_wp2_with fail
  go_loopw [6] (fun i wr => ∃ k : Nat, k ≤ xs.length ∧ i = .int .i64 k ∧ Hid (FitsTo cols xs k) ∧ Hid (Below (w.heap.size + 1) (w.alloc (.cells #[.slice ac cols.length cc] 50)) wr)) (fun i _ => xs.length - (intOf i).toNat)
  case atStart => exact ⟨0, Nat.zero_le _, rfl, FitsTo.zero _ _, HB⟩
  case round =>
    obtain ⟨k, hk, rfl, HT, HW⟩ := hrel
    clear HB c0
    have hBr : Below w.heap.size w wr := back1 (HW.out.mono (by simp))
    have c0 : wr.cell? ⟨w.heap.size, 0, none⟩ = some (.slice ac cols.length cc) := in1 (HW.out.mono (by simp))
    have hz : w.heap.size < wr.heap.size := World.block_lt_of_cell? wr _ c0
    by_cases hlt : k < xs.length
    · have hlt2 : k < cols.length := by rw [← HL.out]; exact hlt
      obtain ⟨b, o, rfl, d0, d1, d2⟩ := (HR.out.below hBr).at k hlt
      have HBr : Hid (Below w.heap.size w wr) := hBr
      clear hBr
      have k1 : (k : Int) < (xs.length : Int) := by omega
      have k2 : (k : Int) < (cols.length : Int) := by omega
      go_wp2_with fail
      refine Calls.mono (HS.out _ k hlt) ?_
      rintro e w2 ⟨rfl, hb2⟩
      have HB2 : Hid (Below (w.heap.size + 1) (w.alloc (.cells #[.slice ac cols.length cc] 50)) w2) := HW.out.trans (hb2.mono (by omega))
      have c2 : w2.cell? ⟨w.heap.size, 0, none⟩ = some (.slice ac cols.length cc) := in1 (HB2.out.mono (by simp))
      obtain ⟨b', o', e', g0, g1, g2⟩ := (HR.out.below (back1 (HB2.out.mono (by simp)))).at k hlt
      cases e'
      obtain ⟨bc, oc, rfl, cc0⟩ := (HC.out.below (back1 (HB2.out.mono (by simp)))).at k hlt2
      clear hb2 d0 d1 d2 c0
      cases hr : rightV xs[k].t xs[k].n xs[k].s
      · have HN : Hid (fitsL cols xs = false) := fitsL_no hlt2 hlt (suitV_no hr)
        clear hr
        go_wp2_with fail
        go_quiet (fail)
        go_wp2_with fail
        go_ret
        exact ⟨ret_bool' HN.out.symm, below_drewN (back1 (HB2.out.mono (by simp))) _⟩
      · have HV : Hid (suitV cols[k] xs[k] = (xs[k].t == cols[k])) := suitV_yes hr
        clear hr
        go_wp2_with fail
        go_quiet (fail)
        go_wp2_with fail
        · have HN : Hid (fitsL cols xs = false) := fitsL_no hlt2 hlt (by rw [HV.out]; exact not_t ‹(!_) = true›)
          go_ret
          exact ⟨ret_bool' HN.out.symm, below_drewN (back1 (HB2.out.mono (by simp))) _⟩
        · have HN : Hid (FitsTo cols xs (k + 1)) := HT.out.next hlt2 hlt (by rw [HV.out]; exact not_f ‹(!_) = false›)
          go_roundw
          case rel => exact ⟨k + 1, by omega, by go_num, HN, below_drewN HB2.out _⟩
          case measure => simp [intOf]; omega
    · have HN : Hid (fitsL cols xs = true) := HT.out.all (by omega)
      go_wp2_with fail
      go_ret
      exact ⟨ret_bool' HN.out.symm, hBr⟩
theorem rfits_any (vc vr : Value) (cols : List Bool) (xs : List Val) (w : World) (hc : BoolsIn w vc cols) (hr : RowIn w vr xs) (ho : RowOk xs) :
    Calls Tryd.prog 55 #[.agg #[vc], vr] w fun e w' => e = .returned (.bool (fitsRow cols xs)) ∧ Below w.heap.size w w' := by
  cases h : mayT cols
  · rw [fitsRow_may h]; exact rfits_no vc vr cols xs w hc hr h
  · by_cases hl : xs.length = cols.length
    · rw [fitsRow_of h hl]; exact rfits_yes vc vr cols xs w hc hr ho h hl
    · rw [fitsRow_len hl]; exact rfits_len vc vr cols xs w hc hr h hl
end Go.Proofs.YtkkbbpldeeajaaaDoor.Val
/- What the reference's col, part and May answer. -/
namespace Go.Proofs.YtkkbbpldeeajaaaDoor.Val
open Go.RowKit

set_option maxHeartbeats 1000000 in
theorem rcol_low (vc : Value) (col : Int) (x : Val) (w : World) (hs : x.s.size ≤ maxLen) (hlo : decide (0 ≤ col) = false) :
    Calls Tryd.prog 71 #[.agg #[vc], .int .i64 col, V x.t x.n x.s] w fun e w' => e = .returned (.bool false) ∧ Below w.heap.size w w' := by
  have H : Hid (∀ w1, Calls Tryd.prog 29 #[V x.t x.n x.s] w1 fun e w' => e = .returned (.bool (rightV x.t x.n x.s)) ∧ Below w1.heap.size w1 w') := fun w1 => rright_any x.t x.n x.s w1 hs
  clear hs
  generalize rightV x.t x.n x.s = g at *
  go_enter Tryd.func71, Tryd.ntmps71
  go_wp2_with fail
  refine Calls.mono (H.out _) ?_
  rintro e w1 ⟨rfl, hb1⟩
  have HB : Hid (Below w.heap.size w w1) := back2 hb1
  clear hb1 H
  go_wp2_with fail
  refine wp_region_held_drew (S := fun w' => True) (by kernel_rfl) ?_ (fun hHeld => ?_)
  · trivial
  (try clear hK K)
  refine wpAnyH_take (i := 0) (v := ?_) rfl (by kernel_rfl) (by kernel_rfl) (by kernel_rfl) (fun _ _ _ h => h) (Or.inl ⟨by rfl, ?_⟩) (by assumption) ?_
  rotate_left
  · intro w hSw; (try dsimp only at hSw); go_simp; (try with_reducible rfl)
  (try simp only [Act.put, List.getElem_toArray, List.getElem_cons_zero, List.setIfInBounds_toArray, List.set_cons_zero, List.set_cons_succ])
  refine wpAnyH_take (i := 1) (v := ?_) rfl (by kernel_rfl) (by kernel_rfl) (by kernel_rfl) (fun _ _ _ h => h) (Or.inl ⟨by rfl, ?_⟩) (by assumption) ?_
  rotate_left
  · intro w hSw; (try dsimp only at hSw); go_simp; (try with_reducible rfl)
  (try simp only [Act.put, List.getElem_toArray, List.getElem_cons_succ, List.getElem_cons_zero, List.setIfInBounds_toArray, List.set_cons_zero, List.set_cons_succ])
  refine wpAnyH_take (i := 2) (v := ?_) rfl (by kernel_rfl) (by kernel_rfl) (by kernel_rfl) (fun _ _ _ h => h) (Or.inl ⟨by rfl, ?_⟩) (by assumption) ?_
  rotate_left
  · intro w hSw; (try dsimp only at hSw); go_simp; (try with_reducible rfl)
  (try simp only [Act.put, List.getElem_toArray, List.getElem_cons_succ, List.getElem_cons_zero, List.setIfInBounds_toArray, List.set_cons_zero, List.set_cons_succ])
  (try clear hK K)
  refine wpAnyH_take (i := 3) (v := undef) rfl (by kernel_rfl) (by kernel_rfl) (by kernel_rfl) (fun _ _ _ h => h) (Or.inr ⟨by rfl, rfl⟩) (by assumption) ?_
  (try simp only [Act.put, List.getElem_toArray, List.getElem_cons_succ, List.getElem_cons_zero, List.setIfInBounds_toArray, List.set_cons_zero, List.set_cons_succ])
  refine wpAnyH_take (i := 4) (v := undef) rfl (by kernel_rfl) (by kernel_rfl) (by kernel_rfl) (fun _ _ _ h => h) (Or.inr ⟨by rfl, rfl⟩) (by assumption) ?_
  (try simp only [Act.put, List.getElem_toArray, List.getElem_cons_succ, List.getElem_cons_zero, List.setIfInBounds_toArray, List.set_cons_zero, List.set_cons_succ])
  refine wpAnyH_take (i := 5) (v := undef) rfl (by kernel_rfl) (by kernel_rfl) (by kernel_rfl) (fun _ _ _ h => h) (Or.inr ⟨by rfl, rfl⟩) (by assumption) ?_
  (try simp only [Act.put, List.getElem_toArray, List.getElem_cons_succ, List.getElem_cons_zero, List.setIfInBounds_toArray, List.set_cons_zero, List.set_cons_succ])
  refine wpAnyH_take (i := 6) (v := undef) rfl (by kernel_rfl) (by kernel_rfl) (by kernel_rfl) (fun _ _ _ h => h) (Or.inr ⟨by rfl, rfl⟩) (by assumption) ?_
  (try simp only [Act.put, List.getElem_toArray, List.getElem_cons_succ, List.getElem_cons_zero, List.setIfInBounds_toArray, List.set_cons_zero, List.set_cons_succ])
  refine wpAnyH_take (i := 7) (v := undef) rfl (by kernel_rfl) (by kernel_rfl) (by kernel_rfl) (fun _ _ _ h => h) (Or.inr ⟨by rfl, rfl⟩) (by assumption) ?_
  (try simp only [Act.put, List.getElem_toArray, List.getElem_cons_succ, List.getElem_cons_zero, List.setIfInBounds_toArray, List.set_cons_zero, List.set_cons_succ])
  (try clear hK K)
  refine wpAnyH_take (i := 8) (v := ?_) rfl (by kernel_rfl) (by kernel_rfl) (by kernel_rfl) (fun _ _ _ h => h) (Or.inl ⟨by rfl, ?_⟩) (by assumption) ?_
  rotate_left
  · intro w hSw; (try dsimp only at hSw); go_simp; (try with_reducible rfl)
  (try simp only [Act.put, List.getElem_toArray, List.getElem_cons_succ, List.getElem_cons_zero, List.setIfInBounds_toArray, List.set_cons_zero, List.set_cons_succ])
  refine wpAnyH_take (i := 9) (v := ?_) rfl (by kernel_rfl) (by kernel_rfl) (by kernel_rfl) (fun _ _ _ h => h) (Or.inl ⟨by rfl, ?_⟩) (by assumption) ?_
  rotate_left
  · intro w hSw; (try dsimp only at hSw); go_simp; (try with_reducible rfl)
  (try simp only [Act.put, List.getElem_toArray, List.getElem_cons_succ, List.getElem_cons_zero, List.setIfInBounds_toArray, List.set_cons_zero, List.set_cons_succ])
  (try clear hK K)
  refine wpAnyH_take (i := 10) (v := undef) rfl (by kernel_rfl) (by kernel_rfl) (by kernel_rfl) (fun _ _ _ h => h) (Or.inr ⟨by rfl, rfl⟩) (by assumption) ?_
  (try simp only [Act.put, List.getElem_toArray, List.getElem_cons_succ, List.getElem_cons_zero, List.setIfInBounds_toArray, List.set_cons_zero, List.set_cons_succ])
  (try clear hK K)
  refine wpAnyH_take (i := 11) (v := ?_) rfl (by kernel_rfl) (by kernel_rfl) (by kernel_rfl) (fun _ _ _ h => h) (Or.inl ⟨by rfl, ?_⟩) (by assumption) ?_
  rotate_left
  · intro w hSw; (try dsimp only at hSw); go_simp; (try with_reducible rfl)
  (try simp only [Act.put, List.getElem_toArray, List.getElem_cons_succ, List.getElem_cons_zero, List.setIfInBounds_toArray, List.set_cons_zero, List.set_cons_succ])
  refine wpAnyH_take (i := 12) (v := ?_) rfl (by kernel_rfl) (by kernel_rfl) (by kernel_rfl) (fun _ _ _ h => h) (Or.inl ⟨by rfl, ?_⟩) (by assumption) ?_
  rotate_left
  · intro w hSw; (try dsimp only at hSw); go_simp; (try with_reducible rfl)
  (try simp only [Act.put, List.getElem_toArray, List.getElem_cons_succ, List.getElem_cons_zero, List.setIfInBounds_toArray, List.set_cons_zero, List.set_cons_succ])
  (try clear hK K)
  refine wpAnyH_take (i := 13) (v := undef) rfl (by kernel_rfl) (by kernel_rfl) (by kernel_rfl) (fun _ _ _ h => h) (Or.inr ⟨by rfl, rfl⟩) (by assumption) ?_
  (try simp only [Act.put, List.getElem_toArray, List.getElem_cons_succ, List.getElem_cons_zero, List.setIfInBounds_toArray, List.set_cons_zero, List.set_cons_succ])
  refine wpAnyH_take (i := 14) (v := undef) rfl (by kernel_rfl) (by kernel_rfl) (by kernel_rfl) (fun _ _ _ h => h) (Or.inr ⟨by rfl, rfl⟩) (by assumption) ?_
  (try simp only [Act.put, List.getElem_toArray, List.getElem_cons_succ, List.getElem_cons_zero, List.setIfInBounds_toArray, List.set_cons_zero, List.set_cons_succ])
  refine wpAnyH_take (i := 15) (v := undef) rfl (by kernel_rfl) (by kernel_rfl) (by kernel_rfl) (fun _ _ _ h => h) (Or.inr ⟨by rfl, rfl⟩) (by assumption) ?_
  (try simp only [Act.put, List.getElem_toArray, List.getElem_cons_succ, List.getElem_cons_zero, List.setIfInBounds_toArray, List.set_cons_zero, List.set_cons_succ])
  refine wpAnyH_take (i := 16) (v := undef) rfl (by kernel_rfl) (by kernel_rfl) (by kernel_rfl) (fun _ _ _ h => h) (Or.inr ⟨by rfl, rfl⟩) (by assumption) ?_
  (try simp only [Act.put, List.getElem_toArray, List.getElem_cons_succ, List.getElem_cons_zero, List.setIfInBounds_toArray, List.set_cons_zero, List.set_cons_succ])
  refine wpAnyH_take (i := 17) (v := undef) rfl (by kernel_rfl) (by kernel_rfl) (by kernel_rfl) (fun _ _ _ h => h) (Or.inr ⟨by rfl, rfl⟩) (by assumption) ?_
  (try simp only [Act.put, List.getElem_toArray, List.getElem_cons_succ, List.getElem_cons_zero, List.setIfInBounds_toArray, List.set_cons_zero, List.set_cons_succ])
  refine wpAnyH_take (i := 18) (v := undef) rfl (by kernel_rfl) (by kernel_rfl) (by kernel_rfl) (fun _ _ _ h => h) (Or.inr ⟨by rfl, rfl⟩) (by assumption) ?_
  (try simp only [Act.put, List.getElem_toArray, List.getElem_cons_succ, List.getElem_cons_zero, List.setIfInBounds_toArray, List.set_cons_zero, List.set_cons_succ])
  refine wpAnyH_take (i := 19) (v := undef) rfl (by kernel_rfl) (by kernel_rfl) (by kernel_rfl) (fun _ _ _ h => h) (Or.inr ⟨by rfl, rfl⟩) (by assumption) ?_
  (try simp only [Act.put, List.getElem_toArray, List.getElem_cons_succ, List.getElem_cons_zero, List.setIfInBounds_toArray, List.set_cons_zero, List.set_cons_succ])
  refine wpAnyH_take (i := 20) (v := undef) rfl (by kernel_rfl) (by kernel_rfl) (by kernel_rfl) (fun _ _ _ h => h) (Or.inr ⟨by rfl, rfl⟩) (by assumption) ?_
  (try simp only [Act.put, List.getElem_toArray, List.getElem_cons_succ, List.getElem_cons_zero, List.setIfInBounds_toArray, List.set_cons_zero, List.set_cons_succ])
  (try clear hK K)
  refine wpAnyH_take (i := 21) (v := ?_) rfl (by kernel_rfl) (by kernel_rfl) (by kernel_rfl) (fun _ _ _ h => h) (Or.inl ⟨by rfl, ?_⟩) (by assumption) ?_
  rotate_left
  · intro w hSw; (try dsimp only at hSw); go_simp; (try with_reducible rfl)
  (try simp only [Act.put, List.getElem_toArray, List.getElem_cons_succ, List.getElem_cons_zero, List.setIfInBounds_toArray, List.set_cons_zero, List.set_cons_succ])
  refine wpAnyH_take (i := 22) (v := ?_) rfl (by kernel_rfl) (by kernel_rfl) (by kernel_rfl) (fun _ _ _ h => h) (Or.inl ⟨by rfl, ?_⟩) (by assumption) ?_
  rotate_left
  · intro w hSw; (try dsimp only at hSw); go_simp; (try with_reducible rfl)
  (try simp only [Act.put, List.getElem_toArray, List.getElem_cons_succ, List.getElem_cons_zero, List.setIfInBounds_toArray, List.set_cons_zero, List.set_cons_succ])
  (try clear hK K)
  refine wpAnyH_done (by kernel_rfl) ?_ _
  go_wp2_with fail
  go_ret
  exact ⟨rfl, HB.out.drew⟩
set_option maxHeartbeats 1000000 in
theorem rcol_high (ac : Option Addr) (n cc : Nat) (col : Int) (x : Val) (w : World) (hs : x.s.size ≤ maxLen) (hlo : 0 ≤ col) (hhi : decide (col < (n : Int)) = false) :
    Calls Tryd.prog 71 #[.agg #[.slice ac n cc], .int .i64 col, V x.t x.n x.s] w fun e w' => e = .returned (.bool false) ∧ Below w.heap.size w w' := by
  have H : Hid (∀ w1, Calls Tryd.prog 29 #[V x.t x.n x.s] w1 fun e w' => e = .returned (.bool (rightV x.t x.n x.s)) ∧ Below w1.heap.size w1 w') := fun w1 => rright_any x.t x.n x.s w1 hs
  clear hs
  generalize rightV x.t x.n x.s = g at *
  go_enter Tryd.func71, Tryd.ntmps71
  go_wp2_with fail
  refine Calls.mono (H.out _) ?_
  rintro e w1 ⟨rfl, hb1⟩
  have HB : Hid (Below w.heap.size w w1) := back2 hb1
  have t0 : w1.cell? ⟨w.heap.size, 0, none⟩ = some (.slice ac n cc) := by rw [hb1.cell (by simp; omega)]; simp [go_sem]
  clear hb1 H
  go_wp2_with fail
  refine wp_region_held_drew (S := fun w' => w'.cell? ⟨w.heap.size, 0, none⟩ = some (.slice ac n cc)) (by kernel_rfl) ?_ (fun hHeld => ?_)
  · exact t0
  (try clear hK K)
  refine wpAnyH_take (i := 0) (v := ?_) rfl (by kernel_rfl) (by kernel_rfl) (by kernel_rfl) (fun _ _ _ h => h) (Or.inl ⟨by rfl, ?_⟩) (by assumption) ?_
  rotate_left
  · intro w hSw; (try dsimp only at hSw); go_simp; (try with_reducible rfl)
  (try simp only [Act.put, List.getElem_toArray, List.getElem_cons_zero, List.setIfInBounds_toArray, List.set_cons_zero, List.set_cons_succ])
  refine wpAnyH_take (i := 1) (v := ?_) rfl (by kernel_rfl) (by kernel_rfl) (by kernel_rfl) (fun _ _ _ h => h) (Or.inl ⟨by rfl, ?_⟩) (by assumption) ?_
  rotate_left
  · intro w hSw; (try dsimp only at hSw); go_simp; (try with_reducible rfl)
  (try simp only [Act.put, List.getElem_toArray, List.getElem_cons_succ, List.getElem_cons_zero, List.setIfInBounds_toArray, List.set_cons_zero, List.set_cons_succ])
  refine wpAnyH_take (i := 2) (v := ?_) rfl (by kernel_rfl) (by kernel_rfl) (by kernel_rfl) (fun _ _ _ h => h) (Or.inl ⟨by rfl, ?_⟩) (by assumption) ?_
  rotate_left
  · intro w hSw; (try dsimp only at hSw); go_simp; (try with_reducible rfl)
  (try simp only [Act.put, List.getElem_toArray, List.getElem_cons_succ, List.getElem_cons_zero, List.setIfInBounds_toArray, List.set_cons_zero, List.set_cons_succ])
  refine wpAnyH_take (i := 3) (v := ?_) rfl (by kernel_rfl) (by kernel_rfl) (by kernel_rfl) (fun _ _ _ h => h) (Or.inl ⟨by rfl, ?_⟩) (by assumption) ?_
  rotate_left
  · intro w hSw; (try dsimp only at hSw); go_simp; (try with_reducible rfl)
  (try simp only [Act.put, List.getElem_toArray, List.getElem_cons_succ, List.getElem_cons_zero, List.setIfInBounds_toArray, List.set_cons_zero, List.set_cons_succ])
  refine wpAnyH_take (i := 4) (v := ?_) rfl (by kernel_rfl) (by kernel_rfl) (by kernel_rfl) (fun _ _ _ h => h) (Or.inl ⟨by rfl, ?_⟩) (by assumption) ?_
  rotate_left
  · intro w hSw; (try dsimp only at hSw); go_simp; (try with_reducible rfl)
  (try simp only [Act.put, List.getElem_toArray, List.getElem_cons_succ, List.getElem_cons_zero, List.setIfInBounds_toArray, List.set_cons_zero, List.set_cons_succ])
  refine wpAnyH_take (i := 5) (v := ?_) rfl (by kernel_rfl) (by kernel_rfl) (by kernel_rfl) (fun _ _ _ h => h) (Or.inl ⟨by rfl, ?_⟩) (by assumption) ?_
  rotate_left
  · intro w hSw; (try dsimp only at hSw); go_simp; (try with_reducible rfl)
  (try simp only [Act.put, List.getElem_toArray, List.getElem_cons_succ, List.getElem_cons_zero, List.setIfInBounds_toArray, List.set_cons_zero, List.set_cons_succ])
  refine wpAnyH_take (i := 6) (v := ?_) rfl (by kernel_rfl) (by kernel_rfl) (by kernel_rfl) (fun _ _ _ h => h) (Or.inl ⟨by rfl, ?_⟩) (by assumption) ?_
  rotate_left
  · intro w hSw; (try dsimp only at hSw); go_simp; (try with_reducible rfl)
  (try simp only [Act.put, List.getElem_toArray, List.getElem_cons_succ, List.getElem_cons_zero, List.setIfInBounds_toArray, List.set_cons_zero, List.set_cons_succ])
  refine wpAnyH_take (i := 7) (v := ?_) rfl (by kernel_rfl) (by kernel_rfl) (by kernel_rfl) (fun _ _ _ h => h) (Or.inl ⟨by rfl, ?_⟩) (by assumption) ?_
  rotate_left
  · intro w hSw; (try dsimp only at hSw); go_simp; (try with_reducible rfl)
  (try simp only [Act.put, List.getElem_toArray, List.getElem_cons_succ, List.getElem_cons_zero, List.setIfInBounds_toArray, List.set_cons_zero, List.set_cons_succ])
  refine wpAnyH_take (i := 8) (v := ?_) rfl (by kernel_rfl) (by kernel_rfl) (by kernel_rfl) (fun _ _ _ h => h) (Or.inl ⟨by rfl, ?_⟩) (by assumption) ?_
  rotate_left
  · intro w hSw; (try dsimp only at hSw); go_simp; (try with_reducible rfl)
  (try simp only [Act.put, List.getElem_toArray, List.getElem_cons_succ, List.getElem_cons_zero, List.setIfInBounds_toArray, List.set_cons_zero, List.set_cons_succ])
  refine wpAnyH_take (i := 9) (v := ?_) rfl (by kernel_rfl) (by kernel_rfl) (by kernel_rfl) (fun _ _ _ h => h) (Or.inl ⟨by rfl, ?_⟩) (by assumption) ?_
  rotate_left
  · intro w hSw; (try dsimp only at hSw); go_simp; (try with_reducible rfl)
  (try simp only [Act.put, List.getElem_toArray, List.getElem_cons_succ, List.getElem_cons_zero, List.setIfInBounds_toArray, List.set_cons_zero, List.set_cons_succ])
  (try clear hK K)
  refine wpAnyH_take (i := 10) (v := undef) rfl (by kernel_rfl) (by kernel_rfl) (by kernel_rfl) (fun _ _ _ h => h) (Or.inr ⟨by rfl, rfl⟩) (by assumption) ?_
  (try simp only [Act.put, List.getElem_toArray, List.getElem_cons_succ, List.getElem_cons_zero, List.setIfInBounds_toArray, List.set_cons_zero, List.set_cons_succ])
  (try clear hK K)
  refine wpAnyH_take (i := 11) (v := ?_) rfl (by kernel_rfl) (by kernel_rfl) (by kernel_rfl) (fun _ _ _ h => h) (Or.inl ⟨by rfl, ?_⟩) (by assumption) ?_
  rotate_left
  · intro w hSw; (try dsimp only at hSw); go_simp; (try with_reducible rfl)
  (try simp only [Act.put, List.getElem_toArray, List.getElem_cons_succ, List.getElem_cons_zero, List.setIfInBounds_toArray, List.set_cons_zero, List.set_cons_succ])
  refine wpAnyH_take (i := 12) (v := ?_) rfl (by kernel_rfl) (by kernel_rfl) (by kernel_rfl) (fun _ _ _ h => h) (Or.inl ⟨by rfl, ?_⟩) (by assumption) ?_
  rotate_left
  · intro w hSw; (try dsimp only at hSw); go_simp; (try with_reducible rfl)
  (try simp only [Act.put, List.getElem_toArray, List.getElem_cons_succ, List.getElem_cons_zero, List.setIfInBounds_toArray, List.set_cons_zero, List.set_cons_succ])
  (try clear hK K)
  refine wpAnyH_take (i := 13) (v := undef) rfl (by kernel_rfl) (by kernel_rfl) (by kernel_rfl) (fun _ _ _ h => h) (Or.inr ⟨by rfl, rfl⟩) (by assumption) ?_
  (try simp only [Act.put, List.getElem_toArray, List.getElem_cons_succ, List.getElem_cons_zero, List.setIfInBounds_toArray, List.set_cons_zero, List.set_cons_succ])
  refine wpAnyH_take (i := 14) (v := undef) rfl (by kernel_rfl) (by kernel_rfl) (by kernel_rfl) (fun _ _ _ h => h) (Or.inr ⟨by rfl, rfl⟩) (by assumption) ?_
  (try simp only [Act.put, List.getElem_toArray, List.getElem_cons_succ, List.getElem_cons_zero, List.setIfInBounds_toArray, List.set_cons_zero, List.set_cons_succ])
  refine wpAnyH_take (i := 15) (v := undef) rfl (by kernel_rfl) (by kernel_rfl) (by kernel_rfl) (fun _ _ _ h => h) (Or.inr ⟨by rfl, rfl⟩) (by assumption) ?_
  (try simp only [Act.put, List.getElem_toArray, List.getElem_cons_succ, List.getElem_cons_zero, List.setIfInBounds_toArray, List.set_cons_zero, List.set_cons_succ])
  refine wpAnyH_take (i := 16) (v := undef) rfl (by kernel_rfl) (by kernel_rfl) (by kernel_rfl) (fun _ _ _ h => h) (Or.inr ⟨by rfl, rfl⟩) (by assumption) ?_
  (try simp only [Act.put, List.getElem_toArray, List.getElem_cons_succ, List.getElem_cons_zero, List.setIfInBounds_toArray, List.set_cons_zero, List.set_cons_succ])
  refine wpAnyH_take (i := 17) (v := undef) rfl (by kernel_rfl) (by kernel_rfl) (by kernel_rfl) (fun _ _ _ h => h) (Or.inr ⟨by rfl, rfl⟩) (by assumption) ?_
  (try simp only [Act.put, List.getElem_toArray, List.getElem_cons_succ, List.getElem_cons_zero, List.setIfInBounds_toArray, List.set_cons_zero, List.set_cons_succ])
  refine wpAnyH_take (i := 18) (v := undef) rfl (by kernel_rfl) (by kernel_rfl) (by kernel_rfl) (fun _ _ _ h => h) (Or.inr ⟨by rfl, rfl⟩) (by assumption) ?_
  (try simp only [Act.put, List.getElem_toArray, List.getElem_cons_succ, List.getElem_cons_zero, List.setIfInBounds_toArray, List.set_cons_zero, List.set_cons_succ])
  refine wpAnyH_take (i := 19) (v := undef) rfl (by kernel_rfl) (by kernel_rfl) (by kernel_rfl) (fun _ _ _ h => h) (Or.inr ⟨by rfl, rfl⟩) (by assumption) ?_
  (try simp only [Act.put, List.getElem_toArray, List.getElem_cons_succ, List.getElem_cons_zero, List.setIfInBounds_toArray, List.set_cons_zero, List.set_cons_succ])
  refine wpAnyH_take (i := 20) (v := undef) rfl (by kernel_rfl) (by kernel_rfl) (by kernel_rfl) (fun _ _ _ h => h) (Or.inr ⟨by rfl, rfl⟩) (by assumption) ?_
  (try simp only [Act.put, List.getElem_toArray, List.getElem_cons_succ, List.getElem_cons_zero, List.setIfInBounds_toArray, List.set_cons_zero, List.set_cons_succ])
  (try clear hK K)
  refine wpAnyH_take (i := 21) (v := ?_) rfl (by kernel_rfl) (by kernel_rfl) (by kernel_rfl) (fun _ _ _ h => h) (Or.inl ⟨by rfl, ?_⟩) (by assumption) ?_
  rotate_left
  · intro w hSw; (try dsimp only at hSw); go_simp; (try with_reducible rfl)
  (try simp only [Act.put, List.getElem_toArray, List.getElem_cons_succ, List.getElem_cons_zero, List.setIfInBounds_toArray, List.set_cons_zero, List.set_cons_succ])
  refine wpAnyH_take (i := 22) (v := ?_) rfl (by kernel_rfl) (by kernel_rfl) (by kernel_rfl) (fun _ _ _ h => h) (Or.inl ⟨by rfl, ?_⟩) (by assumption) ?_
  rotate_left
  · intro w hSw; (try dsimp only at hSw); go_simp; (try with_reducible rfl)
  (try simp only [Act.put, List.getElem_toArray, List.getElem_cons_succ, List.getElem_cons_zero, List.setIfInBounds_toArray, List.set_cons_zero, List.set_cons_succ])
  (try clear hK K)
  refine wpAnyH_done (by kernel_rfl) ?_ _
  go_wp2_with fail
  go_ret
  exact ⟨rfl, HB.out.drew⟩
set_option maxHeartbeats 1000000 in
theorem rcol_wrong (ac : Option Addr) (n cc : Nat) (col : Int) (x : Val) (w : World) (hlo : 0 ≤ col) (hhi : col < (n : Int)) (hr : rightV x.t x.n x.s = false) (hs : x.s.size ≤ maxLen) :
    Calls Tryd.prog 71 #[.agg #[.slice ac n cc], .int .i64 col, V x.t x.n x.s] w fun e w' => e = .returned (.bool false) ∧ Below w.heap.size w w' := by
  have H : Hid (∀ w1, Calls Tryd.prog 29 #[V x.t x.n x.s] w1 fun e w' => e = .returned (.bool false) ∧ Below w1.heap.size w1 w') := fun w1 => by
    have := rright_any x.t x.n x.s w1 hs; rw [hr] at this; exact this
  clear hr hs
  go_enter Tryd.func71, Tryd.ntmps71
  go_wp2_with fail
  refine Calls.mono (H.out _) ?_
  rintro e w1 ⟨rfl, hb1⟩
  have HB : Hid (Below w.heap.size w w1) := back2 hb1
  have t0 : w1.cell? ⟨w.heap.size, 0, none⟩ = some (.slice ac n cc) := by rw [hb1.cell (by simp; omega)]; simp [go_sem]
  clear hb1 H
  go_wp2_with fail
  refine wp_region_held_drew (S := fun w' => w'.cell? ⟨w.heap.size, 0, none⟩ = some (.slice ac n cc)) (by kernel_rfl) ?_ (fun hHeld => ?_)
  · exact t0
  (try clear hK K)
  refine wpAnyH_take (i := 0) (v := ?_) rfl (by kernel_rfl) (by kernel_rfl) (by kernel_rfl) (fun _ _ _ h => h) (Or.inl ⟨by rfl, ?_⟩) (by assumption) ?_
  rotate_left
  · intro w hSw; (try dsimp only at hSw); go_simp; (try with_reducible rfl)
  (try simp only [Act.put, List.getElem_toArray, List.getElem_cons_zero, List.setIfInBounds_toArray, List.set_cons_zero, List.set_cons_succ])
  refine wpAnyH_take (i := 1) (v := ?_) rfl (by kernel_rfl) (by kernel_rfl) (by kernel_rfl) (fun _ _ _ h => h) (Or.inl ⟨by rfl, ?_⟩) (by assumption) ?_
  rotate_left
  · intro w hSw; (try dsimp only at hSw); go_simp; (try with_reducible rfl)
  (try simp only [Act.put, List.getElem_toArray, List.getElem_cons_succ, List.getElem_cons_zero, List.setIfInBounds_toArray, List.set_cons_zero, List.set_cons_succ])
  refine wpAnyH_take (i := 2) (v := ?_) rfl (by kernel_rfl) (by kernel_rfl) (by kernel_rfl) (fun _ _ _ h => h) (Or.inl ⟨by rfl, ?_⟩) (by assumption) ?_
  rotate_left
  · intro w hSw; (try dsimp only at hSw); go_simp; (try with_reducible rfl)
  (try simp only [Act.put, List.getElem_toArray, List.getElem_cons_succ, List.getElem_cons_zero, List.setIfInBounds_toArray, List.set_cons_zero, List.set_cons_succ])
  refine wpAnyH_take (i := 3) (v := ?_) rfl (by kernel_rfl) (by kernel_rfl) (by kernel_rfl) (fun _ _ _ h => h) (Or.inl ⟨by rfl, ?_⟩) (by assumption) ?_
  rotate_left
  · intro w hSw; (try dsimp only at hSw); go_simp; (try with_reducible rfl)
  (try simp only [Act.put, List.getElem_toArray, List.getElem_cons_succ, List.getElem_cons_zero, List.setIfInBounds_toArray, List.set_cons_zero, List.set_cons_succ])
  refine wpAnyH_take (i := 4) (v := ?_) rfl (by kernel_rfl) (by kernel_rfl) (by kernel_rfl) (fun _ _ _ h => h) (Or.inl ⟨by rfl, ?_⟩) (by assumption) ?_
  rotate_left
  · intro w hSw; (try dsimp only at hSw); go_simp; (try with_reducible rfl)
  (try simp only [Act.put, List.getElem_toArray, List.getElem_cons_succ, List.getElem_cons_zero, List.setIfInBounds_toArray, List.set_cons_zero, List.set_cons_succ])
  refine wpAnyH_take (i := 5) (v := ?_) rfl (by kernel_rfl) (by kernel_rfl) (by kernel_rfl) (fun _ _ _ h => h) (Or.inl ⟨by rfl, ?_⟩) (by assumption) ?_
  rotate_left
  · intro w hSw; (try dsimp only at hSw); go_simp; (try with_reducible rfl)
  (try simp only [Act.put, List.getElem_toArray, List.getElem_cons_succ, List.getElem_cons_zero, List.setIfInBounds_toArray, List.set_cons_zero, List.set_cons_succ])
  refine wpAnyH_take (i := 6) (v := ?_) rfl (by kernel_rfl) (by kernel_rfl) (by kernel_rfl) (fun _ _ _ h => h) (Or.inl ⟨by rfl, ?_⟩) (by assumption) ?_
  rotate_left
  · intro w hSw; (try dsimp only at hSw); go_simp; (try with_reducible rfl)
  (try simp only [Act.put, List.getElem_toArray, List.getElem_cons_succ, List.getElem_cons_zero, List.setIfInBounds_toArray, List.set_cons_zero, List.set_cons_succ])
  refine wpAnyH_take (i := 7) (v := ?_) rfl (by kernel_rfl) (by kernel_rfl) (by kernel_rfl) (fun _ _ _ h => h) (Or.inl ⟨by rfl, ?_⟩) (by assumption) ?_
  rotate_left
  · intro w hSw; (try dsimp only at hSw); go_simp; (try with_reducible rfl)
  (try simp only [Act.put, List.getElem_toArray, List.getElem_cons_succ, List.getElem_cons_zero, List.setIfInBounds_toArray, List.set_cons_zero, List.set_cons_succ])
  refine wpAnyH_take (i := 8) (v := ?_) rfl (by kernel_rfl) (by kernel_rfl) (by kernel_rfl) (fun _ _ _ h => h) (Or.inl ⟨by rfl, ?_⟩) (by assumption) ?_
  rotate_left
  · intro w hSw; (try dsimp only at hSw); go_simp; (try with_reducible rfl)
  (try simp only [Act.put, List.getElem_toArray, List.getElem_cons_succ, List.getElem_cons_zero, List.setIfInBounds_toArray, List.set_cons_zero, List.set_cons_succ])
  refine wpAnyH_take (i := 9) (v := ?_) rfl (by kernel_rfl) (by kernel_rfl) (by kernel_rfl) (fun _ _ _ h => h) (Or.inl ⟨by rfl, ?_⟩) (by assumption) ?_
  rotate_left
  · intro w hSw; (try dsimp only at hSw); go_simp; (try with_reducible rfl)
  (try simp only [Act.put, List.getElem_toArray, List.getElem_cons_succ, List.getElem_cons_zero, List.setIfInBounds_toArray, List.set_cons_zero, List.set_cons_succ])
  refine wpAnyH_take (i := 10) (v := ?_) rfl (by kernel_rfl) (by kernel_rfl) (by kernel_rfl) (fun _ _ _ h => h) (Or.inl ⟨by rfl, ?_⟩) (by assumption) ?_
  rotate_left
  · intro w hSw; (try dsimp only at hSw); go_simp; (try with_reducible rfl)
  (try simp only [Act.put, List.getElem_toArray, List.getElem_cons_succ, List.getElem_cons_zero, List.setIfInBounds_toArray, List.set_cons_zero, List.set_cons_succ])
  refine wpAnyH_take (i := 11) (v := ?_) rfl (by kernel_rfl) (by kernel_rfl) (by kernel_rfl) (fun _ _ _ h => h) (Or.inl ⟨by rfl, ?_⟩) (by assumption) ?_
  rotate_left
  · intro w hSw; (try dsimp only at hSw); go_simp; (try with_reducible rfl)
  (try simp only [Act.put, List.getElem_toArray, List.getElem_cons_succ, List.getElem_cons_zero, List.setIfInBounds_toArray, List.set_cons_zero, List.set_cons_succ])
  refine wpAnyH_take (i := 12) (v := ?_) rfl (by kernel_rfl) (by kernel_rfl) (by kernel_rfl) (fun _ _ _ h => h) (Or.inl ⟨by rfl, ?_⟩) (by assumption) ?_
  rotate_left
  · intro w hSw; (try dsimp only at hSw); go_simp; (try with_reducible rfl)
  (try simp only [Act.put, List.getElem_toArray, List.getElem_cons_succ, List.getElem_cons_zero, List.setIfInBounds_toArray, List.set_cons_zero, List.set_cons_succ])
  (try clear hK K)
  refine wpAnyH_take (i := 13) (v := undef) rfl (by kernel_rfl) (by kernel_rfl) (by kernel_rfl) (fun _ _ _ h => h) (Or.inr ⟨by rfl, rfl⟩) (by assumption) ?_
  (try simp only [Act.put, List.getElem_toArray, List.getElem_cons_succ, List.getElem_cons_zero, List.setIfInBounds_toArray, List.set_cons_zero, List.set_cons_succ])
  refine wpAnyH_take (i := 14) (v := undef) rfl (by kernel_rfl) (by kernel_rfl) (by kernel_rfl) (fun _ _ _ h => h) (Or.inr ⟨by rfl, rfl⟩) (by assumption) ?_
  (try simp only [Act.put, List.getElem_toArray, List.getElem_cons_succ, List.getElem_cons_zero, List.setIfInBounds_toArray, List.set_cons_zero, List.set_cons_succ])
  refine wpAnyH_take (i := 15) (v := undef) rfl (by kernel_rfl) (by kernel_rfl) (by kernel_rfl) (fun _ _ _ h => h) (Or.inr ⟨by rfl, rfl⟩) (by assumption) ?_
  (try simp only [Act.put, List.getElem_toArray, List.getElem_cons_succ, List.getElem_cons_zero, List.setIfInBounds_toArray, List.set_cons_zero, List.set_cons_succ])
  refine wpAnyH_take (i := 16) (v := undef) rfl (by kernel_rfl) (by kernel_rfl) (by kernel_rfl) (fun _ _ _ h => h) (Or.inr ⟨by rfl, rfl⟩) (by assumption) ?_
  (try simp only [Act.put, List.getElem_toArray, List.getElem_cons_succ, List.getElem_cons_zero, List.setIfInBounds_toArray, List.set_cons_zero, List.set_cons_succ])
  refine wpAnyH_take (i := 17) (v := undef) rfl (by kernel_rfl) (by kernel_rfl) (by kernel_rfl) (fun _ _ _ h => h) (Or.inr ⟨by rfl, rfl⟩) (by assumption) ?_
  (try simp only [Act.put, List.getElem_toArray, List.getElem_cons_succ, List.getElem_cons_zero, List.setIfInBounds_toArray, List.set_cons_zero, List.set_cons_succ])
  refine wpAnyH_take (i := 18) (v := undef) rfl (by kernel_rfl) (by kernel_rfl) (by kernel_rfl) (fun _ _ _ h => h) (Or.inr ⟨by rfl, rfl⟩) (by assumption) ?_
  (try simp only [Act.put, List.getElem_toArray, List.getElem_cons_succ, List.getElem_cons_zero, List.setIfInBounds_toArray, List.set_cons_zero, List.set_cons_succ])
  refine wpAnyH_take (i := 19) (v := undef) rfl (by kernel_rfl) (by kernel_rfl) (by kernel_rfl) (fun _ _ _ h => h) (Or.inr ⟨by rfl, rfl⟩) (by assumption) ?_
  (try simp only [Act.put, List.getElem_toArray, List.getElem_cons_succ, List.getElem_cons_zero, List.setIfInBounds_toArray, List.set_cons_zero, List.set_cons_succ])
  refine wpAnyH_take (i := 20) (v := undef) rfl (by kernel_rfl) (by kernel_rfl) (by kernel_rfl) (fun _ _ _ h => h) (Or.inr ⟨by rfl, rfl⟩) (by assumption) ?_
  (try simp only [Act.put, List.getElem_toArray, List.getElem_cons_succ, List.getElem_cons_zero, List.setIfInBounds_toArray, List.set_cons_zero, List.set_cons_succ])
  (try clear hK K)
  refine wpAnyH_take (i := 21) (v := ?_) rfl (by kernel_rfl) (by kernel_rfl) (by kernel_rfl) (fun _ _ _ h => h) (Or.inl ⟨by rfl, ?_⟩) (by assumption) ?_
  rotate_left
  · intro w hSw; (try dsimp only at hSw); go_simp; (try with_reducible rfl)
  (try simp only [Act.put, List.getElem_toArray, List.getElem_cons_succ, List.getElem_cons_zero, List.setIfInBounds_toArray, List.set_cons_zero, List.set_cons_succ])
  refine wpAnyH_take (i := 22) (v := ?_) rfl (by kernel_rfl) (by kernel_rfl) (by kernel_rfl) (fun _ _ _ h => h) (Or.inl ⟨by rfl, ?_⟩) (by assumption) ?_
  rotate_left
  · intro w hSw; (try dsimp only at hSw); go_simp; (try with_reducible rfl)
  (try simp only [Act.put, List.getElem_toArray, List.getElem_cons_succ, List.getElem_cons_zero, List.setIfInBounds_toArray, List.set_cons_zero, List.set_cons_succ])
  (try clear hK K)
  refine wpAnyH_done (by kernel_rfl) ?_ _
  go_wp2_with fail
  go_ret
  exact ⟨rfl, HB.out.drew⟩
set_option maxHeartbeats 1000000 in
theorem rcol_at (b o n cc k : Nat) (c : Bool) (x : Val) (w : World) (hk : k < n) (hr : rightV x.t x.n x.s = true) (hs : x.s.size ≤ maxLen) (hc : w.cell? ⟨b, o + k, none⟩ = some (.bool c)) :
    Calls Tryd.prog 71 #[.agg #[.slice (some ⟨b, o, none⟩) n cc], .int .i64 (k : Int), V x.t x.n x.s] w fun e w' => e = .returned (.bool (x.t == c)) ∧ Below w.heap.size w w' := by
  have H : Hid (∀ w1, Calls Tryd.prog 29 #[V x.t x.n x.s] w1 fun e w' => e = .returned (.bool true) ∧ Below w1.heap.size w1 w') := fun w1 => by
    have := rright_any x.t x.n x.s w1 hs; rw [hr] at this; exact this
  have hlt : b < w.heap.size := World.block_lt_of_cell? w _ hc
  have k0 : (0 : Int) ≤ (k : Int) := by omega
  have k1 : (k : Int) < (n : Int) := by omega
  clear hr hs
  go_enter Tryd.func71, Tryd.ntmps71
  go_wp2_with fail
  refine Calls.mono (H.out _) ?_
  rintro e w1 ⟨rfl, hb1⟩
  have HB : Hid (Below w.heap.size w w1) := back2 hb1
  have t0 : w1.cell? ⟨w.heap.size, 0, none⟩ = some (.slice (some ⟨b, o, none⟩) n cc) := by rw [hb1.cell (by simp; omega)]; simp [go_sem]
  have v0 : w1.cell? ⟨w.heap.size + 1, 0, none⟩ = some (.bool x.t) := by rw [hb1.cell (by simp)]; simp [go_sem]
  have c0 : w1.cell? ⟨b, o + k, none⟩ = some (.bool c) := cell_below hc HB.out
  clear hb1 H hc
  go_wp2_with fail
  refine wp_region_held_drew (S := fun w' => w'.cell? ⟨w.heap.size, 0, none⟩ = some (.slice (some ⟨b, o, none⟩) n cc) ∧ w'.cell? ⟨w.heap.size + 1, 0, none⟩ = some (.bool x.t) ∧ w'.cell? ⟨b, o + k, none⟩ = some (.bool c)) (by kernel_rfl) ?_ (fun hHeld => ?_)
  · exact ⟨t0, v0, c0⟩
  (try clear hK K)
  refine wpAnyH_take (i := 0) (v := ?_) rfl (by kernel_rfl) (by kernel_rfl) (by kernel_rfl) (fun _ _ _ h => h) (Or.inl ⟨by rfl, ?_⟩) (by assumption) ?_
  rotate_left
  · intro w hSw; (try dsimp only at hSw); go_simp; (try with_reducible rfl)
  (try simp only [Act.put, List.getElem_toArray, List.getElem_cons_zero, List.setIfInBounds_toArray, List.set_cons_zero, List.set_cons_succ])
  refine wpAnyH_take (i := 1) (v := ?_) rfl (by kernel_rfl) (by kernel_rfl) (by kernel_rfl) (fun _ _ _ h => h) (Or.inl ⟨by rfl, ?_⟩) (by assumption) ?_
  rotate_left
  · intro w hSw; (try dsimp only at hSw); go_simp; (try with_reducible rfl)
  (try simp only [Act.put, List.getElem_toArray, List.getElem_cons_succ, List.getElem_cons_zero, List.setIfInBounds_toArray, List.set_cons_zero, List.set_cons_succ])
  refine wpAnyH_take (i := 2) (v := ?_) rfl (by kernel_rfl) (by kernel_rfl) (by kernel_rfl) (fun _ _ _ h => h) (Or.inl ⟨by rfl, ?_⟩) (by assumption) ?_
  rotate_left
  · intro w hSw; (try dsimp only at hSw); go_simp; (try with_reducible rfl)
  (try simp only [Act.put, List.getElem_toArray, List.getElem_cons_succ, List.getElem_cons_zero, List.setIfInBounds_toArray, List.set_cons_zero, List.set_cons_succ])
  refine wpAnyH_take (i := 3) (v := ?_) rfl (by kernel_rfl) (by kernel_rfl) (by kernel_rfl) (fun _ _ _ h => h) (Or.inl ⟨by rfl, ?_⟩) (by assumption) ?_
  rotate_left
  · intro w hSw; (try dsimp only at hSw); go_simp; (try with_reducible rfl)
  (try simp only [Act.put, List.getElem_toArray, List.getElem_cons_succ, List.getElem_cons_zero, List.setIfInBounds_toArray, List.set_cons_zero, List.set_cons_succ])
  refine wpAnyH_take (i := 4) (v := ?_) rfl (by kernel_rfl) (by kernel_rfl) (by kernel_rfl) (fun _ _ _ h => h) (Or.inl ⟨by rfl, ?_⟩) (by assumption) ?_
  rotate_left
  · intro w hSw; (try dsimp only at hSw); go_simp; (try with_reducible rfl)
  (try simp only [Act.put, List.getElem_toArray, List.getElem_cons_succ, List.getElem_cons_zero, List.setIfInBounds_toArray, List.set_cons_zero, List.set_cons_succ])
  refine wpAnyH_take (i := 5) (v := ?_) rfl (by kernel_rfl) (by kernel_rfl) (by kernel_rfl) (fun _ _ _ h => h) (Or.inl ⟨by rfl, ?_⟩) (by assumption) ?_
  rotate_left
  · intro w hSw; (try dsimp only at hSw); go_simp; (try with_reducible rfl)
  (try simp only [Act.put, List.getElem_toArray, List.getElem_cons_succ, List.getElem_cons_zero, List.setIfInBounds_toArray, List.set_cons_zero, List.set_cons_succ])
  refine wpAnyH_take (i := 6) (v := ?_) rfl (by kernel_rfl) (by kernel_rfl) (by kernel_rfl) (fun _ _ _ h => h) (Or.inl ⟨by rfl, ?_⟩) (by assumption) ?_
  rotate_left
  · intro w hSw; (try dsimp only at hSw); go_simp; (try with_reducible rfl)
  (try simp only [Act.put, List.getElem_toArray, List.getElem_cons_succ, List.getElem_cons_zero, List.setIfInBounds_toArray, List.set_cons_zero, List.set_cons_succ])
  refine wpAnyH_take (i := 7) (v := ?_) rfl (by kernel_rfl) (by kernel_rfl) (by kernel_rfl) (fun _ _ _ h => h) (Or.inl ⟨by rfl, ?_⟩) (by assumption) ?_
  rotate_left
  · intro w hSw; (try dsimp only at hSw); go_simp; (try with_reducible rfl)
  (try simp only [Act.put, List.getElem_toArray, List.getElem_cons_succ, List.getElem_cons_zero, List.setIfInBounds_toArray, List.set_cons_zero, List.set_cons_succ])
  refine wpAnyH_take (i := 8) (v := ?_) rfl (by kernel_rfl) (by kernel_rfl) (by kernel_rfl) (fun _ _ _ h => h) (Or.inl ⟨by rfl, ?_⟩) (by assumption) ?_
  rotate_left
  · intro w hSw; (try dsimp only at hSw); go_simp; (try with_reducible rfl)
  (try simp only [Act.put, List.getElem_toArray, List.getElem_cons_succ, List.getElem_cons_zero, List.setIfInBounds_toArray, List.set_cons_zero, List.set_cons_succ])
  refine wpAnyH_take (i := 9) (v := ?_) rfl (by kernel_rfl) (by kernel_rfl) (by kernel_rfl) (fun _ _ _ h => h) (Or.inl ⟨by rfl, ?_⟩) (by assumption) ?_
  rotate_left
  · intro w hSw; (try dsimp only at hSw); go_simp; (try with_reducible rfl)
  (try simp only [Act.put, List.getElem_toArray, List.getElem_cons_succ, List.getElem_cons_zero, List.setIfInBounds_toArray, List.set_cons_zero, List.set_cons_succ])
  refine wpAnyH_take (i := 10) (v := ?_) rfl (by kernel_rfl) (by kernel_rfl) (by kernel_rfl) (fun _ _ _ h => h) (Or.inl ⟨by rfl, ?_⟩) (by assumption) ?_
  rotate_left
  · intro w hSw; (try dsimp only at hSw); go_simp; (try with_reducible rfl)
  (try simp only [Act.put, List.getElem_toArray, List.getElem_cons_succ, List.getElem_cons_zero, List.setIfInBounds_toArray, List.set_cons_zero, List.set_cons_succ])
  refine wpAnyH_take (i := 11) (v := ?_) rfl (by kernel_rfl) (by kernel_rfl) (by kernel_rfl) (fun _ _ _ h => h) (Or.inl ⟨by rfl, ?_⟩) (by assumption) ?_
  rotate_left
  · intro w hSw; (try dsimp only at hSw); go_simp; (try with_reducible rfl)
  (try simp only [Act.put, List.getElem_toArray, List.getElem_cons_succ, List.getElem_cons_zero, List.setIfInBounds_toArray, List.set_cons_zero, List.set_cons_succ])
  refine wpAnyH_take (i := 12) (v := ?_) rfl (by kernel_rfl) (by kernel_rfl) (by kernel_rfl) (fun _ _ _ h => h) (Or.inl ⟨by rfl, ?_⟩) (by assumption) ?_
  rotate_left
  · intro w hSw; (try dsimp only at hSw); go_simp; (try with_reducible rfl)
  (try simp only [Act.put, List.getElem_toArray, List.getElem_cons_succ, List.getElem_cons_zero, List.setIfInBounds_toArray, List.set_cons_zero, List.set_cons_succ])
  refine wpAnyH_take (i := 13) (v := ?_) rfl (by kernel_rfl) (by kernel_rfl) (by kernel_rfl) (fun _ _ _ h => h) (Or.inl ⟨by rfl, ?_⟩) (by assumption) ?_
  rotate_left
  · intro w hSw; (try dsimp only at hSw); go_simp; (try with_reducible rfl)
  (try simp only [Act.put, List.getElem_toArray, List.getElem_cons_succ, List.getElem_cons_zero, List.setIfInBounds_toArray, List.set_cons_zero, List.set_cons_succ])
  refine wpAnyH_take (i := 14) (v := ?_) rfl (by kernel_rfl) (by kernel_rfl) (by kernel_rfl) (fun _ _ _ h => h) (Or.inl ⟨by rfl, ?_⟩) (by assumption) ?_
  rotate_left
  · intro w hSw; (try dsimp only at hSw); go_simp; (try with_reducible rfl)
  (try simp only [Act.put, List.getElem_toArray, List.getElem_cons_succ, List.getElem_cons_zero, List.setIfInBounds_toArray, List.set_cons_zero, List.set_cons_succ])
  refine wpAnyH_take (i := 15) (v := ?_) rfl (by kernel_rfl) (by kernel_rfl) (by kernel_rfl) (fun _ _ _ h => h) (Or.inl ⟨by rfl, ?_⟩) (by assumption) ?_
  rotate_left
  · intro w hSw; (try dsimp only at hSw); go_simp; (try with_reducible rfl)
  (try simp only [Act.put, List.getElem_toArray, List.getElem_cons_succ, List.getElem_cons_zero, List.setIfInBounds_toArray, List.set_cons_zero, List.set_cons_succ])
  refine wpAnyH_take (i := 16) (v := ?_) rfl (by kernel_rfl) (by kernel_rfl) (by kernel_rfl) (fun _ _ _ h => h) (Or.inl ⟨by rfl, ?_⟩) (by assumption) ?_
  rotate_left
  · intro w hSw; (try dsimp only at hSw); go_simp; (try with_reducible rfl)
  (try simp only [Act.put, List.getElem_toArray, List.getElem_cons_succ, List.getElem_cons_zero, List.setIfInBounds_toArray, List.set_cons_zero, List.set_cons_succ])
  refine wpAnyH_take (i := 17) (v := ?_) rfl (by kernel_rfl) (by kernel_rfl) (by kernel_rfl) (fun _ _ _ h => h) (Or.inl ⟨by rfl, ?_⟩) (by assumption) ?_
  rotate_left
  · intro w hSw; (try dsimp only at hSw); go_simp; (try with_reducible rfl)
  (try simp only [Act.put, List.getElem_toArray, List.getElem_cons_succ, List.getElem_cons_zero, List.setIfInBounds_toArray, List.set_cons_zero, List.set_cons_succ])
  refine wpAnyH_take (i := 18) (v := ?_) rfl (by kernel_rfl) (by kernel_rfl) (by kernel_rfl) (fun _ _ _ h => h) (Or.inl ⟨by rfl, ?_⟩) (by assumption) ?_
  rotate_left
  · intro w hSw; (try dsimp only at hSw); go_simp; (try with_reducible rfl)
  (try simp only [Act.put, List.getElem_toArray, List.getElem_cons_succ, List.getElem_cons_zero, List.setIfInBounds_toArray, List.set_cons_zero, List.set_cons_succ])
  refine wpAnyH_take (i := 19) (v := ?_) rfl (by kernel_rfl) (by kernel_rfl) (by kernel_rfl) (fun _ _ _ h => h) (Or.inl ⟨by rfl, ?_⟩) (by assumption) ?_
  rotate_left
  · intro w hSw; (try dsimp only at hSw); go_simp; (try with_reducible rfl)
  (try simp only [Act.put, List.getElem_toArray, List.getElem_cons_succ, List.getElem_cons_zero, List.setIfInBounds_toArray, List.set_cons_zero, List.set_cons_succ])
  refine wpAnyH_take (i := 20) (v := ?_) rfl (by kernel_rfl) (by kernel_rfl) (by kernel_rfl) (fun _ _ _ h => h) (Or.inl ⟨by rfl, ?_⟩) (by assumption) ?_
  rotate_left
  · intro w hSw; (try dsimp only at hSw); go_simp; (try with_reducible rfl)
  (try simp only [Act.put, List.getElem_toArray, List.getElem_cons_succ, List.getElem_cons_zero, List.setIfInBounds_toArray, List.set_cons_zero, List.set_cons_succ])
  refine wpAnyH_take (i := 21) (v := ?_) rfl (by kernel_rfl) (by kernel_rfl) (by kernel_rfl) (fun _ _ _ h => h) (Or.inl ⟨by rfl, ?_⟩) (by assumption) ?_
  rotate_left
  · intro w hSw; (try dsimp only at hSw); go_simp; (try with_reducible rfl)
  (try simp only [Act.put, List.getElem_toArray, List.getElem_cons_succ, List.getElem_cons_zero, List.setIfInBounds_toArray, List.set_cons_zero, List.set_cons_succ])
  refine wpAnyH_take (i := 22) (v := ?_) rfl (by kernel_rfl) (by kernel_rfl) (by kernel_rfl) (fun _ _ _ h => h) (Or.inl ⟨by rfl, ?_⟩) (by assumption) ?_
  rotate_left
  · intro w hSw; (try dsimp only at hSw); go_simp; (try with_reducible rfl)
  (try simp only [Act.put, List.getElem_toArray, List.getElem_cons_succ, List.getElem_cons_zero, List.setIfInBounds_toArray, List.set_cons_zero, List.set_cons_succ])
  (try clear hK K)
  refine wpAnyH_done (by kernel_rfl) ?_ _
  go_wp2_with fail
  go_ret
  exact ⟨rfl, HB.out.drew⟩
theorem rcol_any (vc : Value) (cols : List Bool) (col : Int) (x : Val) (w : World) (h : BoolsIn w vc cols) (hs : x.s.size ≤ maxLen) :
    Calls Tryd.prog 71 #[.agg #[vc], .int .i64 col, V x.t x.n x.s] w fun e w' => e = .returned (.bool (ofB cols col x)) ∧ Below w.heap.size w w' := by
  by_cases hlo : col < 0
  · rw [ofB_low hlo]; exact rcol_low vc col x w hs (by simp; omega)
  obtain ⟨ac, cc, rfl, lc⟩ := h.slice
  by_cases hhi : (cols.length : Int) ≤ col
  · rw [ofB_high hhi]; exact rcol_high ac _ cc col x w hs (by omega) (by simp; omega)
  cases hr : rightV x.t x.n x.s
  · rw [ofB_wrong hr]; exact rcol_wrong ac _ cc col x w (by omega) (by omega) hr hs
  · obtain ⟨k, rfl⟩ : ∃ k : Nat, col = (k : Int) := ⟨col.toNat, by omega⟩
    have hk : k < cols.length := by omega
    obtain ⟨b, o, rfl, hc⟩ := h.at k hk
    rw [ofB_at hr hk]
    exact rcol_at b o _ cc k _ x w hk hr hs hc
end Go.Proofs.YtkkbbpldeeajaaaDoor.Val
/- What the reference's part and May answer. -/
namespace Go.Proofs.YtkkbbpldeeajaaaDoor.Val
open Go.RowKit

/-- A table's box and a predicate's. -/
structure TB (N : Nat) (vc : Value) (p : PT) (w : World) : Prop where
  t : w.cell? ⟨N, 0, none⟩ = some vc
  pb : Box w (N + 1) p
theorem TB.below {N : Nat} {vc : Value} {p : PT} {w w' : World} (h : TB N vc p w) (hb : Below w.heap.size w w') : TB N vc p w' := ⟨cell_below h.t hb, h.pb.below hb⟩
theorem TB.new (w : World) (vc : Value) (p : PT) (T1 T2 : TypeId) : TB w.heap.size vc p ((w.alloc (.cells #[vc] T1)).alloc (pobj p T2)) := by
  refine ⟨cell_alloc (by simp [go_sem]) _, ?_⟩
  have := Box.new (w.alloc (.cells #[vc] T1)) p T2; simpa using this
def RPartOk (vc : Value) (cols : List Bool) (p : PT) : Prop := ∀ w, BoolsIn w vc cols → In w p → Calls Tryd.prog 56 #[.agg #[vc], p.val] w fun e w' => e = .returned (.bool (okP (suitP cols) p)) ∧ Below w.heap.size w w'
theorem ok_all {s : PT → Bool} {p : PT} (h : ∀ (j : Nat) (hj : j < p.l.length), okP s p.l[j] = true) : okP s p = s p := by
  rw [okP_mk]
  have : (p.l.map (okP s)).all id = true := by
    rw [List.all_eq_true]
    intro x hx
    obtain ⟨q, hq, rfl⟩ := List.mem_map.1 hx
    obtain ⟨i, hi, rfl⟩ := List.mem_iff_getElem.1 hq
    exact h i hi
  rw [this, Bool.and_true]
theorem ok_not {s : PT → Bool} {p : PT} {k : Nat} (hk : k < p.l.length) (h : okP s p.l[k] = false) : okP s p = false := by
  rw [okP_mk]
  have : (p.l.map (okP s)).all id = false := by
    rw [← Bool.not_eq_true, List.all_eq_true]
    intro h'
    have := h' (okP s p.l[k]) (List.mem_map.2 ⟨_, List.getElem_mem hk, rfl⟩)
    simp [h] at this
  rw [this, Bool.and_false]
set_option maxHeartbeats 8000000 in
theorem rpart_step (vc : Value) (cols : List Bool) (p : PT) (ih : ∀ q ∈ p.l, RPartOk vc cols q) : RPartOk vc cols p := by
  intro w hbo hi
  obtain ⟨ao, c, hlv, hln⟩ := hi.lies.slice
  obtain ⟨ans, hans⟩ : ∃ b, okP (suitP cols) p = b := ⟨_, rfl⟩
  have HI : Hid (In w p ∧ BoolsIn w vc cols ∧ ∀ q ∈ p.l, RPartOk vc cols q) := ⟨hi, hbo, ih⟩
  have HLV : Hid (p.lv = .slice ao p.l.length c) := hlv
  have HANS : Hid (okP (suitP cols) p = ans) := hans
  have HT : Hid _ := TB.new w vc p 50 29
  rw [pobj, hlv] at HT
  rw [hans]
  clear hi hbo ih hans
  unfold PT.val
  rw [hlv]
  clear hlv
  go_enter Tryd.func56, Tryd.ntmps56
  go_wp2_with fail
  go_loopw [5] (fun i wr => ∃ k : Nat, k ≤ p.l.length ∧ i = .int .i64 k ∧ Hid (∀ (j : Nat) (hj : j < p.l.length), j < k → okP (suitP cols) p.l[j] = true) ∧ Hid (Below w.heap.size w wr ∧ TB w.heap.size vc p wr))
    (fun i _ => p.l.length - (intOf i).toNat)
  case atStart => exact ⟨0, Nat.zero_le _, rfl, fun j hj h => by omega, back1 (alloc1 _ _), HT.out⟩
  case round =>
    clear HT
    obtain ⟨k, hk, rfl, HP, HB⟩ := hrel
    have hc := HB.out.2.pb.c8
    rw [HLV.out] at hc
    have hlt : w.heap.size + 1 < wr.heap.size := World.block_lt_of_cell? _ _ hc
    by_cases h1 : k < p.l.length
    · have i0 : (0 : Int) ≤ (k : Int) := by omega
      have i1 : (k : Int) < (p.l.length : Int) := by omega
      have hin : In wr p := HI.out.1.keep HB.out.1
      have hl := hin.lies
      rw [HLV.out] at hl
      obtain ⟨b, o, rfl, hat⟩ := lies_at hl k h1
      have hm := List.getElem_mem h1
      obtain ⟨g, hg⟩ : ∃ g, okP (suitP cols) p.l[k] = g := ⟨_, rfl⟩
      have HQ : Hid (∀ w1, Below w.heap.size w w1 → Calls Tryd.prog 56 #[.agg #[vc], p.l[k].val] w1 fun e w' => e = .returned (.bool g) ∧ Below w1.heap.size w1 w') := fun w1 hb => by
        rw [← hg]; exact HI.out.2.2 _ hm w1 (HI.out.2.1.below hb) ((HI.out.1.part _ hm).keep hb)
      have HG : Hid (okP (suitP cols) p.l[k] = g) := hg
      have hat' := hat.below (w' := wr.drew) (Below.refl _ _).drew
      have TBd : TB w.heap.size vc p wr.drew := HB.out.2.below (Below.refl _ _).drew
      have HBd : Below w.heap.size w wr.drew := HB.out.1.drew
      have hc8 : ∀ w1, TB w.heap.size vc p w1 → w1.cell? ⟨w.heap.size + 1, 8, none⟩ = some (.slice (some ⟨b, o, none⟩) p.l.length c) := fun w1 h => by rw [h.pb.c8, HLV.out]
      clear hm hl hin hg hat
      unfold PT.val at HQ
      go_wp2_with fail
      refine wp_region_held_drew (S := fun w' => w'.cell? ⟨w.heap.size, 0, none⟩ = some vc ∧ w'.cell? ⟨w.heap.size + 1, 8, none⟩ = some (.slice (some ⟨b, o, none⟩) p.l.length c) ∧ (w'.cell? ⟨b, o + k * 9, none⟩ = some (.int .i64 p.l[k].op) ∧ w'.cell? ⟨b, o + k * 9 + 1, none⟩ = some (.int .i64 p.l[k].col) ∧ w'.cell? ⟨b, o + k * 9 + 2, none⟩ = some (.bool p.l[k].v.t) ∧ w'.cell? ⟨b, o + k * 9 + 3, none⟩ = some (.int .i64 p.l[k].v.n) ∧ w'.cell? ⟨b, o + k * 9 + 4, none⟩ = some (.string p.l[k].v.s) ∧ w'.cell? ⟨b, o + k * 9 + 5, none⟩ = some (.bool p.l[k].w.t) ∧ w'.cell? ⟨b, o + k * 9 + 6, none⟩ = some (.int .i64 p.l[k].w.n) ∧ w'.cell? ⟨b, o + k * 9 + 7, none⟩ = some (.string p.l[k].w.s) ∧ w'.cell? ⟨b, o + k * 9 + 8, none⟩ = some p.l[k].lv)) (by kernel_rfl) ?_ (fun hHeld => ?_)
      · exact ⟨TBd.t, hc8 _ TBd, hat'.c0, hat'.c1, hat'.c2, hat'.c3, hat'.c4, hat'.c5, hat'.c6, hat'.c7, hat'.c8⟩
      (try clear hK K)
      refine wpAnyH_take (i := 0) (v := ?_) rfl (by kernel_rfl) (by kernel_rfl) (by kernel_rfl) (fun _ _ _ h => h) (Or.inl ⟨by rfl, ?_⟩) (by assumption) ?_
      rotate_left
      · intro w hSw; (try dsimp only at hSw); go_simp; (try with_reducible rfl)
      (try simp only [Act.put, List.getElem_toArray, List.getElem_cons_zero, List.setIfInBounds_toArray, List.set_cons_zero, List.set_cons_succ])
      refine wpAnyH_take (i := 1) (v := ?_) rfl (by kernel_rfl) (by kernel_rfl) (by kernel_rfl) (fun _ _ _ h => h) (Or.inl ⟨by rfl, ?_⟩) (by assumption) ?_
      rotate_left
      · intro w hSw; (try dsimp only at hSw); go_simp; (try with_reducible rfl)
      (try simp only [Act.put, List.getElem_toArray, List.getElem_cons_succ, List.getElem_cons_zero, List.setIfInBounds_toArray, List.set_cons_zero, List.set_cons_succ])
      refine wpAnyH_take (i := 2) (v := ?_) rfl (by kernel_rfl) (by kernel_rfl) (by kernel_rfl) (fun _ _ _ h => h) (Or.inl ⟨by rfl, ?_⟩) (by assumption) ?_
      rotate_left
      · intro w hSw; (try dsimp only at hSw); go_simp; (try with_reducible rfl)
      (try simp only [Act.put, List.getElem_toArray, List.getElem_cons_succ, List.getElem_cons_zero, List.setIfInBounds_toArray, List.set_cons_zero, List.set_cons_succ])
      refine wpAnyH_take (i := 3) (v := ?_) rfl (by kernel_rfl) (by kernel_rfl) (by kernel_rfl) (fun _ _ _ h => h) (Or.inl ⟨by rfl, ?_⟩) (by assumption) ?_
      rotate_left
      · intro w hSw; (try dsimp only at hSw); go_simp; (try with_reducible rfl)
      (try simp only [Act.put, List.getElem_toArray, List.getElem_cons_succ, List.getElem_cons_zero, List.setIfInBounds_toArray, List.set_cons_zero, List.set_cons_succ])
      refine wpAnyH_take (i := 4) (v := ?_) rfl (by kernel_rfl) (by kernel_rfl) (by kernel_rfl) (fun _ _ _ h => h) (Or.inl ⟨by rfl, ?_⟩) (by assumption) ?_
      rotate_left
      · intro w hSw; (try dsimp only at hSw); go_simp; (try with_reducible rfl)
      (try simp only [Act.put, List.getElem_toArray, List.getElem_cons_succ, List.getElem_cons_zero, List.setIfInBounds_toArray, List.set_cons_zero, List.set_cons_succ])
      refine wpAnyH_take (i := 5) (v := ?_) rfl (by kernel_rfl) (by kernel_rfl) (by kernel_rfl) (fun _ _ _ h => h) (Or.inl ⟨by rfl, ?_⟩) (by assumption) ?_
      rotate_left
      · intro w hSw; (try dsimp only at hSw); go_simp; (try with_reducible rfl)
      (try simp only [Act.put, List.getElem_toArray, List.getElem_cons_succ, List.getElem_cons_zero, List.setIfInBounds_toArray, List.set_cons_zero, List.set_cons_succ])
      (try clear hK K)
      refine wpAnyH_ready (rs := [6]) (by kernel_rfl) (by simp) ?_
      refine AllReadyH.cons rfl (fun K hK => ?_) AllReadyH.nil
      go_simp
      (refine Calls.mono (HQ.out _ HBd) ?_; rintro e w1 ⟨rfl, hb⟩; have TB1 := TBd.below hb; have HB1 := on HBd hb; have hat1 := hat'.below hb)
      refine hK.out _ _ ?_ (fun hHeld => ?_)
      · exact ⟨TB1.t, hc8 _ TB1, hat1.c0, hat1.c1, hat1.c2, hat1.c3, hat1.c4, hat1.c5, hat1.c6, hat1.c7, hat1.c8⟩
      (try clear hK K)
      refine wpAnyH_take (i := 7) (v := ?_) rfl (by kernel_rfl) (by kernel_rfl) (by kernel_rfl) (fun _ _ _ h => h) (Or.inl ⟨by rfl, ?_⟩) (by assumption) ?_
      rotate_left
      · intro w hSw; (try dsimp only at hSw); go_simp; (try with_reducible rfl)
      (try simp only [Act.put, List.getElem_toArray, List.getElem_cons_succ, List.getElem_cons_zero, List.setIfInBounds_toArray, List.set_cons_zero, List.set_cons_succ])
      (try clear hK K)
      refine wpAnyH_done (by kernel_rfl) ?_ _
      have HX : Hid (Below w.heap.size w w1 ∧ TB w.heap.size vc p w1) := ⟨HB1, TB1⟩
      clear hb HB1 TB1 hat1 hat' TBd HBd hc8 HB HQ hc hlt
      cases g
      · have HF : Hid (ans = false) := by rw [Hid, ← HANS.out]; exact ok_not h1 HG.out
        clear HP HI HG HANS
        go_wp2_with fail
        go_ret
        exact ⟨ret_b2 HF.out.symm, HX.out.1⟩
      · have HP1 : Hid (∀ (j : Nat) (hj : j < p.l.length), j < k + 1 → okP (suitP cols) p.l[j] = true) := fun j hj h => by
          rcases Nat.lt_succ_iff_lt_or_eq.1 h with h | rfl
          · exact HP.out j hj h
          · exact HG.out
        clear HP HG
        go_wp2_with fail
        go_roundw
        case rel => exact ⟨k + 1, by omega, by go_num, HP1, HX⟩
        case measure => simp [intOf]; omega
    · have i1 : decide ((k : Int) < (p.l.length : Int)) = false := by simp; omega
      obtain rfl : k = p.l.length := by omega
      have hA : ans = suitO cols p.op p.col p.v p.w p.l.length := by rw [← HANS.out, ok_all fun j hj => HP.out j hj hj]; rfl
      obtain ⟨op, hop⟩ : ∃ op, p.op = op := ⟨_, rfl⟩
      rw [hop] at hA
      have HO : Hid (p.op = op) := hop
      have CV : Hid (∀ w1, Below w.heap.size w w1 → Calls Tryd.prog 71 #[.agg #[vc], .int .i64 p.col, V p.v.t p.v.n p.v.s] w1 fun e w' => e = .returned (.bool (ofB cols p.col p.v)) ∧ Below w1.heap.size w1 w') := fun w1 hb => rcol_any vc cols p.col p.v w1 (HI.out.2.1.below hb) HI.out.1.sv
      have CW : Hid (∀ w1, Below w.heap.size w w1 → Calls Tryd.prog 71 #[.agg #[vc], .int .i64 p.col, V p.w.t p.w.n p.w.s] w1 fun e w' => e = .returned (.bool (ofB cols p.col p.w)) ∧ Below w1.heap.size w1 w') := fun w1 hb => rcol_any vc cols p.col p.w w1 (HI.out.2.1.below hb) HI.out.1.sw
      unfold suitO at hA
      have HA : Hid _ := hA
      obtain ⟨fv, hfv⟩ : ∃ b, ofB cols p.col p.v = b := ⟨_, rfl⟩
      obtain ⟨fw, hfw⟩ : ∃ b, ofB cols p.col p.w = b := ⟨_, rfl⟩
      rw [hfv, hfw] at HA
      rw [hfv] at CV
      rw [hfw] at CW
      have HTB : Hid (TB w.heap.size vc p wr) := HB.out.2
      have HBe : Hid (Below w.heap.size w wr) := HB.out.1
      clear hA hfv hfw HI HP HANS HB hop
      obtain ⟨t0, ⟨b0, b1, b2, b3, b4, b5, b6, b7, b8⟩⟩ := HTB.out
      rw [HO.out] at b0
      clear b8
      by_cases e12 : op = 1 ∨ op = 2
      · rw [if_pos e12] at HA
        clear CV CW
        rcases e12 with rfl | rfl
        · go_wp2_with fail
          go_ret
          exact ⟨ret_b2 (by rw [HA.out, Bool.eq_iff_iff]; simp), HBe.out⟩
        · go_wp2_with fail
          go_ret
          exact ⟨ret_b2 (by rw [HA.out, Bool.eq_iff_iff]; simp), HBe.out⟩
      rw [if_neg e12] at HA
      by_cases e38 : 3 ≤ op ∧ op ≤ 8
      · rw [if_pos e38] at HA
        have e38' : op = 3 ∨ op = 4 ∨ op = 5 ∨ op = 6 ∨ op = 7 ∨ op = 8 := by omega
        clear CW e12 e38
        by_cases h0 : p.l.length = 0
        · have h1 : ((p.l.length : Int) == 0) = true := by rw [h0]; rfl
          have HD : Hid (decide (p.l.length = 0) = true) := by rw [Hid]; simpa using h0
          clear h0
          rcases e38' with rfl | rfl | rfl | rfl | rfl | rfl <;>
          · go_wp2_with fail
            refine Calls.mono (CV.out _ HBe.out) ?_
            rintro e w1 ⟨rfl, hb⟩
            have HBf : Hid (Below w.heap.size w w1) := on HBe.out hb
            clear hb
            go_wp2_with fail
            go_ret
            exact ⟨ret_b2 (by rw [HA.out, HD.out]; rfl), HBf.out⟩
        · have h1 : ((p.l.length : Int) == 0) = false := by rw [beq_eq_false_iff_ne]; omega
          have HD : Hid (decide (p.l.length = 0) = false) := by rw [Hid]; simpa using h0
          clear h0 CV
          rcases e38' with rfl | rfl | rfl | rfl | rfl | rfl <;>
          · go_wp2_with fail
            go_ret
            exact ⟨ret_b2 (by rw [HA.out, HD.out]; rfl), HBe.out⟩
      rw [if_neg e38] at HA
      by_cases e9 : op = 9
      · rw [if_pos e9] at HA
        subst e9
        clear e12 e38
        by_cases h0 : p.l.length = 0
        · have h1 : ((p.l.length : Int) == 0) = true := by rw [h0]; rfl
          have HD : Hid (decide (p.l.length = 0) = true) := by rw [Hid]; simpa using h0
          clear h0
          go_wp2_with fail
          refine Calls.mono (CV.out _ HBe.out) ?_
          rintro e w1 ⟨rfl, hb⟩
          have HBf : Hid (Below w.heap.size w w1) := on HBe.out hb
          have HTf := HTB.out.below hb
          clear hb t0 b0 b1 b2 b3 b4 b5 b6 b7 CV
          obtain ⟨t0, ⟨b0, b1, b2, b3, b4, b5, b6, b7, b8⟩⟩ := HTf
          clear b8 b0
          cases fv
          · clear CW
            go_wp2_with fail
            go_ret
            exact ⟨ret_b2 (by rw [HA.out, HD.out]; rfl), HBf.out⟩
          · go_wp2_with fail
            refine Calls.mono (CW.out _ HBf.out) ?_
            rintro e w2 ⟨rfl, hb⟩
            have HBg : Hid (Below w.heap.size w w2) := on HBf.out hb
            clear hb
            go_wp2_with fail
            go_ret
            exact ⟨ret_b2 (by rw [HA.out, HD.out]; rfl), HBg.out⟩
        · have h1 : ((p.l.length : Int) == 0) = false := by rw [beq_eq_false_iff_ne]; omega
          have HD : Hid (decide (p.l.length = 0) = false) := by rw [Hid]; simpa using h0
          clear h0 CV CW
          go_wp2_with fail
          go_ret
          exact ⟨ret_b2 (by rw [HA.out, HD.out]; rfl), HBe.out⟩
      rw [if_neg e9] at HA
      clear CV CW
      by_cases e10 : op = 10
      · rw [if_pos e10] at HA
        subst e10
        go_wp2_with fail
        go_ret
        exact ⟨ret_b2 (by rw [HA.out, Bool.eq_iff_iff]; simp; omega), HBe.out⟩
      rw [if_neg e10] at HA
      by_cases e11 : op = 11 ∨ op = 12
      · rw [if_pos e11] at HA
        rcases e11 with rfl | rfl
        · go_wp2_with fail
          go_ret
          exact ⟨ret_b2 (by rw [HA.out, Bool.eq_iff_iff]), HBe.out⟩
        · go_wp2_with fail
          go_ret
          exact ⟨ret_b2 (by rw [HA.out, Bool.eq_iff_iff]), HBe.out⟩
      rw [if_neg e11] at HA
      have hne : ∀ k : Int, op ≠ k → (op == k) = false := fun k hk => by simpa using hk
      have f1 := hne 1 (by omega)
      have f2 := hne 2 (by omega)
      have f3 := hne 3 (by omega)
      have f4 := hne 4 (by omega)
      have f5 := hne 5 (by omega)
      have f6 := hne 6 (by omega)
      have f7 := hne 7 (by omega)
      have f8 := hne 8 (by omega)
      have f9 := hne 9 (by omega)
      have f10 := hne 10 (by omega)
      have f11 := hne 11 (by omega)
      have f12 := hne 12 (by omega)
      clear hne e12 e38 e9 e10 e11
      go_wp2_with fail
      go_ret
      exact ⟨ret_b2 HA.out.symm, HBe.out⟩
theorem rpart_any (vc : Value) (cols : List Bool) (p : PT) : RPartOk vc cols p := by
  induction p using PT.ind with
  | h p ih => exact rpart_step vc cols p ih
set_option maxHeartbeats 2000000 in
theorem rmayP_any (vc : Value) (cols : List Bool) (p : PT) (w : World) (hbo : BoolsIn w vc cols) (hi : In w p) (hs : p.size ≤ 1000000) :
    Calls Tryd.prog 31 #[.agg #[vc], p.val] w fun e w' => e = .returned (.bool (mayT cols && mayP cols p)) ∧ Below w.heap.size w w' := by
  obtain ⟨t, ht⟩ : ∃ t, mayT cols = t := ⟨_, rfl⟩
  obtain ⟨g, hg⟩ : ∃ g, okP (suitP cols) p = g := ⟨_, rfl⟩
  have H1 : Hid (∀ w1, Below w.heap.size w w1 → Calls Tryd.prog 28 #[.agg #[vc]] w1 fun e w' => e = .returned (.bool t) ∧ Below w1.heap.size w1 w') := fun w1 hb => by rw [← ht]; exact rmay_any vc cols w1 (hbo.below hb)
  have H2 : Hid (∀ w1, Below w.heap.size w w1 → Calls Tryd.prog 54 #[p.val] w1 fun e w' => e = .returned (.int .i64 (p.size : Int)) ∧ Below w1.heap.size w1 w') := fun w1 hb => rsize_any p w1 (hi.keep hb) hs
  have H3 : Hid (∀ w1, Below w.heap.size w w1 → Calls Tryd.prog 56 #[.agg #[vc], p.val] w1 fun e w' => e = .returned (.bool g) ∧ Below w1.heap.size w1 w') := fun w1 hb => by rw [← hg]; exact rpart_any vc cols p w1 (hbo.below hb) (hi.keep hb)
  have HM : Hid (mayP cols p = (decide (p.size ≤ 15) && g)) := by rw [Hid, mayP, hg]
  rw [HM.out, ht]
  have HT : Hid _ := TB.new w vc p 50 29
  clear hbo hi hs ht hg HM
  unfold PT.val at *
  go_enter Tryd.func31, Tryd.ntmps31
  go_wp2_with fail
  refine Calls.mono (H1.out _ (back1 (alloc1 _ _))) ?_
  rintro e w1 ⟨rfl, hb⟩
  have T1 : Hid (TB w.heap.size vc p w1) := HT.out.below hb
  have HB1 : Hid (Below w.heap.size w w1) := back2 hb
  clear hb HT H1
  cases t
  · clear H2 H3
    go_wp2_with fail
    go_ret
    exact ⟨rfl, HB1.out⟩
  obtain ⟨t0, ⟨b0, b1, b2, b3, b4, b5, b6, b7, b8⟩⟩ := T1.out
  go_wp2_with fail
  refine Calls.mono (H2.out _ HB1.out) ?_
  rintro e w2 ⟨rfl, hb⟩
  have T2' : Hid (TB w.heap.size vc p w2) := T1.out.below hb
  have HB2 : Hid (Below w.heap.size w w2) := on HB1.out hb
  clear hb T1 HB1 H2 t0 b0 b1 b2 b3 b4 b5 b6 b7 b8
  by_cases h15 : p.size ≤ 15
  · have j1 : (p.size : Int) ≤ 15 := by omega
    have HD : Hid (decide (p.size ≤ 15) = true) := decide_eq_true h15
    obtain ⟨t0, ⟨b0, b1, b2, b3, b4, b5, b6, b7, b8⟩⟩ := T2'.out
    clear h15
    go_wp2_with fail
    refine Calls.mono (H3.out _ HB2.out) ?_
    rintro e w3 ⟨rfl, hb⟩
    have HB3 : Hid (Below w.heap.size w w3) := on HB2.out hb
    clear hb H3 HB2 T2' t0 b0 b1 b2 b3 b4 b5 b6 b7 b8
    go_wp2_with fail
    go_ret
    exact ⟨ret_b2 (by rw [HD.out]; simp), HB3.out⟩
  · have j1 : decide ((p.size : Int) ≤ 15) = false := by simp; omega
    have HD : Hid (decide (p.size ≤ 15) = false) := decide_eq_false h15
    clear h15 H3
    go_wp2_with fail
    go_ret
    exact ⟨ret_b2 (by rw [HD.out]; simp), HB2.out⟩
end Go.Proofs.YtkkbbpldeeajaaaDoor.Val
/- What the document's images and May of claims answer. -/
namespace Go.Proofs.YtkkbbpldeeajaaaDoor.Val
open Go.RowKit
set_option maxRecDepth 100000

/-- The document's images: none but with X; with X all suit. -/
def imagesC (cols : List Bool) (c : CP) : Bool := if c.mode = 6 then c.rows.all (suitI cols c.key) else c.ims.isEmpty
theorem headD_zero (l : List Bool) (h : 0 < l.length) : l.headD false = l[0] := by
  cases l with
  | nil => simp at h
  | cons x y => rfl
theorem im_stop {cols : List Bool} {c : CP} {k : Nat} (h6 : c.mode = 6) (hk : k < c.ims.length) (h : suitI cols c.key c.ims[k].r = false) : imagesC cols c = false := by
  rw [imagesC, if_pos h6, ← Bool.not_eq_true, List.all_eq_true]
  intro hh
  have := hh _ (List.mem_map.2 ⟨c.ims[k], List.getElem_mem hk, rfl⟩)
  rw [h] at this
  cases this
theorem im_end {cols : List Bool} {c : CP} (h6 : c.mode = 6) (h : ∀ (j : Nat) (hj : j < c.ims.length), suitI cols c.key c.ims[j].r = true) : imagesC cols c = true := by
  rw [imagesC, if_pos h6, List.all_eq_true]
  intro x hx
  obtain ⟨i, hi, rfl⟩ := List.mem_map.1 hx
  obtain ⟨j, hj, rfl⟩ := List.mem_iff_getElem.1 hi
  exact h j hj
/-- The boxes of images. -/
structure IB (w0 w : World) (vc : Value) (c : CP) : Prop where
  t : w.cell? ⟨w0.heap.size, 0, none⟩ = some vc
  cc : CB w (w0.heap.size + 1) c
  bel : Below w0.heap.size w0 w
theorem IB.below {w0 w w' : World} {vc : Value} {c : CP} (h : IB w0 w vc c) (hb : Below w.heap.size w w') : IB w0 w' vc c := ⟨cell_below h.t hb, h.cc.below hb, on h.bel hb⟩
theorem IB.new (w : World) (vc : Value) (c : CP) (T : TypeId) : IB w ((w.alloc (.cells #[vc] T)).alloc (cobj c TC)) vc c :=
  ⟨cell_below (cell_new w vc T) (alloc1 _ _), by have := CB.new (w.alloc (.cells #[vc] T)) c; simpa using this, back2 (Below.refl _ _)⟩
set_option maxHeartbeats 8000000 in
theorem rimages_any (vc : Value) (cols : List Bool) (c : CP) (w : World) (hT : BoolsIn w vc cols) (hc : CIn w c) (ho : OkC c) : Tells 30 #[.agg #[vc], c.val] w (.bool (imagesC cols c)) := by
  have HF : Hid (∀ (q : Im) w1, q ∈ c.ims → Below w.heap.size w w1 → Tells 55 #[.agg #[vc], q.v] w1 (.bool (fitsRow cols q.r))) := fun q w1 hq h => rfits_any vc q.v cols q.r w1 (hT.below h) ((hc.ims.2 q hq).below h) (ho q hq)
  have HN : Hid (∀ T, IB w ((w.alloc (.cells #[vc] T)).alloc (cobj c TC)) vc c) := IB.new w vc c
  have HI : Hid (ImsIn w c.iv c.ims) := hc.ims
  obtain ⟨at', ct, hvc, _⟩ := hT.slice
  obtain ⟨ai, ci, hiv, hn⟩ := hc.ims.slice
  have HE : Hid (c.iv = .slice ai c.ims.length ci) := hiv
  unfold cobj at HN
  unfold CP.val
  rw [hiv] at HN ⊢
  rw [hvc] at HF HN ⊢
  clear hT hc ho hiv hvc
  by_cases h6 : c.mode = 6
  case neg =>
    have e1 : (c.mode != 6) = true := by simpa using h6
    have HR : Hid (imagesC cols c = c.ims.isEmpty) := by rw [imagesC, if_neg h6]; rfl
    have e2 : ((c.ims.length : Int) == 0) = c.ims.isEmpty := by cases c.ims <;> simp; omega
    clear HF HI HE h6
    go_enter Tryd.func30, Tryd.ntmps30
    go_wp2_with fail
    go_ret
    exact ⟨ret_b HR.out.symm, (HN.out _).bel⟩
  have e1 : (c.mode != 6) = false := by simp [h6]
  have H6 : Hid (c.mode = 6) := h6
  clear h6
  go_enter Tryd.func30, Tryd.ntmps30
  go_wp2_with fail
  go_loopw [5, 6, 7] (fun i _ _ wr => ∃ k : Nat, k ≤ c.ims.length ∧ i = .int .i64 k ∧ Hid (∀ (j : Nat) (hj : j < c.ims.length), j < k → suitI cols c.key c.ims[j].r = true) ∧ Hid (IB w wr (.slice at' cols.length ct) c))
    (fun i _ _ _ => c.ims.length - (intOf i).toNat)
  case atStart => exact ⟨0, Nat.zero_le _, rfl, fun j _ hj => by omega, HN.out _⟩
  case round =>
    clear HN
    obtain ⟨k, hk, rfl, HG, HB⟩ := hrel
    have c6 : wr.cell? ⟨w.heap.size + 1, 6, none⟩ = some (.slice ai c.ims.length ci) := by have := HB.out.cc.box.c6; rwa [HE.out] at this
    have t0 := HB.out.t
    by_cases h1 : k < c.ims.length
    · have k0 : (0 : Int) ≤ (k : Int) := by omega
      have k1 : (k : Int) < (c.ims.length : Int) := by omega
      have hin := HI.out.below HB.out.bel
      rw [HE.out] at hin
      obtain ⟨b, o, rfl, hat⟩ := hin.at k h1
      have hrk := hin.2 _ (List.getElem_mem h1)
      obtain ⟨ak, ck, hvk, _⟩ := hrk.slice
      have HQ : Hid (Tells 55 #[.agg #[.slice at' cols.length ct], c.ims[k].v] wr (.bool (fitsRow cols c.ims[k].r))) := HF.out _ wr (List.getElem_mem h1) HB.out.bel
      rw [hvk] at hat HQ hrk
      have HRK : Hid (RowIn wr (.slice ak c.ims[k].r.length ck) c.ims[k].r) := hrk
      have HST : Hid (suitI cols c.key c.ims[k].r = false → imagesC cols c = false) := fun h => im_stop H6.out h1 h
      obtain ⟨r, hr⟩ : ∃ r, c.ims[k].r = r := ⟨_, rfl⟩
      have HRE : Hid (c.ims[k].r = r) := hr
      rw [hr] at HQ HRK HST hat
      clear hin hrk hvk HI HF hr
      cases r with
      | nil =>
        have HG1 : Hid (∀ (j : Nat) (hj : j < c.ims.length), j < k + 1 → suitI cols c.key c.ims[j].r = true) := fun j hj hk => by
          rcases Nat.lt_succ_iff_lt_or_eq.1 hk with h | rfl
          · exact HG.out j hj h
          · rw [HRE.out]; rfl
        simp only [List.length_nil] at HQ hat
        clear HST HRK HRE HG
        go_wp2_with fail
        refine Calls.mono HQ.out ?_
        rintro e w1 ⟨rfl, hb⟩
        have HB1 : Hid (IB w w1 (.slice at' cols.length ct) c) := HB.out.below hb
        clear hb HB HQ c6 t0 hat
        go_wp2_with fail
        refine wp_region_held_drew (S := fun _ => True) (by kernel_rfl) ?_ (fun hHeld => ?_)
        · trivial
        (try clear hK K)
        refine wpAnyH_take (i := 0) (v := ?_) rfl (by kernel_rfl) (by kernel_rfl) (by kernel_rfl) (fun _ _ _ h => h) (Or.inl ⟨by rfl, ?_⟩) (by assumption) ?_
        rotate_left
        · intro w hSw; (try dsimp only at hSw); go_simp; (try with_reducible rfl)
        (try simp only [Act.put, List.getElem_toArray, List.getElem_cons_zero, List.setIfInBounds_toArray, List.set_cons_zero, List.set_cons_succ])
        refine wpAnyH_take (i := 1) (v := ?_) rfl (by kernel_rfl) (by kernel_rfl) (by kernel_rfl) (fun _ _ _ h => h) (Or.inl ⟨by rfl, ?_⟩) (by assumption) ?_
        rotate_left
        · intro w hSw; (try dsimp only at hSw); go_simp; (try with_reducible rfl)
        (try simp only [Act.put, List.getElem_toArray, List.getElem_cons_succ, List.getElem_cons_zero, List.setIfInBounds_toArray, List.set_cons_zero, List.set_cons_succ])
        refine wpAnyH_take (i := 2) (v := ?_) rfl (by kernel_rfl) (by kernel_rfl) (by kernel_rfl) (fun _ _ _ h => h) (Or.inl ⟨by rfl, ?_⟩) (by assumption) ?_
        rotate_left
        · intro w hSw; (try dsimp only at hSw); go_simp; (try with_reducible rfl)
        (try simp only [Act.put, List.getElem_toArray, List.getElem_cons_succ, List.getElem_cons_zero, List.setIfInBounds_toArray, List.set_cons_zero, List.set_cons_succ])
        refine wpAnyH_take (i := 3) (v := ?_) rfl (by kernel_rfl) (by kernel_rfl) (by kernel_rfl) (fun _ _ _ h => h) (Or.inl ⟨by rfl, ?_⟩) (by assumption) ?_
        rotate_left
        · intro w hSw; (try dsimp only at hSw); go_simp; (try with_reducible rfl)
        (try simp only [Act.put, List.getElem_toArray, List.getElem_cons_succ, List.getElem_cons_zero, List.setIfInBounds_toArray, List.set_cons_zero, List.set_cons_succ])
        (try clear hK K)
        refine wpAnyH_take (i := 4) (v := undef) rfl (by kernel_rfl) (by kernel_rfl) (by kernel_rfl) (fun _ _ _ h => h) (Or.inr ⟨by rfl, rfl⟩) (by assumption) ?_
        (try simp only [Act.put, List.getElem_toArray, List.getElem_cons_succ, List.getElem_cons_zero, List.setIfInBounds_toArray, List.set_cons_zero, List.set_cons_succ])
        refine wpAnyH_take (i := 5) (v := undef) rfl (by kernel_rfl) (by kernel_rfl) (by kernel_rfl) (fun _ _ _ h => h) (Or.inr ⟨by rfl, rfl⟩) (by assumption) ?_
        (try simp only [Act.put, List.getElem_toArray, List.getElem_cons_succ, List.getElem_cons_zero, List.setIfInBounds_toArray, List.set_cons_zero, List.set_cons_succ])
        refine wpAnyH_take (i := 6) (v := undef) rfl (by kernel_rfl) (by kernel_rfl) (by kernel_rfl) (fun _ _ _ h => h) (Or.inr ⟨by rfl, rfl⟩) (by assumption) ?_
        (try simp only [Act.put, List.getElem_toArray, List.getElem_cons_succ, List.getElem_cons_zero, List.setIfInBounds_toArray, List.set_cons_zero, List.set_cons_succ])
        refine wpAnyH_take (i := 7) (v := undef) rfl (by kernel_rfl) (by kernel_rfl) (by kernel_rfl) (fun _ _ _ h => h) (Or.inr ⟨by rfl, rfl⟩) (by assumption) ?_
        (try simp only [Act.put, List.getElem_toArray, List.getElem_cons_succ, List.getElem_cons_zero, List.setIfInBounds_toArray, List.set_cons_zero, List.set_cons_succ])
        refine wpAnyH_take (i := 8) (v := undef) rfl (by kernel_rfl) (by kernel_rfl) (by kernel_rfl) (fun _ _ _ h => h) (Or.inr ⟨by rfl, rfl⟩) (by assumption) ?_
        (try simp only [Act.put, List.getElem_toArray, List.getElem_cons_succ, List.getElem_cons_zero, List.setIfInBounds_toArray, List.set_cons_zero, List.set_cons_succ])
        refine wpAnyH_take (i := 9) (v := undef) rfl (by kernel_rfl) (by kernel_rfl) (by kernel_rfl) (fun _ _ _ h => h) (Or.inr ⟨by rfl, rfl⟩) (by assumption) ?_
        (try simp only [Act.put, List.getElem_toArray, List.getElem_cons_succ, List.getElem_cons_zero, List.setIfInBounds_toArray, List.set_cons_zero, List.set_cons_succ])
        refine wpAnyH_take (i := 10) (v := undef) rfl (by kernel_rfl) (by kernel_rfl) (by kernel_rfl) (fun _ _ _ h => h) (Or.inr ⟨by rfl, rfl⟩) (by assumption) ?_
        (try simp only [Act.put, List.getElem_toArray, List.getElem_cons_succ, List.getElem_cons_zero, List.setIfInBounds_toArray, List.set_cons_zero, List.set_cons_succ])
        refine wpAnyH_take (i := 11) (v := undef) rfl (by kernel_rfl) (by kernel_rfl) (by kernel_rfl) (fun _ _ _ h => h) (Or.inr ⟨by rfl, rfl⟩) (by assumption) ?_
        (try simp only [Act.put, List.getElem_toArray, List.getElem_cons_succ, List.getElem_cons_zero, List.setIfInBounds_toArray, List.set_cons_zero, List.set_cons_succ])
        refine wpAnyH_take (i := 12) (v := undef) rfl (by kernel_rfl) (by kernel_rfl) (by kernel_rfl) (fun _ _ _ h => h) (Or.inr ⟨by rfl, rfl⟩) (by assumption) ?_
        (try simp only [Act.put, List.getElem_toArray, List.getElem_cons_succ, List.getElem_cons_zero, List.setIfInBounds_toArray, List.set_cons_zero, List.set_cons_succ])
        refine wpAnyH_take (i := 13) (v := undef) rfl (by kernel_rfl) (by kernel_rfl) (by kernel_rfl) (fun _ _ _ h => h) (Or.inr ⟨by rfl, rfl⟩) (by assumption) ?_
        (try simp only [Act.put, List.getElem_toArray, List.getElem_cons_succ, List.getElem_cons_zero, List.setIfInBounds_toArray, List.set_cons_zero, List.set_cons_succ])
        (try clear hK K)
        refine wpAnyH_take (i := 14) (v := ?_) rfl (by kernel_rfl) (by kernel_rfl) (by kernel_rfl) (fun _ _ _ h => h) (Or.inl ⟨by rfl, ?_⟩) (by assumption) ?_
        rotate_left
        · intro w hSw; (try dsimp only at hSw); go_simp; (try with_reducible rfl)
        (try simp only [Act.put, List.getElem_toArray, List.getElem_cons_succ, List.getElem_cons_zero, List.setIfInBounds_toArray, List.set_cons_zero, List.set_cons_succ])
        (try clear hK K)
        refine wpAnyH_done (by kernel_rfl) ?_ _
        go_wp2_with fail
        go_roundw
        case rel => exact ⟨k + 1, by omega, by go_num, HG1, HB1.out.below (Below.refl _ _).drew⟩
        case measure => simp [intOf]; omega
      | cons x l =>
        obtain ⟨b2, o2, e2, d0, d1, d2⟩ := HRK.out.at 0 (by simp)
        subst e2
        simp only [List.getElem_cons_zero, Nat.zero_mul, Nat.add_zero] at d0 d1 d2
        have hsu : suitI cols c.key (x :: l) = (fitsRow cols (x :: l) && eqV x c.key) := rfl
        have HSU : Hid (suitI cols c.key (x :: l) = (fitsRow cols (x :: l) && eqV x c.key)) := hsu
        have ev := fun w => neq_V x c.key w
        have l0 : (0 : Int) < ((x :: l).length : Int) := by rw [List.length_cons]; omega
        have l1 : 0 < (x :: l).length := by simp
        clear hsu
        generalize fitsRow cols (x :: l) = f at *
        generalize (x :: l).length = n at *
        obtain ⟨g, hg⟩ : ∃ g, eqV x c.key = g := ⟨_, rfl⟩
        rw [hg] at HSU ev
        clear hg
        go_wp2_with fail
        refine Calls.mono HQ.out ?_
        rintro e w1 ⟨rfl, hb⟩
        have HB1 : Hid (IB w w1 (.slice at' cols.length ct) c) := HB.out.below hb
        have e0 := cell_below d0 hb
        have e1' := cell_below d1 hb
        have e2 := cell_below d2 hb
        have q3 : w1.cell? ⟨w.heap.size + 1, 3, none⟩ = some (.bool c.key.t) := HB1.out.cc.cell 3
        have q4 : w1.cell? ⟨w.heap.size + 1, 4, none⟩ = some (.int .i64 c.key.n) := HB1.out.cc.cell 4
        have q5 : w1.cell? ⟨w.heap.size + 1, 5, none⟩ = some (.string c.key.s) := HB1.out.cc.cell 5
        clear hb HB HQ c6 t0 hat HRK d0 d1 d2
        cases f
        · have HR : Hid (imagesC cols c = false) := HST.out (by rw [HSU.out]; rfl)
          clear HST HSU HG HRE ev
          go_wp2_with fail
          refine wp_region_held_drew (S := fun _ => True) (by kernel_rfl) ?_ (fun hHeld => ?_)
          · trivial
          (try clear hK K)
          refine wpAnyH_take (i := 0) (v := ?_) rfl (by kernel_rfl) (by kernel_rfl) (by kernel_rfl) (fun _ _ _ h => h) (Or.inl ⟨by rfl, ?_⟩) (by assumption) ?_
          rotate_left
          · intro w hSw; (try dsimp only at hSw); go_simp; (try with_reducible rfl)
          (try simp only [Act.put, List.getElem_toArray, List.getElem_cons_zero, List.setIfInBounds_toArray, List.set_cons_zero, List.set_cons_succ])
          refine wpAnyH_take (i := 1) (v := ?_) rfl (by kernel_rfl) (by kernel_rfl) (by kernel_rfl) (fun _ _ _ h => h) (Or.inl ⟨by rfl, ?_⟩) (by assumption) ?_
          rotate_left
          · intro w hSw; (try dsimp only at hSw); go_simp; (try with_reducible rfl)
          (try simp only [Act.put, List.getElem_toArray, List.getElem_cons_succ, List.getElem_cons_zero, List.setIfInBounds_toArray, List.set_cons_zero, List.set_cons_succ])
          refine wpAnyH_take (i := 2) (v := ?_) rfl (by kernel_rfl) (by kernel_rfl) (by kernel_rfl) (fun _ _ _ h => h) (Or.inl ⟨by rfl, ?_⟩) (by assumption) ?_
          rotate_left
          · intro w hSw; (try dsimp only at hSw); go_simp; (try with_reducible rfl)
          (try simp only [Act.put, List.getElem_toArray, List.getElem_cons_succ, List.getElem_cons_zero, List.setIfInBounds_toArray, List.set_cons_zero, List.set_cons_succ])
          refine wpAnyH_take (i := 3) (v := ?_) rfl (by kernel_rfl) (by kernel_rfl) (by kernel_rfl) (fun _ _ _ h => h) (Or.inl ⟨by rfl, ?_⟩) (by assumption) ?_
          rotate_left
          · intro w hSw; (try dsimp only at hSw); go_simp; (try with_reducible rfl)
          (try simp only [Act.put, List.getElem_toArray, List.getElem_cons_succ, List.getElem_cons_zero, List.setIfInBounds_toArray, List.set_cons_zero, List.set_cons_succ])
          refine wpAnyH_take (i := 4) (v := ?_) rfl (by kernel_rfl) (by kernel_rfl) (by kernel_rfl) (fun _ _ _ h => h) (Or.inl ⟨by rfl, ?_⟩) (by assumption) ?_
          rotate_left
          · intro w hSw; (try dsimp only at hSw); go_simp; (try with_reducible rfl)
          (try simp only [Act.put, List.getElem_toArray, List.getElem_cons_succ, List.getElem_cons_zero, List.setIfInBounds_toArray, List.set_cons_zero, List.set_cons_succ])
          refine wpAnyH_take (i := 5) (v := ?_) rfl (by kernel_rfl) (by kernel_rfl) (by kernel_rfl) (fun _ _ _ h => h) (Or.inl ⟨by rfl, ?_⟩) (by assumption) ?_
          rotate_left
          · intro w hSw; (try dsimp only at hSw); go_simp; (try with_reducible rfl)
          (try simp only [Act.put, List.getElem_toArray, List.getElem_cons_succ, List.getElem_cons_zero, List.setIfInBounds_toArray, List.set_cons_zero, List.set_cons_succ])
          refine wpAnyH_take (i := 6) (v := ?_) rfl (by kernel_rfl) (by kernel_rfl) (by kernel_rfl) (fun _ _ _ h => h) (Or.inl ⟨by rfl, ?_⟩) (by assumption) ?_
          rotate_left
          · intro w hSw; (try dsimp only at hSw); go_simp; (try with_reducible rfl)
          (try simp only [Act.put, List.getElem_toArray, List.getElem_cons_succ, List.getElem_cons_zero, List.setIfInBounds_toArray, List.set_cons_zero, List.set_cons_succ])
          (try clear hK K)
          refine wpAnyH_take (i := 7) (v := undef) rfl (by kernel_rfl) (by kernel_rfl) (by kernel_rfl) (fun _ _ _ h => h) (Or.inr ⟨by rfl, rfl⟩) (by assumption) ?_
          (try simp only [Act.put, List.getElem_toArray, List.getElem_cons_succ, List.getElem_cons_zero, List.setIfInBounds_toArray, List.set_cons_zero, List.set_cons_succ])
          refine wpAnyH_take (i := 8) (v := undef) rfl (by kernel_rfl) (by kernel_rfl) (by kernel_rfl) (fun _ _ _ h => h) (Or.inr ⟨by rfl, rfl⟩) (by assumption) ?_
          (try simp only [Act.put, List.getElem_toArray, List.getElem_cons_succ, List.getElem_cons_zero, List.setIfInBounds_toArray, List.set_cons_zero, List.set_cons_succ])
          refine wpAnyH_take (i := 9) (v := undef) rfl (by kernel_rfl) (by kernel_rfl) (by kernel_rfl) (fun _ _ _ h => h) (Or.inr ⟨by rfl, rfl⟩) (by assumption) ?_
          (try simp only [Act.put, List.getElem_toArray, List.getElem_cons_succ, List.getElem_cons_zero, List.setIfInBounds_toArray, List.set_cons_zero, List.set_cons_succ])
          refine wpAnyH_take (i := 10) (v := undef) rfl (by kernel_rfl) (by kernel_rfl) (by kernel_rfl) (fun _ _ _ h => h) (Or.inr ⟨by rfl, rfl⟩) (by assumption) ?_
          (try simp only [Act.put, List.getElem_toArray, List.getElem_cons_succ, List.getElem_cons_zero, List.setIfInBounds_toArray, List.set_cons_zero, List.set_cons_succ])
          refine wpAnyH_take (i := 11) (v := undef) rfl (by kernel_rfl) (by kernel_rfl) (by kernel_rfl) (fun _ _ _ h => h) (Or.inr ⟨by rfl, rfl⟩) (by assumption) ?_
          (try simp only [Act.put, List.getElem_toArray, List.getElem_cons_succ, List.getElem_cons_zero, List.setIfInBounds_toArray, List.set_cons_zero, List.set_cons_succ])
          refine wpAnyH_take (i := 12) (v := undef) rfl (by kernel_rfl) (by kernel_rfl) (by kernel_rfl) (fun _ _ _ h => h) (Or.inr ⟨by rfl, rfl⟩) (by assumption) ?_
          (try simp only [Act.put, List.getElem_toArray, List.getElem_cons_succ, List.getElem_cons_zero, List.setIfInBounds_toArray, List.set_cons_zero, List.set_cons_succ])
          (try clear hK K)
          refine wpAnyH_take (i := 13) (v := ?_) rfl (by kernel_rfl) (by kernel_rfl) (by kernel_rfl) (fun _ _ _ h => h) (Or.inl ⟨by rfl, ?_⟩) (by assumption) ?_
          rotate_left
          · intro w hSw; (try dsimp only at hSw); go_simp; (try with_reducible rfl)
          (try simp only [Act.put, List.getElem_toArray, List.getElem_cons_succ, List.getElem_cons_zero, List.setIfInBounds_toArray, List.set_cons_zero, List.set_cons_succ])
          refine wpAnyH_take (i := 14) (v := ?_) rfl (by kernel_rfl) (by kernel_rfl) (by kernel_rfl) (fun _ _ _ h => h) (Or.inl ⟨by rfl, ?_⟩) (by assumption) ?_
          rotate_left
          · intro w hSw; (try dsimp only at hSw); go_simp; (try with_reducible rfl)
          (try simp only [Act.put, List.getElem_toArray, List.getElem_cons_succ, List.getElem_cons_zero, List.setIfInBounds_toArray, List.set_cons_zero, List.set_cons_succ])
          (try clear hK K)
          refine wpAnyH_done (by kernel_rfl) ?_ _
          go_wp2_with fail
          go_ret
          exact ⟨ret_b HR.out.symm, HB1.out.bel.drew⟩
        · go_wp2_with fail
          refine wp_region_held_drew (S := fun w' => (w'.cell? ⟨b2, o2, none⟩ = some (.bool x.t) ∧ w'.cell? ⟨b2, o2 + 1, none⟩ = some (.int .i64 x.n) ∧ w'.cell? ⟨b2, o2 + 2, none⟩ = some (.string x.s)) ∧ w'.cell? ⟨w.heap.size + 1, 3, none⟩ = some (.bool c.key.t) ∧ w'.cell? ⟨w.heap.size + 1, 4, none⟩ = some (.int .i64 c.key.n) ∧ w'.cell? ⟨w.heap.size + 1, 5, none⟩ = some (.string c.key.s)) (by kernel_rfl) ?_ (fun hHeld => ?_)
          · simp [e0, e1', e2, q3, q4, q5]
          (try clear hK K)
          refine wpAnyH_take (i := 0) (v := ?_) rfl (by kernel_rfl) (by kernel_rfl) (by kernel_rfl) (fun _ _ _ h => h) (Or.inl ⟨by rfl, ?_⟩) (by assumption) ?_
          rotate_left
          · intro w hSw; (try dsimp only at hSw); go_simp; (try with_reducible rfl)
          (try simp only [Act.put, List.getElem_toArray, List.getElem_cons_zero, List.setIfInBounds_toArray, List.set_cons_zero, List.set_cons_succ])
          refine wpAnyH_take (i := 1) (v := ?_) rfl (by kernel_rfl) (by kernel_rfl) (by kernel_rfl) (fun _ _ _ h => h) (Or.inl ⟨by rfl, ?_⟩) (by assumption) ?_
          rotate_left
          · intro w hSw; (try dsimp only at hSw); go_simp; (try with_reducible rfl)
          (try simp only [Act.put, List.getElem_toArray, List.getElem_cons_succ, List.getElem_cons_zero, List.setIfInBounds_toArray, List.set_cons_zero, List.set_cons_succ])
          refine wpAnyH_take (i := 2) (v := ?_) rfl (by kernel_rfl) (by kernel_rfl) (by kernel_rfl) (fun _ _ _ h => h) (Or.inl ⟨by rfl, ?_⟩) (by assumption) ?_
          rotate_left
          · intro w hSw; (try dsimp only at hSw); go_simp; (try with_reducible rfl)
          (try simp only [Act.put, List.getElem_toArray, List.getElem_cons_succ, List.getElem_cons_zero, List.setIfInBounds_toArray, List.set_cons_zero, List.set_cons_succ])
          refine wpAnyH_take (i := 3) (v := ?_) rfl (by kernel_rfl) (by kernel_rfl) (by kernel_rfl) (fun _ _ _ h => h) (Or.inl ⟨by rfl, ?_⟩) (by assumption) ?_
          rotate_left
          · intro w hSw; (try dsimp only at hSw); go_simp; (try with_reducible rfl)
          (try simp only [Act.put, List.getElem_toArray, List.getElem_cons_succ, List.getElem_cons_zero, List.setIfInBounds_toArray, List.set_cons_zero, List.set_cons_succ])
          refine wpAnyH_take (i := 4) (v := ?_) rfl (by kernel_rfl) (by kernel_rfl) (by kernel_rfl) (fun _ _ _ h => h) (Or.inl ⟨by rfl, ?_⟩) (by assumption) ?_
          rotate_left
          · intro w hSw; (try dsimp only at hSw); go_simp; (try with_reducible rfl)
          (try simp only [Act.put, List.getElem_toArray, List.getElem_cons_succ, List.getElem_cons_zero, List.setIfInBounds_toArray, List.set_cons_zero, List.set_cons_succ])
          refine wpAnyH_take (i := 5) (v := ?_) rfl (by kernel_rfl) (by kernel_rfl) (by kernel_rfl) (fun _ _ _ h => h) (Or.inl ⟨by rfl, ?_⟩) (by assumption) ?_
          rotate_left
          · intro w hSw; (try dsimp only at hSw); go_simp; (try with_reducible rfl)
          (try simp only [Act.put, List.getElem_toArray, List.getElem_cons_succ, List.getElem_cons_zero, List.setIfInBounds_toArray, List.set_cons_zero, List.set_cons_succ])
          refine wpAnyH_take (i := 6) (v := ?_) rfl (by kernel_rfl) (by kernel_rfl) (by kernel_rfl) (fun _ _ _ h => h) (Or.inl ⟨by rfl, ?_⟩) (by assumption) ?_
          rotate_left
          · intro w hSw; (try dsimp only at hSw); go_simp; (try with_reducible rfl)
          (try simp only [Act.put, List.getElem_toArray, List.getElem_cons_succ, List.getElem_cons_zero, List.setIfInBounds_toArray, List.set_cons_zero, List.set_cons_succ])
          refine wpAnyH_take (i := 7) (v := ?_) rfl (by kernel_rfl) (by kernel_rfl) (by kernel_rfl) (fun _ _ _ h => h) (Or.inl ⟨by rfl, ?_⟩) (by assumption) ?_
          rotate_left
          · intro w hSw; (try dsimp only at hSw); go_simp; (try with_reducible rfl)
          (try simp only [Act.put, List.getElem_toArray, List.getElem_cons_succ, List.getElem_cons_zero, List.setIfInBounds_toArray, List.set_cons_zero, List.set_cons_succ])
          refine wpAnyH_take (i := 8) (v := ?_) rfl (by kernel_rfl) (by kernel_rfl) (by kernel_rfl) (fun _ _ _ h => h) (Or.inl ⟨by rfl, ?_⟩) (by assumption) ?_
          rotate_left
          · intro w hSw; (try dsimp only at hSw); go_simp; (try with_reducible rfl)
          (try simp only [Act.put, List.getElem_toArray, List.getElem_cons_succ, List.getElem_cons_zero, List.setIfInBounds_toArray, List.set_cons_zero, List.set_cons_succ])
          refine wpAnyH_take (i := 9) (v := ?_) rfl (by kernel_rfl) (by kernel_rfl) (by kernel_rfl) (fun _ _ _ h => h) (Or.inl ⟨by rfl, ?_⟩) (by assumption) ?_
          rotate_left
          · intro w hSw; (try dsimp only at hSw); go_simp; (try with_reducible rfl)
          (try simp only [Act.put, List.getElem_toArray, List.getElem_cons_succ, List.getElem_cons_zero, List.setIfInBounds_toArray, List.set_cons_zero, List.set_cons_succ])
          refine wpAnyH_take (i := 10) (v := ?_) rfl (by kernel_rfl) (by kernel_rfl) (by kernel_rfl) (fun _ _ _ h => h) (Or.inl ⟨by rfl, ?_⟩) (by assumption) ?_
          rotate_left
          · intro w hSw; (try dsimp only at hSw); go_simp; (try with_reducible rfl)
          (try simp only [Act.put, List.getElem_toArray, List.getElem_cons_succ, List.getElem_cons_zero, List.setIfInBounds_toArray, List.set_cons_zero, List.set_cons_succ])
          refine wpAnyH_take (i := 11) (v := ?_) rfl (by kernel_rfl) (by kernel_rfl) (by kernel_rfl) (fun _ _ _ h => h) (Or.inl ⟨by rfl, ?_⟩) (by assumption) ?_
          rotate_left
          · intro w hSw; (try dsimp only at hSw); go_simp; (try with_reducible rfl)
          (try simp only [Act.put, List.getElem_toArray, List.getElem_cons_succ, List.getElem_cons_zero, List.setIfInBounds_toArray, List.set_cons_zero, List.set_cons_succ])
          refine wpAnyH_take (i := 12) (v := ?_) rfl (by kernel_rfl) (by kernel_rfl) (by kernel_rfl) (fun _ _ _ h => h) (Or.inl ⟨by rfl, ?_⟩) (by assumption) ?_
          rotate_left
          · intro w hSw; (try dsimp only at hSw); go_simp; (try with_reducible rfl)
          (try simp only [Act.put, List.getElem_toArray, List.getElem_cons_succ, List.getElem_cons_zero, List.setIfInBounds_toArray, List.set_cons_zero, List.set_cons_succ])
          refine wpAnyH_take (i := 13) (v := ?_) rfl (by kernel_rfl) (by kernel_rfl) (by kernel_rfl) (fun _ _ _ h => h) (Or.inl ⟨by rfl, ?_⟩) (by assumption) ?_
          rotate_left
          · intro w hSw; (try dsimp only at hSw); go_simp; (try with_reducible rfl)
          (try simp only [Act.put, List.getElem_toArray, List.getElem_cons_succ, List.getElem_cons_zero, List.setIfInBounds_toArray, List.set_cons_zero, List.set_cons_succ])
          refine wpAnyH_take (i := 14) (v := ?_) rfl (by kernel_rfl) (by kernel_rfl) (by kernel_rfl) (fun _ _ _ h => h) (Or.inl ⟨by rfl, ?_⟩) (by assumption) ?_
          rotate_left
          · intro w hSw; (try dsimp only at hSw); go_simp; (try with_reducible rfl)
          (try simp only [Act.put, List.getElem_toArray, List.getElem_cons_succ, List.getElem_cons_zero, List.setIfInBounds_toArray, List.set_cons_zero, List.set_cons_succ])
          (try clear hK K)
          refine wpAnyH_done (by kernel_rfl) ?_ _
          clear e0 e1' e2 q3 q4 q5
          cases g
          · have HR : Hid (imagesC cols c = false) := HST.out (by rw [HSU.out]; rfl)
            clear HST HSU HG HRE ev
            go_wp2_with fail
            go_ret
            exact ⟨ret_b HR.out.symm, HB1.out.bel.drew⟩
          · have HG1 : Hid (∀ (j : Nat) (hj : j < c.ims.length), j < k + 1 → suitI cols c.key c.ims[j].r = true) := fun j hj hk => by
              rcases Nat.lt_succ_iff_lt_or_eq.1 hk with h | rfl
              · exact HG.out j hj h
              · rw [HRE.out]; exact HSU.out
            clear HST HSU HG HRE ev
            go_wp2_with fail
            go_roundw
            case rel => exact ⟨k + 1, by omega, by go_num, HG1, HB1.out.below (Below.refl _ _).drew⟩
            case measure => simp [intOf]; omega
    · have k1 : decide ((k : Int) < (c.ims.length : Int)) = false := by simp; omega
      obtain rfl : k = c.ims.length := by omega
      have HR : Hid (imagesC cols c = true) := im_end H6.out fun j hj => HG.out j hj hj
      clear HG HF HI HE
      go_wp2_with fail
      go_ret
      exact ⟨ret_b HR.out.symm, HB.out.bel⟩
end Go.Proofs.YtkkbbpldeeajaaaDoor.Val
