/- What the reference's Fits answers: the same as the program's. -/
import Derived.Test.YtncefhjegkhamaaRowFitsC
namespace Go.Proofs.Ytncefhjegkhamaa.Val
open Go.RowKit

set_option maxHeartbeats 400000 in
theorem rfits_no (vc vr : Value) (cols : List Bool) (xs : List Val) (w : World) (hc : BoolsIn w vc cols) (_hr : RowIn w vr xs) (h : mayT cols = false) :
    Calls Try.prog 16 #[.agg #[vc], vr] w fun e w' => e = .returned (.bool false) ∧ Below w.heap.size w w' := by
  have H : Hid (∀ w1, Below w.heap.size w w1 → Calls Try.prog 12 #[.agg #[vc]] w1 fun e w' => e = .returned (.bool false) ∧ Below w1.heap.size w1 w') := fun w1 hb => by
    have := rmay_any vc cols w1 (hc.below hb); rw [h] at this; exact this
  clear h hc
  go_enter Try.func16, Try.ntmps16
  go_wp2_with fail
  refine Calls.mono (H.out _ ((Below.refl _ _).alloc (Nat.le_refl _) _)) ?_
  rintro e w1 ⟨rfl, hb1⟩
  go_wp2
  go_ret
  exact ⟨rfl, back1 hb1⟩
set_option maxHeartbeats 400000 in
theorem rfits_len (vc vr : Value) (cols : List Bool) (xs : List Val) (w : World) (hc : BoolsIn w vc cols) (hr : RowIn w vr xs) (h : mayT cols = true) (hl : ¬ xs.length = cols.length) :
    Calls Try.prog 16 #[.agg #[vc], vr] w fun e w' => e = .returned (.bool false) ∧ Below w.heap.size w w' := by
  have H : Hid (∀ w1, Below w.heap.size w w1 → Calls Try.prog 12 #[.agg #[vc]] w1 fun e w' => e = .returned (.bool true) ∧ Below w1.heap.size w1 w') := fun w1 hb => by
    have := rmay_any vc cols w1 (hc.below hb); rw [h] at this; exact this
  obtain ⟨ac, cc, rfl, lc⟩ := hc.slice
  obtain ⟨ar, cr, rfl, lr⟩ := hr.slice
  have hd : ((xs.length : Int) != (cols.length : Int)) = true := by simp; omega
  clear h hc hr hl
  go_enter Try.func16, Try.ntmps16
  go_wp2_with fail
  refine Calls.mono (H.out _ ((Below.refl _ _).alloc (Nat.le_refl _) _)) ?_
  rintro e w1 ⟨rfl, hb1⟩
  have c0 := in1 hb1
  go_wp2
  go_ret
  exact ⟨rfl, back1 hb1⟩
theorem not_t {b : Bool} (h : (!b) = true) : b = false := by cases b <;> simp_all
theorem not_f {b : Bool} (h : (!b) = false) : b = true := by cases b <;> simp_all
theorem suitV_no {c : Bool} {x : Val} (h : rightV x.t x.n x.s = false) : suitV c x = false := by unfold suitV; rw [h]; rfl
theorem suitV_yes {c : Bool} {x : Val} (h : rightV x.t x.n x.s = true) : suitV c x = (x.t == c) := by unfold suitV; rw [h]; rfl
set_option maxHeartbeats 1000000 in
theorem rfits_yes (vc vr : Value) (cols : List Bool) (xs : List Val) (w : World) (hc : BoolsIn w vc cols) (hr : RowIn w vr xs) (ho : RowOk xs) (h : mayT cols = true) (hl : xs.length = cols.length) :
    Calls Try.prog 16 #[.agg #[vc], vr] w fun e w' => e = .returned (.bool (fitsL cols xs)) ∧ Below w.heap.size w w' := by
  have H : Hid (∀ w1, Below w.heap.size w w1 → Calls Try.prog 12 #[.agg #[vc]] w1 fun e w' => e = .returned (.bool true) ∧ Below w1.heap.size w1 w') := fun w1 hb => by
    have := rmay_any vc cols w1 (hc.below hb); rw [h] at this; exact this
  have HS : Hid (∀ w1 (k : Nat) (h2 : k < xs.length), Calls Try.prog 25 #[V xs[k].t xs[k].n xs[k].s] w1 fun e w' => e = .returned (.bool (rightV xs[k].t xs[k].n xs[k].s)) ∧ Below w1.heap.size w1 w') :=
    fun w1 k h2 => rright_any _ _ _ w1 (ho _ (List.getElem_mem _)).2
  obtain ⟨ac, cc, rfl, lc⟩ := hc.slice
  obtain ⟨ar, cr, rfl, lr⟩ := hr.slice
  have HR : Hid (RowIn w (.slice ar xs.length cr) xs) := hr
  have HC : Hid (BoolsIn w (.slice ac cols.length cc) cols) := hc
  have hd : ((xs.length : Int) != (cols.length : Int)) = false := by simp; omega
  clear h hc hr ho
  have HL : Hid (xs.length = cols.length) := hl
  clear hl
  go_enter Try.func16, Try.ntmps16
  go_wp2_with fail
  refine Calls.mono (H.out _ ((Below.refl _ _).alloc (Nat.le_refl _) _)) ?_
  rintro e w1 ⟨rfl, hb1⟩
  have c0 := in1 hb1
  have HB : Hid (Below (w.heap.size + 1) (w.alloc (.cells #[.slice ac cols.length cc] 24)) w1) := hb1.mono (by simp)
  clear hb1 H
  go_wp2_with fail
  go_loopw [6] (fun i wr => ∃ k : Nat, k ≤ xs.length ∧ i = .int .i64 k ∧ Hid (FitsTo cols xs k) ∧ Hid (Below (w.heap.size + 1) (w.alloc (.cells #[.slice ac cols.length cc] 24)) wr)) (fun i _ => xs.length - (intOf i).toNat)
  case atStart => exact ⟨0, Nat.zero_le _, rfl, FitsTo.zero _ _, HB⟩
  case round =>
    obtain ⟨k, hk, rfl, HT, HW⟩ := hrel
    clear HB c0
    have hBr : Below w.heap.size w wr := back1 (HW.out.mono (by simp))
    have c0 : wr.cell? ⟨w.heap.size, 0, none⟩ = some (.slice ac cols.length cc) := in1 (HW.out.mono (by simp))
    have hz : w.heap.size < wr.heap.size := World.block_lt_of_cell? wr _ c0
    by_cases hlt : k < xs.length
    · have hlt2 : k < cols.length := by rw [← HL.out]; exact hlt
      obtain ⟨b, o, rfl, d0, d1, d2⟩ := (HR.out.below hBr).at k hlt
      have HBr : Hid (Below w.heap.size w wr) := hBr
      clear hBr
      have k1 : (k : Int) < (xs.length : Int) := by omega
      have k2 : (k : Int) < (cols.length : Int) := by omega
      go_wp2_with fail
      refine Calls.mono (HS.out _ k hlt) ?_
      rintro e w2 ⟨rfl, hb2⟩
      have HB2 : Hid (Below (w.heap.size + 1) (w.alloc (.cells #[.slice ac cols.length cc] 24)) w2) := HW.out.trans (hb2.mono (by omega))
      have c2 : w2.cell? ⟨w.heap.size, 0, none⟩ = some (.slice ac cols.length cc) := in1 (HB2.out.mono (by simp))
      obtain ⟨b', o', e', g0, g1, g2⟩ := (HR.out.below (back1 (HB2.out.mono (by simp)))).at k hlt
      cases e'
      obtain ⟨bc, oc, rfl, cc0⟩ := (HC.out.below (back1 (HB2.out.mono (by simp)))).at k hlt2
      clear hb2 d0 d1 d2 c0
      cases hr : rightV xs[k].t xs[k].n xs[k].s
      · have HN : Hid (fitsL cols xs = false) := fitsL_no hlt2 hlt (suitV_no hr)
        clear hr
        go_wp2_with fail
        go_quiet (fail)
        go_wp2_with fail
        go_ret
        exact ⟨ret_bool' HN.out.symm, below_drewN (back1 (HB2.out.mono (by simp))) _⟩
      · have HV : Hid (suitV cols[k] xs[k] = (xs[k].t == cols[k])) := suitV_yes hr
        clear hr
        go_wp2_with fail
        go_quiet (fail)
        go_wp2_with fail
        · have HN : Hid (fitsL cols xs = false) := fitsL_no hlt2 hlt (by rw [HV.out]; exact not_t ‹(!_) = true›)
          go_ret
          exact ⟨ret_bool' HN.out.symm, below_drewN (back1 (HB2.out.mono (by simp))) _⟩
        · have HN : Hid (FitsTo cols xs (k + 1)) := HT.out.next hlt2 hlt (by rw [HV.out]; exact not_f ‹(!_) = false›)
          go_roundw
          case rel => exact ⟨k + 1, by omega, by go_num, HN, below_drewN HB2.out _⟩
          case measure => simp [intOf]; omega
    · have HN : Hid (fitsL cols xs = true) := HT.out.all (by omega)
      go_wp2_with fail
      go_ret
      exact ⟨ret_bool' HN.out.symm, hBr⟩
theorem rfits_any (vc vr : Value) (cols : List Bool) (xs : List Val) (w : World) (hc : BoolsIn w vc cols) (hr : RowIn w vr xs) (ho : RowOk xs) :
    Calls Try.prog 16 #[.agg #[vc], vr] w fun e w' => e = .returned (.bool (fitsRow cols xs)) ∧ Below w.heap.size w w' := by
  cases h : mayT cols
  · rw [fitsRow_may h]; exact rfits_no vc vr cols xs w hc hr h
  · by_cases hl : xs.length = cols.length
    · rw [fitsRow_of h hl]; exact rfits_yes vc vr cols xs w hc hr ho h hl
    · rw [fitsRow_len hl]; exact rfits_len vc vr cols xs w hc hr h hl
end Go.Proofs.Ytncefhjegkhamaa.Val
