/- What the reference's Fits answers: the same as the program's. -/
import Derived.Test.YtafkpfhhmmnpeaaU27
import Derived.Deep.RegionHeld3
import Derived.BigQuiet
import Derived.Deep.QuietTactic
import Derived.WalkSmall
import Derived.Test.YtafkpfhhmmnpeaaU1
import Derived.BigRegion
namespace Go.Proofs.Ytafkpfhhmmnpeaa.Val
open Go.RowKit

set_option maxHeartbeats 400000 in
theorem rfits_no (vc vr : Value) (cols : List Bool) (xs : List Val) (w : World) (hc : BoolsIn w vc cols) (_hr : RowIn w vr xs) (h : mayT cols = false) :
    Calls Try.prog 25 #[.agg #[vc], vr] w fun e w' => e = .returned (.bool false) ∧ Below w.heap.size w w' := by
  have H : Hid (∀ w1, Below w.heap.size w w1 → Calls Try.prog 31 #[.agg #[vc]] w1 fun e w' => e = .returned (.bool false) ∧ Below w1.heap.size w1 w') := fun w1 hb => by
    have := rmay_any vc cols w1 (hc.below hb); rw [h] at this; exact this
  clear h hc
  go_enter Try.func25, Try.ntmps25
  go_wp2_with fail
  refine Calls.mono (H.out _ ((Below.refl _ _).alloc (Nat.le_refl _) _)) ?_
  rintro e w1 ⟨rfl, hb1⟩
  go_wp2
  go_ret
  exact ⟨rfl, back1 hb1⟩
set_option maxHeartbeats 400000 in
theorem rfits_len (vc vr : Value) (cols : List Bool) (xs : List Val) (w : World) (hc : BoolsIn w vc cols) (hr : RowIn w vr xs) (h : mayT cols = true) (hl : ¬ xs.length = cols.length) :
    Calls Try.prog 25 #[.agg #[vc], vr] w fun e w' => e = .returned (.bool false) ∧ Below w.heap.size w w' := by
  have H : Hid (∀ w1, Below w.heap.size w w1 → Calls Try.prog 31 #[.agg #[vc]] w1 fun e w' => e = .returned (.bool true) ∧ Below w1.heap.size w1 w') := fun w1 hb => by
    have := rmay_any vc cols w1 (hc.below hb); rw [h] at this; exact this
  obtain ⟨ac, cc, rfl, lc⟩ := hc.slice
  obtain ⟨ar, cr, rfl, lr⟩ := hr.slice
  have hd : ((xs.length : Int) != (cols.length : Int)) = true := by simp; omega
  clear h hc hr hl
  go_enter Try.func25, Try.ntmps25
  go_wp2_with fail
  refine Calls.mono (H.out _ ((Below.refl _ _).alloc (Nat.le_refl _) _)) ?_
  rintro e w1 ⟨rfl, hb1⟩
  have c0 := in1 hb1
  go_wp2
  go_ret
  exact ⟨rfl, back1 hb1⟩
theorem not_t {b : Bool} (h : (!b) = true) : b = false := by cases b <;> simp_all
theorem not_f {b : Bool} (h : (!b) = false) : b = true := by cases b <;> simp_all
theorem suitV_no {c : Bool} {x : Val} (h : rightV x.t x.n x.s = false) : suitV c x = false := by unfold suitV; rw [h]; rfl
theorem suitV_yes {c : Bool} {x : Val} (h : rightV x.t x.n x.s = true) : suitV c x = (x.t == c) := by unfold suitV; rw [h]; rfl
set_option maxHeartbeats 1000000 in
theorem rfits_yes (vc vr : Value) (cols : List Bool) (xs : List Val) (w : World) (hc : BoolsIn w vc cols) (hr : RowIn w vr xs) (ho : RowOk xs) (h : mayT cols = true) (hl : xs.length = cols.length) :
    Calls Try.prog 25 #[.agg #[vc], vr] w fun e w' => e = .returned (.bool (fitsL cols xs)) ∧ Below w.heap.size w w' := by
  have H : Hid (∀ w1, Below w.heap.size w w1 → Calls Try.prog 31 #[.agg #[vc]] w1 fun e w' => e = .returned (.bool true) ∧ Below w1.heap.size w1 w') := fun w1 hb => by
    have := rmay_any vc cols w1 (hc.below hb); rw [h] at this; exact this
  have HS : Hid (∀ w1 (k : Nat) (h2 : k < xs.length), Calls Try.prog 49 #[V xs[k].t xs[k].n xs[k].s] w1 fun e w' => e = .returned (.bool (rightV xs[k].t xs[k].n xs[k].s)) ∧ Below w1.heap.size w1 w') :=
    fun w1 k h2 => rright_any _ _ _ w1 (ho _ (List.getElem_mem _)).2
  obtain ⟨ac, cc, rfl, lc⟩ := hc.slice
  obtain ⟨ar, cr, rfl, lr⟩ := hr.slice
  have HR : Hid (RowIn w (.slice ar xs.length cr) xs) := hr
  have HC : Hid (BoolsIn w (.slice ac cols.length cc) cols) := hc
  have hd : ((xs.length : Int) != (cols.length : Int)) = false := by simp; omega
  clear h hc hr ho
  have HL : Hid (xs.length = cols.length) := hl
  clear hl
  go_enter Try.func25, Try.ntmps25
  go_wp2_with fail
  refine Calls.mono (H.out _ ((Below.refl _ _).alloc (Nat.le_refl _) _)) ?_
  rintro e w1 ⟨rfl, hb1⟩
  have c0 := in1 hb1
  have HB : Hid (Below (w.heap.size + 1) (w.alloc (.cells #[.slice ac cols.length cc] 60)) w1) := hb1.mono (by simp)
  clear hb1 H
  go_wp2_with fail
  go_loopw [6] (fun i wr => ∃ k : Nat, k ≤ xs.length ∧ i = .int .i64 k ∧ Hid (FitsTo cols xs k) ∧ Hid (Below (w.heap.size + 1) (w.alloc (.cells #[.slice ac cols.length cc] 60)) wr)) (fun i _ => xs.length - (intOf i).toNat)
  case atStart => exact ⟨0, Nat.zero_le _, rfl, FitsTo.zero _ _, HB⟩
  case round =>
    obtain ⟨k, hk, rfl, HT, HW⟩ := hrel
    clear HB c0
    have hBr : Below w.heap.size w wr := back1 (HW.out.mono (by simp))
    have c0 : wr.cell? ⟨w.heap.size, 0, none⟩ = some (.slice ac cols.length cc) := in1 (HW.out.mono (by simp))
    have hz : w.heap.size < wr.heap.size := World.block_lt_of_cell? wr _ c0
    by_cases hlt : k < xs.length
    · have hlt2 : k < cols.length := by rw [← HL.out]; exact hlt
      obtain ⟨b, o, rfl, d0, d1, d2⟩ := (HR.out.below hBr).at k hlt
      have HBr : Hid (Below w.heap.size w wr) := hBr
      clear hBr
      have k1 : (k : Int) < (xs.length : Int) := by omega
      have k2 : (k : Int) < (cols.length : Int) := by omega
      go_wp2_with fail
      refine Calls.mono (HS.out _ k hlt) ?_
      rintro e w2 ⟨rfl, hb2⟩
      have HB2 : Hid (Below (w.heap.size + 1) (w.alloc (.cells #[.slice ac cols.length cc] 60)) w2) := HW.out.trans (hb2.mono (by omega))
      have c2 : w2.cell? ⟨w.heap.size, 0, none⟩ = some (.slice ac cols.length cc) := in1 (HB2.out.mono (by simp))
      obtain ⟨b', o', e', g0, g1, g2⟩ := (HR.out.below (back1 (HB2.out.mono (by simp)))).at k hlt
      cases e'
      obtain ⟨bc, oc, rfl, cc0⟩ := (HC.out.below (back1 (HB2.out.mono (by simp)))).at k hlt2
      clear hb2 d0 d1 d2 c0
      cases hr : rightV xs[k].t xs[k].n xs[k].s
      · have HN : Hid (fitsL cols xs = false) := fitsL_no hlt2 hlt (suitV_no hr)
        clear hr
        go_wp2_with fail
        go_quiet (fail)
        go_wp2_with fail
        go_ret
        exact ⟨ret_bool' HN.out.symm, below_drewN (back1 (HB2.out.mono (by simp))) _⟩
      · have HV : Hid (suitV cols[k] xs[k] = (xs[k].t == cols[k])) := suitV_yes hr
        clear hr
        go_wp2_with fail
        go_quiet (fail)
        go_wp2_with fail
        · have HN : Hid (fitsL cols xs = false) := fitsL_no hlt2 hlt (by rw [HV.out]; exact not_t ‹(!_) = true›)
          go_ret
          exact ⟨ret_bool' HN.out.symm, below_drewN (back1 (HB2.out.mono (by simp))) _⟩
        · have HN : Hid (FitsTo cols xs (k + 1)) := HT.out.next hlt2 hlt (by rw [HV.out]; exact not_f ‹(!_) = false›)
          go_roundw
          case rel => exact ⟨k + 1, by omega, by go_num, HN, below_drewN HB2.out _⟩
          case measure => simp [intOf]; omega
    · have HN : Hid (fitsL cols xs = true) := HT.out.all (by omega)
      go_wp2_with fail
      go_ret
      exact ⟨ret_bool' HN.out.symm, hBr⟩
theorem rfits_any (vc vr : Value) (cols : List Bool) (xs : List Val) (w : World) (hc : BoolsIn w vc cols) (hr : RowIn w vr xs) (ho : RowOk xs) :
    Calls Try.prog 25 #[.agg #[vc], vr] w fun e w' => e = .returned (.bool (fitsRow cols xs)) ∧ Below w.heap.size w w' := by
  cases h : mayT cols
  · rw [fitsRow_may h]; exact rfits_no vc vr cols xs w hc hr h
  · by_cases hl : xs.length = cols.length
    · rw [fitsRow_of h hl]; exact rfits_yes vc vr cols xs w hc hr ho h hl
    · rw [fitsRow_len hl]; exact rfits_len vc vr cols xs w hc hr h hl
end Go.Proofs.Ytafkpfhhmmnpeaa.Val
/- What slices.Equal of rows, row.Same and the reference's Same answer, for any two rows. -/
namespace Go.Proofs.Ytafkpfhhmmnpeaa.Val
open Go.RowKit

/-- Are two rows the same? -/
def eqRow : List Val → List Val → Bool
  | [], [] => true
  | x :: l, y :: m => eqV x y && eqRow l m
  | _, _ => false
theorem eqRow_iff {xs ys : List Val} : eqRow xs ys = true ↔ xs = ys := by
  induction xs generalizing ys with
  | nil => cases ys <;> simp [eqRow]
  | cons x l ih => cases ys <;> simp [eqRow, eqV_iff, ih]
theorem eqRow_self (xs : List Val) : eqRow xs xs = true := eqRow_iff.2 rfl
theorem eqRow_no {xs ys : List Val} (h : xs ≠ ys) : eqRow xs ys = false := by
  cases e : eqRow xs ys
  · rfl
  · exact absurd (eqRow_iff.1 e) h
theorem eqRow_part {xs ys : List Val} {k : Nat} (h1 : k < xs.length) (h2 : k < ys.length) (h : (!eqV xs[k] ys[k]) = true) : eqRow xs ys = false := by
  refine eqRow_no fun e => ?_
  subst e
  rw [eqV_iff.2 rfl] at h
  cases h
theorem take_next {xs ys : List Val} {k : Nat} (h1 : k < xs.length) (h2 : k < ys.length) (h : (!eqV xs[k] ys[k]) = false) (ht : xs.take k = ys.take k) : xs.take (k + 1) = ys.take (k + 1) := by
  have e : xs[k] = ys[k] := eqV_iff.1 (by simpa using h)
  rw [List.take_succ_eq_append_getElem h1, List.take_succ_eq_append_getElem h2, ht, e]
theorem eqRow_take {xs ys : List Val} {k : Nat} (h1 : xs.length ≤ k) (hl : xs.length = ys.length) (ht : xs.take k = ys.take k) : eqRow xs ys = true := by
  rw [List.take_of_length_le h1, List.take_of_length_le (by omega)] at ht
  exact eqRow_iff.2 ht
theorem ret_bool {a b : Bool} (h : a = b) : Ending.returned (.bool a) = Ending.returned (.bool b) := by subst h; rfl
theorem drewN_refl (w : World) (q r : Nat) : Below w.heap.size w ((w.drewN q).drewN r) := below_drewN (below_drewN (Below.refl _ _) _) _
set_option maxHeartbeats 400000 in
theorem rsame_no (va vb : Value) (xs ys : List Val) (w : World) (ha : RowIn w va xs) (hb : RowIn w vb ys) (hl : ¬ xs.length = ys.length) :
    Calls Try.prog 15 #[va, vb] w fun e w' => e = .returned (.bool false) ∧ Below w.heap.size w w' := by
  obtain ⟨aa, ca, rfl, la⟩ := ha.slice
  obtain ⟨ab, cb, rfl, lb⟩ := hb.slice
  have h : ((xs.length : Int) != (ys.length : Int)) = true := by simp; omega
  clear ha hb hl
  go_enter Try.func15, Try.ntmps15
  go_wp2
  go_ret
  exact ⟨rfl, Below.refl _ _⟩
set_option maxHeartbeats 400000 in
theorem rsame_yes (va vb : Value) (xs ys : List Val) (w : World) (ha : RowIn w va xs) (hb : RowIn w vb ys) (hl : xs.length = ys.length) :
    Calls Try.prog 15 #[va, vb] w fun e w' => e = .returned (.bool (eqRow xs ys)) ∧ Below w.heap.size w w' := by
  obtain ⟨aa, ca, rfl, la⟩ := ha.slice
  obtain ⟨ab, cb, rfl, lb⟩ := hb.slice
  have HA : Hid (RowIn w (.slice aa xs.length ca) xs) := ha
  have HB : Hid (RowIn w (.slice ab ys.length cb) ys) := hb
  have HL : Hid (xs.length = ys.length) := hl
  clear ha hb
  go_enter Try.func15, Try.ntmps15
  go_wp2
  go_loopw [5] (fun i wr => ∃ k : Nat, k ≤ xs.length ∧ i = .int .i64 k ∧ Hid (xs.take k = ys.take k) ∧ Hid (∃ q, wr = w.drewN q)) (fun i _ => xs.length - (intOf i).toNat)
  case atStart => exact ⟨0, Nat.zero_le _, rfl, rfl, 0, rfl⟩
  case round =>
    obtain ⟨k, hk, rfl, HT, HW⟩ := hrel
    obtain ⟨q, hq⟩ := HW.out
    subst hq
    clear HW
    by_cases hlt : k < xs.length
    · have hlt2 : k < ys.length := by rw [← HL.out]; exact hlt
      obtain ⟨ba, oa, rfl, c0, c1, c2⟩ := HA.out.at k hlt
      obtain ⟨bb, ob, rfl, d0, d1, d2⟩ := HB.out.at k hlt2
      have hne := neq_V xs[k] ys[k]
      go_wp2
      go_quiet (fail)
      go_wp2
      · go_ret
        exact ⟨ret_bool (eqRow_part hlt hlt2 ‹_›).symm, drewN_refl _ _ _⟩
      · have HN : Hid (xs.take (k + 1) = ys.take (k + 1)) := take_next hlt hlt2 ‹_› HT.out
        go_roundw
        case rel => exact ⟨k + 1, by omega, by go_num, HN, _, rfl⟩
        case measure => simp [intOf]; omega
    · have HE : Hid (eqRow xs ys = true) := eqRow_take (by omega) HL.out HT.out
      clear HT
      go_wp2
      go_ret
      exact ⟨ret_bool HE.out.symm, below_drewN (Below.refl _ _) _⟩
theorem rsame_any (va vb : Value) (xs ys : List Val) (w : World) (ha : RowIn w va xs) (hb : RowIn w vb ys) :
    Calls Try.prog 15 #[va, vb] w fun e w' => e = .returned (.bool (eqRow xs ys)) ∧ Below w.heap.size w w' := by
  by_cases hl : xs.length = ys.length
  · exact rsame_yes va vb xs ys w ha hb hl
  · rw [eqRow_no (fun e => hl (congrArg List.length e))]; exact rsame_no va vb xs ys w ha hb hl
end Go.Proofs.Ytafkpfhhmmnpeaa.Val
