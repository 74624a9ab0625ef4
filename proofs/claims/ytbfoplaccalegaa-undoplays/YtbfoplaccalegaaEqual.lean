/- What slices.Equal of rows, row.Same and the reference's Same answer, for any two rows. -/
import Derived.Test.YtbfoplaccalegaaEqV
import Derived.BigRegion
import Derived.BigQuiet
import Derived.Deep.QuietTactic
import Derived.WalkSmall
namespace Go.Proofs.Ytbfoplaccalegaa.Val
open Go.RowKit

/-- Are two rows the same? -/
def eqRow : List Val → List Val → Bool
  | [], [] => true
  | x :: l, y :: m => eqV x y && eqRow l m
  | _, _ => false
theorem eqRow_iff {xs ys : List Val} : eqRow xs ys = true ↔ xs = ys := by
  induction xs generalizing ys with
  | nil => cases ys <;> simp [eqRow]
  | cons x l ih => cases ys <;> simp [eqRow, eqV_iff, ih]
theorem eqRow_self (xs : List Val) : eqRow xs xs = true := eqRow_iff.2 rfl
theorem eqRow_no {xs ys : List Val} (h : xs ≠ ys) : eqRow xs ys = false := by
  cases e : eqRow xs ys
  · rfl
  · exact absurd (eqRow_iff.1 e) h
theorem eqRow_part {xs ys : List Val} {k : Nat} (h1 : k < xs.length) (h2 : k < ys.length) (h : (!eqV xs[k] ys[k]) = true) : eqRow xs ys = false := by
  refine eqRow_no fun e => ?_
  subst e
  rw [eqV_iff.2 rfl] at h
  cases h
theorem take_next {xs ys : List Val} {k : Nat} (h1 : k < xs.length) (h2 : k < ys.length) (h : (!eqV xs[k] ys[k]) = false) (ht : xs.take k = ys.take k) : xs.take (k + 1) = ys.take (k + 1) := by
  have e : xs[k] = ys[k] := eqV_iff.1 (by simpa using h)
  rw [List.take_succ_eq_append_getElem h1, List.take_succ_eq_append_getElem h2, ht, e]
theorem eqRow_take {xs ys : List Val} {k : Nat} (h1 : xs.length ≤ k) (hl : xs.length = ys.length) (ht : xs.take k = ys.take k) : eqRow xs ys = true := by
  rw [List.take_of_length_le h1, List.take_of_length_le (by omega)] at ht
  exact eqRow_iff.2 ht
theorem ret_bool {a b : Bool} (h : a = b) : Ending.returned (.bool a) = Ending.returned (.bool b) := by subst h; rfl
theorem drewN_refl (w : World) (q r : Nat) : Below w.heap.size w ((w.drewN q).drewN r) := below_drewN (below_drewN (Below.refl _ _) _) _
set_option maxHeartbeats 400000 in
theorem rsame_no (va vb : Value) (xs ys : List Val) (w : World) (ha : RowIn w va xs) (hb : RowIn w vb ys) (hl : ¬ xs.length = ys.length) :
    Calls Try.prog 19 #[va, vb] w fun e w' => e = .returned (.bool false) ∧ Below w.heap.size w w' := by
  obtain ⟨aa, ca, rfl, la⟩ := ha.slice
  obtain ⟨ab, cb, rfl, lb⟩ := hb.slice
  have h : ((xs.length : Int) != (ys.length : Int)) = true := by simp; omega
  clear ha hb hl
  go_enter Try.func19, Try.ntmps19
  go_wp2
  go_ret
  exact ⟨rfl, Below.refl _ _⟩
set_option maxHeartbeats 400000 in
theorem rsame_yes (va vb : Value) (xs ys : List Val) (w : World) (ha : RowIn w va xs) (hb : RowIn w vb ys) (hl : xs.length = ys.length) :
    Calls Try.prog 19 #[va, vb] w fun e w' => e = .returned (.bool (eqRow xs ys)) ∧ Below w.heap.size w w' := by
  obtain ⟨aa, ca, rfl, la⟩ := ha.slice
  obtain ⟨ab, cb, rfl, lb⟩ := hb.slice
  have HA : Hid (RowIn w (.slice aa xs.length ca) xs) := ha
  have HB : Hid (RowIn w (.slice ab ys.length cb) ys) := hb
  have HL : Hid (xs.length = ys.length) := hl
  clear ha hb
  go_enter Try.func19, Try.ntmps19
  go_wp2
  go_loopw [5] (fun i wr => ∃ k : Nat, k ≤ xs.length ∧ i = .int .i64 k ∧ Hid (xs.take k = ys.take k) ∧ Hid (∃ q, wr = w.drewN q)) (fun i _ => xs.length - (intOf i).toNat)
  case atStart => exact ⟨0, Nat.zero_le _, rfl, rfl, 0, rfl⟩
  case round =>
    obtain ⟨k, hk, rfl, HT, HW⟩ := hrel
    obtain ⟨q, hq⟩ := HW.out
    subst hq
    clear HW
    by_cases hlt : k < xs.length
    · have hlt2 : k < ys.length := by rw [← HL.out]; exact hlt
      obtain ⟨ba, oa, rfl, c0, c1, c2⟩ := HA.out.at k hlt
      obtain ⟨bb, ob, rfl, d0, d1, d2⟩ := HB.out.at k hlt2
      have hne := neq_V xs[k] ys[k]
      go_wp2
      go_quiet (fail)
      go_wp2
      · go_ret
        exact ⟨ret_bool (eqRow_part hlt hlt2 ‹_›).symm, drewN_refl _ _ _⟩
      · have HN : Hid (xs.take (k + 1) = ys.take (k + 1)) := take_next hlt hlt2 ‹_› HT.out
        go_roundw
        case rel => exact ⟨k + 1, by omega, by go_num, HN, _, rfl⟩
        case measure => simp [intOf]; omega
    · have HE : Hid (eqRow xs ys = true) := eqRow_take (by omega) HL.out HT.out
      clear HT
      go_wp2
      go_ret
      exact ⟨ret_bool HE.out.symm, below_drewN (Below.refl _ _) _⟩
theorem rsame_any (va vb : Value) (xs ys : List Val) (w : World) (ha : RowIn w va xs) (hb : RowIn w vb ys) :
    Calls Try.prog 19 #[va, vb] w fun e w' => e = .returned (.bool (eqRow xs ys)) ∧ Below w.heap.size w w' := by
  by_cases hl : xs.length = ys.length
  · exact rsame_yes va vb xs ys w ha hb hl
  · rw [eqRow_no (fun e => hl (congrArg List.length e))]; exact rsame_no va vb xs ys w ha hb hl
end Go.Proofs.Ytbfoplaccalegaa.Val
