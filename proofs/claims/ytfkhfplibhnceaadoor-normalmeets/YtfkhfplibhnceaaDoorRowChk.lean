/- What row.Check and the reference's May answer. -/
import Derived.Test.YtfkhfplibhnceaaDoorRowPlain
import Derived.Test.YtfkhfplibhnceaaDoorBare
namespace Go.Proofs.YtfkhfplibhnceaaDoor.Val
open Go.RowKit

/-- May a table be? -/
def mayT (cols : List Bool) : Bool := decide (1 ≤ cols.length) && decide (cols.length ≤ 4)
theorem mayT_few {cols : List Bool} (h : cols.length < 1) : mayT cols = false := by unfold mayT; rw [decide_eq_false (by omega)]; rfl
theorem mayT_many {cols : List Bool} (h : ¬ cols.length ≤ 4) : mayT cols = false := by unfold mayT; rw [decide_eq_false h, Bool.and_false]
theorem mayT_yes {cols : List Bool} (h1 : 1 ≤ cols.length) (h : cols.length ≤ 4) : mayT cols = true := by unfold mayT; rw [decide_eq_true h, decide_eq_true h1]; rfl
theorem mayT_iff {cols : List Bool} : mayT cols = true ↔ 1 ≤ cols.length ∧ cols.length ≤ 4 := by simp only [mayT, Bool.and_eq_true, decide_eq_true_eq]
def isCol (cols : List Bool) (i : Int) : Bool := decide (0 ≤ i) && decide (i < cols.length)
def colAt (cols : List Bool) (i : Int) : Bool := cols.getD i.toNat false
def isNum (cols : List Bool) (i : Int) : Bool := isCol cols i && !colAt cols i
theorem colAt_of {cols : List Bool} {i : Int} (h : i.toNat < cols.length) : colAt cols i = cols[i.toNat] := by simp [colAt, h]
theorem ret_int' {k : IntKind} {a b : Int} (h : a = b) : Ending.returned (.int k a) = Ending.returned (.int k b) := by subst h; rfl
theorem ret_bool' {a b : Bool} (h : a = b) : Ending.returned (.bool a) = Ending.returned (.bool b) := by subst h; rfl
/-- An error's number. -/
def errIf (b : Bool) (n : Int) : Int := if b then n else 0

set_option maxHeartbeats 400000 in
theorem check_any (vc : Value) (cols : List Bool) (w : World) (h : BoolsIn w vc cols) :
    Calls Tryd.prog 47 #[.agg #[vc]] w fun e w' => e = .returned (.int .i64 (errIf (!mayT cols) 1)) ∧ Below w.heap.size w w' := by
  obtain ⟨ac, cc, rfl, lc⟩ := h.slice
  clear h
  by_cases h1 : cols.length < 1
  · go_enter Tryd.func47, Tryd.ntmps47
    go_wp2
    go_ret
    exact ⟨ret_int' (by rw [mayT_few h1]; rfl), (Below.refl _ _).alloc (Nat.le_refl _) _⟩
  · by_cases h2 : cols.length ≤ 4
    · go_enter Tryd.func47, Tryd.ntmps47
      go_wp2
      go_ret
      exact ⟨ret_int' (by rw [mayT_yes (by omega) h2]; rfl), (Below.refl _ _).alloc (Nat.le_refl _) _⟩
    · go_enter Tryd.func47, Tryd.ntmps47
      go_wp2
      go_ret
      exact ⟨ret_int' (by rw [mayT_many h2]; rfl), (Below.refl _ _).alloc (Nat.le_refl _) _⟩
set_option maxHeartbeats 400000 in
theorem rmay_any (vc : Value) (cols : List Bool) (w : World) (h : BoolsIn w vc cols) :
    Calls Tryd.prog 43 #[.agg #[vc]] w fun e w' => e = .returned (.bool (mayT cols)) ∧ Below w.heap.size w w' := by
  obtain ⟨ac, cc, rfl, lc⟩ := h.slice
  have HS : Hid (mayT cols = (decide (1 ≤ cols.length) && decide (cols.length ≤ 4))) := rfl
  clear h
  by_cases h1 : 1 ≤ cols.length
  · go_enter Tryd.func43, Tryd.ntmps43
    go_wp2
    go_ret
    exact ⟨ret_bool' (by rw [HS.out]; simp [h1]; omega), (Below.refl _ _).alloc (Nat.le_refl _) _⟩
  · go_enter Tryd.func43, Tryd.ntmps43
    go_wp2
    go_ret
    exact ⟨ret_bool' (by rw [HS.out]; simp [h1]), (Below.refl _ _).alloc (Nat.le_refl _) _⟩
end Go.Proofs.YtfkhfplibhnceaaDoor.Val
