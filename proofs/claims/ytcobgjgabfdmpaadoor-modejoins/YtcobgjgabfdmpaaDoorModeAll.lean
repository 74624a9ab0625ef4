/- What holds of all modes, by asking all. -/
import Derived.Test.YtcobgjgabfdmpaaDoorModePlain
namespace Go.Proofs.YtcobgjgabfdmpaaDoor.Val
open Go Go.RowKit

def le7all (p : Nat → Nat → Nat → Bool) : Bool := (List.range 7).all fun k => (List.range 7).all fun j => (List.range 7).all fun i => p k j i
theorem of_le7all {p : Nat → Nat → Nat → Bool} (h : le7all p = true) {k j i : Nat} (hk : k < 7) (hj : j < 7) (hi : i < 7) : p k j i = true := by
  simp only [le7all, List.all_eq_true, List.mem_range] at h
  exact h k hk j hj i hi
theorem all_right {p : Int → Int → Int → Bool} (h : le7all (fun k j i => p k j i) = true) {a b c : Int} (ha : rightM a = true) (hb : rightM b = true) (hc : rightM c = true) : p a b c = true := by
  obtain ⟨k, hk, rfl⟩ := mode_of ha
  obtain ⟨j, hj, rfl⟩ := mode_of hb
  obtain ⟨i, hi, rfl⟩ := mode_of hc
  exact of_le7all h hk hj hi
theorem join_wrong {a b : Int} (h : (rightM a && rightM b) = false) : joinM a b = 0 := by rw [joinM, h]; rfl
theorem joins_fits {a b c : Int} (ha : rightM a = true) (hb : rightM b = true) (hc : rightM c = true) : fitsM (joinM a b) c = (fitsM a c && fitsM b c) :=
  eq_of_beq (all_right (p := fun a b c => fitsM (joinM a b) c == (fitsM a c && fitsM b c)) (by decide +kernel) ha hb hc)
theorem joins_left {a b c : Int} (ha : rightM a = true) (hb : rightM b = true) (hc : rightM c = true) : coversM (joinM a b) a = true :=
  all_right (p := fun a b _ => coversM (joinM a b) a) (by decide +kernel) ha hb hc
theorem joins_right {a b c : Int} (ha : rightM a = true) (hb : rightM b = true) (hc : rightM c = true) : coversM (joinM a b) b = true :=
  all_right (p := fun a b _ => coversM (joinM a b) b) (by decide +kernel) ha hb hc
theorem joins_least {a b c : Int} (ha : rightM a = true) (hb : rightM b = true) (hc : rightM c = true) : (!(coversM c a && coversM c b) || coversM c (joinM a b)) = true :=
  all_right (p := fun a b c => !(coversM c a && coversM c b) || coversM c (joinM a b)) (by decide +kernel) ha hb hc
theorem covers_thru {a b c : Int} (ha : rightM a = true) (hb : rightM b = true) (hc : rightM c = true) : (!(coversM a b && coversM b c) || coversM a c) = true :=
  all_right (p := fun a b c => !(coversM a b && coversM b c) || coversM a c) (by decide +kernel) ha hb hc
theorem covers_same {a b c : Int} (ha : rightM a = true) (hb : rightM b = true) (hc : rightM c = true) : (coversM a b && coversM b a) = (a == b) :=
  eq_of_beq (all_right (p := fun a b _ => (coversM a b && coversM b a) == (a == b)) (by decide +kernel) ha hb hc)
theorem joins_assoc {a b c : Int} (ha : rightM a = true) (hb : rightM b = true) (hc : rightM c = true) : joinM a (joinM b c) = joinM (joinM a b) c :=
  eq_of_beq (all_right (p := fun a b c => joinM a (joinM b c) == joinM (joinM a b) c) (by decide +kernel) ha hb hc)
theorem joins_comm {a b c : Int} (ha : rightM a = true) (hb : rightM b = true) (hc : rightM c = true) : joinM b a = joinM a b :=
  eq_of_beq (all_right (p := fun a b _ => joinM b a == joinM a b) (by decide +kernel) ha hb hc)
theorem joins_ends {a : Int} (ha : rightM a = true) : joinM a a = a ∧ coversM a 0 = true ∧ coversM 6 a = true := by
  have := all_right (p := fun a _ _ => (joinM a a == a) && (coversM a 0 && coversM 6 a)) (by decide +kernel) ha ha ha
  simpa using this
theorem grows {a b c : Int} (ha : rightM a = true) (hc : rightM c = true) : (!fitsM (joinM a c) b || fitsM a b) = true := by
  by_cases hb : rightM b = true
  · exact all_right (p := fun a b c => !fitsM (joinM a c) b || fitsM a b) (by decide +kernel) ha hb hc
  · simp [fitsM, hb]
end Go.Proofs.YtcobgjgabfdmpaaDoor.Val
