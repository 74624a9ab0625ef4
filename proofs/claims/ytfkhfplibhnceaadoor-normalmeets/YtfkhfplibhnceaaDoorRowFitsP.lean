/- Plain: when a row fits a table. -/
import Derived.Test.YtfkhfplibhnceaaDoorRowOk
import Derived.Test.YtfkhfplibhnceaaDoorBack
import Derived.Test.YtfkhfplibhnceaaDoorRowChk
import Derived.Test.YtfkhfplibhnceaaDoorRefRight
namespace Go.Proofs.YtfkhfplibhnceaaDoor.Val
open Go.RowKit

/-- May a value stand in a column? -/
def suitV (c : Bool) (x : Val) : Bool := rightV x.t x.n x.s && x.t == c
def fitsL (cols : List Bool) (xs : List Val) : Bool := (cols.zip xs).all fun p => suitV p.1 p.2
/-- Does a row fit a table that may be? -/
def fitsRow (cols : List Bool) (xs : List Val) : Bool := mayT cols && decide (xs.length = cols.length) && fitsL cols xs
theorem fitsL_iff {cols : List Bool} {xs : List Val} : fitsL cols xs = true ↔ ∀ k (h1 : k < cols.length) (h2 : k < xs.length), suitV cols[k] xs[k] = true := by
  unfold fitsL
  rw [List.all_eq_true]
  refine ⟨fun h k h1 h2 => ?_, fun h p hp => ?_⟩
  · exact h (cols[k], xs[k]) (List.mem_iff_getElem.2 ⟨k, by simp; omega, by simp⟩)
  · obtain ⟨k, hk, rfl⟩ := List.mem_iff_getElem.1 hp
    rw [List.length_zip] at hk
    simpa using h k (by omega) (by omega)
theorem fitsL_no {cols : List Bool} {xs : List Val} {k : Nat} (h1 : k < cols.length) (h2 : k < xs.length) (h : suitV cols[k] xs[k] = false) : fitsL cols xs = false := by
  cases e : fitsL cols xs
  · rfl
  · rw [fitsL_iff.1 e k h1 h2] at h; cases h
/-- So far all suit. -/
def FitsTo (cols : List Bool) (xs : List Val) (k : Nat) : Prop := ∀ j (h1 : j < cols.length) (h2 : j < xs.length), j < k → suitV cols[j] xs[j] = true
theorem FitsTo.zero (cols : List Bool) (xs : List Val) : FitsTo cols xs 0 := fun j _ _ h => by omega
theorem FitsTo.next {cols : List Bool} {xs : List Val} {k : Nat} (h : FitsTo cols xs k) (h1 : k < cols.length) (h2 : k < xs.length) (hs : suitV cols[k] xs[k] = true) : FitsTo cols xs (k + 1) := fun j g1 g2 hj => by
  by_cases e : j = k
  · subst e; exact hs
  · exact h j g1 g2 (by omega)
theorem FitsTo.all {cols : List Bool} {xs : List Val} {k : Nat} (h : FitsTo cols xs k) (hk : xs.length ≤ k) : fitsL cols xs = true := fitsL_iff.2 fun j h1 h2 => h j h1 h2 (by omega)
theorem fitsRow_may {cols : List Bool} {xs : List Val} (h : mayT cols = false) : fitsRow cols xs = false := by unfold fitsRow; rw [h]; rfl
theorem fitsRow_len {cols : List Bool} {xs : List Val} (h : ¬ xs.length = cols.length) : fitsRow cols xs = false := by unfold fitsRow; rw [decide_eq_false h]; simp
theorem fitsRow_of {cols : List Bool} {xs : List Val} (h : mayT cols = true) (hl : xs.length = cols.length) : fitsRow cols xs = fitsL cols xs := by unfold fitsRow; rw [h, decide_eq_true hl]; rfl
end Go.Proofs.YtfkhfplibhnceaaDoor.Val
