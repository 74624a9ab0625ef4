/- Plain facts: two texts held against one another byte by byte. No program. -/
import Derived.Test.YtnfageikacfdoaaOrderPlain
namespace Go.Proofs.Ytnfageikacfdoaa.Val
open Go

theorem less_append : ∀ (p a b : List UInt8), Op.bytesLess (p ++ a) (p ++ b) = Op.bytesLess a b
  | [], _, _ => rfl
  | c :: p, a, b => by simp [Op.bytesLess, less_append p a b, UInt8.lt_irrefl]
theorem cmpS_of_less {a b : List UInt8} (h : Op.bytesLess a b = true) : cmpS a b = -1 := by
  rcases cmpS_cases a b with ⟨_, rfl⟩ | ⟨h1, _⟩ | ⟨_, k⟩
  · rw [less_irrefl] at h; cases h
  · exact h1
  · exact (less_not h k).elim
theorem cmpS_of_more {a b : List UInt8} (h : Op.bytesLess b a = true) : cmpS a b = 1 := by
  rw [cmpS_turn, cmpS_of_less h]; rfl
theorem split_at {a : List UInt8} {k : Nat} {x : UInt8} (h : a[k]? = some x) : a = a.take k ++ x :: a.drop (k + 1) := by
  obtain ⟨hk, hx⟩ := List.getElem?_eq_some_iff.1 h
  rw [← hx, List.getElem_cons_drop, List.take_append_drop]
theorem cmpS_lt_at {a b : List UInt8} {k : Nat} {x y : UInt8} (ht : a.take k = b.take k) (hx : a[k]? = some x) (hy : b[k]? = some y) (h : x < y) : cmpS a b = -1 := by
  apply cmpS_of_less
  rw [split_at hx, split_at hy, ht, less_append]
  simp [Op.bytesLess, h]
theorem cmpS_gt_at {a b : List UInt8} {k : Nat} {x y : UInt8} (ht : a.take k = b.take k) (hx : a[k]? = some x) (hy : b[k]? = some y) (h : y < x) : cmpS a b = 1 := by
  rw [cmpS_turn, cmpS_lt_at ht.symm hy hx h]; rfl
theorem take_next {a b : List UInt8} {k : Nat} {x : UInt8} (ht : a.take k = b.take k) (hx : a[k]? = some x) (hy : b[k]? = some x) : a.take (k + 1) = b.take (k + 1) := by
  rw [List.take_add_one, List.take_add_one, ht, hx, hy]
theorem cmpS_short {a b : List UInt8} {k : Nat} (ht : a.take k = b.take k) (ha : a.length = k) (hb : k < b.length) : cmpS a b = -1 := by
  apply cmpS_of_less
  have e : a = b.take k := by rw [← ht, ← ha, List.take_length]
  obtain ⟨y, hy⟩ : ∃ y, b[k]? = some y := ⟨_, List.getElem?_eq_getElem hb⟩
  rw [e]
  conv => lhs; arg 2; rw [split_at hy]
  have := less_append (b.take k) [] (y :: b.drop (k + 1))
  simpa [Op.bytesLess] using this
theorem cmpS_long {a b : List UInt8} {k : Nat} (ht : a.take k = b.take k) (hb : b.length = k) (ha : k < a.length) : cmpS a b = 1 := by
  rw [cmpS_turn, cmpS_short ht.symm hb ha]; rfl
theorem cmpS_same {a b : List UInt8} {k : Nat} (ht : a.take k = b.take k) (ha : a.length = k) (hb : b.length = k) : cmpS a b = 0 := by
  have : a = b := by rw [← List.take_length (l := a), ha, ht, ← hb, List.take_length]
  rw [this]; exact cmpS_self b
end Go.Proofs.Ytnfageikacfdoaa.Val
