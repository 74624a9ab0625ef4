/- Plain: literals of a law: leaves, and a slice literal's cells. -/
import Derived.Test.YtfkhfplibhnceaaDoorPredBox
namespace Go.Proofs.YtfkhfplibhnceaaDoor.Val
open Go Go.RowKit

theorem in_leaf (w : World) (o c : Int) (v u : Val) (h1 : v.s.size ≤ maxLen) (h2 : u.s.size ≤ maxLen) : In w (.mk o c v u (.slice none 0 0) []) :=
  .mk h1 h2 ⟨none, 0, rfl, Nat.le_refl _, Nat.zero_le _, fun _ => ⟨rfl, rfl⟩, .inl rfl⟩ (by simp)
theorem lies_new (w : World) (N : Nat) (hN : w.heap.size = N) (cs : List Value) (n : Nat) (T : TypeId) (hn : n ≤ maxLen) : Lies (w.alloc (.cells cs.toArray T)) (.slice (some ⟨N, 0, none⟩) n n) n cs := by
  subst hN
  refine ⟨_, n, rfl, Nat.le_refl _, hn, fun h => (by cases h), .inr ⟨w.heap.size, 0, rfl, fun j u hj => ?_⟩⟩
  rw [Nat.zero_add, cell_of_row (w.alloc _) w.heap.size j cs.toArray T (0, 0) (heap_alloc_new w _)]
  simpa using hj
end Go.Proofs.YtfkhfplibhnceaaDoor.Val
