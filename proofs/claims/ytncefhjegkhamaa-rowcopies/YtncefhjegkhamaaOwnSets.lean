/- Rows of the call's own, of sets. No program. -/
import Derived.Test.YtncefhjegkhamaaOwnPlain
namespace Go.Proofs.Ytncefhjegkhamaa.Val
open Go Go.RowKit

def OwnSets (w : World) (base : Nat) (T : TypeId) (v : Value) (l : List SetP) : Prop := w.ownsRow base T 7 v l.length (l.flatMap SetP.cells)
theorem OwnSets.isIn {w : World} {base : Nat} {T : TypeId} {v : Value} {xs : List SetP} (h : OwnSets w base T v xs) : SetsIn w v xs := by
  rcases h.2 with ⟨rfl, h0⟩ | ⟨g, cap, cur, rfl, hb, hg, hn, hm, hs, ht⟩
  · have : xs = [] := List.eq_nil_of_length_eq_zero h0
    subst this
    exact ⟨none, 0, rfl, Nat.le_refl _, Nat.zero_le _, fun _ => ⟨rfl, rfl⟩, .inl rfl⟩
  · refine ⟨some ⟨g, 0, none⟩, cap, rfl, hn, hm, fun h => (by cases h), .inr ⟨g, 0, rfl, fun j u hj => ?_⟩⟩
    have := World.ownsRow.cells h (g := g) rfl j u hj
    rw [Addr.add_lit] at this
    exact this
theorem OwnSets.below {w w' : World} {base : Nat} {T : TypeId} {v : Value} {xs : List SetP} (h : OwnSets w base T v xs) (hb : Below w.heap.size w w') : OwnSets w' base T v xs := by
  refine ⟨h.1, ?_⟩
  rcases h.2 with hn | ⟨g, cap, cur, rfl, hb', hg, rest⟩
  · exact .inl hn
  · refine .inr ⟨g, cap, cur, rfl, hb', ?_, rest⟩
    rw [hb.block g (Array.getElem?_eq_some_iff.1 hg).1]; exact hg
theorem OwnSets.nil (w : World) (base : Nat) (T : TypeId) : OwnSets w base T (.slice none 0 0) [] := World.ownsRow_nil w base T 7
theorem sets_one (xs : List SetP) : ∀ u ∈ xs.flatMap SetP.cells, u.oneCell' = true := by
  intro u hu
  obtain ⟨x, _, hx⟩ := List.mem_flatMap.1 hu
  simp only [SetP.cells, List.mem_cons, List.not_mem_nil, or_false] at hx
  rcases hx with rfl | rfl | rfl | rfl | rfl | rfl | rfl <;> rfl
/-- The cells of a block just laid. -/
theorem new_cells (w : World) (cs : List Value) (T : TypeId) : ∀ j u, cs[j]? = some u → (w.alloc (.cells cs.toArray T)).cell? ((⟨w.heap.size, 0, none⟩ : Addr).add j) = some u := fun j u hj => by
  rw [Addr.add_lit, Nat.zero_add, cell_of_row (w.alloc _) w.heap.size j cs.toArray T (0, 0) (heap_alloc_new w _)]
  simpa using hj
end Go.Proofs.Ytncefhjegkhamaa.Val
