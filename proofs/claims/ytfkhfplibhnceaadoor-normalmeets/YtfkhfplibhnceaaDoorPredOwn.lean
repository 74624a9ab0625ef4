/- Words on predicates in memory of the call's own: the type's facts, cells of a new one. -/
import Derived.Test.YtfkhfplibhnceaaDoorPredNew
import Derived.Test.YtfkhfplibhnceaaDoorBare
import Derived.OwnWalk
namespace Go.Proofs.YtfkhfplibhnceaaDoor.Val
open Go.RowKit

abbrev TP : TypeId := 29
theorem info_P : (Tryd.prog.info? 29).map (fun i => (i.zero, i.size, i.bytes)) = some (some (PV 0 0 false 0 ⟨#[]⟩ false 0 ⟨#[]⟩ (.slice none 0 0)), 9, 104) := by kernel_rfl
theorem sizeL_mem {l : List PT} {q : PT} (h : q ∈ l) : q.size ≤ sizeL l := by
  induction l with
  | nil => simp at h
  | cons x l ih =>
    rw [sizeL_cons]
    rcases List.mem_cons.1 h with rfl | h
    · omega
    · have := ih h; omega
theorem length_sizeL (l : List PT) : l.length ≤ sizeL l := by
  induction l with
  | nil => simp
  | cons x l ih => rw [sizeL_cons, List.length_cons]; have := size_pos x; omega
theorem one_cells (q : PT) (ao : Option Addr) (n c : Nat) (h : q.lv = .slice ao n c) : ∀ u ∈ q.cells, u.oneCell' = true := by
  intro u hu
  simp only [PT.cells, h, List.mem_cons, List.not_mem_nil, or_false] at hu
  rcases hu with rfl | rfl | rfl | rfl | rfl | rfl | rfl | rfl | rfl <;> rfl
theorem new_cells (w : World) (q : PT) (T : TypeId) : ∀ j u, q.cells[j]? = some u → (w.alloc (pobj q T)).cell? ((⟨w.heap.size, 0, none⟩ : Addr).add j) = some u := by
  intro j u hj
  rw [Addr.add_lit, Nat.zero_add, cell_of_row (w.alloc _) w.heap.size j _ T (0, 0) (heap_alloc_new w _)]
  simpa [PT.cells] using hj
theorem bare_of {p : PT} {lv : Value} {m : List PT} (h : m.map PT.bare = p.l.map PT.bare) : (PT.mk p.op p.col p.v p.w lv m).bare = p.bare := by
  cases p with | mk o c v u lv' l => rw [bare_mk, bare_mk]; exact congrArg _ h
end Go.Proofs.YtfkhfplibhnceaaDoor.Val
