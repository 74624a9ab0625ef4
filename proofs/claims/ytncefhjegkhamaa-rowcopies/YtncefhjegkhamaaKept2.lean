/- Plain facts on worlds: two boxed values behind calls that keep what lies below. No program. -/
import Derived.Test.YtncefhjegkhamaaKept
namespace Go.Proofs.Ytncefhjegkhamaa.Val
open Go.RowKit

theorem kept2c {w w1 : World} {x0 x1 x2 y0 y1 y2 : Value} {T : TypeId} (h1 : Below ((w.alloc (.cells #[x0, x1, x2] T)).alloc (.cells #[y0, y1, y2] T)).heap.size ((w.alloc (.cells #[x0, x1, x2] T)).alloc (.cells #[y0, y1, y2] T)) w1) :
    (w1.cell? ⟨w.heap.size, 0, none⟩ = some x0 ∧ w1.cell? ⟨w.heap.size, 1, none⟩ = some x1 ∧ w1.cell? ⟨w.heap.size, 2, none⟩ = some x2 ∧
    w1.cell? ⟨w.heap.size + 1, 0, none⟩ = some y0 ∧ w1.cell? ⟨w.heap.size + 1, 1, none⟩ = some y1 ∧ w1.cell? ⟨w.heap.size + 1, 2, none⟩ = some y2) ∧ w.heap.size + 1 < w1.heap.size ∧ Below w.heap.size w w1 := by
  have k := h1.size
  simp at k
  refine ⟨?_, by omega, ((((Below.refl _ _).alloc (Nat.le_refl _) _).alloc (by simp) _)).trans (h1.mono (by simp; omega))⟩
  refine ⟨?_, ?_, ?_, ?_, ?_, ?_⟩ <;> rw [h1.cell (by simp; try omega)] <;> simp
theorem undrew {w w2 : World} (h : Below w.drew.heap.size w.drew w2) : Below w.heap.size w w2 := ⟨h.os, h.tape, h.output, h.size, h.block⟩
theorem next2 {B : Nat} {w w1 w2 : World} (hB : B + 1 < w1.heap.size) (hb : Below w.heap.size w w1) (hw : w.heap.size ≤ B) (h : Below w1.heap.size w1 w2) : B + 1 < w2.heap.size ∧ Below w.heap.size w w2 :=
  ⟨Nat.lt_of_lt_of_le hB h.size, hb.trans (h.mono (by omega))⟩
end Go.Proofs.Ytncefhjegkhamaa.Val
