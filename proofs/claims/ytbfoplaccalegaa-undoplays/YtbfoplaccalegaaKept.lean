/- Plain facts on worlds: what two boxed arguments hold behind calls that keep what lies below. No program. -/
import Derived.WalkKit
import Derived.WalkSpells
import Derived.WalkLawsBesides
import Derived.Below
namespace Go.Proofs.Ytbfoplaccalegaa.Val
open Go.RowKit

theorem bcell {W w1 : World} (hb : Below W.heap.size W w1) : (∀ b o, b < W.heap.size → w1.cell? ⟨b, o, none⟩ = W.cell? ⟨b, o, none⟩) ∧ (∀ b o, b < W.heap.size → w1.frozen? ⟨b, o, none⟩ = W.frozen? ⟨b, o, none⟩) :=
  ⟨fun b o h => hb.cell (p := ⟨b, o, none⟩) h, fun b o h => hb.frozen (p := ⟨b, o, none⟩) h⟩

theorem bchain {w0 w1 w2 : World} {o1 o2 : Obj} (h1 : Below ((w0.alloc o1).alloc o2).drew.heap.size ((w0.alloc o1).alloc o2).drew w1) (h2 : Below w1.heap.size w1 w2) : Below w0.heap.size w0 w2 := by
  have k := h1.size
  simp at k
  exact (((((Below.refl _ _).alloc (Nat.le_refl _) _).alloc (by simp) _).drew).trans (h1.mono (by simp; omega))).trans (h2.mono (by omega))

theorem kept2 {w0 w1 w2 : World} {x0 x1 x2 y0 y1 y2 : Value} {T : TypeId} (h1 : Below ((w0.alloc (.cells #[x0, x1, x2] T)).alloc (.cells #[y0, y1, y2] T)).drew.heap.size ((w0.alloc (.cells #[x0, x1, x2] T)).alloc (.cells #[y0, y1, y2] T)).drew w1) (h2 : Below w1.heap.size w1 w2) :
    (w2.cell? ⟨w0.heap.size, 0, none⟩ = some x0 ∧ w2.cell? ⟨w0.heap.size, 1, none⟩ = some x1 ∧ w2.cell? ⟨w0.heap.size, 2, none⟩ = some x2) ∧
    (w2.cell? ⟨w0.heap.size + 1, 0, none⟩ = some y0 ∧ w2.cell? ⟨w0.heap.size + 1, 1, none⟩ = some y1 ∧ w2.cell? ⟨w0.heap.size + 1, 2, none⟩ = some y2) := by
  have k := h1.size
  simp at k
  refine ⟨⟨?_, ?_, ?_⟩, ?_, ?_, ?_⟩ <;> rw [h2.cell (by simp only; omega), h1.cell (by simp; try omega)] <;> simp

theorem kept2a {w0 w1 : World} {x0 x1 x2 y0 y1 y2 : Value} {T : TypeId} (h1 : Below ((w0.alloc (.cells #[x0, x1, x2] T)).alloc (.cells #[y0, y1, y2] T)).drew.heap.size ((w0.alloc (.cells #[x0, x1, x2] T)).alloc (.cells #[y0, y1, y2] T)).drew w1) :
    (w1.cell? ⟨w0.heap.size, 0, none⟩ = some x0 ∧ w1.cell? ⟨w0.heap.size, 1, none⟩ = some x1 ∧ w1.cell? ⟨w0.heap.size, 2, none⟩ = some x2 ∧
    w1.cell? ⟨w0.heap.size + 1, 0, none⟩ = some y0 ∧ w1.cell? ⟨w0.heap.size + 1, 1, none⟩ = some y1 ∧ w1.cell? ⟨w0.heap.size + 1, 2, none⟩ = some y2) ∧ w0.heap.size + 1 < w1.heap.size ∧ Below w0.heap.size w0 w1 := by
  have k := h1.size
  simp at k
  refine ⟨?_, by omega, ((((Below.refl _ _).alloc (Nat.le_refl _) _).alloc (by simp) _).drew).trans (h1.mono (by simp; omega))⟩
  refine ⟨?_, ?_, ?_, ?_, ?_, ?_⟩ <;> rw [h1.cell (by simp; try omega)] <;> simp
theorem kept2b {B : Nat} {w1 w2 : World} {x0 x1 x2 y0 y1 y2 : Value} (hB : B + 1 < w1.heap.size) (h1 : w1.cell? ⟨B, 0, none⟩ = some x0 ∧ w1.cell? ⟨B, 1, none⟩ = some x1 ∧ w1.cell? ⟨B, 2, none⟩ = some x2 ∧
    w1.cell? ⟨B + 1, 0, none⟩ = some y0 ∧ w1.cell? ⟨B + 1, 1, none⟩ = some y1 ∧ w1.cell? ⟨B + 1, 2, none⟩ = some y2) (h2 : Below w1.heap.size w1 w2) :
    w2.cell? ⟨B, 0, none⟩ = some x0 ∧ w2.cell? ⟨B, 1, none⟩ = some x1 ∧ w2.cell? ⟨B, 2, none⟩ = some x2 ∧
    w2.cell? ⟨B + 1, 0, none⟩ = some y0 ∧ w2.cell? ⟨B + 1, 1, none⟩ = some y1 ∧ w2.cell? ⟨B + 1, 2, none⟩ = some y2 := by
  obtain ⟨a0, a1, a2, b0, b1, b2⟩ := h1
  refine ⟨?_, ?_, ?_, ?_, ?_, ?_⟩ <;> rw [h2.cell (by simp only; omega)] <;> assumption
/-- A block of three cells that the call has laid, behind what keeps it. -/
theorem kept1 {w wr : World} {x0 x1 x2 : Value} {T : TypeId} (h : Below (w.heap.size + 1) (w.alloc (.cells #[x0, x1, x2] T)) wr) :
    (wr.cell? ⟨w.heap.size, 0, none⟩ = some x0 ∧ wr.cell? ⟨w.heap.size, 1, none⟩ = some x1 ∧ wr.cell? ⟨w.heap.size, 2, none⟩ = some x2) ∧
    (wr.frozen? ⟨w.heap.size, 0, none⟩ = false ∧ wr.frozen? ⟨w.heap.size, 1, none⟩ = false ∧ wr.frozen? ⟨w.heap.size, 2, none⟩ = false) ∧ w.heap.size < wr.heap.size := by
  have k := h.size
  simp at k
  refine ⟨⟨?_, ?_, ?_⟩, ⟨?_, ?_, ?_⟩, by omega⟩
  · rw [h.cell (by simp)]; simp
  · rw [h.cell (by simp)]; simp
  · rw [h.cell (by simp)]; simp
  · rw [h.frozen (by simp)]; simp
  · rw [h.frozen (by simp)]; simp
  · rw [h.frozen (by simp)]; simp
theorem kept1d {w wr : World} {x0 x1 x2 : Value} {T : TypeId} (h : Below (w.alloc (.cells #[x0, x1, x2] T)).drew.heap.size (w.alloc (.cells #[x0, x1, x2] T)).drew wr) :
    (wr.cell? ⟨w.heap.size, 0, none⟩ = some x0 ∧ wr.cell? ⟨w.heap.size, 1, none⟩ = some x1 ∧ wr.cell? ⟨w.heap.size, 2, none⟩ = some x2) ∧ w.heap.size < wr.heap.size ∧ Below w.heap.size w wr := by
  have k := h.size
  simp at k
  refine ⟨⟨?_, ?_, ?_⟩, by omega, ((Below.refl _ _).alloc (Nat.le_refl _) _).drew.trans (h.mono (by simp))⟩
  · rw [h.cell (by simp)]; simp
  · rw [h.cell (by simp)]; simp
  · rw [h.cell (by simp)]; simp
end Go.Proofs.Ytbfoplaccalegaa.Val
