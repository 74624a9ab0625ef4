/- Plain: what a call that begins with a new block keeps. -/
import Derived.Test.YtbfoplaccalegaaRowPlain
namespace Go.Proofs.Ytbfoplaccalegaa.Val
open Go.RowKit

theorem back1 {w w1 : World} {o1 : Obj} (h : Below (w.alloc o1).heap.size (w.alloc o1) w1) : Below w.heap.size w w1 :=
  ((Below.refl _ _).alloc (Nat.le_refl _) _).trans (h.mono (by simp))
theorem in1 {w w1 : World} {v : Value} {T : TypeId} (h : Below (w.alloc (.cells #[v] T)).heap.size (w.alloc (.cells #[v] T)) w1) : w1.cell? ⟨w.heap.size, 0, none⟩ = some v := by
  rw [h.cell (by simp)]; simp
theorem next1 {B : Nat} {w wr w2 : World} {o : Obj} (h : Below B w wr) (hB : B ≤ wr.heap.size) (h2 : Below (wr.alloc o).heap.size (wr.alloc o) w2) : Below B w w2 :=
  (h.alloc hB _).trans (h2.mono (by simp; omega))

end Go.Proofs.Ytbfoplaccalegaa.Val
