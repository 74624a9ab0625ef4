/- Plain facts on a boxed predicate and a boxed value. No program. -/
import Derived.Test.YtbfoplaccalegaaPredPlain
import Derived.Test.YtbfoplaccalegaaBack
namespace Go.Proofs.Ytbfoplaccalegaa.Val
open Go Go.RowKit

/-- A predicate in a block of its own. -/
structure Box (w : World) (b : Nat) (p : PT) : Prop where
  c0 : w.cell? ⟨b, 0, none⟩ = some (.int .i64 p.op)
  c1 : w.cell? ⟨b, 1, none⟩ = some (.int .i64 p.col)
  c2 : w.cell? ⟨b, 2, none⟩ = some (.bool p.v.t)
  c3 : w.cell? ⟨b, 3, none⟩ = some (.int .i64 p.v.n)
  c4 : w.cell? ⟨b, 4, none⟩ = some (.string p.v.s)
  c5 : w.cell? ⟨b, 5, none⟩ = some (.bool p.w.t)
  c6 : w.cell? ⟨b, 6, none⟩ = some (.int .i64 p.w.n)
  c7 : w.cell? ⟨b, 7, none⟩ = some (.string p.w.s)
  c8 : w.cell? ⟨b, 8, none⟩ = some p.lv
abbrev pobj (p : PT) (T : TypeId) : Obj := .cells #[.int .i64 p.op, .int .i64 p.col, .bool p.v.t, .int .i64 p.v.n, .string p.v.s, .bool p.w.t, .int .i64 p.w.n, .string p.w.s, p.lv] T
theorem Box.lt {w : World} {b : Nat} {p : PT} (h : Box w b p) : b < w.heap.size := World.block_lt_of_cell? w _ h.c0
theorem Box.below {w w' : World} {b : Nat} {p : PT} (h : Box w b p) (hb : Below w.heap.size w w') : Box w' b p := by
  have hlt := h.lt
  obtain ⟨c0, c1, c2, c3, c4, c5, c6, c7, c8⟩ := h
  constructor <;> rw [hb.cell hlt] <;> assumption
theorem Box.sv {X : Nat → Prop} {w w' : World} {b : Nat} {p : PT} (h : Box w b p) (hb : Sv X w w') (hx : ¬ X b) : Box w' b p := by
  have hlt := h.lt
  obtain ⟨c0, c1, c2, c3, c4, c5, c6, c7, c8⟩ := h
  constructor <;> rw [hb.cell hlt hx] <;> assumption
theorem Box.new (w : World) (p : PT) (T : TypeId) : Box (w.alloc (pobj p T)) w.heap.size p := by constructor <;> simp [go_sem]
theorem Box.alloc {w : World} {b : Nat} {p : PT} (h : Box w b p) (o : Obj) : Box (w.alloc o) b p := h.below ((Below.refl _ _).alloc (Nat.le_refl _) _)
/-- A value in a block of its own. -/
structure VBox (w : World) (b : Nat) (x : Val) : Prop where
  c0 : w.cell? ⟨b, 0, none⟩ = some (.bool x.t)
  c1 : w.cell? ⟨b, 1, none⟩ = some (.int .i64 x.n)
  c2 : w.cell? ⟨b, 2, none⟩ = some (.string x.s)
abbrev vobj (x : Val) (T : TypeId) : Obj := .cells #[.bool x.t, .int .i64 x.n, .string x.s] T
theorem VBox.lt {w : World} {b : Nat} {x : Val} (h : VBox w b x) : b < w.heap.size := World.block_lt_of_cell? w _ h.c0
theorem VBox.below {w w' : World} {b : Nat} {x : Val} (h : VBox w b x) (hb : Below w.heap.size w w') : VBox w' b x := by
  have hlt := h.lt
  obtain ⟨c0, c1, c2⟩ := h
  constructor <;> rw [hb.cell hlt] <;> assumption
theorem VBox.new (w : World) (x : Val) (T : TypeId) : VBox (w.alloc (vobj x T)) w.heap.size x := by constructor <;> simp [go_sem]
theorem VBox.alloc {w : World} {b : Nat} {x : Val} (h : VBox w b x) (o : Obj) : VBox (w.alloc o) b x := h.below ((Below.refl _ _).alloc (Nat.le_refl _) _)
/-- A cell in a block of its own. -/
theorem cell_below {w w' : World} {b o : Nat} {u : Value} (h : w.cell? ⟨b, o, none⟩ = some u) (hb : Below w.heap.size w w') : w'.cell? ⟨b, o, none⟩ = some u := by rw [hb.cell (World.block_lt_of_cell? w _ h)]; exact h
theorem cell_alloc {w : World} {b o : Nat} {u : Value} (h : w.cell? ⟨b, o, none⟩ = some u) (ob : Obj) : (w.alloc ob).cell? ⟨b, o, none⟩ = some u := cell_below h ((Below.refl _ _).alloc (Nat.le_refl _) _)
theorem cell_new (w : World) (u : Value) (T : TypeId) : (w.alloc (.cells #[u] T)).cell? ⟨w.heap.size, 0, none⟩ = some u := by simp [go_sem]
theorem alloc1 (w : World) (o : Obj) : Below w.heap.size w (w.alloc o) := (Below.refl _ _).alloc (Nat.le_refl _) _
/-- What a call that begins with new blocks keeps. -/
theorem back2 {w w1 : World} {o1 o2 : Obj} (h : Below ((w.alloc o1).alloc o2).heap.size ((w.alloc o1).alloc o2) w1) : Below w.heap.size w w1 := back1 (back1 h)
theorem back3 {w w1 : World} {o1 o2 o3 : Obj} (h : Below (((w.alloc o1).alloc o2).alloc o3).heap.size (((w.alloc o1).alloc o2).alloc o3) w1) : Below w.heap.size w w1 := back1 (back2 h)
theorem on {w w1 w2 : World} (h : Below w.heap.size w w1) (hb : Below w1.heap.size w1 w2) : Below w.heap.size w w2 := h.trans (hb.mono h.size)
end Go.Proofs.Ytbfoplaccalegaa.Val
