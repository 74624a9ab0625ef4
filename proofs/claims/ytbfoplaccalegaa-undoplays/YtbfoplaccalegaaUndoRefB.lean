/- Boxes of the reference's logs. -/
import Derived.Test.YtbfoplaccalegaaUndoRefP
namespace Go.Proofs.Ytbfoplaccalegaa.Val
open Go Go.RowKit

abbrev TRf : TypeId := 29
/-- A log of the reference's in a block of its own. -/
structure LB (w : World) (b : Nat) (room : Int) (lv sv mv : Value) : Prop where
  c0 : w.cell? ⟨b, 0, none⟩ = some (.int .i64 room)
  c1 : w.cell? ⟨b, 1, none⟩ = some lv
  c2 : w.cell? ⟨b, 2, none⟩ = some sv
  c3 : w.cell? ⟨b, 3, none⟩ = some mv
  fz : ∀ j, w.frozen? ⟨b, j, none⟩ = false
abbrev robj (room : Int) (lv sv mv : Value) : Obj := .cells #[.int .i64 room, lv, sv, mv] TRf
section
variable {w w' : World} {b : Nat} {room : Int} {lv sv mv : Value}
theorem LB.of (h : w.heap[b]? = some (robj room lv sv mv)) : LB w b room lv sv mv :=
  ⟨cell_of_row w b 0 _ TRf (0, 0) h, cell_of_row w b 1 _ TRf (0, 0) h, cell_of_row w b 2 _ TRf (0, 0) h, cell_of_row w b 3 _ TRf (0, 0) h, fun j => by simp [World.frozen?, h]⟩
theorem LB.new (w : World) (room : Int) (lv sv mv : Value) : LB (w.alloc (robj room lv sv mv)) w.heap.size room lv sv mv := LB.of (heap_alloc_new w _)
theorem LB.lt (x : LB w b room lv sv mv) : b < w.heap.size := World.block_lt_of_cell? w _ x.c0
theorem LB.block (x : LB w b room lv sv mv) (hb : w'.heap[b]? = w.heap[b]?) : LB w' b room lv sv mv :=
  ⟨(World.cell?_of_block hb).trans x.c0, (World.cell?_of_block hb).trans x.c1, (World.cell?_of_block hb).trans x.c2, (World.cell?_of_block hb).trans x.c3, fun j => (World.frozen?_of_block (a := ⟨b, j, none⟩) hb).trans (x.fz j)⟩
theorem LB.below (x : LB w b room lv sv mv) (hb : Below w.heap.size w w') : LB w' b room lv sv mv := x.block (hb.block b x.lt)
theorem LB.set1 (x : LB w b room lv sv mv) (v : Value) : LB (w.setCell ⟨b, 1, none⟩ v) b room v sv mv := by
  obtain ⟨c0, c1, c2, c3, fz⟩ := x
  refine ⟨?_, ?_, ?_, ?_, fun j => ?_⟩
  · rw [← c0]; simp [go_sem]
  · simp [go_sem, c1]
  · rw [← c2]; simp [go_sem]
  · rw [← c3]; simp [go_sem]
  · rw [← fz j]; simp [go_sem]
theorem LB.set2 (x : LB w b room lv sv mv) (v : Value) : LB (w.setCell ⟨b, 2, none⟩ v) b room lv v mv := by
  obtain ⟨c0, c1, c2, c3, fz⟩ := x
  refine ⟨?_, ?_, ?_, ?_, fun j => ?_⟩
  · rw [← c0]; simp [go_sem]
  · rw [← c1]; simp [go_sem]
  · simp [go_sem, c2]
  · rw [← c3]; simp [go_sem]
  · rw [← fz j]; simp [go_sem]
theorem LB.set3 (x : LB w b room lv sv mv) (v : Value) : LB (w.setCell ⟨b, 3, none⟩ v) b room lv sv v := by
  obtain ⟨c0, c1, c2, c3, fz⟩ := x
  refine ⟨?_, ?_, ?_, ?_, fun j => ?_⟩
  · rw [← c0]; simp [go_sem]
  · rw [← c1]; simp [go_sem]
  · rw [← c2]; simp [go_sem]
  · simp [go_sem, c3]
  · rw [← fz j]; simp [go_sem]
end
/-- The four parts told into a block. -/
def told (w : World) (b : Nat) (room : Int) (lv sv mv : Value) : World := (((w.setCell ⟨b, 0, none⟩ (.int .i64 room)).setCell ⟨b, 1, none⟩ lv).setCell ⟨b, 2, none⟩ sv).setCell ⟨b, 3, none⟩ mv
theorem told_far {w : World} {b k : Nat} {room : Int} {lv sv mv : Value} (hk : k ≠ b) : (told w b room lv sv mv).heap[k]? = w.heap[k]? := by
  unfold told
  rw [Below.heap_setCell _ _ _ _ hk, Below.heap_setCell _ _ _ _ hk, Below.heap_setCell _ _ _ _ hk, Below.heap_setCell _ _ _ _ hk]
theorem told_low {w0 w : World} {B b : Nat} {room : Int} {lv sv mv : Value} (h : Below B w0 w) (hb : B ≤ b) : Below B w0 (told w b room lv sv mv) :=
  (((h.setCell hb _).setCell hb _).setCell hb _).setCell hb _
theorem owns_told {w : World} {B b n : Nat} {v : Value} {xs : List Value} {room : Int} {lv sv mv : Value} (h : w.ownsRow B TE 5 v n xs) (hb : b < B) : (told w b room lv sv mv).ownsRow B TE 5 v n xs :=
  owns_block h fun k hk => told_far (b := b) (by
    rcases h.2 with ⟨e1, _⟩ | ⟨q, cap, cur, e1, hB, _⟩
    · rw [e1] at hk; cases hk
    · rw [e1] at hk
      have hq : q = k := Option.some.inj hk
      omega)
/-- The reference's Push: its boxes. -/
structure PS (w wr : World) (room : Int) (lv sv mv : Value) (e : En) : Prop where
  lb : LB wr w.heap.size room lv sv mv
  eb : EB wr (w.heap.size + 1) e
  zb : LB wr (w.heap.size + 2) 0 (.slice none 0 0) (.slice none 0 0) (.slice none 0 0)
  bl : Below w.heap.size w wr
  sz : w.heap.size + 3 ≤ wr.heap.size
section
variable {w wr w' : World} {room : Int} {lv sv mv : Value} {e : En}
theorem PS.low (p : PS w wr room lv sv mv e) {B : Nat} (hb : Below B wr w') (hB : w.heap.size + 3 ≤ B) : PS w w' room lv sv mv e :=
  ⟨p.lb.block (hb.block _ (by omega)), p.eb.block (hb.block _ (by omega)), p.zb.block (hb.block _ (by omega)), p.bl.trans (hb.mono (by omega)), Nat.le_trans p.sz hb.size⟩
theorem PS.below (p : PS w wr room lv sv mv e) (hb : Below wr.heap.size wr w') : PS w w' room lv sv mv e := p.low hb p.sz
theorem PS.set1 (p : PS w wr room lv sv mv e) (v : Value) : PS w (wr.setCell ⟨w.heap.size, 1, none⟩ v) room v sv mv e :=
  ⟨p.lb.set1 v, p.eb.block (Below.heap_setCell _ _ _ _ (by simp)), p.zb.block (Below.heap_setCell _ _ _ _ (by simp)), p.bl.setCell (Nat.le_refl _) _, by simp [World.setCell]; exact p.sz⟩
theorem PS.set3 (p : PS w wr room lv sv mv e) (v : Value) : PS w (wr.setCell ⟨w.heap.size, 3, none⟩ v) room lv sv v e :=
  ⟨p.lb.set3 v, p.eb.block (Below.heap_setCell _ _ _ _ (by simp)), p.zb.block (Below.heap_setCell _ _ _ _ (by simp)), p.bl.setCell (Nat.le_refl _) _, by simp [World.setCell]; exact p.sz⟩
theorem PS.start (w : World) (room : Int) (lv sv mv : Value) (e : En) : PS w (((w.alloc (robj room lv sv mv)).alloc (eobj e)).alloc (robj 0 (.slice none 0 0) (.slice none 0 0) (.slice none 0 0))) room lv sv mv e := by
  have s1 : (w.alloc (robj room lv sv mv)).heap.size = w.heap.size + 1 := by simp
  have s2 : ((w.alloc (robj room lv sv mv)).alloc (eobj e)).heap.size = w.heap.size + 2 := by simp
  refine ⟨((LB.new w room lv sv mv).below (alloc1 _ _)).below (alloc1 _ _), ?_, ?_, (((Below.refl _ _).alloc (Nat.le_refl _) _).alloc (by simp) _).alloc (by simp; omega) _, by simp⟩
  · have := EB.new (w.alloc (robj room lv sv mv)) e
    rw [s1] at this
    exact this.below (alloc1 _ _)
  · have := LB.new ((w.alloc (robj room lv sv mv)).alloc (eobj e)) 0 (.slice none 0 0) (.slice none 0 0) (.slice none 0 0)
    rwa [s2] at this
end
end Go.Proofs.Ytbfoplaccalegaa.Val
