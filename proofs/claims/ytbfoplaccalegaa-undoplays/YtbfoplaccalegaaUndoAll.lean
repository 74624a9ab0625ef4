/- What All answers. -/
import Derived.Test.YtbfoplaccalegaaUndoBack
namespace Go.Proofs.Ytbfoplaccalegaa.Val
open Go Go.RowKit

/-- A log's own block written anew. -/
def rewr (w : World) (p : Nat) (r mb : Nat) : World := (((((((((w.setCell ⟨p, 0, none⟩ (.int .i64 (r : Int))).setCell ⟨p, 1, none⟩ (.slice none 0 0)).setCell ⟨p, 2, none⟩ (.bool false)).setCell ⟨p, 3, none⟩ (.int .i64 0)).setCell ⟨p, 4, none⟩ (.bool false)).setCell ⟨p, 5, none⟩ (.int .i64 0)).setCell ⟨p, 6, none⟩ (.bool false)).setCell ⟨p, 7, none⟩ (.int .i64 0)).setCell ⟨p, 8, none⟩ (.map (some mb))).setCell ⟨p, 9, none⟩ (.slice none 0 0)
theorem rewr_box {w : World} {p r mb : Nat} {a0 a1 a2 a3 a4 a5 a6 a7 a8 a9 : Value} (hb : w.heap[p]? = some (.cells #[a0, a1, a2, a3, a4, a5, a6, a7, a8, a9] TLg (0, 0))) :
    (rewr w p r mb).heap[p]? = some (.cells #[.int .i64 (r : Int), .slice none 0 0, .bool false, .int .i64 0, .bool false, .int .i64 0, .bool false, .int .i64 0, .map (some mb), .slice none 0 0] TLg (0, 0)) := by
  unfold rewr
  have h0 : (w.setCell ⟨p, 0, none⟩ (.int .i64 (r : Int))).heap[p]? = some (.cells #[.int .i64 (r : Int), a1, a2, a3, a4, a5, a6, a7, a8, a9] TLg (0, 0)) := heap_setCell_same _ p 0 _ TLg _ hb
  have h1 : ((w.setCell ⟨p, 0, none⟩ (.int .i64 (r : Int))).setCell ⟨p, 1, none⟩ (.slice none 0 0)).heap[p]? = some (.cells #[.int .i64 (r : Int), .slice none 0 0, a2, a3, a4, a5, a6, a7, a8, a9] TLg (0, 0)) := heap_setCell_same _ p 1 _ TLg _ h0
  have h2 : (((w.setCell ⟨p, 0, none⟩ (.int .i64 (r : Int))).setCell ⟨p, 1, none⟩ (.slice none 0 0)).setCell ⟨p, 2, none⟩ (.bool false)).heap[p]? = some (.cells #[.int .i64 (r : Int), .slice none 0 0, .bool false, a3, a4, a5, a6, a7, a8, a9] TLg (0, 0)) := heap_setCell_same _ p 2 _ TLg _ h1
  have h3 : ((((w.setCell ⟨p, 0, none⟩ (.int .i64 (r : Int))).setCell ⟨p, 1, none⟩ (.slice none 0 0)).setCell ⟨p, 2, none⟩ (.bool false)).setCell ⟨p, 3, none⟩ (.int .i64 0)).heap[p]? = some (.cells #[.int .i64 (r : Int), .slice none 0 0, .bool false, .int .i64 0, a4, a5, a6, a7, a8, a9] TLg (0, 0)) := heap_setCell_same _ p 3 _ TLg _ h2
  have h4 : (((((w.setCell ⟨p, 0, none⟩ (.int .i64 (r : Int))).setCell ⟨p, 1, none⟩ (.slice none 0 0)).setCell ⟨p, 2, none⟩ (.bool false)).setCell ⟨p, 3, none⟩ (.int .i64 0)).setCell ⟨p, 4, none⟩ (.bool false)).heap[p]? = some (.cells #[.int .i64 (r : Int), .slice none 0 0, .bool false, .int .i64 0, .bool false, a5, a6, a7, a8, a9] TLg (0, 0)) := heap_setCell_same _ p 4 _ TLg _ h3
  have h5 : ((((((w.setCell ⟨p, 0, none⟩ (.int .i64 (r : Int))).setCell ⟨p, 1, none⟩ (.slice none 0 0)).setCell ⟨p, 2, none⟩ (.bool false)).setCell ⟨p, 3, none⟩ (.int .i64 0)).setCell ⟨p, 4, none⟩ (.bool false)).setCell ⟨p, 5, none⟩ (.int .i64 0)).heap[p]? = some (.cells #[.int .i64 (r : Int), .slice none 0 0, .bool false, .int .i64 0, .bool false, .int .i64 0, a6, a7, a8, a9] TLg (0, 0)) := heap_setCell_same _ p 5 _ TLg _ h4
  have h6 : (((((((w.setCell ⟨p, 0, none⟩ (.int .i64 (r : Int))).setCell ⟨p, 1, none⟩ (.slice none 0 0)).setCell ⟨p, 2, none⟩ (.bool false)).setCell ⟨p, 3, none⟩ (.int .i64 0)).setCell ⟨p, 4, none⟩ (.bool false)).setCell ⟨p, 5, none⟩ (.int .i64 0)).setCell ⟨p, 6, none⟩ (.bool false)).heap[p]? = some (.cells #[.int .i64 (r : Int), .slice none 0 0, .bool false, .int .i64 0, .bool false, .int .i64 0, .bool false, a7, a8, a9] TLg (0, 0)) := heap_setCell_same _ p 6 _ TLg _ h5
  have h7 : ((((((((w.setCell ⟨p, 0, none⟩ (.int .i64 (r : Int))).setCell ⟨p, 1, none⟩ (.slice none 0 0)).setCell ⟨p, 2, none⟩ (.bool false)).setCell ⟨p, 3, none⟩ (.int .i64 0)).setCell ⟨p, 4, none⟩ (.bool false)).setCell ⟨p, 5, none⟩ (.int .i64 0)).setCell ⟨p, 6, none⟩ (.bool false)).setCell ⟨p, 7, none⟩ (.int .i64 0)).heap[p]? = some (.cells #[.int .i64 (r : Int), .slice none 0 0, .bool false, .int .i64 0, .bool false, .int .i64 0, .bool false, .int .i64 0, a8, a9] TLg (0, 0)) := heap_setCell_same _ p 7 _ TLg _ h6
  have h8 : (((((((((w.setCell ⟨p, 0, none⟩ (.int .i64 (r : Int))).setCell ⟨p, 1, none⟩ (.slice none 0 0)).setCell ⟨p, 2, none⟩ (.bool false)).setCell ⟨p, 3, none⟩ (.int .i64 0)).setCell ⟨p, 4, none⟩ (.bool false)).setCell ⟨p, 5, none⟩ (.int .i64 0)).setCell ⟨p, 6, none⟩ (.bool false)).setCell ⟨p, 7, none⟩ (.int .i64 0)).setCell ⟨p, 8, none⟩ (.map (some mb))).heap[p]? = some (.cells #[.int .i64 (r : Int), .slice none 0 0, .bool false, .int .i64 0, .bool false, .int .i64 0, .bool false, .int .i64 0, .map (some mb), a9] TLg (0, 0)) := heap_setCell_same _ p 8 _ TLg _ h7
  have h9 : ((((((((((w.setCell ⟨p, 0, none⟩ (.int .i64 (r : Int))).setCell ⟨p, 1, none⟩ (.slice none 0 0)).setCell ⟨p, 2, none⟩ (.bool false)).setCell ⟨p, 3, none⟩ (.int .i64 0)).setCell ⟨p, 4, none⟩ (.bool false)).setCell ⟨p, 5, none⟩ (.int .i64 0)).setCell ⟨p, 6, none⟩ (.bool false)).setCell ⟨p, 7, none⟩ (.int .i64 0)).setCell ⟨p, 8, none⟩ (.map (some mb))).setCell ⟨p, 9, none⟩ (.slice none 0 0)).heap[p]? = some (.cells #[.int .i64 (r : Int), .slice none 0 0, .bool false, .int .i64 0, .bool false, .int .i64 0, .bool false, .int .i64 0, .map (some mb), .slice none 0 0] TLg (0, 0)) := heap_setCell_same _ p 9 _ TLg _ h8
  exact h9
theorem rewr_far {w : World} {p r mb k : Nat} (hk : k ≠ p) : (rewr w p r mb).heap[k]? = w.heap[k]? := by
  unfold rewr
  rw [Below.heap_setCell _ _ _ _ hk, Below.heap_setCell _ _ _ _ hk, Below.heap_setCell _ _ _ _ hk, Below.heap_setCell _ _ _ _ hk, Below.heap_setCell _ _ _ _ hk, Below.heap_setCell _ _ _ _ hk, Below.heap_setCell _ _ _ _ hk, Below.heap_setCell _ _ _ _ hk, Below.heap_setCell _ _ _ _ hk, Below.heap_setCell _ _ _ _ hk]
theorem LG.reset {w1 w2 : World} {h1 h2 : Hl} {L1 : Lg} {r : Nat} (g1 : LG w1 h1 L1) (g2 : LG w2 h2 (newL r)) (b : Below w1.heap.size w1 w2) (o : OwnH h2 w1.heap.size) :
    LG (rewr w2 h1.p r h2.mb) ⟨h1.p, .slice none 0 0, h2.mb, .slice none 0 0⟩ (newL r) ∧ Ml w1 h1 (rewr w2 h1.p r h2.mb) ⟨h1.p, .slice none 0 0, h2.mb, .slice none 0 0⟩ := by
  have hlt := g1.has.1
  have hmb : w1.heap.size ≤ h2.mb := o ⟨h2.mb, 0, none⟩ (.inr (.inl rfl))
  obtain ⟨es, cl, m1, m2, m3⟩ := g2.map
  refine ⟨⟨?_, ⟨rfl, .inl ⟨rfl, rfl⟩⟩, by simp [newL], ⟨es, cl, by rw [rewr_far (by simp only; omega)]; exact m1, m2, m3⟩, World.ownsRow_nil _ _ _ _, by simp [newL], by simp [Value.ownBlock], by simp [Value.ownBlock], fun k hk => by simp [Value.ownBlock] at hk, g2.room, Nat.zero_le _⟩, ⟨?_, fun a ha => ?_, rfl⟩⟩
  · exact rewr_box (by rw [b.block _ hlt]; exact g1.box)
  · refine ⟨by have := b.os; simpa [rewr, World.setCell] using this, by have := b.tape; simpa [rewr, World.setCell] using this, by have := b.output; simpa [rewr, World.setCell] using this, by have := b.size; simp [rewr, World.setCell]; exact this, fun k hk hn => ?_, fun q j hq hn => ?_⟩
    · rw [rewr_far (fun e => hn 0 (.inl e)), b.block k hk]
    · exact World.cell?_of_block (w := w1) (by rw [rewr_far (fun e => hn (.inl e)), b.block q hq])
  · rcases ha with e | e | e | ⟨n, c, e, _⟩
    · exact .inl (.inl e)
    · exact .inr (by rw [e]; exact hmb)
    · simp [Value.ownBlock] at e
    · simp at e
theorem all_any {w : World} {h : Hl} {L : Lg} (g : LG w h L) : Calls Try.prog 18 #[.pointer (some ⟨h.p, 0, none⟩)] w fun e w' => ∃ v h', e = .returned v ∧ LG w' h' (newL L.room) ∧ Ml w h w' h' ∧ Ans w' h' v L.es.reverse := by
  have HC : Hid _ := cut_any g 0 (Nat.zero_le _)
  have HN : Hid (∀ w1, Calls Try.prog 9 #[.int .i64 L.room] w1 fun e w' => ∃ h, e = .returned (.pointer (some ⟨h.p, 0, none⟩)) ∧ LG w' h (newL L.room) ∧ Below w1.heap.size w1 w' ∧ OwnH h w1.heap.size ∧ h.ev = .slice none 0 0 ∧ h.tv = .slice none 0 0) := fun w1 => by
    have := new_any L.room w1
    rwa [show capR (L.room : Int) = L.room by have := g.room; unfold capR; omega] at this
  clear g
  go_enter Try.func18, Try.ntmps18
  go_wp2_with fail
  refine Calls.mono HC.out ?_
  rintro e w1 ⟨v, h1, rfl, g1, m1, an⟩
  rw [← m1.p]
  have HG : Hid (LG w1 h1 { L with es := L.es.take 0 } ∧ Ml w h w1 h1 ∧ Ans w1 h1 v L.es.reverse) := ⟨g1, m1, an⟩
  have c0 := g1.cells 0
  simp at c0
  clear g1 m1 an HC
  go_wp2_with fail
  refine Calls.mono (HN.out _) ?_
  rintro e w2 ⟨h2, rfl, g2, b, o, ev, tv⟩
  have HR : Hid (LG (rewr w2 h1.p L.room h2.mb) ⟨h1.p, .slice none 0 0, h2.mb, .slice none 0 0⟩ (newL L.room) ∧ Ml w1 h1 (rewr w2 h1.p L.room h2.mb) ⟨h1.p, .slice none 0 0, h2.mb, .slice none 0 0⟩) := HG.out.1.reset g2 b o
  have d0 := g2.cells 0
  have d1 := g2.cells 1
  have d2 := g2.cells 2
  have d3 := g2.cells 3
  have d4 := g2.cells 4
  have d5 := g2.cells 5
  have d6 := g2.cells 6
  have d7 := g2.cells 7
  have d8 := g2.cells 8
  have d9 := g2.cells 9
  simp [newL, ev, tv] at d0 d1 d2 d3 d4 d5 d6 d7 d8 d9
  have e0 := (HG.out.1.below b).cells 0
  have e1 := (HG.out.1.below b).cells 1
  have e2 := (HG.out.1.below b).cells 2
  have e3 := (HG.out.1.below b).cells 3
  have e4 := (HG.out.1.below b).cells 4
  have e5 := (HG.out.1.below b).cells 5
  have e6 := (HG.out.1.below b).cells 6
  have e7 := (HG.out.1.below b).cells 7
  have e8 := (HG.out.1.below b).cells 8
  have e9 := (HG.out.1.below b).cells 9
  simp at e0 e1 e2 e3 e4 e5 e6 e7 e8 e9
  have hf := (HG.out.1.below b).frozen
  clear g2 b o ev tv HN
  go_wp2_with fail
  go_ret
  refine ⟨_, _, rfl, HR.out.1, HG.out.2.1.trans HR.out.2, HG.out.2.2.ml HR.out.2⟩
end Go.Proofs.Ytbfoplaccalegaa.Val
