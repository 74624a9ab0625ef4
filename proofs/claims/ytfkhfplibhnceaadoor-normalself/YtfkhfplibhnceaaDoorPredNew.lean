/- Plain: predicates in memory of the call's own. No program. -/
import Derived.Test.YtfkhfplibhnceaaDoorPredEv
import Derived.Maps.AppendAt
namespace Go.Proofs.YtfkhfplibhnceaaDoor.Val
open Go Go.RowKit

/-- Its parts lie, at all depths, in rows of the call's own, whose blocks are of some kind. -/
def NewN (w : World) (T : TypeId) (P : Nat → Prop) : Nat → PT → Prop
  | 0, _ => False
  | n + 1, p => p.v.s.size ≤ maxLen ∧ p.w.s.size ≤ maxLen ∧ w.ownsRow 0 T 9 p.lv p.l.length (p.l.flatMap PT.cells) ∧ (∀ g, p.lv.ownBlock = some g → P g) ∧ ∀ q ∈ p.l, NewN w T P n q
def New (w : World) (T : TypeId) (P : Nat → Prop) (p : PT) : Prop := ∃ n, NewN w T P n p
theorem NewN.mono {w : World} {T : TypeId} {P : Nat → Prop} {n m : Nat} {p : PT} (h : NewN w T P n p) (hm : n ≤ m) : NewN w T P m p := by
  induction n generalizing m p with
  | zero => exact h.elim
  | succ n ih =>
    cases m with
    | zero => omega
    | succ m => exact ⟨h.1, h.2.1, h.2.2.1, h.2.2.2.1, fun q hq => ih (h.2.2.2.2 q hq) (by omega)⟩
theorem New.mk {w : World} {T : TypeId} {P : Nat → Prop} {o c : Int} {v u : Val} {lv : Value} {l : List PT} (h1 : v.s.size ≤ maxLen) (h2 : u.s.size ≤ maxLen) (h3 : w.ownsRow 0 T 9 lv l.length (l.flatMap PT.cells)) (h4 : ∀ g, lv.ownBlock = some g → P g) (h5 : ∀ p ∈ l, New w T P p) : New w T P (.mk o c v u lv l) := by
  obtain ⟨n, hn⟩ := all_some (f := NewN w T P) (fun n m x hx hm => NewN.mono hx hm) l h5
  exact ⟨n + 1, h1, h2, h3, h4, hn⟩
def NewL (w : World) (T : TypeId) (P : Nat → Prop) (lv : Value) (l : List PT) : Prop := w.ownsRow 0 T 9 lv l.length (l.flatMap PT.cells) ∧ (∀ g, lv.ownBlock = some g → P g) ∧ ∀ p ∈ l, New w T P p
theorem owns_sv {X : Nat → Prop} {w w' : World} {b s : Nat} {T : TypeId} {v : Value} {n : Nat} {xs : List Value} (h : w.ownsRow b T s v n xs) (hs : Sv X w w') (hx : ∀ g, v.ownBlock = some g → ¬ X g) : w'.ownsRow b T s v n xs := by
  refine ⟨h.1, ?_⟩
  rcases h.2 with hn | ⟨g, cap, cur, rfl, hb, hg, rest⟩
  · exact .inl hn
  · refine .inr ⟨g, cap, cur, rfl, hb, ?_, rest⟩
    rw [hs.block g (Array.getElem?_eq_some_iff.1 hg).1 (hx g rfl)]; exact hg
theorem owns_base {w : World} {b b' s : Nat} {T : TypeId} {v : Value} {n : Nat} {xs : List Value} (h : w.ownsRow b T s v n xs) (hb : ∀ g, v.ownBlock = some g → b' ≤ g) : w.ownsRow b' T s v n xs := by
  refine ⟨h.1, ?_⟩
  rcases h.2 with hn | ⟨g, cap, cur, rfl, _, rest⟩
  · exact .inl hn
  · exact .inr ⟨g, cap, cur, rfl, hb g rfl, rest⟩
theorem owns_lies {w : World} {b s : Nat} {T : TypeId} {v : Value} {n : Nat} {xs : List Value} (h : w.ownsRow b T s v n xs) : Lies w v n xs := by
  rcases h.2 with ⟨rfl, rfl⟩ | ⟨g, cap, cur, rfl, hb, hg, hn, hm, hs, ht⟩
  · have : xs = [] := List.eq_nil_of_length_eq_zero (by rw [h.1]; simp)
    subst this
    exact ⟨none, 0, rfl, Nat.le_refl _, Nat.zero_le _, fun _ => ⟨rfl, rfl⟩, .inl rfl⟩
  · refine ⟨some ⟨g, 0, none⟩, cap, rfl, hn, hm, fun h => (by cases h), .inr ⟨g, 0, rfl, fun j u hj => ?_⟩⟩
    have := World.ownsRow.cells h (g := g) rfl j u hj
    rw [Addr.add_lit] at this
    exact this
theorem New.row {w : World} {T : TypeId} {P : Nat → Prop} {p : PT} (h : New w T P p) : NewL w T P p.lv p.l := by
  obtain ⟨n, h⟩ := h
  cases n with
  | zero => exact h.elim
  | succ n => exact ⟨h.2.2.1, h.2.2.2.1, fun q hq => ⟨n, h.2.2.2.2 q hq⟩⟩
theorem New.isIn {w : World} {T : TypeId} {P : Nat → Prop} {p : PT} (h : New w T P p) : In w p := by
  obtain ⟨n, h⟩ := h
  refine ⟨n, ?_⟩
  induction n generalizing p with
  | zero => exact h.elim
  | succ n ih => exact ⟨h.1, h.2.1, owns_lies h.2.2.1, fun q hq => ih (h.2.2.2.2 q hq)⟩
theorem New.sv {X : Nat → Prop} {w w' : World} {T : TypeId} {P : Nat → Prop} {p : PT} (h : New w T P p) (hs : Sv X w w') (hx : ∀ b, P b → ¬ X b) : New w' T P p := by
  obtain ⟨n, h⟩ := h
  refine ⟨n, ?_⟩
  induction n generalizing p with
  | zero => exact h.elim
  | succ n ih => exact ⟨h.1, h.2.1, owns_sv h.2.2.1 hs fun g hg => hx g (h.2.2.2.1 g hg), h.2.2.2.1, fun q hq => ih (h.2.2.2.2 q hq)⟩
theorem New.imp {w : World} {T : TypeId} {P Q : Nat → Prop} {p : PT} (h : New w T P p) (hq : ∀ b, P b → b < w.heap.size → Q b) : New w T Q p := by
  obtain ⟨n, h⟩ := h
  refine ⟨n, ?_⟩
  induction n generalizing p with
  | zero => exact h.elim
  | succ n ih => exact ⟨h.1, h.2.1, h.2.2.1, fun g hg => hq g (h.2.2.2.1 g hg) (World.ownsRow.lt h.2.2.1 g hg).2, fun q hq' => ih (h.2.2.2.2 q hq')⟩
theorem New.keep {w w' : World} {T : TypeId} {P : Nat → Prop} {p : PT} (h : New w T P p) (hb : Below w.heap.size w w') : New w' T P p := h.sv (X := Nothing) (Sv.of hb) fun _ _ h => h
theorem NewL.imp {w : World} {T : TypeId} {P Q : Nat → Prop} {lv : Value} {l : List PT} (h : NewL w T P lv l) (hq : ∀ b, P b → b < w.heap.size → Q b) : NewL w T Q lv l :=
  ⟨h.1, fun g hg => hq g (h.2.1 g hg) (World.ownsRow.lt h.1 g hg).2, fun p hp => (h.2.2 p hp).imp hq⟩
theorem NewL.below {w w' : World} {T : TypeId} {P : Nat → Prop} {lv : Value} {l : List PT} (h : NewL w T P lv l) (hb : Below w.heap.size w w') : NewL w' T P lv l :=
  ⟨owns_sv h.1 (Sv.of (X := Nothing) hb) (fun _ _ h => h), h.2.1, fun p hp => (h.2.2 p hp).keep hb⟩
theorem NewL.isIn {w : World} {T : TypeId} {P : Nat → Prop} {lv : Value} {l : List PT} (h : NewL w T P lv l) : InL w lv l := ⟨owns_lies h.1, fun p hp => (h.2.2 p hp).isIn⟩
theorem NewL.slice {w : World} {T : TypeId} {P : Nat → Prop} {lv : Value} {l : List PT} (h : NewL w T P lv l) : ∃ ao c, lv = .slice ao l.length c := by
  obtain ⟨ao, c, e, _⟩ := (owns_lies h.1).slice; exact ⟨ao, c, e⟩
theorem cells_flat (l : List PT) : (l.flatMap PT.cells).length = l.length * 9 := flat_length PT.cells 9 (fun _ => rfl) l
/-- Copies so far: of the first k of a list. -/
def CL (w wr : World) (T : TypeId) (l : List PT) (k : Nat) (own : Value) : Prop :=
  ∃ m : List PT, m.map PT.bare = (l.take k).map PT.bare ∧ wr.ownsRow w.heap.size T 9 own k (m.flatMap PT.cells) ∧ (∀ q ∈ m, New wr T (fun b => w.heap.size ≤ b ∧ own.ownBlock ≠ some b) q) ∧ Below w.heap.size w wr
theorem CL.start (w : World) (T : TypeId) (l : List PT) : CL w w T l 0 (.slice none 0 0) := ⟨[], by simp, World.ownsRow_nil _ _ _ _, by simp, Below.refl _ _⟩
theorem CL.done {w wr : World} {T : TypeId} {l : List PT} {own : Value} (h : CL w wr T l l.length own) : ∃ m : List PT, m.map PT.bare = l.map PT.bare ∧ NewL wr T (fun b => w.heap.size ≤ b) own m ∧ Below w.heap.size w wr := by
  obtain ⟨m, h1, h2, h3, h4⟩ := h
  rw [List.take_length] at h1
  have hlen : m.length = l.length := by have := congrArg List.length h1; simpa using this
  refine ⟨m, h1, ⟨?_, fun g hg => (World.ownsRow.lt h2 g hg).1, fun p hp => (h3 p hp).imp fun b hb _ => hb.1⟩, h4⟩
  rw [hlen]
  exact owns_base h2 fun g hg => Nat.zero_le _
/-- What the append is handed. -/
theorem CL.owns {w wr wb : World} {T : TypeId} {l : List PT} {k : Nat} {own : Value} (h : CL w wr T l k own) (hb : Below wr.heap.size wr wb) : ∃ m : List PT, wb.ownsRow w.heap.size T 9 own k (m.flatMap PT.cells) ∧ w.heap.size ≤ wb.heap.size ∧
    ∀ (q : PT) (wa w2 : World) (v' : Value) (hk : k < l.length), Below wr.heap.size wr wa → Below wa.heap.size wa wb → q.bare = l[k].bare → New wb T (fun b => wa.heap.size ≤ b) q → w2.ownsRow w.heap.size T 9 v' (k + 1) (m.flatMap PT.cells ++ q.cells) → wb.grownBy w2 own.ownBlock → (v'.ownBlock = own.ownBlock ∨ v'.ownBlock = some wb.heap.size) → CL w w2 T l (k + 1) v' := by
  obtain ⟨m, h1, h2, h3, h4⟩ := h
  have h2' : wb.ownsRow w.heap.size T 9 own k (m.flatMap PT.cells) := owns_sv (X := Nothing) h2 (Sv.of hb) fun _ _ h => h
  refine ⟨m, h2', Nat.le_trans h4.size hb.size, fun q wa w2 v' hk ha hab hq hn ho hg hat => ?_⟩
  have hsv : Sv (fun b => own.ownBlock = some b) wb w2 := ⟨hg.os, hg.tape, hg.output, hg.size, fun b hb hx => hg.block b hb fun e => hx e.symm⟩
  have hlt : ∀ g, own.ownBlock = some g → w.heap.size ≤ g ∧ g < wr.heap.size := World.ownsRow.lt h2
  have hsize := ha.size
  have hfin : ∀ b, w.heap.size ≤ b ∧ own.ownBlock ≠ some b → b < wb.heap.size → w.heap.size ≤ b ∧ v'.ownBlock ≠ some b := fun b hb1 hb2 => ⟨hb1.1, fun e => by
    rcases hat with hat | hat
    · exact hb1.2 (by rw [← hat]; exact e)
    · rw [hat] at e; have := Option.some.inj e; omega⟩
  refine ⟨m ++ [q], ?_, ?_, ?_, ?_⟩
  · rw [List.map_append, h1, List.take_add_one, List.map_append, List.getElem?_eq_getElem hk]
    simp [hq]
  · rw [List.flatMap_append]; simpa using ho
  · intro p hp
    rcases List.mem_append.1 hp with hp | hp
    · have n1 : New wb T (fun b => w.heap.size ≤ b ∧ own.ownBlock ≠ some b) p := (h3 p hp).keep hb
      exact (n1.imp (Q := fun b => (w.heap.size ≤ b ∧ own.ownBlock ≠ some b) ∧ (w.heap.size ≤ b ∧ v'.ownBlock ≠ some b)) fun b h1 h2 => ⟨h1, hfin b h1 h2⟩).sv hsv (fun b hb e => hb.1.2 e) |>.imp fun b hb _ => hb.2
    · rw [List.mem_singleton] at hp
      subst hp
      have n1 : New wb T (fun b => w.heap.size ≤ b ∧ own.ownBlock ≠ some b) p := hn.imp fun b hb _ => ⟨by have := h4.size; omega, fun e => by have := hlt b e; omega⟩
      exact (n1.imp (Q := fun b => (w.heap.size ≤ b ∧ own.ownBlock ≠ some b) ∧ (w.heap.size ≤ b ∧ v'.ownBlock ≠ some b)) fun b h1 h2 => ⟨h1, hfin b h1 h2⟩).sv hsv (fun b hb e => hb.1.2 e) |>.imp fun b hb _ => hb.2
  · exact (h4.trans (hb.mono h4.size)).trans (hsv.below (Nat.le_trans h4.size hb.size) fun b hb e => by have := hlt b e; omega)
end Go.Proofs.YtfkhfplibhnceaaDoor.Val
