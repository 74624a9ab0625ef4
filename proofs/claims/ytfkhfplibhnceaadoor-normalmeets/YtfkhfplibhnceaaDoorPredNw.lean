/- Plain: predicates in memory of the call's own, but for empty lists; lists made so far. No program. -/
import Derived.Test.YtfkhfplibhnceaaDoorPredOwn
import Derived.Deep.RegionLaw
namespace Go.Proofs.YtfkhfplibhnceaaDoor.Val
open Go Go.RowKit

/-- A list of parts in a row of the call's own, or an empty one. -/
def RowNw (w : World) (T : TypeId) (P : Nat → Prop) (lv : Value) (l : List PT) : Prop :=
  (w.ownsRow 0 T 9 lv l.length (l.flatMap PT.cells) ∧ ∀ g, lv.ownBlock = some g → P g) ∨ (l = [] ∧ Lies w lv 0 [])
def NwN (w : World) (T : TypeId) (P : Nat → Prop) : Nat → PT → Prop
  | 0, _ => False
  | n + 1, p => p.v.s.size ≤ maxLen ∧ p.w.s.size ≤ maxLen ∧ RowNw w T P p.lv p.l ∧ ∀ q ∈ p.l, NwN w T P n q
def Nw (w : World) (T : TypeId) (P : Nat → Prop) (p : PT) : Prop := ∃ n, NwN w T P n p
theorem lies_nil {w w' : World} {lv : Value} (h : Lies w lv 0 []) : Lies w' lv 0 [] := by
  obtain ⟨ao, c, e, h1, h2, h3, _⟩ := h
  exact ⟨ao, c, e, h1, h2, h3, .inl rfl⟩
theorem RowNw.lies {w : World} {T : TypeId} {P : Nat → Prop} {lv : Value} {l : List PT} (h : RowNw w T P lv l) : Lies w lv l.length (l.flatMap PT.cells) := by
  rcases h with ⟨h, _⟩ | ⟨rfl, h⟩
  · exact owns_lies h
  · exact h
theorem RowNw.sv {X : Nat → Prop} {w w' : World} {T : TypeId} {P : Nat → Prop} {lv : Value} {l : List PT} (h : RowNw w T P lv l) (hs : Sv X w w') (hx : ∀ b, P b → ¬ X b) : RowNw w' T P lv l := by
  rcases h with ⟨h, hp⟩ | ⟨rfl, h⟩
  · exact .inl ⟨owns_sv h hs fun g hg => hx g (hp g hg), hp⟩
  · exact .inr ⟨rfl, lies_nil h⟩
theorem RowNw.imp {w : World} {T : TypeId} {P Q : Nat → Prop} {lv : Value} {l : List PT} (h : RowNw w T P lv l) (hq : ∀ b, P b → b < w.heap.size → Q b) : RowNw w T Q lv l := by
  rcases h with ⟨h, hp⟩ | ⟨rfl, h⟩
  · exact .inl ⟨h, fun g hg => hq g (hp g hg) (World.ownsRow.lt h g hg).2⟩
  · exact .inr ⟨rfl, h⟩
theorem NwN.mono {w : World} {T : TypeId} {P : Nat → Prop} {n m : Nat} {p : PT} (h : NwN w T P n p) (hm : n ≤ m) : NwN w T P m p := by
  induction n generalizing m p with
  | zero => exact h.elim
  | succ n ih =>
    cases m with
    | zero => omega
    | succ m => exact ⟨h.1, h.2.1, h.2.2.1, fun q hq => ih (h.2.2.2 q hq) (by omega)⟩
theorem Nw.mk {w : World} {T : TypeId} {P : Nat → Prop} {o c : Int} {v u : Val} {lv : Value} {l : List PT} (h1 : v.s.size ≤ maxLen) (h2 : u.s.size ≤ maxLen) (h3 : RowNw w T P lv l) (h5 : ∀ p ∈ l, Nw w T P p) : Nw w T P (.mk o c v u lv l) := by
  obtain ⟨n, hn⟩ := all_some (f := NwN w T P) (fun n m x hx hm => NwN.mono hx hm) l h5
  exact ⟨n + 1, h1, h2, h3, hn⟩
theorem Nw.all {w : World} {T : TypeId} {P : Nat → Prop} {p : PT} (h : Nw w T P p) : RowNw w T P p.lv p.l ∧ ∀ q ∈ p.l, Nw w T P q := by
  obtain ⟨n, h⟩ := h
  cases n with
  | zero => exact h.elim
  | succ n => exact ⟨h.2.2.1, fun q hq => ⟨n, h.2.2.2 q hq⟩⟩
theorem Nw.isIn {w : World} {T : TypeId} {P : Nat → Prop} {p : PT} (h : Nw w T P p) : In w p := by
  obtain ⟨n, h⟩ := h
  refine ⟨n, ?_⟩
  induction n generalizing p with
  | zero => exact h.elim
  | succ n ih => exact ⟨h.1, h.2.1, h.2.2.1.lies, fun q hq => ih (h.2.2.2 q hq)⟩
theorem Nw.slice {w : World} {T : TypeId} {P : Nat → Prop} {p : PT} (h : Nw w T P p) : ∃ ao c, p.lv = .slice ao p.l.length c := by
  obtain ⟨ao, c, e, _⟩ := h.all.1.lies.slice; exact ⟨ao, c, e⟩
theorem Nw.sv {X : Nat → Prop} {w w' : World} {T : TypeId} {P : Nat → Prop} {p : PT} (h : Nw w T P p) (hs : Sv X w w') (hx : ∀ b, P b → ¬ X b) : Nw w' T P p := by
  obtain ⟨n, h⟩ := h
  refine ⟨n, ?_⟩
  induction n generalizing p with
  | zero => exact h.elim
  | succ n ih => exact ⟨h.1, h.2.1, h.2.2.1.sv hs hx, fun q hq => ih (h.2.2.2 q hq)⟩
theorem Nw.imp {w : World} {T : TypeId} {P Q : Nat → Prop} {p : PT} (h : Nw w T P p) (hq : ∀ b, P b → b < w.heap.size → Q b) : Nw w T Q p := by
  obtain ⟨n, h⟩ := h
  refine ⟨n, ?_⟩
  induction n generalizing p with
  | zero => exact h.elim
  | succ n ih => exact ⟨h.1, h.2.1, h.2.2.1.imp hq, fun q hq' => ih (h.2.2.2 q hq')⟩
theorem Nw.keep {w w' : World} {T : TypeId} {P : Nat → Prop} {p : PT} (h : Nw w T P p) (hb : Below w.heap.size w w') : Nw w' T P p := h.sv (X := Nothing) (Sv.of hb) fun _ _ h => h
theorem Nw.leaf (w : World) (T : TypeId) (P : Nat → Prop) (o c : Int) (v u : Val) (h1 : v.s.size ≤ maxLen) (h2 : u.s.size ≤ maxLen) : Nw w T P (.mk o c v u (.slice none 0 0) []) :=
  .mk h1 h2 (.inr ⟨rfl, none, 0, rfl, Nat.le_refl _, Nat.zero_le _, fun _ => ⟨rfl, rfl⟩, .inl rfl⟩) (by simp)
/-- Made so far: as the first k of a list, in blocks from B on. -/
def CLw (B : Nat) (wr : World) (T : TypeId) (l : List PT) (k : Nat) (own : Value) : Prop :=
  ∃ m : List PT, m.map PT.bare = (l.take k).map PT.bare ∧ wr.ownsRow B T 9 own k (m.flatMap PT.cells) ∧ (∀ q ∈ m, Nw wr T (fun b => B ≤ b ∧ own.ownBlock ≠ some b) q)
theorem CLw.start (B : Nat) (w : World) (T : TypeId) (l : List PT) : CLw B w T l 0 (.slice none 0 0) := ⟨[], by simp, World.ownsRow_nil _ _ _ _, by simp⟩
theorem CLw.sv {B : Nat} {X : Nat → Prop} {w w' : World} {T : TypeId} {l : List PT} {k : Nat} {own : Value} (h : CLw B w T l k own) (hs : Sv X w w') (hx : ∀ b, B ≤ b → ¬ X b) : CLw B w' T l k own := by
  obtain ⟨m, h1, h2, h3⟩ := h
  exact ⟨m, h1, owns_sv h2 hs fun g hg => hx g (World.ownsRow.lt h2 g hg).1, fun q hq => (h3 q hq).sv hs fun b hb => hx b hb.1⟩
theorem CLw.done {B : Nat} {wr : World} {T : TypeId} {l : List PT} {k : Nat} {own : Value} (h : CLw B wr T l k own) (hk : k = l.length) : ∃ m : List PT, m.map PT.bare = l.map PT.bare ∧ RowNw wr T (fun b => B ≤ b) own m ∧ ∀ p ∈ m, Nw wr T (fun b => B ≤ b) p := by
  obtain ⟨m, h1, h2, h3⟩ := h
  subst hk
  rw [List.take_length] at h1
  have hlen : m.length = l.length := by have := congrArg List.length h1; simpa using this
  refine ⟨m, h1, .inl ⟨?_, fun g hg => (World.ownsRow.lt h2 g hg).1⟩, fun p hp => (h3 p hp).imp fun b hb _ => hb.1⟩
  rw [hlen]
  exact owns_base h2 fun g hg => Nat.zero_le _
theorem CLw.slice {B : Nat} {wr : World} {T : TypeId} {l : List PT} {k : Nat} {own : Value} (h : CLw B wr T l k own) : ∃ ao n c, own = .slice ao n c := by
  obtain ⟨m, _, h2, _⟩ := h
  obtain ⟨ao, c, e, _⟩ := (owns_lies h2).slice
  exact ⟨ao, k, c, e⟩
/-- What the append is handed. -/
theorem CLw.owns {B : Nat} {wr wb : World} {T : TypeId} {l : List PT} {k : Nat} {own : Value} (h : CLw B wr T l k own) (hB : B ≤ wr.heap.size) (hb : Below wr.heap.size wr wb) : ∃ m : List PT, wb.ownsRow B T 9 own k (m.flatMap PT.cells) ∧ B ≤ wb.heap.size ∧
    ∀ (q : PT) (wa w2 : World) (v' : Value) (hk : k < l.length), wr.heap.size ≤ wa.heap.size → q.bare = l[k].bare → Nw wb T (fun b => wa.heap.size ≤ b) q → w2.ownsRow B T 9 v' (k + 1) (m.flatMap PT.cells ++ q.cells) → wb.grownBy w2 own.ownBlock → (v'.ownBlock = own.ownBlock ∨ v'.ownBlock = some wb.heap.size) → CLw B w2 T l (k + 1) v' ∧ Sv (fun b => B ≤ b) wb w2 := by
  obtain ⟨m, h1, h2, h3⟩ := h
  have h2' : wb.ownsRow B T 9 own k (m.flatMap PT.cells) := owns_sv (X := Nothing) h2 (Sv.of hb) fun _ _ h => h
  refine ⟨m, h2', Nat.le_trans hB hb.size, fun q wa w2 v' hk ha hq hn ho hg hat => ?_⟩
  have hlt : ∀ g, own.ownBlock = some g → B ≤ g ∧ g < wr.heap.size := World.ownsRow.lt h2
  have hsv : Sv (fun b => own.ownBlock = some b) wb w2 := ⟨hg.os, hg.tape, hg.output, hg.size, fun b hb hx => hg.block b hb fun e => hx e.symm⟩
  have hsv' : Sv (fun b => B ≤ b) wb w2 := ⟨hg.os, hg.tape, hg.output, hg.size, fun b hb hx => hg.block b hb fun e => hx (hlt b e.symm).1⟩
  have hfin : ∀ b, B ≤ b ∧ own.ownBlock ≠ some b → b < wb.heap.size → B ≤ b ∧ v'.ownBlock ≠ some b := fun b hb1 hb2 => ⟨hb1.1, fun e => by
    rcases hat with hat | hat
    · exact hb1.2 (by rw [← hat]; exact e)
    · rw [hat] at e; have := Option.some.inj e; omega⟩
  refine ⟨⟨m ++ [q], ?_, ?_, ?_⟩, hsv'⟩
  · rw [List.map_append, h1, List.take_add_one, List.map_append, List.getElem?_eq_getElem hk]
    simp [hq]
  · rw [List.flatMap_append]; simpa using ho
  · intro p hp
    rcases List.mem_append.1 hp with hp | hp
    · have n1 : Nw wb T (fun b => B ≤ b ∧ own.ownBlock ≠ some b) p := (h3 p hp).keep hb
      exact (n1.imp (Q := fun b => (B ≤ b ∧ own.ownBlock ≠ some b) ∧ (B ≤ b ∧ v'.ownBlock ≠ some b)) fun b h1 h2 => ⟨h1, hfin b h1 h2⟩).sv hsv (fun b hb e => hb.1.2 e) |>.imp fun b hb _ => hb.2
    · rw [List.mem_singleton] at hp
      subst hp
      have n1 : Nw wb T (fun b => B ≤ b ∧ own.ownBlock ≠ some b) p := hn.imp fun b hb _ => ⟨by omega, fun e => by have := hlt b e; omega⟩
      exact (n1.imp (Q := fun b => (B ≤ b ∧ own.ownBlock ≠ some b) ∧ (B ≤ b ∧ v'.ownBlock ≠ some b)) fun b h1 h2 => ⟨h1, hfin b h1 h2⟩).sv hsv (fun b hb e => hb.1.2 e) |>.imp fun b hb _ => hb.2
end Go.Proofs.YtfkhfplibhnceaaDoor.Val
