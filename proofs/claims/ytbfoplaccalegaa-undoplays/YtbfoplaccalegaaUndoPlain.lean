/- A log in memory: its box, its entries, the spots that were met. Plain facts; no function of the program. -/
import Derived.Test.YtbfoplaccalegaaOwnPlain
import Derived.Test.YtbfoplaccalegaaRowOk
import Derived.Test.YtbfoplaccalegaaBack
import Derived.Test.YtbfoplaccalegaaBare
import Derived.Maps.OwnSet
import Derived.DeepKeys3
import Derived.ArgAppend
namespace Go.Proofs.Ytbfoplaccalegaa.Val
open Go Go.RowKit

abbrev TE : TypeId := 36
abbrev TLg : TypeId := 60
abbrev TSp : TypeId := 75
abbrev TMp : TypeId := 55
/-- An entry: its table, its key, its row's values, and where that row lies. -/
structure En where
  t : Int
  k : Val
  xs : List Val
  r : Value
/-- An entry without the place. -/
structure Pe where
  t : Int
  k : Val
  xs : List Val
def En.pe (e : En) : Pe := ⟨e.t, e.k, e.xs⟩
def En.cells (e : En) : List Value := [.int .i64 e.t, .bool e.k.t, .int .i64 e.k.n, .string e.k.s, e.r]
abbrev En.val (e : En) : Value := .agg #[.int .i64 e.t, .bool e.k.t, .int .i64 e.k.n, .string e.k.s, e.r]
theorem En.cells_length (e : En) : e.cells.length = 5 := rfl
abbrev ecells (l : List En) : List Value := l.flatMap En.cells
theorem ecells_length (l : List En) : (ecells l).length = l.length * 5 := flat_length _ 5 En.cells_length l
/-- A table and a key. -/
abbrev Spot := Int × Val
abbrev spotV (s : Spot) : Value := .agg #[.int .i64 s.1, .bool s.2.t, .int .i64 s.2.n, .string s.2.s]
/-- What is told of a spot that was met: an entry without a row. -/
def touE (s : Spot) : En := ⟨s.1, s.2, [], .slice none 0 0⟩
def okS (s : Spot) : Prop := fits s.1 = true ∧ fits s.2.n = true ∧ s.2.s.size ≤ maxLen
/-- A log, as plain data; a savepoint that isn't set is none. -/
structure Lg where
  room : Nat
  es : List En
  s1 : Option Nat
  s2 : Option Nat
  s3 : Option Nat
  met : List Spot
abbrev svB (o : Option Nat) : Value := .bool o.isSome
abbrev svN (o : Option Nat) : Value := .int .i64 ((o.getD 0 : Nat) : Int)
/-- Where a log lies: its own block, its entries, its map, what was met. -/
structure Hl where
  p : Nat
  ev : Value
  mb : Nat
  tv : Value
/-- What a log may turn. -/
def Hl.fp (h : Hl) (a : Addr) : Prop :=
  a.block = h.p ∨ a.block = h.mb ∨ h.tv.ownBlock = some a.block ∨ ∃ n c, h.ev = .slice (some ⟨a.block, 0, none⟩) n c ∧ (n < c ∨ a.off < c * 5)
/-- All cells but some are as they were. -/
structure Kp (F : Addr → Prop) (w w' : World) : Prop where
  os : w'.os = w.os
  tape : w'.tape = w.tape
  output : w'.output = w.output
  size : w.heap.size ≤ w'.heap.size
  block : ∀ k, k < w.heap.size → (∀ o, ¬ F ⟨k, o, none⟩) → w'.heap[k]? = w.heap[k]?
  cell : ∀ b o, b < w.heap.size → ¬ F ⟨b, o, none⟩ → w'.cell? ⟨b, o, none⟩ = w.cell? ⟨b, o, none⟩
theorem Kp.of {F : Addr → Prop} {w w' : World} (h : Below w.heap.size w w') : Kp F w w' :=
  ⟨h.os, h.tape, h.output, h.size, fun k hk _ => h.block k hk, fun b o hb _ => h.cell (p := ⟨b, o, none⟩) hb⟩
/-- A step of a log's. -/
structure Ml (w : World) (h : Hl) (w' : World) (h' : Hl) : Prop where
  kp : Kp h.fp w w'
  own : ∀ a, h'.fp a → h.fp a ∨ w.heap.size ≤ a.block
  p : h'.p = h.p
theorem Ml.of {h : Hl} {w w' : World} (b : Below w.heap.size w w') : Ml w h w' h := ⟨Kp.of b, fun _ x => .inl x, rfl⟩
theorem Ml.refl (h : Hl) (w : World) : Ml w h w h := Ml.of (Below.refl _ _)
theorem Ml.trans {a b c : World} {h i j : Hl} (x : Ml a h b i) (y : Ml b i c j) : Ml a h c j := by
  have no : ∀ q o, q < a.heap.size → ¬ h.fp ⟨q, o, none⟩ → ¬ i.fp ⟨q, o, none⟩ := fun q o hq hn hi => by
    rcases x.own _ hi with h1 | h1
    · exact hn h1
    · simp at h1; omega
  refine ⟨⟨y.kp.os.trans x.kp.os, y.kp.tape.trans x.kp.tape, y.kp.output.trans x.kp.output, Nat.le_trans x.kp.size y.kp.size, fun k hk hn => ?_, fun q o hq hn => ?_⟩, fun p hp => ?_, y.p.trans x.p⟩
  · rw [y.kp.block k (Nat.lt_of_lt_of_le hk x.kp.size) fun o => no k o hk (hn o), x.kp.block k hk hn]
  · rw [y.kp.cell q o (Nat.lt_of_lt_of_le hq x.kp.size) (no q o hq hn), x.kp.cell q o hq hn]
  · rcases y.own p hp with h1 | h1
    · exact x.own p h1
    · exact .inr (Nat.le_trans x.kp.size h1)
/-- A new cell written. -/
theorem Ml.set {w w' : World} {h h' : Hl} (m : Ml w h w' h') {b : Nat} (hb : w.heap.size ≤ b) (j : Nat) (u : Value) : Ml w h (w'.setCell ⟨b, j, none⟩ u) h' := by
  have hk : ∀ k, k < w.heap.size → (w'.setCell ⟨b, j, none⟩ u).heap[k]? = w'.heap[k]? := fun k hk => Below.heap_setCell _ _ _ _ (by simp only; omega)
  refine ⟨⟨m.kp.os, m.kp.tape, m.kp.output, by simp [World.setCell]; exact m.kp.size, fun k h1 hn => by rw [hk k h1]; exact m.kp.block k h1 hn, fun q o h1 hn => ?_⟩, m.own, m.p⟩
  rw [World.cell?_of_block (w := w') (hk q h1)]; exact m.kp.cell q o h1 hn
/-- All that a log may turn lies from a block on. -/
def OwnH (h : Hl) (B : Nat) : Prop := ∀ a, h.fp a → B ≤ a.block
theorem OwnH.ml {w w' : World} {h h' : Hl} {B : Nat} (o : OwnH h B) (m : Ml w h w' h') (hB : B ≤ w.heap.size) : OwnH h' B := fun a ha => by
  rcases m.own a ha with h1 | h1
  · exact o a h1
  · omega
theorem Ml.below {w w' : World} {h h' : Hl} {B : Nat} (m : Ml w h w' h') (o : OwnH h B) (hB : B ≤ w.heap.size) : Below B w w' :=
  ⟨m.kp.os, m.kp.tape, m.kp.output, m.kp.size, fun k hk => m.kp.block k (by omega) fun q hq => by have := o _ hq; simp at this; omega⟩
/-- No cell of a slice is one that the log may turn. -/
def Off (h : Hl) (v : Value) (m : Nat) : Prop := ∀ b o n c, v = .slice (some ⟨b, o, none⟩) n c → ∀ j, j < m → ¬ h.fp ⟨b, o + j, none⟩
/-- Cells lie in a slice, and the log doesn't turn them. -/
def Lk (w : World) (h : Hl) (v : Value) (n : Nat) (xs : List Value) : Prop := Lies w v n xs ∧ Off h v xs.length
theorem Lk.ml {w w' : World} {h h' : Hl} {v : Value} {n : Nat} {xs : List Value} (l : Lk w h v n xs) (m : Ml w h w' h') : Lk w' h' v n xs := by
  obtain ⟨⟨ao, c, rfl, h1, h2, h0, h3⟩, off⟩ := l
  rcases h3 with h3 | ⟨b, o, rfl, h3⟩
  · subst h3
    exact ⟨⟨ao, c, rfl, h1, h2, h0, .inl rfl⟩, fun b o n c _ j hj => by simp at hj⟩
  · refine ⟨⟨_, c, rfl, h1, h2, h0, .inr ⟨b, o, rfl, fun j u hj => ?_⟩⟩, fun b' o' n' c' e j hj hf => ?_⟩
    · have hc := h3 j u hj
      rw [m.kp.cell b (o + j) (World.block_lt_of_cell? w _ hc) (off b o _ _ rfl j (List.getElem?_eq_some_iff.1 hj).1)]; exact hc
    · cases e
      have hc := h3 j _ (List.getElem?_eq_getElem hj)
      have hb := World.block_lt_of_cell? w _ hc
      rcases m.own _ hf with k | k
      · exact off b o _ _ rfl j hj k
      · simp at k hb; omega
theorem Lies.lk {w : World} {h : Hl} {v : Value} {n : Nat} {xs : List Value} (l : Lies w v n xs) (o : OwnH h w.heap.size) : Lk w h v n xs := by
  refine ⟨l, fun b q n' c' e j hj hf => ?_⟩
  obtain ⟨ao, c, rfl, h1, h2, h0, h3⟩ := l
  rcases h3 with h3 | ⟨b', o', rfl, h3⟩
  · rw [h3] at hj; simp at hj
  · cases e
    have hb := World.block_lt_of_cell? w _ (h3 j _ (List.getElem?_eq_getElem hj))
    have := o _ hf
    simp at this hb; omega
/-- The row of an entry lies there, and the log doesn't turn it. -/
def Safe (w : World) (h : Hl) (e : En) : Prop := Lk w h e.r e.xs.length (e.xs.flatMap Val.cells)
theorem Safe.ml {w w' : World} {h h' : Hl} {e : En} (s : Safe w h e) (m : Ml w h w' h') : Safe w' h' e := Lk.ml s m
theorem Safe.row {w : World} {h : Hl} {e : En} (s : Safe w h e) : RowIn w e.r e.xs := s.1
theorem Safe.one {w : World} {h : Hl} {e : En} (s : Safe w h e) : ∃ ao n c, e.r = .slice ao n c := by
  obtain ⟨⟨ao, c, e, _⟩, _⟩ := s
  exact ⟨ao, _, c, e⟩
theorem ecells_one {w : World} {h : Hl} {l : List En} (hs : ∀ e ∈ l, Safe w h e) : ∀ u ∈ ecells l, u.oneCell' = true := by
  intro u hu
  obtain ⟨x, hx, hu⟩ := List.mem_flatMap.1 hu
  obtain ⟨ao, n, c, e⟩ := (hs x hx).one
  simp only [En.cells, e, List.mem_cons, List.not_mem_nil, or_false] at hu
  rcases hu with rfl | rfl | rfl | rfl | rfl <;> rfl
/-- Entries that were answered. -/
def Ans (w : World) (h : Hl) (v : Value) (l : List En) : Prop := Lk w h v l.length (ecells l) ∧ ∀ e ∈ l, Safe w h e
theorem Ans.ml {w w' : World} {h h' : Hl} {v : Value} {l : List En} (s : Ans w h v l) (m : Ml w h w' h') : Ans w' h' v l := ⟨s.1.ml m, fun x hx => (s.2 x hx).ml m⟩
theorem Ans.nil (w : World) (h : Hl) : Ans w h (.slice none 0 0) [] :=
  ⟨⟨⟨none, 0, rfl, Nat.le_refl _, Nat.zero_le _, fun _ => ⟨rfl, rfl⟩, .inl rfl⟩, fun _ _ _ _ e => by cases e⟩, by simp⟩
/-- The log's entries lie in a slice that may have room behind them: then the whole block is its own. -/
def Er (w : World) (v : Value) (n : Nat) (xs : List Value) : Prop :=
  xs.length = n * 5 ∧ ((v = .slice none 0 0 ∧ n = 0) ∨
   ∃ g cap cur, v = .slice (some ⟨g, 0, none⟩) n cap ∧ w.heap[g]? = some (.cells cur TE (0, 0)) ∧ n ≤ cap ∧ cap ≤ maxLen ∧ cap * 5 ≤ cur.size ∧ (n < cap → cur.size = cap * 5) ∧ cur.toList.take (n * 5) = xs)
/-- A log in memory. -/
structure LG (w : World) (h : Hl) (L : Lg) : Prop where
  box : w.heap[h.p]? = some (.cells #[.int .i64 (L.room : Int), h.ev, svB L.s1, svN L.s1, svB L.s2, svN L.s2, svB L.s3, svN L.s3, .map (some h.mb), h.tv] TLg (0, 0))
  ents : Er w h.ev L.es.length (ecells L.es)
  rows : ∀ e ∈ L.es, Safe w h e
  map : ∃ es clock, w.heap[h.mb]? = some (.map es clock) ∧ es.toList.map (·.key) = L.met.map spotV ∧ ∀ e ∈ es.toList, e.val = .agg #[]
  tou : w.ownsRow 0 TE 5 h.tv L.met.length (ecells (L.met.map touE))
  okm : ∀ s ∈ L.met, okS s
  tp : h.tv.ownBlock ≠ some h.p
  ep : h.ev.ownBlock ≠ some h.p
  et : ∀ k, h.ev.ownBlock = some k → h.tv.ownBlock ≠ some k
  room : L.room ≤ 60
  len : L.es.length ≤ L.room
section
variable {w w' : World} {h : Hl} {L : Lg}
theorem LG.lt (g : LG w h L) : ∀ a, h.fp a → a.block < w.heap.size := by
  intro a ha
  rcases ha with e | e | e | ⟨n, c, e, _⟩
  · rw [e]; exact (Array.getElem?_eq_some_iff.1 g.box).1
  · obtain ⟨es, cl, hb, _⟩ := g.map
    rw [e]; exact (Array.getElem?_eq_some_iff.1 hb).1
  · rcases g.tou.2 with ⟨e1, _⟩ | ⟨q, cap, cur, e1, _, hq, _⟩
    · rw [e1] at e; cases e
    · rw [e1] at e; cases e; exact (Array.getElem?_eq_some_iff.1 hq).1
  · rcases g.ents.2 with ⟨e1, _⟩ | ⟨q, cap, cur, e1, hq, _⟩
    · rw [e1] at e; cases e
    · rw [e1] at e
      injection e with e _ _
      injection e with e
      rw [Addr.mk.injEq] at e
      rw [← e.1]; exact (Array.getElem?_eq_some_iff.1 hq).1
theorem LG.ne (g : LG w h L) : h.mb ≠ h.p ∧ h.tv.ownBlock ≠ some h.mb ∧ h.ev.ownBlock ≠ some h.mb := by
  obtain ⟨es, cl, hb, _⟩ := g.map
  refine ⟨fun e => ?_, fun e => ?_, fun e => ?_⟩
  · have := g.box; rw [← e, hb] at this; cases this
  · rcases g.tou.2 with ⟨e1, _⟩ | ⟨q, cap, cur, e1, _, hq, _⟩
    · rw [e1] at e; cases e
    · rw [e1] at e; cases e; rw [hb] at hq; cases hq
  · rcases g.ents.2 with ⟨e1, _⟩ | ⟨q, cap, cur, e1, hq, _⟩
    · rw [e1] at e; cases e
    · rw [e1] at e; cases e; rw [hb] at hq; cases hq
theorem Er.block {v : Value} {n : Nat} {xs : List Value} (e : Er w v n xs) (hb : ∀ k, v.ownBlock = some k → w'.heap[k]? = w.heap[k]?) : Er w' v n xs := by
  refine ⟨e.1, ?_⟩
  rcases e.2 with h1 | ⟨q, cap, cur, rfl, hq, rest⟩
  · exact .inl h1
  · exact .inr ⟨q, cap, cur, rfl, by rw [hb q rfl]; exact hq, rest⟩
theorem owns_block {B : Nat} {T : TypeId} {m : Nat} {v : Value} {n : Nat} {xs : List Value} (e : w.ownsRow B T m v n xs) (hb : ∀ k, v.ownBlock = some k → w'.heap[k]? = w.heap[k]?) : w'.ownsRow B T m v n xs := by
  refine ⟨e.1, ?_⟩
  rcases e.2 with h1 | ⟨q, cap, cur, rfl, hB, hq, rest⟩
  · exact .inl h1
  · exact .inr ⟨q, cap, cur, rfl, hB, by rw [hb q rfl]; exact hq, rest⟩
theorem LG.has (g : LG w h L) : h.p < w.heap.size ∧ h.mb < w.heap.size ∧ (∀ k, h.tv.ownBlock = some k → k < w.heap.size) ∧ (∀ k, h.ev.ownBlock = some k → k < w.heap.size) := by
  refine ⟨g.lt ⟨h.p, 0, none⟩ (.inl rfl), g.lt ⟨h.mb, 0, none⟩ (.inr (.inl rfl)), fun k hk => g.lt ⟨k, 0, none⟩ (.inr (.inr (.inl hk))), fun k hk => ?_⟩
  rcases g.ents.2 with ⟨e1, _⟩ | ⟨q, cap, cur, e1, hq, _⟩
  · rw [e1] at hk; cases hk
  · rw [e1] at hk; cases hk; exact (Array.getElem?_eq_some_iff.1 hq).1
theorem LG.below (g : LG w h L) (b : Below w.heap.size w w') : LG w' h L := by
  obtain ⟨h1, h2, h3, h4⟩ := g.has
  obtain ⟨es, cl, m1, m2, m3⟩ := g.map
  exact ⟨by rw [b.block _ h1]; exact g.box, g.ents.block fun k hk => b.block k (h4 k hk), fun e he => (g.rows e he).ml (Ml.of b), ⟨es, cl, by rw [b.block _ h2]; exact m1, m2, m3⟩,
    owns_block g.tou fun k hk => b.block k (h3 k hk), g.okm, g.tp, g.ep, g.et, g.room, g.len⟩
theorem LG.cells (g : LG w h L) (j : Nat) : w.cell? ⟨h.p, j, none⟩ = #[.int .i64 (L.room : Int), h.ev, svB L.s1, svN L.s1, svB L.s2, svN L.s2, svB L.s3, svN L.s3, .map (some h.mb), h.tv][j]? :=
  cell_of_row w h.p j _ TLg (0, 0) g.box
theorem LG.frozen (g : LG w h L) (j : Nat) : w.frozen? ⟨h.p, j, none⟩ = false := by
  simp [World.frozen?, g.box]
/-- How many entries, as the slice says it. -/
theorem LG.slice (g : LG w h L) : ∃ ao c, h.ev = .slice ao L.es.length c ∧ L.es.length ≤ c := by
  rcases g.ents.2 with ⟨a, b⟩ | ⟨q, cap, cur, a, _, hc, _⟩
  · exact ⟨none, 0, by rw [a, b], by omega⟩
  · exact ⟨_, cap, a, hc⟩
theorem LG.tslice (g : LG w h L) : ∃ ao c, h.tv = .slice ao L.met.length c := by
  rcases g.tou.2 with ⟨a, b⟩ | ⟨q, cap, cur, a, _⟩
  · exact ⟨none, 0, by rw [a, b]⟩
  · exact ⟨_, cap, a⟩
end
end Go.Proofs.Ytbfoplaccalegaa.Val
