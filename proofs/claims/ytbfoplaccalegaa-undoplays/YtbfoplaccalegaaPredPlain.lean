/- Plain facts on predicates in memory: trees of parts. No program. -/
import Derived.Test.YtbfoplaccalegaaEqV
import Derived.Test.YtbfoplaccalegaaOrderPlain
namespace Go.Proofs.Ytbfoplaccalegaa.Val
open Go Go.RowKit

/-- A predicate as plain data, with the slice in which its parts lie. -/
structure PT where
  op : Int
  col : Int
  v : Val
  w : Val
  lv : Value
  l : List PT
def PT.zero : PT := .mk 0 0 Val.zero Val.zero (.slice none 0 0) []
/-- A predicate as the machine has it. -/
abbrev PV (o c : Int) (t : Bool) (n : Int) (s : ByteArray) (t' : Bool) (n' : Int) (s' : ByteArray) (lv : Value) : Value := .agg #[.int .i64 o, .int .i64 c, .bool t, .int .i64 n, .string s, .bool t', .int .i64 n', .string s', lv]
def PT.val (p : PT) : Value := PV p.op p.col p.v.t p.v.n p.v.s p.w.t p.w.n p.w.s p.lv
def PT.cells (p : PT) : List Value := [.int .i64 p.op, .int .i64 p.col, .bool p.v.t, .int .i64 p.v.n, .string p.v.s, .bool p.w.t, .int .i64 p.w.n, .string p.w.s, p.lv]

/-- Its parts, at all depths, lie in memory. -/
def InN (w : World) : Nat → PT → Prop
  | 0, _ => False
  | n + 1, p => p.v.s.size ≤ maxLen ∧ p.w.s.size ≤ maxLen ∧ Lies w p.lv p.l.length (p.l.flatMap PT.cells) ∧ ∀ q ∈ p.l, InN w n q
def In (w : World) (p : PT) : Prop := ∃ n, InN w n p
theorem InN.mono {w : World} {n m : Nat} {p : PT} (h : InN w n p) (hm : n ≤ m) : InN w m p := by
  induction n generalizing m p with
  | zero => exact h.elim
  | succ n ih =>
    cases m with
    | zero => omega
    | succ m => exact ⟨h.1, h.2.1, h.2.2.1, fun q hq => ih (h.2.2.2 q hq) (by omega)⟩
theorem all_some {α : Type} {f : Nat → α → Prop} (hm : ∀ n m x, f n x → n ≤ m → f m x) (l : List α) (h : ∀ q ∈ l, ∃ n, f n q) : ∃ n, ∀ q ∈ l, f n q := by
  induction l with
  | nil => exact ⟨0, by simp⟩
  | cons x l ih =>
    obtain ⟨n, hn⟩ := ih fun q hq => h q (List.mem_cons_of_mem _ hq)
    obtain ⟨m, hx⟩ := h x (List.mem_cons_self ..)
    refine ⟨n + m, fun q hq => ?_⟩
    rcases List.mem_cons.1 hq with rfl | hq
    · exact hm _ _ _ hx (by omega)
    · exact hm _ _ _ (hn q hq) (by omega)
theorem In.mk {w : World} {o c : Int} {v u : Val} {lv : Value} {l : List PT} (h1 : v.s.size ≤ maxLen) (h2 : u.s.size ≤ maxLen) (h3 : Lies w lv l.length (l.flatMap PT.cells)) (h4 : ∀ p ∈ l, In w p) : In w (.mk o c v u lv l) := by
  obtain ⟨n, hn⟩ := all_some (f := InN w) (fun n m x hx hm => InN.mono hx hm) l h4
  exact ⟨n + 1, h1, h2, h3, hn⟩
theorem In.all {w : World} {p : PT} (h : In w p) : p.v.s.size ≤ maxLen ∧ p.w.s.size ≤ maxLen ∧ Lies w p.lv p.l.length (p.l.flatMap PT.cells) ∧ ∀ q ∈ p.l, In w q := by
  obtain ⟨n, h⟩ := h
  cases n with
  | zero => exact h.elim
  | succ n => exact ⟨h.1, h.2.1, h.2.2.1, fun q hq => ⟨n, h.2.2.2 q hq⟩⟩
theorem In.sv {w : World} {p : PT} (h : In w p) : p.v.s.size ≤ maxLen := h.all.1
theorem In.sw {w : World} {p : PT} (h : In w p) : p.w.s.size ≤ maxLen := h.all.2.1
theorem In.lies {w : World} {p : PT} (h : In w p) : Lies w p.lv p.l.length (p.l.flatMap PT.cells) := h.all.2.2.1
theorem In.part {w : World} {p : PT} (h : In w p) : ∀ q ∈ p.l, In w q := h.all.2.2.2
theorem In.keep {w w' : World} {p : PT} (h : In w p) (hb : Below w.heap.size w w') : In w' p := by
  obtain ⟨n, h⟩ := h
  refine ⟨n, ?_⟩
  induction n generalizing p with
  | zero => exact h.elim
  | succ n ih => exact ⟨h.1, h.2.1, h.2.2.1.below hb, fun q hq => ih (h.2.2.2 q hq)⟩

/-- A list of predicates lies in memory, with all their parts. -/
def InL (w : World) (lv : Value) (l : List PT) : Prop := Lies w lv l.length (l.flatMap PT.cells) ∧ ∀ p ∈ l, In w p
theorem InL.below {w w' : World} {lv : Value} {l : List PT} (h : InL w lv l) (hb : Below w.heap.size w w') : InL w' lv l := ⟨h.1.below hb, fun p hp => (h.2 p hp).keep hb⟩
theorem In.list {w : World} {p : PT} (h : In w p) : InL w p.lv p.l := ⟨h.lies, h.part⟩
/-- The cells of one of a list. -/
structure At (w : World) (b o : Nat) (p : PT) : Prop where
  c0 : w.cell? ⟨b, o, none⟩ = some (.int .i64 p.op)
  c1 : w.cell? ⟨b, o + 1, none⟩ = some (.int .i64 p.col)
  c2 : w.cell? ⟨b, o + 2, none⟩ = some (.bool p.v.t)
  c3 : w.cell? ⟨b, o + 3, none⟩ = some (.int .i64 p.v.n)
  c4 : w.cell? ⟨b, o + 4, none⟩ = some (.string p.v.s)
  c5 : w.cell? ⟨b, o + 5, none⟩ = some (.bool p.w.t)
  c6 : w.cell? ⟨b, o + 6, none⟩ = some (.int .i64 p.w.n)
  c7 : w.cell? ⟨b, o + 7, none⟩ = some (.string p.w.s)
  c8 : w.cell? ⟨b, o + 8, none⟩ = some p.lv
theorem At.below {w w' : World} {b o : Nat} {p : PT} (h : At w b o p) (hb : Below w.heap.size w w') : At w' b o p := by
  have hlt : b < w.heap.size := World.block_lt_of_cell? w _ h.c0
  obtain ⟨c0, c1, c2, c3, c4, c5, c6, c7, c8⟩ := h
  constructor <;> rw [hb.cell hlt] <;> assumption
theorem lies_at {w : World} {ao : Option Addr} {c n : Nat} {l : List PT} (h : Lies w (.slice ao n c) l.length (l.flatMap PT.cells)) (k : Nat) (hk : k < l.length) :
    ∃ b o, ao = some ⟨b, o, none⟩ ∧ At w b (o + k * 9) l[k] := by
  obtain ⟨ao', c', e, h1, h2, h0, h3⟩ := h
  cases e
  have hf : ∀ x : PT, x.cells.length = 9 := fun x => rfl
  rcases h3 with h3 | ⟨b, o, rfl, h3⟩
  · have := flat_length PT.cells 9 hf l; rw [h3] at this; simp at this; omega
  · refine ⟨b, o, rfl, ?_⟩
    have g : ∀ r u, r < 9 → l[k].cells[r]? = some u → w.cell? ⟨b, o + k * 9 + r, none⟩ = some u := by
      intro r u hr hu
      rw [Nat.add_assoc]
      exact h3 (k * 9 + r) u (by rw [flat_at _ 9 hf l k r hk hr]; exact hu)
    exact ⟨g 0 _ (by omega) rfl, g 1 _ (by omega) rfl, g 2 _ (by omega) rfl, g 3 _ (by omega) rfl, g 4 _ (by omega) rfl, g 5 _ (by omega) rfl, g 6 _ (by omega) rfl, g 7 _ (by omega) rfl, g 8 _ (by omega) rfl⟩

/-- How many parts it has. -/
def PT.size : PT → Nat
  | .mk _ _ _ _ _ l => 1 + (l.map PT.size).sum
theorem size_mk (o c : Int) (v w : Val) (lv : Value) (l : List PT) : (PT.mk o c v w lv l).size = 1 + (l.map PT.size).sum := by rw [PT.size]
theorem size_pos (p : PT) : 1 ≤ p.size := by cases p; rw [size_mk]; omega
theorem size_part {p q : PT} (h : q ∈ p.l) : q.size < p.size := by
  cases p with | mk o c v w lv l =>
  rw [size_mk]
  have h' : q ∈ l := h
  clear h
  induction l with
  | nil => simp at h'
  | cons x l ih =>
    simp only [List.map_cons, List.sum_cons]
    rcases List.mem_cons.1 h' with rfl | h'
    · omega
    · have := ih h'; omega
/-- Over the parts. -/
theorem PT.ind {motive : PT → Prop} (h : ∀ p : PT, (∀ q ∈ p.l, motive q) → motive p) (p : PT) : motive p := by
  have : ∀ n, ∀ p : PT, p.size ≤ n → motive p := by
    intro n
    induction n with
    | zero => intro p hp; have := size_pos p; omega
    | succ n ih => intro p hp; exact h p fun q hq => ih q (by have := size_part hq; omega)
  exact this p.size p (Nat.le_refl _)

/-- How the value of a column stands. -/
def standB (op c d : Int) : Bool :=
  if op = 3 then c == 0 else if op = 4 then c != 0 else if op = 5 then decide (c < 0) else if op = 6 then decide (c ≤ 0) else if op = 7 then decide (0 < c) else if op = 8 then decide (0 ≤ c) else if op = 9 then decide (0 ≤ c) && decide (d ≤ 0) else false
def cmpX (x y : Val) : Int := cmpV x.t x.n x.s y.t y.n y.s
def leafB (r : List Val) (op col : Int) (v w : Val) : Bool :=
  if col < 0 then false else match r[col.toNat]? with
    | none => false
    | some x => standB op (cmpX x v) (cmpX x w)
/-- Does it hold of a row? -/
def holdsP (r : List Val) : PT → Bool
  | .mk op col v w _ l =>
    if op = 1 then true else if op = 10 then !(((l.map (holdsP r)).head?).getD false) else if op = 11 then (l.map (holdsP r)).all id else if op = 12 then (l.map (holdsP r)).any id else leafB r op col v w
theorem holds_mk (r : List Val) (op col : Int) (v w : Val) (lv : Value) (l : List PT) : holdsP r (.mk op col v w lv l) =
    if op = 1 then true else if op = 10 then !(((l.map (holdsP r)).head?).getD false) else if op = 11 then (l.map (holdsP r)).all id else if op = 12 then (l.map (holdsP r)).any id else leafB r op col v w := by rw [holdsP]
theorem holds_1 {r : List Val} {p : PT} (h : p.op = 1) : holdsP r p = true := by cases p with | mk o c v u lv l => obtain rfl : o = 1 := h; simp [holds_mk]
theorem holds_10 {r : List Val} {p : PT} (h : p.op = 10) : holdsP r p = !(((p.l.map (holdsP r)).head?).getD false) := by cases p with | mk o c v u lv l => obtain rfl : o = 10 := h; rw [holds_mk, if_neg (by decide), if_pos rfl]
theorem holds_11 {r : List Val} {p : PT} (h : p.op = 11) : holdsP r p = (p.l.map (holdsP r)).all id := by cases p with | mk o c v u lv l => obtain rfl : o = 11 := h; rw [holds_mk, if_neg (by decide), if_neg (by decide), if_pos rfl]
theorem holds_12 {r : List Val} {p : PT} (h : p.op = 12) : holdsP r p = (p.l.map (holdsP r)).any id := by cases p with | mk o c v u lv l => obtain rfl : o = 12 := h; rw [holds_mk, if_neg (by decide), if_neg (by decide), if_neg (by decide), if_pos rfl]
theorem holds_leaf {r : List Val} {p : PT} (h1 : p.op ≠ 1) (h2 : p.op ≠ 10) (h3 : p.op ≠ 11) (h4 : p.op ≠ 12) : holdsP r p = leafB r p.op p.col p.v p.w := by
  cases p with | mk o c v u lv l => 
    have e1 : o ≠ 1 := h1
    have e2 : o ≠ 10 := h2
    have e3 : o ≠ 11 := h3
    have e4 : o ≠ 12 := h4
    rw [holds_mk, if_neg e1, if_neg e2, if_neg e3, if_neg e4]
theorem leaf_low {r : List Val} {op col : Int} {v w : Val} (h : col < 0) : leafB r op col v w = false := by unfold leafB; rw [if_pos h]
theorem leaf_high {r : List Val} {op col : Int} {v w : Val} (h0 : 0 ≤ col) (h : (r.length : Int) ≤ col) : leafB r op col v w = false := by
  unfold leafB; rw [if_neg (by omega), List.getElem?_eq_none (by omega)]
theorem leaf_at {r : List Val} {op : Int} {k : Nat} {v w : Val} (h : k < r.length) : leafB r op (k : Int) v w = standB op (cmpX r[k] v) (cmpX r[k] w) := by
  unfold leafB; rw [if_neg (by omega)]; simp [h]
/-- It, without the places of its parts. -/
def PT.bare : PT → PT
  | .mk o c v w _ l => .mk o c v w (.slice none 0 0) (l.map PT.bare)
theorem bare_mk (o c : Int) (v w : Val) (lv : Value) (l : List PT) : (PT.mk o c v w lv l).bare = .mk o c v w (.slice none 0 0) (l.map PT.bare) := by rw [PT.bare]
theorem map_bare {α : Type} (f : PT → α) (l : List PT) (h : ∀ q ∈ l, f q.bare = f q) : (l.map PT.bare).map f = l.map f := by
  rw [List.map_map]; exact List.map_congr_left h
theorem size_bare (p : PT) : p.bare.size = p.size := by
  induction p using PT.ind with
  | h p ih => cases p with | mk o c v w lv l => rw [bare_mk, size_mk, size_mk, map_bare PT.size l ih]
theorem holds_bare (r : List Val) (p : PT) : holdsP r p.bare = holdsP r p := by
  induction p using PT.ind with
  | h p ih => cases p with | mk o c v w lv l => rw [bare_mk, holds_mk, holds_mk, map_bare (holdsP r) l ih]
theorem size_of_bare {p q : PT} (h : p.bare = q.bare) : p.size = q.size := by rw [← size_bare p, h, size_bare]
theorem holds_of_bare {p q : PT} (h : p.bare = q.bare) (r : List Val) : holdsP r p = holdsP r q := by rw [← holds_bare r p, h, holds_bare]

/-- All blocks but some are as they were. -/
structure Sv (X : Nat → Prop) (w w' : World) : Prop where
  os : w'.os = w.os
  tape : w'.tape = w.tape
  output : w'.output = w.output
  size : w.heap.size ≤ w'.heap.size
  block : ∀ k, k < w.heap.size → ¬ X k → w'.heap[k]? = w.heap[k]?
theorem Sv.refl (X : Nat → Prop) (w : World) : Sv X w w := ⟨rfl, rfl, rfl, Nat.le_refl _, fun _ _ _ => rfl⟩
theorem Sv.trans {X : Nat → Prop} {a b c : World} (h : Sv X a b) (k : Sv X b c) : Sv X a c :=
  ⟨k.os.trans h.os, k.tape.trans h.tape, k.output.trans h.output, Nat.le_trans h.size k.size, fun i hi hx => (k.block i (Nat.lt_of_lt_of_le hi h.size) hx).trans (h.block i hi hx)⟩
theorem Sv.of {X : Nat → Prop} {w w' : World} (h : Below w.heap.size w w') : Sv X w w' := ⟨h.os, h.tape, h.output, h.size, fun k hk _ => h.block k hk⟩
theorem Sv.alloc (X : Nat → Prop) (w : World) (o : Obj) : Sv X w (w.alloc o) := Sv.of ((Below.refl _ _).alloc (Nat.le_refl _) _)
theorem Sv.below {X : Nat → Prop} {w w' : World} (h : Sv X w w') {B : Nat} (hB : B ≤ w.heap.size) (hX : ∀ k, k < B → ¬ X k) : Below B w w' := ⟨h.os, h.tape, h.output, h.size, fun k hk => h.block k (Nat.lt_of_lt_of_le hk hB) (hX k hk)⟩
theorem Sv.cell {X : Nat → Prop} {w w' : World} (h : Sv X w w') {p : Addr} (hp : p.block < w.heap.size) (hx : ¬ X p.block) : w'.cell? p = w.cell? p := World.cell?_of_block (w := w) (h.block p.block hp hx)
theorem Sv.frozen {X : Nat → Prop} {w w' : World} (h : Sv X w w') {p : Addr} (hp : p.block < w.heap.size) (hx : ¬ X p.block) : w'.frozen? p = w.frozen? p := World.frozen?_of_block (w := w) (h.block p.block hp hx)
theorem Sv.set {X : Nat → Prop} {w w' : World} (h : Sv X w w') {a : Addr} (ha : X a.block) (u : Value) : Sv X w (w'.setCell a u) :=
  h.trans ⟨rfl, rfl, rfl, by simp [World.setCell], fun k _ hx => Below.heap_setCell _ _ _ _ fun e => hx (by rw [e]; exact ha)⟩
def Nothing : Nat → Prop := fun _ => False
theorem Sv.pure {w w' : World} (h : Sv Nothing w w') : Below w.heap.size w w' := h.below (Nat.le_refl _) fun _ _ h => h
end Go.Proofs.Ytbfoplaccalegaa.Val
