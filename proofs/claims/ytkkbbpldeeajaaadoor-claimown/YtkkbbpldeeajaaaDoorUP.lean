/- Plain: a predicate's parts gone through with a count, as long as they pass. No program. -/
import Derived.Test.YtkkbbpldeeajaaaDoorU1
import Derived.Maps.AppendAt
import Derived.OwnWalk
import Derived.Deep.RegionHeld3
import Derived.Laws.EntriesVeiled
namespace Go.Proofs.YtkkbbpldeeajaaaDoor.Val
open Go Go.RowKit

/-- One behind the other, as long as they pass. -/
def evF : List (Nat → Bool × Nat) → Nat → Bool × Nat
  | [], n => (true, n)
  | f :: fs, n => if (f n).1 then evF fs (f n).2 else (false, (f n).2)
def evA (g : Nat → PT → Bool) : PT → Nat → Bool × Nat
  | .mk o c v w lv l => fun n => if g (n + 1) (.mk o c v w lv l) then evF (l.map (evA g)) (n + 1) else (false, n + 1)
/-- Whether the parts pass, and the count behind it. -/
def ev (g : Nat → PT → Bool) (n : Nat) (p : PT) : Bool × Nat := evA g p n
def evL (g : Nat → PT → Bool) (n : Nat) (l : List PT) : Bool × Nat := evF (l.map (evA g)) n
theorem ev_mk (g : Nat → PT → Bool) (n : Nat) (p : PT) : ev g n p = if g (n + 1) p then evL g (n + 1) p.l else (false, n + 1) := by cases p; rw [ev, evA]; rfl
theorem ev_yes {g : Nat → PT → Bool} {n : Nat} {p : PT} (h : g (n + 1) p = true) : ev g n p = evL g (n + 1) p.l := by rw [ev_mk, if_pos h]
theorem ev_no {g : Nat → PT → Bool} {n : Nat} {p : PT} (h : g (n + 1) p = false) : ev g n p = (false, n + 1) := by rw [ev_mk, if_neg (by simp [h])]
theorem evL_nil (g : Nat → PT → Bool) (n : Nat) : evL g n [] = (true, n) := rfl
theorem evL_cons (g : Nat → PT → Bool) (n : Nat) (q : PT) (l : List PT) : evL g n (q :: l) = if (ev g n q).1 then evL g (ev g n q).2 l else (false, (ev g n q).2) := rfl
/-- The count ahead of the i-th of a list. -/
def nAt (g : Nat → PT → Bool) : Nat → List PT → Nat → Nat
  | n, [], _ => n
  | n, _ :: _, 0 => n
  | n, q :: l, i + 1 => nAt g (ev g n q).2 l i
theorem nAt_zero (g : Nat → PT → Bool) (n : Nat) (l : List PT) : nAt g n l 0 = n := by cases l <;> rfl
theorem nAt_succ (g : Nat → PT → Bool) (n : Nat) (l : List PT) (i : Nat) (hi : i < l.length) : nAt g n l (i + 1) = (ev g (nAt g n l i) l[i]).2 := by
  induction l generalizing n i with
  | nil => simp at hi
  | cons q l ih =>
    cases i with
    | zero => simp [nAt, nAt_zero]
    | succ i => simpa [nAt] using ih (ev g n q).2 i (by simpa using hi)
theorem evL_all (g : Nat → PT → Bool) (n : Nat) (l : List PT) (h : ∀ (j : Nat) (hj : j < l.length), (ev g (nAt g n l j) l[j]).1 = true) : evL g n l = (true, nAt g n l l.length) := by
  induction l generalizing n with
  | nil => rfl
  | cons q l ih =>
    have h0 := h 0 (by simp)
    simp only [nAt_zero, List.getElem_cons_zero] at h0
    rw [evL_cons, if_pos h0, ih (ev g n q).2 (fun j hj => h (j + 1) (by simpa using hj))]
    rfl
theorem evL_stop (g : Nat → PT → Bool) (n : Nat) (l : List PT) (k : Nat) (hk : k < l.length) (h : ∀ (j : Nat) (hj : j < k), (ev g (nAt g n l j) (l[j]'(by omega))).1 = true) (hf : (ev g (nAt g n l k) l[k]).1 = false) : evL g n l = (false, nAt g n l (k + 1)) := by
  induction l generalizing n k with
  | nil => simp at hk
  | cons q l ih =>
    cases k with
    | zero =>
      simp only [nAt_zero, List.getElem_cons_zero] at hf
      rw [evL_cons, if_neg (by simp [hf])]
      simp [nAt, nAt_zero]
    | succ k =>
      have h0 := h 0 (by omega)
      simp only [nAt_zero, List.getElem_cons_zero] at h0
      rw [evL_cons, if_pos h0, ih (ev g n q).2 k (by simpa using hk) (fun j hj => h (j + 1) (by omega)) hf]
      simp [nAt]
def sizeL (l : List PT) : Nat := (l.map PT.size).sum
theorem sizeL_cons (q : PT) (l : List PT) : sizeL (q :: l) = q.size + sizeL l := by simp [sizeL]
theorem size_l (p : PT) : p.size = 1 + sizeL p.l := by cases p; rw [size_mk]; rfl
theorem evL_le {g : Nat → PT → Bool} (l : List PT) (h : ∀ q ∈ l, ∀ n, (ev g n q).2 ≤ n + q.size) (n : Nat) : (evL g n l).2 ≤ n + sizeL l := by
  induction l generalizing n with
  | nil => rw [evL_nil]; simp
  | cons q l ih =>
    have h0 := h q (List.mem_cons_self ..) n
    have h1 := ih (fun q' hq' => h q' (List.mem_cons_of_mem _ hq')) (ev g n q).2
    rw [evL_cons, sizeL_cons]
    split
    · omega
    · simp only; omega
theorem ev_le (g : Nat → PT → Bool) (p : PT) : ∀ n, (ev g n p).2 ≤ n + p.size := by
  induction p using PT.ind with
  | h p ih =>
    intro n
    have := evL_le p.l ih (n + 1)
    rw [ev_mk, size_l]
    split
    · omega
    · simp only; omega
theorem nAt_le (g : Nat → PT → Bool) (l : List PT) (n i : Nat) (hi : i < l.length) : nAt g n l i + l[i].size ≤ n + sizeL l := by
  induction l generalizing n i with
  | nil => simp at hi
  | cons q l ih =>
    rw [sizeL_cons]
    cases i with
    | zero => simp [nAt_zero]
    | succ i =>
      have := ih (ev g n q).2 i (by simpa using hi)
      have h0 := ev_le g q n
      simp only [nAt, List.getElem_cons_succ]
      omega
/-- Where all pass. -/
theorem evL_true (l : List PT) (h : ∀ q ∈ l, ∀ n, ev (fun _ _ => true) n q = (true, n + q.size)) (n : Nat) : evL (fun _ _ => true) n l = (true, n + sizeL l) := by
  induction l generalizing n with
  | nil => rw [evL_nil]; simp [sizeL]
  | cons q l ih => rw [evL_cons, h q (List.mem_cons_self ..) n, if_pos rfl, ih (fun q' hq' => h q' (List.mem_cons_of_mem _ hq')), sizeL_cons]; simp only [Prod.mk.injEq, true_and]; omega
theorem ev_true (p : PT) : ∀ n, ev (fun _ _ => true) n p = (true, n + p.size) := by
  induction p using PT.ind with
  | h p ih => intro n; rw [ev_mk, if_pos rfl, evL_true p.l ih, size_l]; simp only [Prod.mk.injEq, true_and]; omega
/-- Whether all parts, at all depths, are right by themselves. -/
def okP (s : PT → Bool) : PT → Bool
  | .mk o c v w lv l => s (.mk o c v w lv l) && (l.map (okP s)).all id
theorem okP_mk (s : PT → Bool) (p : PT) : okP s p = (s p && (p.l.map (okP s)).all id) := by cases p; rw [okP]
def upto (s : PT → Bool) (n : Nat) (p : PT) : Bool := decide (n ≤ 15) && s p
theorem ev_upto (s : PT → Bool) (p : PT) : ∀ n, ((ev (upto s) n p).1 = true ↔ n + p.size ≤ 15 ∧ okP s p = true) ∧ ((ev (upto s) n p).1 = true → (ev (upto s) n p).2 = n + p.size) := by
  induction p using PT.ind with
  | h p ih =>
    have hL : ∀ l : List PT, (∀ q ∈ l, q ∈ p.l) → ∀ n, n ≤ 15 → ((evL (upto s) n l).1 = true ↔ n + sizeL l ≤ 15 ∧ (l.map (okP s)).all id = true) ∧ ((evL (upto s) n l).1 = true → (evL (upto s) n l).2 = n + sizeL l) := by
      intro l
      induction l with
      | nil => intro _ n hn; rw [evL_nil]; simp [sizeL]; omega
      | cons q l ihl =>
        intro hm n hn
        obtain ⟨q1, q2⟩ := ih q (hm q (List.mem_cons_self ..)) n
        rw [evL_cons, sizeL_cons]
        cases hq : (ev (upto s) n q).1
        · rw [hq] at q1
          simp only [Bool.false_eq_true, if_false, false_iff, not_and] at q1 ⊢
          refine ⟨fun h1 h2 => ?_, fun h => by cases h⟩
          rw [List.map_cons, List.all_cons, Bool.and_eq_true] at h2
          exact q1 (by omega) h2.1
        · have e2 := q2 hq
          obtain ⟨a1, a2⟩ := q1.1 hq
          obtain ⟨r1, r2⟩ := ihl (fun x hx => hm x (List.mem_cons_of_mem _ hx)) (ev (upto s) n q).2 (by omega)
          rw [if_pos rfl, e2] at *
          refine ⟨?_, fun h => by rw [r2 h]; omega⟩
          rw [r1, List.map_cons, List.all_cons, Bool.and_eq_true]
          simp only [id, a2, true_and]
          constructor
          · rintro ⟨x, y⟩; exact ⟨by omega, y⟩
          · rintro ⟨x, y⟩; exact ⟨by omega, y⟩
    intro n
    rw [ev_mk, okP_mk, size_l]
    by_cases hn : n + 1 ≤ 15
    · cases hs : s p
      · have hu : upto s (n + 1) p = false := by simp [upto, hs]
        simp [hu]
      · have hu : upto s (n + 1) p = true := by simp [upto, hs, hn]
        obtain ⟨r1, r2⟩ := hL p.l (fun _ h => h) (n + 1) hn
        rw [if_pos hu]
        refine ⟨?_, fun h => by rw [r2 h]; omega⟩
        rw [r1, Bool.true_and]
        constructor
        · rintro ⟨x, y⟩; exact ⟨by omega, y⟩
        · rintro ⟨x, y⟩; exact ⟨by omega, y⟩
    · have hu : upto s (n + 1) p = false := by simp [upto, hn]
      rw [if_neg (by simp [hu])]
      simp only [Bool.false_eq_true, false_iff, not_and]
      exact ⟨fun h => by omega, fun h => by cases h⟩
end Go.Proofs.YtkkbbpldeeajaaaDoor.Val
/- Plain: predicates in memory of the call's own. No program. -/
namespace Go.Proofs.YtkkbbpldeeajaaaDoor.Val
open Go Go.RowKit

/-- Its parts lie, at all depths, in rows of the call's own, whose blocks are of some kind. -/
def NewN (w : World) (T : TypeId) (P : Nat → Prop) : Nat → PT → Prop
  | 0, _ => False
  | n + 1, p => p.v.s.size ≤ maxLen ∧ p.w.s.size ≤ maxLen ∧ w.ownsRow 0 T 9 p.lv p.l.length (p.l.flatMap PT.cells) ∧ (∀ g, p.lv.ownBlock = some g → P g) ∧ ∀ q ∈ p.l, NewN w T P n q
def New (w : World) (T : TypeId) (P : Nat → Prop) (p : PT) : Prop := ∃ n, NewN w T P n p
theorem NewN.mono {w : World} {T : TypeId} {P : Nat → Prop} {n m : Nat} {p : PT} (h : NewN w T P n p) (hm : n ≤ m) : NewN w T P m p := by
  induction n generalizing m p with
  | zero => exact h.elim
  | succ n ih =>
    cases m with
    | zero => omega
    | succ m => exact ⟨h.1, h.2.1, h.2.2.1, h.2.2.2.1, fun q hq => ih (h.2.2.2.2 q hq) (by omega)⟩
theorem New.mk {w : World} {T : TypeId} {P : Nat → Prop} {o c : Int} {v u : Val} {lv : Value} {l : List PT} (h1 : v.s.size ≤ maxLen) (h2 : u.s.size ≤ maxLen) (h3 : w.ownsRow 0 T 9 lv l.length (l.flatMap PT.cells)) (h4 : ∀ g, lv.ownBlock = some g → P g) (h5 : ∀ p ∈ l, New w T P p) : New w T P (.mk o c v u lv l) := by
  obtain ⟨n, hn⟩ := all_some (f := NewN w T P) (fun n m x hx hm => NewN.mono hx hm) l h5
  exact ⟨n + 1, h1, h2, h3, h4, hn⟩
def NewL (w : World) (T : TypeId) (P : Nat → Prop) (lv : Value) (l : List PT) : Prop := w.ownsRow 0 T 9 lv l.length (l.flatMap PT.cells) ∧ (∀ g, lv.ownBlock = some g → P g) ∧ ∀ p ∈ l, New w T P p
theorem owns_sv {X : Nat → Prop} {w w' : World} {b s : Nat} {T : TypeId} {v : Value} {n : Nat} {xs : List Value} (h : w.ownsRow b T s v n xs) (hs : Sv X w w') (hx : ∀ g, v.ownBlock = some g → ¬ X g) : w'.ownsRow b T s v n xs := by
  refine ⟨h.1, ?_⟩
  rcases h.2 with hn | ⟨g, cap, cur, rfl, hb, hg, rest⟩
  · exact .inl hn
  · refine .inr ⟨g, cap, cur, rfl, hb, ?_, rest⟩
    rw [hs.block g (Array.getElem?_eq_some_iff.1 hg).1 (hx g rfl)]; exact hg
theorem owns_base {w : World} {b b' s : Nat} {T : TypeId} {v : Value} {n : Nat} {xs : List Value} (h : w.ownsRow b T s v n xs) (hb : ∀ g, v.ownBlock = some g → b' ≤ g) : w.ownsRow b' T s v n xs := by
  refine ⟨h.1, ?_⟩
  rcases h.2 with hn | ⟨g, cap, cur, rfl, _, rest⟩
  · exact .inl hn
  · exact .inr ⟨g, cap, cur, rfl, hb g rfl, rest⟩
theorem owns_lies {w : World} {b s : Nat} {T : TypeId} {v : Value} {n : Nat} {xs : List Value} (h : w.ownsRow b T s v n xs) : Lies w v n xs := by
  rcases h.2 with ⟨rfl, rfl⟩ | ⟨g, cap, cur, rfl, hb, hg, hn, hm, hs, ht⟩
  · have : xs = [] := List.eq_nil_of_length_eq_zero (by rw [h.1]; simp)
    subst this
    exact ⟨none, 0, rfl, Nat.le_refl _, Nat.zero_le _, fun _ => ⟨rfl, rfl⟩, .inl rfl⟩
  · refine ⟨some ⟨g, 0, none⟩, cap, rfl, hn, hm, fun h => (by cases h), .inr ⟨g, 0, rfl, fun j u hj => ?_⟩⟩
    have := World.ownsRow.cells h (g := g) rfl j u hj
    rw [Addr.add_lit] at this
    exact this
theorem New.row {w : World} {T : TypeId} {P : Nat → Prop} {p : PT} (h : New w T P p) : NewL w T P p.lv p.l := by
  obtain ⟨n, h⟩ := h
  cases n with
  | zero => exact h.elim
  | succ n => exact ⟨h.2.2.1, h.2.2.2.1, fun q hq => ⟨n, h.2.2.2.2 q hq⟩⟩
theorem New.isIn {w : World} {T : TypeId} {P : Nat → Prop} {p : PT} (h : New w T P p) : In w p := by
  obtain ⟨n, h⟩ := h
  refine ⟨n, ?_⟩
  induction n generalizing p with
  | zero => exact h.elim
  | succ n ih => exact ⟨h.1, h.2.1, owns_lies h.2.2.1, fun q hq => ih (h.2.2.2.2 q hq)⟩
theorem New.sv {X : Nat → Prop} {w w' : World} {T : TypeId} {P : Nat → Prop} {p : PT} (h : New w T P p) (hs : Sv X w w') (hx : ∀ b, P b → ¬ X b) : New w' T P p := by
  obtain ⟨n, h⟩ := h
  refine ⟨n, ?_⟩
  induction n generalizing p with
  | zero => exact h.elim
  | succ n ih => exact ⟨h.1, h.2.1, owns_sv h.2.2.1 hs fun g hg => hx g (h.2.2.2.1 g hg), h.2.2.2.1, fun q hq => ih (h.2.2.2.2 q hq)⟩
theorem New.imp {w : World} {T : TypeId} {P Q : Nat → Prop} {p : PT} (h : New w T P p) (hq : ∀ b, P b → b < w.heap.size → Q b) : New w T Q p := by
  obtain ⟨n, h⟩ := h
  refine ⟨n, ?_⟩
  induction n generalizing p with
  | zero => exact h.elim
  | succ n ih => exact ⟨h.1, h.2.1, h.2.2.1, fun g hg => hq g (h.2.2.2.1 g hg) (World.ownsRow.lt h.2.2.1 g hg).2, fun q hq' => ih (h.2.2.2.2 q hq')⟩
theorem New.keep {w w' : World} {T : TypeId} {P : Nat → Prop} {p : PT} (h : New w T P p) (hb : Below w.heap.size w w') : New w' T P p := h.sv (X := Nothing) (Sv.of hb) fun _ _ h => h
theorem NewL.imp {w : World} {T : TypeId} {P Q : Nat → Prop} {lv : Value} {l : List PT} (h : NewL w T P lv l) (hq : ∀ b, P b → b < w.heap.size → Q b) : NewL w T Q lv l :=
  ⟨h.1, fun g hg => hq g (h.2.1 g hg) (World.ownsRow.lt h.1 g hg).2, fun p hp => (h.2.2 p hp).imp hq⟩
theorem NewL.below {w w' : World} {T : TypeId} {P : Nat → Prop} {lv : Value} {l : List PT} (h : NewL w T P lv l) (hb : Below w.heap.size w w') : NewL w' T P lv l :=
  ⟨owns_sv h.1 (Sv.of (X := Nothing) hb) (fun _ _ h => h), h.2.1, fun p hp => (h.2.2 p hp).keep hb⟩
theorem NewL.isIn {w : World} {T : TypeId} {P : Nat → Prop} {lv : Value} {l : List PT} (h : NewL w T P lv l) : InL w lv l := ⟨owns_lies h.1, fun p hp => (h.2.2 p hp).isIn⟩
theorem NewL.slice {w : World} {T : TypeId} {P : Nat → Prop} {lv : Value} {l : List PT} (h : NewL w T P lv l) : ∃ ao c, lv = .slice ao l.length c := by
  obtain ⟨ao, c, e, _⟩ := (owns_lies h.1).slice; exact ⟨ao, c, e⟩
theorem cells_flat (l : List PT) : (l.flatMap PT.cells).length = l.length * 9 := flat_length PT.cells 9 (fun _ => rfl) l
/-- Copies so far: of the first k of a list. -/
def CL (w wr : World) (T : TypeId) (l : List PT) (k : Nat) (own : Value) : Prop :=
  ∃ m : List PT, m.map PT.bare = (l.take k).map PT.bare ∧ wr.ownsRow w.heap.size T 9 own k (m.flatMap PT.cells) ∧ (∀ q ∈ m, New wr T (fun b => w.heap.size ≤ b ∧ own.ownBlock ≠ some b) q) ∧ Below w.heap.size w wr
theorem CL.start (w : World) (T : TypeId) (l : List PT) : CL w w T l 0 (.slice none 0 0) := ⟨[], by simp, World.ownsRow_nil _ _ _ _, by simp, Below.refl _ _⟩
theorem CL.done {w wr : World} {T : TypeId} {l : List PT} {own : Value} (h : CL w wr T l l.length own) : ∃ m : List PT, m.map PT.bare = l.map PT.bare ∧ NewL wr T (fun b => w.heap.size ≤ b) own m ∧ Below w.heap.size w wr := by
  obtain ⟨m, h1, h2, h3, h4⟩ := h
  rw [List.take_length] at h1
  have hlen : m.length = l.length := by have := congrArg List.length h1; simpa using this
  refine ⟨m, h1, ⟨?_, fun g hg => (World.ownsRow.lt h2 g hg).1, fun p hp => (h3 p hp).imp fun b hb _ => hb.1⟩, h4⟩
  rw [hlen]
  exact owns_base h2 fun g hg => Nat.zero_le _
/-- What the append is handed. -/
theorem CL.owns {w wr wb : World} {T : TypeId} {l : List PT} {k : Nat} {own : Value} (h : CL w wr T l k own) (hb : Below wr.heap.size wr wb) : ∃ m : List PT, wb.ownsRow w.heap.size T 9 own k (m.flatMap PT.cells) ∧ w.heap.size ≤ wb.heap.size ∧
    ∀ (q : PT) (wa w2 : World) (v' : Value) (hk : k < l.length), Below wr.heap.size wr wa → Below wa.heap.size wa wb → q.bare = l[k].bare → New wb T (fun b => wa.heap.size ≤ b) q → w2.ownsRow w.heap.size T 9 v' (k + 1) (m.flatMap PT.cells ++ q.cells) → wb.grownBy w2 own.ownBlock → (v'.ownBlock = own.ownBlock ∨ v'.ownBlock = some wb.heap.size) → CL w w2 T l (k + 1) v' := by
  obtain ⟨m, h1, h2, h3, h4⟩ := h
  have h2' : wb.ownsRow w.heap.size T 9 own k (m.flatMap PT.cells) := owns_sv (X := Nothing) h2 (Sv.of hb) fun _ _ h => h
  refine ⟨m, h2', Nat.le_trans h4.size hb.size, fun q wa w2 v' hk ha hab hq hn ho hg hat => ?_⟩
  have hsv : Sv (fun b => own.ownBlock = some b) wb w2 := ⟨hg.os, hg.tape, hg.output, hg.size, fun b hb hx => hg.block b hb fun e => hx e.symm⟩
  have hlt : ∀ g, own.ownBlock = some g → w.heap.size ≤ g ∧ g < wr.heap.size := World.ownsRow.lt h2
  have hsize := ha.size
  have hfin : ∀ b, w.heap.size ≤ b ∧ own.ownBlock ≠ some b → b < wb.heap.size → w.heap.size ≤ b ∧ v'.ownBlock ≠ some b := fun b hb1 hb2 => ⟨hb1.1, fun e => by
    rcases hat with hat | hat
    · exact hb1.2 (by rw [← hat]; exact e)
    · rw [hat] at e; have := Option.some.inj e; omega⟩
  refine ⟨m ++ [q], ?_, ?_, ?_, ?_⟩
  · rw [List.map_append, h1, List.take_add_one, List.map_append, List.getElem?_eq_getElem hk]
    simp [hq]
  · rw [List.flatMap_append]; simpa using ho
  · intro p hp
    rcases List.mem_append.1 hp with hp | hp
    · have n1 : New wb T (fun b => w.heap.size ≤ b ∧ own.ownBlock ≠ some b) p := (h3 p hp).keep hb
      exact (n1.imp (Q := fun b => (w.heap.size ≤ b ∧ own.ownBlock ≠ some b) ∧ (w.heap.size ≤ b ∧ v'.ownBlock ≠ some b)) fun b h1 h2 => ⟨h1, hfin b h1 h2⟩).sv hsv (fun b hb e => hb.1.2 e) |>.imp fun b hb _ => hb.2
    · rw [List.mem_singleton] at hp
      subst hp
      have n1 : New wb T (fun b => w.heap.size ≤ b ∧ own.ownBlock ≠ some b) p := hn.imp fun b hb _ => ⟨by have := h4.size; omega, fun e => by have := hlt b e; omega⟩
      exact (n1.imp (Q := fun b => (w.heap.size ≤ b ∧ own.ownBlock ≠ some b) ∧ (w.heap.size ≤ b ∧ v'.ownBlock ≠ some b)) fun b h1 h2 => ⟨h1, hfin b h1 h2⟩).sv hsv (fun b hb e => hb.1.2 e) |>.imp fun b hb _ => hb.2
  · exact (h4.trans (hb.mono h4.size)).trans (hsv.below (Nat.le_trans h4.size hb.size) fun b hb e => by have := hlt b e; omega)
end Go.Proofs.YtkkbbpldeeajaaaDoor.Val
/- Words on predicates in memory of the call's own: the type's facts, cells of a new one. -/
namespace Go.Proofs.YtkkbbpldeeajaaaDoor.Val
open Go.RowKit

abbrev TP : TypeId := 29
theorem info_P : (Tryd.prog.info? 29).map (fun i => (i.zero, i.size, i.bytes)) = some (some (PV 0 0 false 0 ⟨#[]⟩ false 0 ⟨#[]⟩ (.slice none 0 0)), 9, 104) := by kernel_rfl
theorem sizeL_mem {l : List PT} {q : PT} (h : q ∈ l) : q.size ≤ sizeL l := by
  induction l with
  | nil => simp at h
  | cons x l ih =>
    rw [sizeL_cons]
    rcases List.mem_cons.1 h with rfl | h
    · omega
    · have := ih h; omega
theorem length_sizeL (l : List PT) : l.length ≤ sizeL l := by
  induction l with
  | nil => simp
  | cons x l ih => rw [sizeL_cons, List.length_cons]; have := size_pos x; omega
theorem one_cells (q : PT) (ao : Option Addr) (n c : Nat) (h : q.lv = .slice ao n c) : ∀ u ∈ q.cells, u.oneCell' = true := by
  intro u hu
  simp only [PT.cells, h, List.mem_cons, List.not_mem_nil, or_false] at hu
  rcases hu with rfl | rfl | rfl | rfl | rfl | rfl | rfl | rfl | rfl <;> rfl
theorem new_cells (w : World) (q : PT) (T : TypeId) : ∀ j u, q.cells[j]? = some u → (w.alloc (pobj q T)).cell? ((⟨w.heap.size, 0, none⟩ : Addr).add j) = some u := by
  intro j u hj
  rw [Addr.add_lit, Nat.zero_add, cell_of_row (w.alloc _) w.heap.size j _ T (0, 0) (heap_alloc_new w _)]
  simpa [PT.cells] using hj
theorem bare_of {p : PT} {lv : Value} {m : List PT} (h : m.map PT.bare = p.l.map PT.bare) : (PT.mk p.op p.col p.v p.w lv m).bare = p.bare := by
  cases p with | mk o c v u lv' l => rw [bare_mk, bare_mk]; exact congrArg _ h
end Go.Proofs.YtkkbbpldeeajaaaDoor.Val
/- What slices.IndexFunc, ContainsFunc and pred.all answer of a list of predicates, whatever function they are handed. -/
namespace Go.Proofs.YtkkbbpldeeajaaaDoor.Val
open Go.RowKit

set_option maxHeartbeats 1000000 in
theorem index_any (f : FuncId) (first cap : Array Value) (lv : Value) (l : List PT) (w : World) (X : Nat → Prop) (I : Nat → World → Prop) (g : Nat → Bool) (hI : I 0 w) (hE : Enters f)
    (hl : ∀ i w1, I i w1 → Lies w1 lv l.length (l.flatMap PT.cells))
    (hc : ∀ (i : Nat) (hi : i < l.length) (w1 : World), I i w1 → Calls Tryd.prog f (first.push l[i].val ++ cap) w1 fun e w2 => e = .returned (.bool (g i)) ∧ I (i + 1) w2 ∧ Sv X w1 w2) :
    Calls Tryd.prog 89 #[lv, FV f first cap] w fun e w' => Sv X w w' ∧
      ((∃ k : Nat, k < l.length ∧ g k = true ∧ (∀ j, j < k → g j = false) ∧ e = .returned (.int .i64 k) ∧ I (k + 1) w') ∨ ((∀ j, j < l.length → g j = false) ∧ e = .returned (.int .i64 (-1)) ∧ I l.length w')) := by
  obtain ⟨ao, c, rfl, hn⟩ := (hl 0 w hI).slice
  have HL : Hid _ := hl
  have HC : Hid _ := hc
  clear hl hc
  go_enter Tryd.func89, Tryd.ntmps89
  go_wp2_with fail
  go_loopw [8] (fun i wr => ∃ k : Nat, k ≤ l.length ∧ i = .int .i64 k ∧ Hid (∀ j, j < k → g j = false) ∧ Hid (I k wr) ∧ Hid (Sv X w wr))
    (fun i _ => l.length - (intOf i).toNat)
  case atStart => exact ⟨0, Nat.zero_le _, rfl, fun j hj => by omega, hI, Sv.refl _ _⟩
  case round =>
    clear hI
    obtain ⟨k, hk, rfl, HG, HI, HS⟩ := hrel
    by_cases h1 : k < l.length
    · have i0 : (0 : Int) ≤ (k : Int) := by omega
      have i1 : (k : Int) < (l.length : Int) := by omega
      obtain ⟨b, o, rfl, hat⟩ := lies_at (HL.out k wr HI.out) k h1
      obtain ⟨c0, c1, c2, c3, c4, c5, c6, c7, c8⟩ := hat
      have HC1 : Hid _ := HC.out k h1 wr HI.out
      have hE' : ∀ args w, (callFunc f args).run Tryd.prog w = .ok (.enter f args) w := hE
      clear HC HL hE
      cases hg : g k
      · rw [hg] at HC1
        go_wp2_with fail
        refine Calls.mono HC1.out ?_
        rintro e w1 ⟨rfl, hI1, hs1⟩
        have HI1 : Hid (I (k + 1) w1) := hI1
        have HS1 : Hid (Sv X w w1) := HS.out.trans hs1
        have HG1 : Hid (∀ j, j < k + 1 → g j = false) := fun j hj => by
          rcases Nat.lt_succ_iff_lt_or_eq.1 hj with h | rfl
          · exact HG.out j h
          · exact hg
        clear hI1 hs1 HC1 HG HI HS hg hE'
        go_wp2_with fail
        go_roundw
        case rel => exact ⟨k + 1, by omega, by go_num, HG1, HI1, HS1⟩
        case measure => simp [intOf]; omega
      · rw [hg] at HC1
        go_wp2_with fail
        refine Calls.mono HC1.out ?_
        rintro e w1 ⟨rfl, hI1, hs1⟩
        have HI1 : Hid (I (k + 1) w1) := hI1
        have HS1 : Hid (Sv X w w1) := HS.out.trans hs1
        clear hI1 hs1 HC1 HI HS hE'
        go_wp2_with fail
        go_ret
        exact ⟨HS1.out, .inl ⟨k, h1, hg, HG.out, rfl, HI1.out⟩⟩
    · have i1 : decide ((k : Int) < (l.length : Int)) = false := by simp; omega
      obtain rfl : k = l.length := by omega
      clear HC HL hE
      go_wp2_with fail
      go_ret
      exact ⟨HS.out, .inr ⟨HG.out, rfl, HI.out⟩⟩
end Go.Proofs.YtkkbbpldeeajaaaDoor.Val
/- What slices.ContainsFunc and pred.all answer of a list of predicates, whatever function they are handed. -/
namespace Go.Proofs.YtkkbbpldeeajaaaDoor.Val
open Go.RowKit

theorem enters_all1 : Enters 88 := enters_of Tryd.func88 (by decide +kernel) rfl
set_option maxHeartbeats 1000000 in
theorem contains_any (f : FuncId) (first cap : Array Value) (lv : Value) (l : List PT) (w : World) (X : Nat → Prop) (I : Nat → World → Prop) (g : Nat → Bool) (hI : I 0 w) (hE : Enters f)
    (hl : ∀ i w1, I i w1 → Lies w1 lv l.length (l.flatMap PT.cells))
    (hc : ∀ (i : Nat) (hi : i < l.length) (w1 : World), I i w1 → Calls Tryd.prog f (first.push l[i].val ++ cap) w1 fun e w2 => e = .returned (.bool (g i)) ∧ I (i + 1) w2 ∧ Sv X w1 w2) :
    Calls Tryd.prog 78 #[lv, FV f first cap] w fun e w' => Sv X w w' ∧
      ((∃ k : Nat, k < l.length ∧ g k = true ∧ (∀ j, j < k → g j = false) ∧ e = .returned (.bool true) ∧ I (k + 1) w') ∨ ((∀ j, j < l.length → g j = false) ∧ e = .returned (.bool false) ∧ I l.length w')) := by
  have H : Hid _ := index_any f first cap lv l w X I g hI hE hl hc
  clear hl hc hI hE
  go_enter Tryd.func78, Tryd.ntmps78
  go_wp2_with fail
  refine Calls.mono H.out ?_
  rintro e w1 ⟨hs, ⟨k, hk, hg, hj, rfl, hI⟩ | ⟨hj, rfl, hI⟩⟩
  · have HA : Hid (Sv X w w1 ∧ g k = true ∧ (∀ j, j < k → g j = false) ∧ I (k + 1) w1) := ⟨hs, hg, hj, hI⟩
    clear hs hg hj hI H
    have k0 : (0 : Int) ≤ (k : Int) := by omega
    go_wp2_with fail
    go_ret
    exact ⟨HA.out.1, .inl ⟨k, hk, HA.out.2.1, HA.out.2.2.1, rfl, HA.out.2.2.2⟩⟩
  · have HA : Hid (Sv X w w1 ∧ (∀ j, j < l.length → g j = false) ∧ I l.length w1) := ⟨hs, hj, hI⟩
    clear hs hj hI H
    go_wp2_with fail
    go_ret
    exact ⟨HA.out.1, .inr ⟨HA.out.2.1, rfl, HA.out.2.2⟩⟩
set_option maxHeartbeats 1000000 in
theorem all1_any (f : FuncId) (first cap : Array Value) (p : PT) (B : Nat) (w : World) (R : Bool → World → Prop) (hE : Enters f) (hB : w.cell? ⟨B, 0, none⟩ = some (FV f first cap))
    (hc : Calls Tryd.prog f (first.push p.val ++ cap) (w.alloc (.cells #[.int .i64 p.op, .int .i64 p.col, .bool p.v.t, .int .i64 p.v.n, .string p.v.s, .bool p.w.t, .int .i64 p.w.n, .string p.w.s, p.lv] 29)) fun e w2 => ∃ b, e = .returned (.bool b) ∧ R b w2) :
    Calls Tryd.prog 88 #[p.val, .pointer (some ⟨B, 0, none⟩)] w fun e w2 => ∃ b, e = .returned (.bool (!b)) ∧ R b w2 := by
  have H : Hid _ := hc
  have hE' : ∀ args w, (callFunc f args).run Tryd.prog w = .ok (.enter f args) w := hE
  have hlt : B < w.heap.size := World.block_lt_of_cell? w _ hB
  clear hc hE
  unfold PT.val
  go_enter Tryd.func88, Tryd.ntmps88
  go_wp2_with fail
  refine Calls.mono H.out ?_
  rintro e w1 ⟨b, rfl, hR⟩
  have HR : Hid (R b w1) := hR
  clear hR H hE'
  go_wp2_with fail
  go_ret
  exact ⟨b, rfl, HR.out⟩
set_option maxHeartbeats 1000000 in
theorem all_any (f : FuncId) (first cap : Array Value) (lv : Value) (l : List PT) (w : World) (X : Nat → Prop) (I : Nat → World → Prop) (g : Nat → Bool) (hI : I 0 w) (hE : Enters f)
    (hX : ∀ k, X k → k < w.heap.size) (hIa : ∀ i w1 o, I i w1 → I i (w1.alloc o)) (hl : ∀ i w1, I i w1 → Lies w1 lv l.length (l.flatMap PT.cells))
    (hc : ∀ (i : Nat) (hi : i < l.length) (w1 : World), I i w1 → Calls Tryd.prog f (first.push l[i].val ++ cap) w1 fun e w2 => e = .returned (.bool (g i)) ∧ I (i + 1) w2 ∧ Sv X w1 w2) :
    Calls Tryd.prog 77 #[lv, FV f first cap] w fun e w' => Sv X w w' ∧
      ((∃ k : Nat, k < l.length ∧ g k = false ∧ (∀ j, j < k → g j = true) ∧ e = .returned (.bool false) ∧ I (k + 1) w') ∨ ((∀ j, j < l.length → g j = true) ∧ e = .returned (.bool true) ∧ I l.length w')) := by
  have H : Hid _ := contains_any 88 #[] #[.pointer (some ⟨w.heap.size, 0, none⟩)] lv l (w.alloc (.cells #[FV f first cap] 85)) X (fun i w1 => I i w1 ∧ w1.cell? ⟨w.heap.size, 0, none⟩ = some (FV f first cap)) (fun i => !g i)
    ⟨hIa _ _ _ hI, by simp⟩ enters_all1 (fun i w1 h => hl i w1 h.1) (fun i hi w1 h => by
      obtain ⟨h1, h2⟩ := h
      have hlt : w.heap.size < w1.heap.size := World.block_lt_of_cell? w1 _ h2
      refine Calls.mono (all1_any f first cap l[i] w.heap.size w1 (fun b w2 => b = g i ∧ I (i + 1) w2 ∧ Sv X w1 w2) hE h2 ?_) ?_
      · refine Calls.mono (hc i hi _ (hIa _ _ _ h1)) ?_
        rintro e w2 ⟨rfl, k1, k2⟩
        exact ⟨_, rfl, rfl, k1, (Sv.alloc _ _ _).trans k2⟩
      · rintro e w2 ⟨b, rfl, rfl, k1, k2⟩
        refine ⟨rfl, ⟨k1, ?_⟩, k2⟩
        rw [k2.cell hlt (fun hx => by have := hX _ hx; simp at this)]
        exact h2)
  have HSA : Hid (Sv X w (w.alloc (.cells #[FV f first cap] 85))) := Sv.alloc _ _ _
  clear hl hc hI hE hIa hX
  go_enter Tryd.func77, Tryd.ntmps77
  go_wp2_with fail
  refine Calls.mono H.out ?_
  rintro e w1 ⟨hs, ⟨k, hk, hg, hj, rfl, hI, _⟩ | ⟨hj, rfl, hI, _⟩⟩
  · have HA : Hid (Sv X w w1 ∧ g k = false ∧ (∀ j, j < k → g j = true) ∧ I (k + 1) w1) := ⟨HSA.out.trans hs, by simpa using hg, fun j h => by simpa using hj j h, hI⟩
    clear hs hg hj hI H
    go_wp2_with fail
    go_ret
    exact ⟨HA.out.1, .inl ⟨k, hk, HA.out.2.1, HA.out.2.2.1, rfl, HA.out.2.2.2⟩⟩
  · have HA : Hid (Sv X w w1 ∧ (∀ j, j < l.length → g j = true) ∧ I l.length w1) := ⟨HSA.out.trans hs, fun j h => by simpa using hj j h, hI⟩
    clear hs hj hI H
    go_wp2_with fail
    go_ret
    exact ⟨HA.out.1, .inr ⟨HA.out.2.1, rfl, HA.out.2.2⟩⟩
/-- Functions that write nothing old. -/
theorem map_at {α β : Type} (f : α → β) (d : β) (l : List α) (i : Nat) (h : i < l.length) : ((l.map f)[i]?).getD d = f l[i] := by simp [h]
theorem all_pure (f : FuncId) (first cap : Array Value) (lv : Value) (l : List PT) (w : World) (g : PT → Bool) (hE : Enters f) (hl : InL w lv l)
    (hc : ∀ q ∈ l, ∀ w1, Below w.heap.size w w1 → Calls Tryd.prog f (first.push q.val ++ cap) w1 fun e w2 => e = .returned (.bool (g q)) ∧ Below w1.heap.size w1 w2) :
    Calls Tryd.prog 77 #[lv, FV f first cap] w fun e w' => e = .returned (.bool ((l.map g).all id)) ∧ Below w.heap.size w w' := by
  refine Calls.mono (all_any f first cap lv l w Nothing (fun _ w1 => Below w.heap.size w w1) (fun i => ((l.map g)[i]?).getD false) (Below.refl _ _) hE (fun k h => h.elim) (fun i w1 o h => h.alloc h.size _) (fun i w1 h => hl.1.below h) (fun i hi w1 h => ?_)) ?_
  · refine Calls.mono (hc l[i] (List.getElem_mem hi) w1 h) ?_
    rintro e w2 ⟨rfl, hb⟩
    exact ⟨by rw [map_at g false l i hi], on h hb, Sv.of hb⟩
  · rintro e w2 ⟨hs, ⟨k, hk, hg, _, rfl, _⟩ | ⟨hj, rfl, _⟩⟩
    · refine ⟨?_, hs.pure⟩
      rw [map_at g false l k hk] at hg
      have : (l.map g).all id = false := by
        rw [← Bool.not_eq_true, List.all_eq_true]
        intro h
        have := h (g l[k]) (List.mem_map.2 ⟨_, List.getElem_mem hk, rfl⟩)
        simp [hg] at this
      rw [this]
    · refine ⟨?_, hs.pure⟩
      have : (l.map g).all id = true := by
        rw [List.all_eq_true]
        intro x hx
        obtain ⟨q, hq, rfl⟩ := List.mem_map.1 hx
        obtain ⟨i, hi, rfl⟩ := List.mem_iff_getElem.1 hq
        have := hj i hi
        rw [map_at g false l i hi] at this
        exact this
      rw [this]
theorem contains_pure (f : FuncId) (first cap : Array Value) (lv : Value) (l : List PT) (w : World) (g : PT → Bool) (hE : Enters f) (hl : InL w lv l)
    (hc : ∀ q ∈ l, ∀ w1, Below w.heap.size w w1 → Calls Tryd.prog f (first.push q.val ++ cap) w1 fun e w2 => e = .returned (.bool (g q)) ∧ Below w1.heap.size w1 w2) :
    Calls Tryd.prog 78 #[lv, FV f first cap] w fun e w' => e = .returned (.bool ((l.map g).any id)) ∧ Below w.heap.size w w' := by
  refine Calls.mono (contains_any f first cap lv l w Nothing (fun _ w1 => Below w.heap.size w w1) (fun i => ((l.map g)[i]?).getD false) (Below.refl _ _) hE (fun i w1 h => hl.1.below h) (fun i hi w1 h => ?_)) ?_
  · refine Calls.mono (hc l[i] (List.getElem_mem hi) w1 h) ?_
    rintro e w2 ⟨rfl, hb⟩
    exact ⟨by rw [map_at g false l i hi], on h hb, Sv.of hb⟩
  · rintro e w2 ⟨hs, ⟨k, hk, hg, _, rfl, _⟩ | ⟨hj, rfl, _⟩⟩
    · refine ⟨?_, hs.pure⟩
      rw [map_at g false l k hk] at hg
      have : (l.map g).any id = true := by
        rw [List.any_eq_true]
        exact ⟨g l[k], List.mem_map.2 ⟨_, List.getElem_mem hk, rfl⟩, hg⟩
      rw [this]
    · refine ⟨?_, hs.pure⟩
      have : (l.map g).any id = false := by
        rw [← Bool.not_eq_true, List.any_eq_true]
        rintro ⟨x, hx, hx1⟩
        obtain ⟨q, hq, rfl⟩ := List.mem_map.1 hx
        obtain ⟨i, hi, rfl⟩ := List.mem_iff_getElem.1 hq
        have := hj i hi
        rw [map_at g false l i hi] at this
        simp [this] at hx1
      rw [this]
end Go.Proofs.YtkkbbpldeeajaaaDoor.Val
/- What below, Right and Compare of package value answer, over this seat's translation. No conditions. -/
namespace Go.Proofs.YtkkbbpldeeajaaaDoor.Val
open Go.RowKit

theorem below_tt (na nb : Int) (sa sb : ByteArray) (w : World) :
    Calls Tryd.prog 94 #[V true na sa, V true nb sb] w fun e w' => e = .returned (.bool (Op.bytesLess sa.toList sb.toList)) ∧ Below w.heap.size w w' := by
  go_enter Tryd.func94, Tryd.ntmps94
  go_wp2
  go_ret
  exact ⟨rfl, ((Below.refl _ _).alloc (Nat.le_refl _) _).alloc (by simp) _⟩
theorem below_nn (na nb : Int) (sa sb : ByteArray) (w : World) :
    Calls Tryd.prog 94 #[V false na sa, V false nb sb] w fun e w' => e = .returned (.bool (decide (na < nb))) ∧ Below w.heap.size w w' := by
  go_enter Tryd.func94, Tryd.ntmps94
  go_wp2
  go_ret
  exact ⟨rfl, ((Below.refl _ _).alloc (Nat.le_refl _) _).alloc (by simp) _⟩
theorem below_nt (na nb : Int) (sa sb : ByteArray) (w : World) :
    Calls Tryd.prog 94 #[V false na sa, V true nb sb] w fun e w' => e = .returned (.bool true) ∧ Below w.heap.size w w' := by
  go_enter Tryd.func94, Tryd.ntmps94
  go_wp2
  go_ret
  exact ⟨rfl, ((Below.refl _ _).alloc (Nat.le_refl _) _).alloc (by simp) _⟩
theorem below_tn (na nb : Int) (sa sb : ByteArray) (w : World) :
    Calls Tryd.prog 94 #[V true na sa, V false nb sb] w fun e w' => e = .returned (.bool false) ∧ Below w.heap.size w w' := by
  go_enter Tryd.func94, Tryd.ntmps94
  go_wp2
  go_ret
  exact ⟨rfl, ((Below.refl _ _).alloc (Nat.le_refl _) _).alloc (by simp) _⟩

set_option maxHeartbeats 400000 in
theorem cmp_nt (na nb : Int) (sa sb : ByteArray) (w : World) :
    Calls Tryd.prog 90 #[V false na sa, V true nb sb] w fun e w' => e = .returned (.int .i64 (-1)) ∧ Below w.heap.size w w' := by
  go_enter Tryd.func90, Tryd.ntmps90
  go_wp2
  go_region_held3 (fun w' => w'.cell? ⟨w.heap.size, 0, none⟩ = some (.bool false) ∧ w'.cell? ⟨w.heap.size, 1, none⟩ = some (.int .i64 na) ∧ w'.cell? ⟨w.heap.size, 2, none⟩ = some (.string sa) ∧ w'.cell? ⟨w.heap.size + 1, 0, none⟩ = some (.bool true) ∧ w'.cell? ⟨w.heap.size + 1, 1, none⟩ = some (.int .i64 nb) ∧ w'.cell? ⟨w.heap.size + 1, 2, none⟩ = some (.string sb)) (go_keep)
    ((first
    | (go_at_call_of 72 (Value.string sa); refine (bare_number _ _ _).mono ?_; rintro e w1 ⟨rfl, hb1⟩; obtain ⟨hc1, hz1, HB1⟩ := kept2a hb1)
    | (go_at_call_of 72 (Value.string sb); refine (bare_text _ _ _).mono ?_; rintro e w2 ⟨rfl, hb2⟩; have hc2 := kept2b hz1 hc1 hb2)))
  all_goals
    have HX : Hid (Below w.heap.size w w2) := HB1.trans (hb2.mono (by omega))
    have hz2 := hb2.size
    obtain ⟨a0, a1, a2, b0, b1, b2⟩ := hc2
    clear hc1 hb1 hb2 HB1
    go_wp2_with (go_at_call 94; refine (below_nt _ _ _ _ _).mono ?_; rintro e w3 ⟨rfl, hb3⟩)
    go_ret
    exact ⟨rfl, HX.out.trans (hb3.mono (by omega))⟩
set_option maxHeartbeats 400000 in
theorem cmp_tn (na nb : Int) (sa sb : ByteArray) (w : World) :
    Calls Tryd.prog 90 #[V true na sa, V false nb sb] w fun e w' => e = .returned (.int .i64 1) ∧ Below w.heap.size w w' := by
  go_enter Tryd.func90, Tryd.ntmps90
  go_wp2
  go_region_held3 (fun w' => w'.cell? ⟨w.heap.size, 0, none⟩ = some (.bool true) ∧ w'.cell? ⟨w.heap.size, 1, none⟩ = some (.int .i64 na) ∧ w'.cell? ⟨w.heap.size, 2, none⟩ = some (.string sa) ∧ w'.cell? ⟨w.heap.size + 1, 0, none⟩ = some (.bool false) ∧ w'.cell? ⟨w.heap.size + 1, 1, none⟩ = some (.int .i64 nb) ∧ w'.cell? ⟨w.heap.size + 1, 2, none⟩ = some (.string sb)) (go_keep)
    ((first
    | (go_at_call_of 72 (Value.string sa); refine (bare_text _ _ _).mono ?_; rintro e w1 ⟨rfl, hb1⟩; obtain ⟨hc1, hz1, HB1⟩ := kept2a hb1)
    | (go_at_call_of 72 (Value.string sb); refine (bare_number _ _ _).mono ?_; rintro e w2 ⟨rfl, hb2⟩; have hc2 := kept2b hz1 hc1 hb2)))
  all_goals
    have HX : Hid (Below w.heap.size w w2) := HB1.trans (hb2.mono (by omega))
    have hz2 := hb2.size
    obtain ⟨a0, a1, a2, b0, b1, b2⟩ := hc2
    clear hc1 hb1 hb2 HB1
    go_wp2_with (go_at_call 94; refine (below_tn _ _ _ _ _).mono ?_; rintro e w3 ⟨rfl, hb3⟩)
    go_ret
    exact ⟨rfl, HX.out.trans (hb3.mono (by omega))⟩
set_option maxHeartbeats 400000 in
theorem cmp_nn_eq (na nb : Int) (sa sb : ByteArray) (w : World) (h : (na == nb) = true) :
    Calls Tryd.prog 90 #[V false na sa, V false nb sb] w fun e w' => e = .returned (.int .i64 (cmpN na nb)) ∧ Below w.heap.size w w' := by
  go_enter Tryd.func90, Tryd.ntmps90
  go_wp2
  go_region_held3 (fun w' => w'.cell? ⟨w.heap.size, 0, none⟩ = some (.bool false) ∧ w'.cell? ⟨w.heap.size, 1, none⟩ = some (.int .i64 na) ∧ w'.cell? ⟨w.heap.size, 2, none⟩ = some (.string sa) ∧ w'.cell? ⟨w.heap.size + 1, 0, none⟩ = some (.bool false) ∧ w'.cell? ⟨w.heap.size + 1, 1, none⟩ = some (.int .i64 nb) ∧ w'.cell? ⟨w.heap.size + 1, 2, none⟩ = some (.string sb)) (go_keep)
    ((first
    | (go_at_call_of 72 (Value.string sa); refine (bare_number _ _ _).mono ?_; rintro e w1 ⟨rfl, hb1⟩; obtain ⟨hc1, hz1, HB1⟩ := kept2a hb1)
    | (go_at_call_of 72 (Value.string sb); refine (bare_number _ _ _).mono ?_; rintro e w2 ⟨rfl, hb2⟩; have hc2 := kept2b hz1 hc1 hb2)))
  all_goals
    have HX : Hid (Below w.heap.size w w2) := HB1.trans (hb2.mono (by omega))
    have hz2 := hb2.size
    obtain ⟨a0, a1, a2, b0, b1, b2⟩ := hc2
    clear hc1 hb1 hb2 HB1
    go_wp2_with (go_at_call 94; refine (below_nn _ _ _ _ _).mono ?_; rintro e w3 ⟨rfl, hb3⟩)
    go_ret
    exact ⟨ret_int (cmpN_eq h), HX.out⟩
set_option maxHeartbeats 400000 in
theorem cmp_tt_eq (na nb : Int) (sa sb : ByteArray) (w : World) (h : (sa.toList == sb.toList) = true) :
    Calls Tryd.prog 90 #[V true na sa, V true nb sb] w fun e w' => e = .returned (.int .i64 (cmpS sa.toList sb.toList)) ∧ Below w.heap.size w w' := by
  go_enter Tryd.func90, Tryd.ntmps90
  go_wp2
  go_region_held3 (fun w' => w'.cell? ⟨w.heap.size, 0, none⟩ = some (.bool true) ∧ w'.cell? ⟨w.heap.size, 1, none⟩ = some (.int .i64 na) ∧ w'.cell? ⟨w.heap.size, 2, none⟩ = some (.string sa) ∧ w'.cell? ⟨w.heap.size + 1, 0, none⟩ = some (.bool true) ∧ w'.cell? ⟨w.heap.size + 1, 1, none⟩ = some (.int .i64 nb) ∧ w'.cell? ⟨w.heap.size + 1, 2, none⟩ = some (.string sb)) (go_keep)
    ((first
    | (go_at_call_of 72 (Value.string sa); refine (bare_text _ _ _).mono ?_; rintro e w1 ⟨rfl, hb1⟩; obtain ⟨hc1, hz1, HB1⟩ := kept2a hb1)
    | (go_at_call_of 72 (Value.string sb); refine (bare_text _ _ _).mono ?_; rintro e w2 ⟨rfl, hb2⟩; have hc2 := kept2b hz1 hc1 hb2)))
  all_goals
    have HX : Hid (Below w.heap.size w w2) := HB1.trans (hb2.mono (by omega))
    have hz2 := hb2.size
    obtain ⟨a0, a1, a2, b0, b1, b2⟩ := hc2
    clear hc1 hb1 hb2 HB1
    go_wp2_with (go_at_call 94; refine (below_tt _ _ _ _ _).mono ?_; rintro e w3 ⟨rfl, hb3⟩)
    go_ret
    exact ⟨ret_int (cmpS_eq h), HX.out⟩
set_option maxHeartbeats 400000 in
theorem cmp_nn_ne (na nb : Int) (sa sb : ByteArray) (w : World) (h : (na == nb) = false) :
    Calls Tryd.prog 90 #[V false na sa, V false nb sb] w fun e w' => e = .returned (.int .i64 (cmpN na nb)) ∧ Below w.heap.size w w' := by
  go_enter Tryd.func90, Tryd.ntmps90
  go_wp2
  go_region_held3 (fun w' => w'.cell? ⟨w.heap.size, 0, none⟩ = some (.bool false) ∧ w'.cell? ⟨w.heap.size, 1, none⟩ = some (.int .i64 na) ∧ w'.cell? ⟨w.heap.size, 2, none⟩ = some (.string sa) ∧ w'.cell? ⟨w.heap.size + 1, 0, none⟩ = some (.bool false) ∧ w'.cell? ⟨w.heap.size + 1, 1, none⟩ = some (.int .i64 nb) ∧ w'.cell? ⟨w.heap.size + 1, 2, none⟩ = some (.string sb)) (go_keep)
    ((first
    | (go_at_call_of 72 (Value.string sa); refine (bare_number _ _ _).mono ?_; rintro e w1 ⟨rfl, hb1⟩; obtain ⟨hc1, hz1, HB1⟩ := kept2a hb1)
    | (go_at_call_of 72 (Value.string sb); refine (bare_number _ _ _).mono ?_; rintro e w2 ⟨rfl, hb2⟩; have hc2 := kept2b hz1 hc1 hb2)))
  all_goals
    have HX : Hid (Below w.heap.size w w2) := HB1.trans (hb2.mono (by omega))
    have hz2 := hb2.size
    obtain ⟨a0, a1, a2, b0, b1, b2⟩ := hc2
    clear hc1 hb1 hb2 HB1
    go_wp2_with (go_at_call 94; refine (below_nn _ _ _ _ _).mono ?_; rintro e w3 ⟨rfl, hb3⟩)
    · go_ret
      exact ⟨ret_int (cmpN_lt h (by assumption)), HX.out.trans (hb3.mono (by omega))⟩
    · go_ret
      exact ⟨ret_int (cmpN_gt h (by assumption)), HX.out.trans (hb3.mono (by omega))⟩
set_option maxHeartbeats 400000 in
theorem cmp_tt_ne (na nb : Int) (sa sb : ByteArray) (w : World) (h : (sa.toList == sb.toList) = false) :
    Calls Tryd.prog 90 #[V true na sa, V true nb sb] w fun e w' => e = .returned (.int .i64 (cmpS sa.toList sb.toList)) ∧ Below w.heap.size w w' := by
  go_enter Tryd.func90, Tryd.ntmps90
  go_wp2
  go_region_held3 (fun w' => w'.cell? ⟨w.heap.size, 0, none⟩ = some (.bool true) ∧ w'.cell? ⟨w.heap.size, 1, none⟩ = some (.int .i64 na) ∧ w'.cell? ⟨w.heap.size, 2, none⟩ = some (.string sa) ∧ w'.cell? ⟨w.heap.size + 1, 0, none⟩ = some (.bool true) ∧ w'.cell? ⟨w.heap.size + 1, 1, none⟩ = some (.int .i64 nb) ∧ w'.cell? ⟨w.heap.size + 1, 2, none⟩ = some (.string sb)) (go_keep)
    ((first
    | (go_at_call_of 72 (Value.string sa); refine (bare_text _ _ _).mono ?_; rintro e w1 ⟨rfl, hb1⟩; obtain ⟨hc1, hz1, HB1⟩ := kept2a hb1)
    | (go_at_call_of 72 (Value.string sb); refine (bare_text _ _ _).mono ?_; rintro e w2 ⟨rfl, hb2⟩; have hc2 := kept2b hz1 hc1 hb2)))
  all_goals
    have HX : Hid (Below w.heap.size w w2) := HB1.trans (hb2.mono (by omega))
    have hz2 := hb2.size
    obtain ⟨a0, a1, a2, b0, b1, b2⟩ := hc2
    clear hc1 hb1 hb2 HB1
    go_wp2_with (go_at_call 94; refine (below_tt _ _ _ _ _).mono ?_; rintro e w3 ⟨rfl, hb3⟩)
    · go_ret
      exact ⟨ret_int (cmpS_lt h (by assumption)), HX.out.trans (hb3.mono (by omega))⟩
    · go_ret
      exact ⟨ret_int (cmpS_gt h (by assumption)), HX.out.trans (hb3.mono (by omega))⟩
/-- Compare, for any two values. -/
theorem cmp_any (ta : Bool) (na : Int) (sa : ByteArray) (tb : Bool) (nb : Int) (sb : ByteArray) (w : World) :
    Calls Tryd.prog 90 #[V ta na sa, V tb nb sb] w fun e w' => e = .returned (.int .i64 (cmpV ta na sa tb nb sb)) ∧ Below w.heap.size w w' := by
  cases ta <;> cases tb
  · cases h : (na == nb)
    · exact cmp_nn_ne _ _ _ _ _ h
    · exact cmp_nn_eq _ _ _ _ _ h
  · exact cmp_nt _ _ _ _ _
  · exact cmp_tn _ _ _ _ _
  · cases h : (sa.toList == sb.toList)
    · exact cmp_tt_ne _ _ _ _ _ h
    · exact cmp_tt_eq _ _ _ _ _ h
end Go.Proofs.YtkkbbpldeeajaaaDoor.Val
/- What pred.stands answers. -/
namespace Go.Proofs.YtkkbbpldeeajaaaDoor.Val
open Go.RowKit

theorem ret_b {a b : Bool} (h : a = b) : Ending.returned (.bool a) = Ending.returned (.bool b) := by subst h; rfl
theorem cmp_any' (x y : Val) (w : World) :
    Calls Tryd.prog 90 #[V x.t x.n x.s, V y.t y.n y.s] w fun e w' => e = .returned (.int .i64 (cmpX x y)) ∧ Below w.heap.size w w' := cmp_any _ _ _ _ _ _ _
set_option maxHeartbeats 1000000 in
theorem stands_any (x : Val) (p : PT) (w : World) :
    Calls Tryd.prog 79 #[V x.t x.n x.s, p.val] w fun e w' => e = .returned (.bool (standB p.op (cmpX x p.v) (cmpX x p.w))) ∧ Below w.heap.size w w' := by
  obtain ⟨c, hc⟩ : ∃ c, cmpX x p.v = c := ⟨_, rfl⟩
  obtain ⟨d, hd⟩ : ∃ d, cmpX x p.w = d := ⟨_, rfl⟩
  have H : Hid (∀ w1, Calls Tryd.prog 90 #[V x.t x.n x.s, V p.v.t p.v.n p.v.s] w1 fun e w' => e = .returned (.int .i64 c) ∧ Below w1.heap.size w1 w') := fun w1 => by have := cmp_any' x p.v w1; rw [hc] at this; exact this
  have H2 : Hid (∀ w1, Calls Tryd.prog 90 #[V x.t x.n x.s, V p.w.t p.w.n p.w.s] w1 fun e w' => e = .returned (.int .i64 d) ∧ Below w1.heap.size w1 w') := fun w1 => by have := cmp_any' x p.w w1; rw [hd] at this; exact this
  rw [hc, hd]
  clear hc hd
  unfold PT.val
  obtain ⟨op, hop⟩ : ∃ op, p.op = op := ⟨_, rfl⟩
  rw [hop]
  go_enter Tryd.func79, Tryd.ntmps79
  go_wp2_with fail
  refine Calls.mono (H.out _) ?_
  rintro e w1 ⟨rfl, hb⟩
  have HB : Hid (Below w.heap.size w w1) := back2 hb
  obtain ⟨a0, a1, a2⟩ := ((VBox.new w x 25).alloc _).below hb
  rw [← hop] at hb
  obtain ⟨b0, b1, b2, b3, b4, b5, b6, b7, b8⟩ := (Box.new (w.alloc (vobj x 25)) p 29).below hb
  have z : (w.alloc (vobj x 25)).heap.size = w.heap.size + 1 := by simp
  rw [z] at b0 b1 b2 b3 b4 b5 b6 b7 b8
  clear hb z H
  rw [hop] at b0
  clear hop
  by_cases h3 : op = 3
  · subst h3
    clear H2
    go_wp2_with fail
    go_ret
    exact ⟨ret_b (by simp [standB]), HB.out⟩
  by_cases h4 : op = 4
  · subst h4
    clear H2
    go_wp2_with fail
    go_ret
    exact ⟨ret_b (by simp [standB]), HB.out⟩
  by_cases h5 : op = 5
  · subst h5
    clear H2
    go_wp2_with fail
    go_ret
    exact ⟨ret_b (by simp [standB]), HB.out⟩
  by_cases h6 : op = 6
  · subst h6
    clear H2
    go_wp2_with fail
    go_ret
    exact ⟨ret_b (by simp [standB]), HB.out⟩
  by_cases h7 : op = 7
  · subst h7
    clear H2
    go_wp2_with fail
    go_ret
    exact ⟨ret_b (by simp [standB]), HB.out⟩
  by_cases h8 : op = 8
  · subst h8
    clear H2
    go_wp2_with fail
    go_ret
    exact ⟨ret_b (by simp [standB]), HB.out⟩
  by_cases h9 : op = 9
  · subst h9
    by_cases hz : 0 ≤ c
    · go_wp2_with fail
      refine Calls.mono (H2.out _) ?_
      rintro e w2 ⟨rfl, hb2⟩
      go_wp2_with fail
      go_ret
      exact ⟨ret_b (by simp [standB, hz]), on HB.out hb2⟩
    · have hz' : decide (0 ≤ c) = false := by simp; omega
      clear H2
      go_wp2_with fail
      go_ret
      exact ⟨ret_b (by simp [standB]; omega), HB.out⟩
  have HN : Hid (standB op c d = false) := by simp [Hid, standB, h3, h4, h5, h6, h7, h8, h9]
  have e3 : (op == 3) = false := by simpa using h3
  have e4 : (op == 4) = false := by simpa using h4
  have e5 : (op == 5) = false := by simpa using h5
  have e6 : (op == 6) = false := by simpa using h6
  have e7 : (op == 7) = false := by simpa using h7
  have e8 : (op == 8) = false := by simpa using h8
  have e9 : (op == 9) = false := by simpa using h9
  clear H2 h3 h4 h5 h6 h7 h8 h9
  go_wp2_with fail
  go_ret
  exact ⟨ret_b HN.out.symm, HB.out⟩
end Go.Proofs.YtkkbbpldeeajaaaDoor.Val
/- What pred.Holds answers. -/
namespace Go.Proofs.YtkkbbpldeeajaaaDoor.Val
open Go.RowKit

theorem enters_walk : Enters 80 := enters_of Tryd.func80 (by decide +kernel) rfl
theorem enters_holds1 : Enters 76 := enters_of Tryd.func76 (by decide +kernel) rfl
/-- The row in its box. -/
def RB (w : World) (rb : Nat) (vr : Value) (r : List Val) : Prop := w.cell? ⟨rb, 0, none⟩ = some vr ∧ RowIn w vr r
theorem RB.below {w w' : World} {rb : Nat} {vr : Value} {r : List Val} (h : RB w rb vr r) (hb : Below w.heap.size w w') : RB w' rb vr r := ⟨cell_below h.1 hb, h.2.below hb⟩
/-- The closure, and the walker's method value. -/
abbrev FH (rb : Nat) : Value := FV 76 #[] #[.pointer (some ⟨rb, 0, none⟩)]
abbrev MH (rb : Nat) : Value := FV 80 #[.agg #[FH rb]] #[]
/-- What the walk answers of one. -/
def WalkOk (rb : Nat) (vr : Value) (r : List Val) (p : PT) : Prop :=
  ∀ w, In w p → RB w rb vr r → Calls Tryd.prog 80 #[.agg #[FH rb], p.val] w fun e w' => e = .returned (.bool (holdsP r p)) ∧ Below w.heap.size w w'

set_option maxHeartbeats 1000000 in
theorem h1_true (rb : Nat) (r : List Val) (p : PT) (w : World) (ho : p.op = 1) :
    Calls Tryd.prog 76 #[p.val, MH rb, .pointer (some ⟨rb, 0, none⟩)] w fun e w' => e = .returned (.bool (holdsP r p)) ∧ Below w.heap.size w w' := by
  have HH : Hid (holdsP r p = true) := holds_1 ho
  unfold PT.val
  rw [ho]
  go_enter Tryd.func76, Tryd.ntmps76
  go_wp2_with fail
  go_ret
  exact ⟨ret_b HH.out.symm, alloc1 _ _⟩
set_option maxHeartbeats 1000000 in
theorem h1_not (rb : Nat) (vr : Value) (r : List Val) (p : PT) (w : World) (ho : p.op = 10) (hi : In w p) (hr : RB w rb vr r) (ih : ∀ q ∈ p.l, WalkOk rb vr r q) :
    Calls Tryd.prog 76 #[p.val, MH rb, .pointer (some ⟨rb, 0, none⟩)] w fun e w' => e = .returned (.bool (holdsP r p)) ∧ Below w.heap.size w w' := by
  have HH : Hid (holdsP r p = !(((p.l.map (holdsP r)).head?).getD false)) := holds_10 ho
  have hL := hi.lies
  have hP := hi.part
  obtain ⟨ao, c, hlv, hn⟩ := hL.slice
  rw [hlv] at hL
  unfold PT.val
  rw [ho, hlv]
  cases hl : p.l with
  | nil =>
    rw [hl] at HH
    clear hL ih hr hi hn hlv hP
    simp only [List.length_nil]
    go_enter Tryd.func76, Tryd.ntmps76
    go_wp2_with fail
    go_ret
    exact ⟨ret_b (by rw [HH.out]; rfl), alloc1 _ _⟩
  | cons q l' =>
    have h0 : 0 < p.l.length := by rw [hl]; simp
    obtain ⟨b, o, rfl, hat⟩ := lies_at hL 0 h0
    have hq : p.l[0] = q := by simp [hl]
    rw [hq] at hat
    have hm : q ∈ p.l := by rw [hl]; exact List.mem_cons_self ..
    have HQ : Hid (∀ w1, Below w.heap.size w w1 → Calls Tryd.prog 80 #[.agg #[FH rb], q.val] w1 fun e w' => e = .returned (.bool (holdsP r q)) ∧ Below w1.heap.size w1 w') :=
      fun w1 hb => ih q hm w1 ((hP q hm).keep hb) (hr.below hb)
    obtain ⟨c0, c1, c2, c3, c4, c5, c6, c7, c8⟩ := hat
    rw [hl] at HH
    simp only [Nat.zero_mul, Nat.add_zero] at c0 c1 c2 c3 c4 c5 c6 c7 c8
    have hlt : b < w.heap.size := World.block_lt_of_cell? w _ c0
    have i1 : (0 : Int) < ((q :: l').length : Int) := by rw [List.length_cons]; omega
    have i2 : (((q :: l').length : Int) == 0) = false := by rw [beq_eq_false_iff_ne, List.length_cons]; omega
    clear hL ih hr hi hlv hP h0 hq hm
    rw [hl] at hn
    clear hl
    generalize (q :: l').length = n at *
    go_enter Tryd.func76, Tryd.ntmps76
    go_wp2_with fail
    refine Calls.mono (HQ.out _ (alloc1 _ _)) ?_
    rintro e w1 ⟨rfl, hb⟩
    go_wp2_with fail
    go_ret
    exact ⟨ret_b (by rw [HH.out]; rfl), back1 hb⟩
set_option maxHeartbeats 1000000 in
theorem h1_and (rb : Nat) (vr : Value) (r : List Val) (p : PT) (w : World) (ho : p.op = 11) (hi : In w p) (hr : RB w rb vr r) (ih : ∀ q ∈ p.l, WalkOk rb vr r q) :
    Calls Tryd.prog 76 #[p.val, MH rb, .pointer (some ⟨rb, 0, none⟩)] w fun e w' => e = .returned (.bool (holdsP r p)) ∧ Below w.heap.size w w' := by
  obtain ⟨a, ha⟩ : ∃ a, holdsP r p = a := ⟨_, rfl⟩
  have HA : Hid (∀ w1, Below w.heap.size w w1 → Calls Tryd.prog 77 #[p.lv, MH rb] w1 fun e w' => e = .returned (.bool a) ∧ Below w1.heap.size w1 w') :=
    fun w1 hb => by
      rw [← ha, holds_11 ho]
      exact all_pure _ _ _ _ _ _ _ enters_walk (hi.list.below hb) fun q hq w2 hb2 => ih q hq w2 ((hi.part q hq).keep (on hb hb2)) (hr.below (on hb hb2))
  rw [ha]
  clear ih hr hi ha
  unfold PT.val
  rw [ho]
  go_enter Tryd.func76, Tryd.ntmps76
  go_wp2_with fail
  refine Calls.mono (HA.out _ (alloc1 _ _)) ?_
  rintro e w1 ⟨rfl, hb⟩
  go_wp2_with fail
  go_ret
  exact ⟨rfl, back1 hb⟩
set_option maxHeartbeats 1000000 in
theorem h1_or (rb : Nat) (vr : Value) (r : List Val) (p : PT) (w : World) (ho : p.op = 12) (hi : In w p) (hr : RB w rb vr r) (ih : ∀ q ∈ p.l, WalkOk rb vr r q) :
    Calls Tryd.prog 76 #[p.val, MH rb, .pointer (some ⟨rb, 0, none⟩)] w fun e w' => e = .returned (.bool (holdsP r p)) ∧ Below w.heap.size w w' := by
  obtain ⟨a, ha⟩ : ∃ a, holdsP r p = a := ⟨_, rfl⟩
  have HA : Hid (∀ w1, Below w.heap.size w w1 → Calls Tryd.prog 78 #[p.lv, MH rb] w1 fun e w' => e = .returned (.bool a) ∧ Below w1.heap.size w1 w') :=
    fun w1 hb => by
      rw [← ha, holds_12 ho]
      exact contains_pure _ _ _ _ _ _ _ enters_walk (hi.list.below hb) fun q hq w2 hb2 => ih q hq w2 ((hi.part q hq).keep (on hb hb2)) (hr.below (on hb hb2))
  rw [ha]
  clear ih hr hi ha
  unfold PT.val
  rw [ho]
  go_enter Tryd.func76, Tryd.ntmps76
  go_wp2_with fail
  refine Calls.mono (HA.out _ (alloc1 _ _)) ?_
  rintro e w1 ⟨rfl, hb⟩
  go_wp2_with fail
  go_ret
  exact ⟨rfl, back1 hb⟩
set_option maxHeartbeats 1000000 in
theorem h1_low (rb : Nat) (p : PT) (w : World) (h1 : (p.op == 1) = false) (h2 : (p.op == 10) = false) (h3 : (p.op == 11) = false) (h4 : (p.op == 12) = false) (hlo : decide (0 ≤ p.col) = false) :
    Calls Tryd.prog 76 #[p.val, MH rb, .pointer (some ⟨rb, 0, none⟩)] w fun e w' => e = .returned (.bool false) ∧ Below w.heap.size w w' := by
  unfold PT.val
  go_enter Tryd.func76, Tryd.ntmps76
  go_wp2_with fail
  refine wp_region_held_drew (S := fun w' => w'.cell? ⟨w.heap.size, 1, none⟩ = some (.int .i64 p.col)) (by kernel_rfl) ?_ (fun hHeld => ?_)
  · simp [go_sem]
  (try clear hK K)
  refine wpAnyH_take (i := 0) (v := ?_) rfl (by kernel_rfl) (by kernel_rfl) (by kernel_rfl) (fun _ _ _ h => h) (Or.inl ⟨by rfl, ?_⟩) (by assumption) ?_
  rotate_left
  · intro w hSw; (try dsimp only at hSw); go_simp; (try with_reducible rfl)
  (try simp only [Act.put, List.getElem_toArray, List.getElem_cons_zero, List.setIfInBounds_toArray, List.set_cons_zero, List.set_cons_succ])
  refine wpAnyH_take (i := 1) (v := ?_) rfl (by kernel_rfl) (by kernel_rfl) (by kernel_rfl) (fun _ _ _ h => h) (Or.inl ⟨by rfl, ?_⟩) (by assumption) ?_
  rotate_left
  · intro w hSw; (try dsimp only at hSw); go_simp; (try with_reducible rfl)
  (try simp only [Act.put, List.getElem_toArray, List.getElem_cons_succ, List.getElem_cons_zero, List.setIfInBounds_toArray, List.set_cons_zero, List.set_cons_succ])
  refine wpAnyH_take (i := 2) (v := ?_) rfl (by kernel_rfl) (by kernel_rfl) (by kernel_rfl) (fun _ _ _ h => h) (Or.inl ⟨by rfl, ?_⟩) (by assumption) ?_
  rotate_left
  · intro w hSw; (try dsimp only at hSw); go_simp; (try with_reducible rfl)
  (try simp only [Act.put, List.getElem_toArray, List.getElem_cons_succ, List.getElem_cons_zero, List.setIfInBounds_toArray, List.set_cons_zero, List.set_cons_succ])
  refine wpAnyH_take (i := 3) (v := ?_) rfl (by kernel_rfl) (by kernel_rfl) (by kernel_rfl) (fun _ _ _ h => h) (Or.inl ⟨by rfl, ?_⟩) (by assumption) ?_
  rotate_left
  · intro w hSw; (try dsimp only at hSw); go_simp; (try with_reducible rfl)
  (try simp only [Act.put, List.getElem_toArray, List.getElem_cons_succ, List.getElem_cons_zero, List.setIfInBounds_toArray, List.set_cons_zero, List.set_cons_succ])
  (try clear hK K)
  refine wpAnyH_take (i := 4) (v := undef) rfl (by kernel_rfl) (by kernel_rfl) (by kernel_rfl) (fun _ _ _ h => h) (Or.inr ⟨by rfl, rfl⟩) (by assumption) ?_
  (try simp only [Act.put, List.getElem_toArray, List.getElem_cons_succ, List.getElem_cons_zero, List.setIfInBounds_toArray, List.set_cons_zero, List.set_cons_succ])
  refine wpAnyH_take (i := 5) (v := undef) rfl (by kernel_rfl) (by kernel_rfl) (by kernel_rfl) (fun _ _ _ h => h) (Or.inr ⟨by rfl, rfl⟩) (by assumption) ?_
  (try simp only [Act.put, List.getElem_toArray, List.getElem_cons_succ, List.getElem_cons_zero, List.setIfInBounds_toArray, List.set_cons_zero, List.set_cons_succ])
  refine wpAnyH_take (i := 6) (v := undef) rfl (by kernel_rfl) (by kernel_rfl) (by kernel_rfl) (fun _ _ _ h => h) (Or.inr ⟨by rfl, rfl⟩) (by assumption) ?_
  (try simp only [Act.put, List.getElem_toArray, List.getElem_cons_succ, List.getElem_cons_zero, List.setIfInBounds_toArray, List.set_cons_zero, List.set_cons_succ])
  refine wpAnyH_take (i := 7) (v := undef) rfl (by kernel_rfl) (by kernel_rfl) (by kernel_rfl) (fun _ _ _ h => h) (Or.inr ⟨by rfl, rfl⟩) (by assumption) ?_
  (try simp only [Act.put, List.getElem_toArray, List.getElem_cons_succ, List.getElem_cons_zero, List.setIfInBounds_toArray, List.set_cons_zero, List.set_cons_succ])
  refine wpAnyH_take (i := 8) (v := undef) rfl (by kernel_rfl) (by kernel_rfl) (by kernel_rfl) (fun _ _ _ h => h) (Or.inr ⟨by rfl, rfl⟩) (by assumption) ?_
  (try simp only [Act.put, List.getElem_toArray, List.getElem_cons_succ, List.getElem_cons_zero, List.setIfInBounds_toArray, List.set_cons_zero, List.set_cons_succ])
  (try clear hK K)
  refine wpAnyH_take (i := 9) (v := ?_) rfl (by kernel_rfl) (by kernel_rfl) (by kernel_rfl) (fun _ _ _ h => h) (Or.inl ⟨by rfl, ?_⟩) (by assumption) ?_
  rotate_left
  · intro w hSw; (try dsimp only at hSw); go_simp; (try with_reducible rfl)
  (try simp only [Act.put, List.getElem_toArray, List.getElem_cons_succ, List.getElem_cons_zero, List.setIfInBounds_toArray, List.set_cons_zero, List.set_cons_succ])
  refine wpAnyH_take (i := 10) (v := ?_) rfl (by kernel_rfl) (by kernel_rfl) (by kernel_rfl) (fun _ _ _ h => h) (Or.inl ⟨by rfl, ?_⟩) (by assumption) ?_
  rotate_left
  · intro w hSw; (try dsimp only at hSw); go_simp; (try with_reducible rfl)
  (try simp only [Act.put, List.getElem_toArray, List.getElem_cons_succ, List.getElem_cons_zero, List.setIfInBounds_toArray, List.set_cons_zero, List.set_cons_succ])
  (try clear hK K)
  refine wpAnyH_take (i := 11) (v := undef) rfl (by kernel_rfl) (by kernel_rfl) (by kernel_rfl) (fun _ _ _ h => h) (Or.inr ⟨by rfl, rfl⟩) (by assumption) ?_
  (try simp only [Act.put, List.getElem_toArray, List.getElem_cons_succ, List.getElem_cons_zero, List.setIfInBounds_toArray, List.set_cons_zero, List.set_cons_succ])
  refine wpAnyH_take (i := 12) (v := undef) rfl (by kernel_rfl) (by kernel_rfl) (by kernel_rfl) (fun _ _ _ h => h) (Or.inr ⟨by rfl, rfl⟩) (by assumption) ?_
  (try simp only [Act.put, List.getElem_toArray, List.getElem_cons_succ, List.getElem_cons_zero, List.setIfInBounds_toArray, List.set_cons_zero, List.set_cons_succ])
  refine wpAnyH_take (i := 13) (v := undef) rfl (by kernel_rfl) (by kernel_rfl) (by kernel_rfl) (fun _ _ _ h => h) (Or.inr ⟨by rfl, rfl⟩) (by assumption) ?_
  (try simp only [Act.put, List.getElem_toArray, List.getElem_cons_succ, List.getElem_cons_zero, List.setIfInBounds_toArray, List.set_cons_zero, List.set_cons_succ])
  refine wpAnyH_take (i := 14) (v := undef) rfl (by kernel_rfl) (by kernel_rfl) (by kernel_rfl) (fun _ _ _ h => h) (Or.inr ⟨by rfl, rfl⟩) (by assumption) ?_
  (try simp only [Act.put, List.getElem_toArray, List.getElem_cons_succ, List.getElem_cons_zero, List.setIfInBounds_toArray, List.set_cons_zero, List.set_cons_succ])
  refine wpAnyH_take (i := 15) (v := undef) rfl (by kernel_rfl) (by kernel_rfl) (by kernel_rfl) (fun _ _ _ h => h) (Or.inr ⟨by rfl, rfl⟩) (by assumption) ?_
  (try simp only [Act.put, List.getElem_toArray, List.getElem_cons_succ, List.getElem_cons_zero, List.setIfInBounds_toArray, List.set_cons_zero, List.set_cons_succ])
  refine wpAnyH_take (i := 16) (v := undef) rfl (by kernel_rfl) (by kernel_rfl) (by kernel_rfl) (fun _ _ _ h => h) (Or.inr ⟨by rfl, rfl⟩) (by assumption) ?_
  (try simp only [Act.put, List.getElem_toArray, List.getElem_cons_succ, List.getElem_cons_zero, List.setIfInBounds_toArray, List.set_cons_zero, List.set_cons_succ])
  refine wpAnyH_take (i := 17) (v := undef) rfl (by kernel_rfl) (by kernel_rfl) (by kernel_rfl) (fun _ _ _ h => h) (Or.inr ⟨by rfl, rfl⟩) (by assumption) ?_
  (try simp only [Act.put, List.getElem_toArray, List.getElem_cons_succ, List.getElem_cons_zero, List.setIfInBounds_toArray, List.set_cons_zero, List.set_cons_succ])
  (try clear hK K)
  refine wpAnyH_take (i := 18) (v := ?_) rfl (by kernel_rfl) (by kernel_rfl) (by kernel_rfl) (fun _ _ _ h => h) (Or.inl ⟨by rfl, ?_⟩) (by assumption) ?_
  rotate_left
  · intro w hSw; (try dsimp only at hSw); go_simp; (try with_reducible rfl)
  (try simp only [Act.put, List.getElem_toArray, List.getElem_cons_succ, List.getElem_cons_zero, List.setIfInBounds_toArray, List.set_cons_zero, List.set_cons_succ])
  refine wpAnyH_take (i := 19) (v := ?_) rfl (by kernel_rfl) (by kernel_rfl) (by kernel_rfl) (fun _ _ _ h => h) (Or.inl ⟨by rfl, ?_⟩) (by assumption) ?_
  rotate_left
  · intro w hSw; (try dsimp only at hSw); go_simp; (try with_reducible rfl)
  (try simp only [Act.put, List.getElem_toArray, List.getElem_cons_succ, List.getElem_cons_zero, List.setIfInBounds_toArray, List.set_cons_zero, List.set_cons_succ])
  (try clear hK K)
  refine wpAnyH_done (by kernel_rfl) ?_ _
  go_wp2_with fail
  go_ret
  exact ⟨rfl, (alloc1 _ _).drew⟩
set_option maxHeartbeats 1000000 in
theorem h1_high (rb : Nat) (ar : Option Addr) (n cr : Nat) (p : PT) (w : World) (h1 : (p.op == 1) = false) (h2 : (p.op == 10) = false) (h3 : (p.op == 11) = false) (h4 : (p.op == 12) = false) (hr : w.cell? ⟨rb, 0, none⟩ = some (.slice ar n cr)) (hlo : 0 ≤ p.col) (hhi : decide (p.col < (n : Int)) = false) :
    Calls Tryd.prog 76 #[p.val, MH rb, .pointer (some ⟨rb, 0, none⟩)] w fun e w' => e = .returned (.bool false) ∧ Below w.heap.size w w' := by
  have hlt : rb < w.heap.size := World.block_lt_of_cell? w _ hr
  unfold PT.val
  go_enter Tryd.func76, Tryd.ntmps76
  go_wp2_with fail
  refine wp_region_held_drew (S := fun w' => w'.cell? ⟨w.heap.size, 1, none⟩ = some (.int .i64 p.col) ∧ w'.cell? ⟨rb, 0, none⟩ = some (.slice ar n cr)) (by kernel_rfl) ?_ (fun hHeld => ?_)
  · simp [go_sem, hr, World.cell?_alloc_some]
  (try clear hK K)
  refine wpAnyH_take (i := 0) (v := ?_) rfl (by kernel_rfl) (by kernel_rfl) (by kernel_rfl) (fun _ _ _ h => h) (Or.inl ⟨by rfl, ?_⟩) (by assumption) ?_
  rotate_left
  · intro w hSw; (try dsimp only at hSw); go_simp; (try with_reducible rfl)
  (try simp only [Act.put, List.getElem_toArray, List.getElem_cons_zero, List.setIfInBounds_toArray, List.set_cons_zero, List.set_cons_succ])
  refine wpAnyH_take (i := 1) (v := ?_) rfl (by kernel_rfl) (by kernel_rfl) (by kernel_rfl) (fun _ _ _ h => h) (Or.inl ⟨by rfl, ?_⟩) (by assumption) ?_
  rotate_left
  · intro w hSw; (try dsimp only at hSw); go_simp; (try with_reducible rfl)
  (try simp only [Act.put, List.getElem_toArray, List.getElem_cons_succ, List.getElem_cons_zero, List.setIfInBounds_toArray, List.set_cons_zero, List.set_cons_succ])
  refine wpAnyH_take (i := 2) (v := ?_) rfl (by kernel_rfl) (by kernel_rfl) (by kernel_rfl) (fun _ _ _ h => h) (Or.inl ⟨by rfl, ?_⟩) (by assumption) ?_
  rotate_left
  · intro w hSw; (try dsimp only at hSw); go_simp; (try with_reducible rfl)
  (try simp only [Act.put, List.getElem_toArray, List.getElem_cons_succ, List.getElem_cons_zero, List.setIfInBounds_toArray, List.set_cons_zero, List.set_cons_succ])
  refine wpAnyH_take (i := 3) (v := ?_) rfl (by kernel_rfl) (by kernel_rfl) (by kernel_rfl) (fun _ _ _ h => h) (Or.inl ⟨by rfl, ?_⟩) (by assumption) ?_
  rotate_left
  · intro w hSw; (try dsimp only at hSw); go_simp; (try with_reducible rfl)
  (try simp only [Act.put, List.getElem_toArray, List.getElem_cons_succ, List.getElem_cons_zero, List.setIfInBounds_toArray, List.set_cons_zero, List.set_cons_succ])
  refine wpAnyH_take (i := 4) (v := ?_) rfl (by kernel_rfl) (by kernel_rfl) (by kernel_rfl) (fun _ _ _ h => h) (Or.inl ⟨by rfl, ?_⟩) (by assumption) ?_
  rotate_left
  · intro w hSw; (try dsimp only at hSw); go_simp; (try with_reducible rfl)
  (try simp only [Act.put, List.getElem_toArray, List.getElem_cons_succ, List.getElem_cons_zero, List.setIfInBounds_toArray, List.set_cons_zero, List.set_cons_succ])
  refine wpAnyH_take (i := 5) (v := ?_) rfl (by kernel_rfl) (by kernel_rfl) (by kernel_rfl) (fun _ _ _ h => h) (Or.inl ⟨by rfl, ?_⟩) (by assumption) ?_
  rotate_left
  · intro w hSw; (try dsimp only at hSw); go_simp; (try with_reducible rfl)
  (try simp only [Act.put, List.getElem_toArray, List.getElem_cons_succ, List.getElem_cons_zero, List.setIfInBounds_toArray, List.set_cons_zero, List.set_cons_succ])
  refine wpAnyH_take (i := 6) (v := ?_) rfl (by kernel_rfl) (by kernel_rfl) (by kernel_rfl) (fun _ _ _ h => h) (Or.inl ⟨by rfl, ?_⟩) (by assumption) ?_
  rotate_left
  · intro w hSw; (try dsimp only at hSw); go_simp; (try with_reducible rfl)
  (try simp only [Act.put, List.getElem_toArray, List.getElem_cons_succ, List.getElem_cons_zero, List.setIfInBounds_toArray, List.set_cons_zero, List.set_cons_succ])
  refine wpAnyH_take (i := 7) (v := ?_) rfl (by kernel_rfl) (by kernel_rfl) (by kernel_rfl) (fun _ _ _ h => h) (Or.inl ⟨by rfl, ?_⟩) (by assumption) ?_
  rotate_left
  · intro w hSw; (try dsimp only at hSw); go_simp; (try with_reducible rfl)
  (try simp only [Act.put, List.getElem_toArray, List.getElem_cons_succ, List.getElem_cons_zero, List.setIfInBounds_toArray, List.set_cons_zero, List.set_cons_succ])
  refine wpAnyH_take (i := 8) (v := ?_) rfl (by kernel_rfl) (by kernel_rfl) (by kernel_rfl) (fun _ _ _ h => h) (Or.inl ⟨by rfl, ?_⟩) (by assumption) ?_
  rotate_left
  · intro w hSw; (try dsimp only at hSw); go_simp; (try with_reducible rfl)
  (try simp only [Act.put, List.getElem_toArray, List.getElem_cons_succ, List.getElem_cons_zero, List.setIfInBounds_toArray, List.set_cons_zero, List.set_cons_succ])
  refine wpAnyH_take (i := 9) (v := ?_) rfl (by kernel_rfl) (by kernel_rfl) (by kernel_rfl) (fun _ _ _ h => h) (Or.inl ⟨by rfl, ?_⟩) (by assumption) ?_
  rotate_left
  · intro w hSw; (try dsimp only at hSw); go_simp; (try with_reducible rfl)
  (try simp only [Act.put, List.getElem_toArray, List.getElem_cons_succ, List.getElem_cons_zero, List.setIfInBounds_toArray, List.set_cons_zero, List.set_cons_succ])
  refine wpAnyH_take (i := 10) (v := ?_) rfl (by kernel_rfl) (by kernel_rfl) (by kernel_rfl) (fun _ _ _ h => h) (Or.inl ⟨by rfl, ?_⟩) (by assumption) ?_
  rotate_left
  · intro w hSw; (try dsimp only at hSw); go_simp; (try with_reducible rfl)
  (try simp only [Act.put, List.getElem_toArray, List.getElem_cons_succ, List.getElem_cons_zero, List.setIfInBounds_toArray, List.set_cons_zero, List.set_cons_succ])
  (try clear hK K)
  refine wpAnyH_take (i := 11) (v := undef) rfl (by kernel_rfl) (by kernel_rfl) (by kernel_rfl) (fun _ _ _ h => h) (Or.inr ⟨by rfl, rfl⟩) (by assumption) ?_
  (try simp only [Act.put, List.getElem_toArray, List.getElem_cons_succ, List.getElem_cons_zero, List.setIfInBounds_toArray, List.set_cons_zero, List.set_cons_succ])
  refine wpAnyH_take (i := 12) (v := undef) rfl (by kernel_rfl) (by kernel_rfl) (by kernel_rfl) (fun _ _ _ h => h) (Or.inr ⟨by rfl, rfl⟩) (by assumption) ?_
  (try simp only [Act.put, List.getElem_toArray, List.getElem_cons_succ, List.getElem_cons_zero, List.setIfInBounds_toArray, List.set_cons_zero, List.set_cons_succ])
  refine wpAnyH_take (i := 13) (v := undef) rfl (by kernel_rfl) (by kernel_rfl) (by kernel_rfl) (fun _ _ _ h => h) (Or.inr ⟨by rfl, rfl⟩) (by assumption) ?_
  (try simp only [Act.put, List.getElem_toArray, List.getElem_cons_succ, List.getElem_cons_zero, List.setIfInBounds_toArray, List.set_cons_zero, List.set_cons_succ])
  refine wpAnyH_take (i := 14) (v := undef) rfl (by kernel_rfl) (by kernel_rfl) (by kernel_rfl) (fun _ _ _ h => h) (Or.inr ⟨by rfl, rfl⟩) (by assumption) ?_
  (try simp only [Act.put, List.getElem_toArray, List.getElem_cons_succ, List.getElem_cons_zero, List.setIfInBounds_toArray, List.set_cons_zero, List.set_cons_succ])
  refine wpAnyH_take (i := 15) (v := undef) rfl (by kernel_rfl) (by kernel_rfl) (by kernel_rfl) (fun _ _ _ h => h) (Or.inr ⟨by rfl, rfl⟩) (by assumption) ?_
  (try simp only [Act.put, List.getElem_toArray, List.getElem_cons_succ, List.getElem_cons_zero, List.setIfInBounds_toArray, List.set_cons_zero, List.set_cons_succ])
  refine wpAnyH_take (i := 16) (v := undef) rfl (by kernel_rfl) (by kernel_rfl) (by kernel_rfl) (fun _ _ _ h => h) (Or.inr ⟨by rfl, rfl⟩) (by assumption) ?_
  (try simp only [Act.put, List.getElem_toArray, List.getElem_cons_succ, List.getElem_cons_zero, List.setIfInBounds_toArray, List.set_cons_zero, List.set_cons_succ])
  refine wpAnyH_take (i := 17) (v := undef) rfl (by kernel_rfl) (by kernel_rfl) (by kernel_rfl) (fun _ _ _ h => h) (Or.inr ⟨by rfl, rfl⟩) (by assumption) ?_
  (try simp only [Act.put, List.getElem_toArray, List.getElem_cons_succ, List.getElem_cons_zero, List.setIfInBounds_toArray, List.set_cons_zero, List.set_cons_succ])
  (try clear hK K)
  refine wpAnyH_take (i := 18) (v := ?_) rfl (by kernel_rfl) (by kernel_rfl) (by kernel_rfl) (fun _ _ _ h => h) (Or.inl ⟨by rfl, ?_⟩) (by assumption) ?_
  rotate_left
  · intro w hSw; (try dsimp only at hSw); go_simp; (try with_reducible rfl)
  (try simp only [Act.put, List.getElem_toArray, List.getElem_cons_succ, List.getElem_cons_zero, List.setIfInBounds_toArray, List.set_cons_zero, List.set_cons_succ])
  refine wpAnyH_take (i := 19) (v := ?_) rfl (by kernel_rfl) (by kernel_rfl) (by kernel_rfl) (fun _ _ _ h => h) (Or.inl ⟨by rfl, ?_⟩) (by assumption) ?_
  rotate_left
  · intro w hSw; (try dsimp only at hSw); go_simp; (try with_reducible rfl)
  (try simp only [Act.put, List.getElem_toArray, List.getElem_cons_succ, List.getElem_cons_zero, List.setIfInBounds_toArray, List.set_cons_zero, List.set_cons_succ])
  (try clear hK K)
  refine wpAnyH_done (by kernel_rfl) ?_ _
  go_wp2_with fail
  go_ret
  exact ⟨rfl, (alloc1 _ _).drew⟩
set_option maxHeartbeats 2000000 in
theorem h1_mid (rb b o n cr k : Nat) (x : Val) (p : PT) (w : World) (h1 : (p.op == 1) = false) (h2 : (p.op == 10) = false) (h3 : (p.op == 11) = false) (h4 : (p.op == 12) = false) (hr : w.cell? ⟨rb, 0, none⟩ = some (.slice (some ⟨b, o, none⟩) n cr)) (hk : p.col = (k : Int)) (hn : k < n)
    (d0 : w.cell? ⟨b, o + k * 3, none⟩ = some (.bool x.t)) (d1 : w.cell? ⟨b, o + k * 3 + 1, none⟩ = some (.int .i64 x.n)) (d2 : w.cell? ⟨b, o + k * 3 + 2, none⟩ = some (.string x.s)) :
    Calls Tryd.prog 76 #[p.val, MH rb, .pointer (some ⟨rb, 0, none⟩)] w fun e w' => e = .returned (.bool (standB p.op (cmpX x p.v) (cmpX x p.w))) ∧ Below w.heap.size w w' := by
  obtain ⟨a, ha⟩ : ∃ a, standB p.op (cmpX x p.v) (cmpX x p.w) = a := ⟨_, rfl⟩
  have H : Hid (∀ w1, Calls Tryd.prog 79 #[V x.t x.n x.s, p.val] w1 fun e w' => e = .returned (.bool a) ∧ Below w1.heap.size w1 w') := fun w1 => by rw [← ha]; exact stands_any x p w1
  rw [ha]
  have hlt : rb < w.heap.size := World.block_lt_of_cell? w _ hr
  have hlt2 : b < w.heap.size := World.block_lt_of_cell? w _ d0
  have k0 : (0 : Int) ≤ (k : Int) := by omega
  have k1 : (k : Int) < (n : Int) := by omega
  unfold PT.val at *
  rw [hk] at *
  clear ha hk
  go_enter Tryd.func76, Tryd.ntmps76
  go_wp2_with fail
  refine wp_region_held_drew (S := fun w' => (w'.cell? ⟨w.heap.size, 0, none⟩ = some (.int .i64 p.op) ∧ w'.cell? ⟨w.heap.size, 1, none⟩ = some (.int .i64 (k : Int)) ∧ w'.cell? ⟨w.heap.size, 2, none⟩ = some (.bool p.v.t) ∧ w'.cell? ⟨w.heap.size, 3, none⟩ = some (.int .i64 p.v.n) ∧ w'.cell? ⟨w.heap.size, 4, none⟩ = some (.string p.v.s) ∧ w'.cell? ⟨w.heap.size, 5, none⟩ = some (.bool p.w.t) ∧ w'.cell? ⟨w.heap.size, 6, none⟩ = some (.int .i64 p.w.n) ∧ w'.cell? ⟨w.heap.size, 7, none⟩ = some (.string p.w.s) ∧ w'.cell? ⟨w.heap.size, 8, none⟩ = some p.lv) ∧ w'.cell? ⟨rb, 0, none⟩ = some (.slice (some ⟨b, o, none⟩) n cr) ∧ w'.cell? ⟨b, o + k * 3, none⟩ = some (.bool x.t) ∧ w'.cell? ⟨b, o + k * 3 + 1, none⟩ = some (.int .i64 x.n) ∧ w'.cell? ⟨b, o + k * 3 + 2, none⟩ = some (.string x.s)) (by kernel_rfl) ?_ (fun hHeld => ?_)
  · simp [go_sem, hr, d0, d1, d2, World.cell?_alloc_some]
  (try clear hK K)
  refine wpAnyH_take (i := 0) (v := ?_) rfl (by kernel_rfl) (by kernel_rfl) (by kernel_rfl) (fun _ _ _ h => h) (Or.inl ⟨by rfl, ?_⟩) (by assumption) ?_
  rotate_left
  · intro w hSw; (try dsimp only at hSw); go_simp; (try with_reducible rfl)
  (try simp only [Act.put, List.getElem_toArray, List.getElem_cons_zero, List.setIfInBounds_toArray, List.set_cons_zero, List.set_cons_succ])
  refine wpAnyH_take (i := 1) (v := ?_) rfl (by kernel_rfl) (by kernel_rfl) (by kernel_rfl) (fun _ _ _ h => h) (Or.inl ⟨by rfl, ?_⟩) (by assumption) ?_
  rotate_left
  · intro w hSw; (try dsimp only at hSw); go_simp; (try with_reducible rfl)
  (try simp only [Act.put, List.getElem_toArray, List.getElem_cons_succ, List.getElem_cons_zero, List.setIfInBounds_toArray, List.set_cons_zero, List.set_cons_succ])
  refine wpAnyH_take (i := 2) (v := ?_) rfl (by kernel_rfl) (by kernel_rfl) (by kernel_rfl) (fun _ _ _ h => h) (Or.inl ⟨by rfl, ?_⟩) (by assumption) ?_
  rotate_left
  · intro w hSw; (try dsimp only at hSw); go_simp; (try with_reducible rfl)
  (try simp only [Act.put, List.getElem_toArray, List.getElem_cons_succ, List.getElem_cons_zero, List.setIfInBounds_toArray, List.set_cons_zero, List.set_cons_succ])
  refine wpAnyH_take (i := 3) (v := ?_) rfl (by kernel_rfl) (by kernel_rfl) (by kernel_rfl) (fun _ _ _ h => h) (Or.inl ⟨by rfl, ?_⟩) (by assumption) ?_
  rotate_left
  · intro w hSw; (try dsimp only at hSw); go_simp; (try with_reducible rfl)
  (try simp only [Act.put, List.getElem_toArray, List.getElem_cons_succ, List.getElem_cons_zero, List.setIfInBounds_toArray, List.set_cons_zero, List.set_cons_succ])
  refine wpAnyH_take (i := 4) (v := ?_) rfl (by kernel_rfl) (by kernel_rfl) (by kernel_rfl) (fun _ _ _ h => h) (Or.inl ⟨by rfl, ?_⟩) (by assumption) ?_
  rotate_left
  · intro w hSw; (try dsimp only at hSw); go_simp; (try with_reducible rfl)
  (try simp only [Act.put, List.getElem_toArray, List.getElem_cons_succ, List.getElem_cons_zero, List.setIfInBounds_toArray, List.set_cons_zero, List.set_cons_succ])
  refine wpAnyH_take (i := 5) (v := ?_) rfl (by kernel_rfl) (by kernel_rfl) (by kernel_rfl) (fun _ _ _ h => h) (Or.inl ⟨by rfl, ?_⟩) (by assumption) ?_
  rotate_left
  · intro w hSw; (try dsimp only at hSw); go_simp; (try with_reducible rfl)
  (try simp only [Act.put, List.getElem_toArray, List.getElem_cons_succ, List.getElem_cons_zero, List.setIfInBounds_toArray, List.set_cons_zero, List.set_cons_succ])
  refine wpAnyH_take (i := 6) (v := ?_) rfl (by kernel_rfl) (by kernel_rfl) (by kernel_rfl) (fun _ _ _ h => h) (Or.inl ⟨by rfl, ?_⟩) (by assumption) ?_
  rotate_left
  · intro w hSw; (try dsimp only at hSw); go_simp; (try with_reducible rfl)
  (try simp only [Act.put, List.getElem_toArray, List.getElem_cons_succ, List.getElem_cons_zero, List.setIfInBounds_toArray, List.set_cons_zero, List.set_cons_succ])
  refine wpAnyH_take (i := 7) (v := ?_) rfl (by kernel_rfl) (by kernel_rfl) (by kernel_rfl) (fun _ _ _ h => h) (Or.inl ⟨by rfl, ?_⟩) (by assumption) ?_
  rotate_left
  · intro w hSw; (try dsimp only at hSw); go_simp; (try with_reducible rfl)
  (try simp only [Act.put, List.getElem_toArray, List.getElem_cons_succ, List.getElem_cons_zero, List.setIfInBounds_toArray, List.set_cons_zero, List.set_cons_succ])
  refine wpAnyH_take (i := 8) (v := ?_) rfl (by kernel_rfl) (by kernel_rfl) (by kernel_rfl) (fun _ _ _ h => h) (Or.inl ⟨by rfl, ?_⟩) (by assumption) ?_
  rotate_left
  · intro w hSw; (try dsimp only at hSw); go_simp; (try with_reducible rfl)
  (try simp only [Act.put, List.getElem_toArray, List.getElem_cons_succ, List.getElem_cons_zero, List.setIfInBounds_toArray, List.set_cons_zero, List.set_cons_succ])
  refine wpAnyH_take (i := 9) (v := ?_) rfl (by kernel_rfl) (by kernel_rfl) (by kernel_rfl) (fun _ _ _ h => h) (Or.inl ⟨by rfl, ?_⟩) (by assumption) ?_
  rotate_left
  · intro w hSw; (try dsimp only at hSw); go_simp; (try with_reducible rfl)
  (try simp only [Act.put, List.getElem_toArray, List.getElem_cons_succ, List.getElem_cons_zero, List.setIfInBounds_toArray, List.set_cons_zero, List.set_cons_succ])
  refine wpAnyH_take (i := 10) (v := ?_) rfl (by kernel_rfl) (by kernel_rfl) (by kernel_rfl) (fun _ _ _ h => h) (Or.inl ⟨by rfl, ?_⟩) (by assumption) ?_
  rotate_left
  · intro w hSw; (try dsimp only at hSw); go_simp; (try with_reducible rfl)
  (try simp only [Act.put, List.getElem_toArray, List.getElem_cons_succ, List.getElem_cons_zero, List.setIfInBounds_toArray, List.set_cons_zero, List.set_cons_succ])
  refine wpAnyH_take (i := 11) (v := ?_) rfl (by kernel_rfl) (by kernel_rfl) (by kernel_rfl) (fun _ _ _ h => h) (Or.inl ⟨by rfl, ?_⟩) (by assumption) ?_
  rotate_left
  · intro w hSw; (try dsimp only at hSw); go_simp; (try with_reducible rfl)
  (try simp only [Act.put, List.getElem_toArray, List.getElem_cons_succ, List.getElem_cons_zero, List.setIfInBounds_toArray, List.set_cons_zero, List.set_cons_succ])
  refine wpAnyH_take (i := 12) (v := ?_) rfl (by kernel_rfl) (by kernel_rfl) (by kernel_rfl) (fun _ _ _ h => h) (Or.inl ⟨by rfl, ?_⟩) (by assumption) ?_
  rotate_left
  · intro w hSw; (try dsimp only at hSw); go_simp; (try with_reducible rfl)
  (try simp only [Act.put, List.getElem_toArray, List.getElem_cons_succ, List.getElem_cons_zero, List.setIfInBounds_toArray, List.set_cons_zero, List.set_cons_succ])
  refine wpAnyH_take (i := 13) (v := ?_) rfl (by kernel_rfl) (by kernel_rfl) (by kernel_rfl) (fun _ _ _ h => h) (Or.inl ⟨by rfl, ?_⟩) (by assumption) ?_
  rotate_left
  · intro w hSw; (try dsimp only at hSw); go_simp; (try with_reducible rfl)
  (try simp only [Act.put, List.getElem_toArray, List.getElem_cons_succ, List.getElem_cons_zero, List.setIfInBounds_toArray, List.set_cons_zero, List.set_cons_succ])
  refine wpAnyH_take (i := 14) (v := ?_) rfl (by kernel_rfl) (by kernel_rfl) (by kernel_rfl) (fun _ _ _ h => h) (Or.inl ⟨by rfl, ?_⟩) (by assumption) ?_
  rotate_left
  · intro w hSw; (try dsimp only at hSw); go_simp; (try with_reducible rfl)
  (try simp only [Act.put, List.getElem_toArray, List.getElem_cons_succ, List.getElem_cons_zero, List.setIfInBounds_toArray, List.set_cons_zero, List.set_cons_succ])
  refine wpAnyH_take (i := 15) (v := ?_) rfl (by kernel_rfl) (by kernel_rfl) (by kernel_rfl) (fun _ _ _ h => h) (Or.inl ⟨by rfl, ?_⟩) (by assumption) ?_
  rotate_left
  · intro w hSw; (try dsimp only at hSw); go_simp; (try with_reducible rfl)
  (try simp only [Act.put, List.getElem_toArray, List.getElem_cons_succ, List.getElem_cons_zero, List.setIfInBounds_toArray, List.set_cons_zero, List.set_cons_succ])
  refine wpAnyH_take (i := 16) (v := ?_) rfl (by kernel_rfl) (by kernel_rfl) (by kernel_rfl) (fun _ _ _ h => h) (Or.inl ⟨by rfl, ?_⟩) (by assumption) ?_
  rotate_left
  · intro w hSw; (try dsimp only at hSw); go_simp; (try with_reducible rfl)
  (try simp only [Act.put, List.getElem_toArray, List.getElem_cons_succ, List.getElem_cons_zero, List.setIfInBounds_toArray, List.set_cons_zero, List.set_cons_succ])
  (try clear hK K)
  refine wpAnyH_ready (rs := [17]) (by kernel_rfl) (by simp) ?_
  refine AllReadyH.cons rfl (fun K hK => ?_) AllReadyH.nil
  go_simp
  (refine Calls.mono (H.out _) ?_; rintro e w1 ⟨rfl, hb1⟩)
  refine hK.out _ _ ?_ (fun hHeld => ?_)
  · refine ⟨⟨?_, ?_, ?_, ?_, ?_, ?_, ?_, ?_, ?_⟩, ?_, ?_, ?_, ?_⟩ <;> rw [hb1.cell (by simp; try omega)] <;> simp [go_sem, hr, d0, d1, d2, World.cell?_alloc_some]
  (try clear hK K)
  refine wpAnyH_take (i := 18) (v := ?_) rfl (by kernel_rfl) (by kernel_rfl) (by kernel_rfl) (fun _ _ _ h => h) (Or.inl ⟨by rfl, ?_⟩) (by assumption) ?_
  rotate_left
  · intro w hSw; (try dsimp only at hSw); go_simp; (try with_reducible rfl)
  (try simp only [Act.put, List.getElem_toArray, List.getElem_cons_succ, List.getElem_cons_zero, List.setIfInBounds_toArray, List.set_cons_zero, List.set_cons_succ])
  refine wpAnyH_take (i := 19) (v := ?_) rfl (by kernel_rfl) (by kernel_rfl) (by kernel_rfl) (fun _ _ _ h => h) (Or.inl ⟨by rfl, ?_⟩) (by assumption) ?_
  rotate_left
  · intro w hSw; (try dsimp only at hSw); go_simp; (try with_reducible rfl)
  (try simp only [Act.put, List.getElem_toArray, List.getElem_cons_succ, List.getElem_cons_zero, List.setIfInBounds_toArray, List.set_cons_zero, List.set_cons_succ])
  (try clear hK K)
  refine wpAnyH_done (by kernel_rfl) ?_ _
  go_wp2_with fail
  go_ret
  exact ⟨rfl, ((alloc1 _ _).drew).trans (hb1.mono (by simp))⟩
end Go.Proofs.YtkkbbpldeeajaaaDoor.Val
/- What pred.Holds answers: the walk, by its parts. -/
namespace Go.Proofs.YtkkbbpldeeajaaaDoor.Val
open Go.RowKit

theorem h1_any (rb : Nat) (vr : Value) (r : List Val) (p : PT) (w : World) (hi : In w p) (hr : RB w rb vr r) (ih : ∀ q ∈ p.l, WalkOk rb vr r q) :
    Calls Tryd.prog 76 #[p.val, MH rb, .pointer (some ⟨rb, 0, none⟩)] w fun e w' => e = .returned (.bool (holdsP r p)) ∧ Below w.heap.size w w' := by
  by_cases h1 : p.op = 1
  · exact h1_true rb r p w h1
  by_cases h2 : p.op = 10
  · exact h1_not rb vr r p w h2 hi hr ih
  by_cases h3 : p.op = 11
  · exact h1_and rb vr r p w h3 hi hr ih
  by_cases h4 : p.op = 12
  · exact h1_or rb vr r p w h4 hi hr ih
  rw [holds_leaf h1 h2 h3 h4]
  have e1 : (p.op == 1) = false := by simpa using h1
  have e2 : (p.op == 10) = false := by simpa using h2
  have e3 : (p.op == 11) = false := by simpa using h3
  have e4 : (p.op == 12) = false := by simpa using h4
  by_cases hlo : p.col < 0
  · rw [leaf_low hlo]
    exact h1_low rb p w e1 e2 e3 e4 (by simp; omega)
  · obtain ⟨hr0, hrow⟩ := hr
    obtain ⟨ar, cr, rfl, hn⟩ := hrow.slice
    by_cases hhi : p.col < (r.length : Int)
    · obtain ⟨k, hk⟩ : ∃ k : Nat, p.col = (k : Int) := ⟨p.col.toNat, by omega⟩
      have hkl : k < r.length := by omega
      obtain ⟨b, o, rfl, d0, d1, d2⟩ := hrow.at k hkl
      have := h1_mid rb b o r.length cr k r[k] p w e1 e2 e3 e4 hr0 hk hkl d0 d1 d2
      rw [hk, leaf_at hkl]
      exact this
    · rw [leaf_high (by omega) (by omega)]
      exact h1_high rb ar r.length cr p w e1 e2 e3 e4 hr0 (by omega) (by simp; omega)
set_option maxHeartbeats 1000000 in
theorem walk_step (rb : Nat) (vr : Value) (r : List Val) (p : PT) (ih : ∀ q ∈ p.l, WalkOk rb vr r q) : WalkOk rb vr r p := by
  intro w hi hr
  obtain ⟨a, ha⟩ : ∃ a, holdsP r p = a := ⟨_, rfl⟩
  have H : Hid (∀ w1, Below w.heap.size w w1 → Calls Tryd.prog 76 #[p.val, MH rb, .pointer (some ⟨rb, 0, none⟩)] w1 fun e w' => e = .returned (.bool a) ∧ Below w1.heap.size w1 w') :=
    fun w1 hb => by rw [← ha]; exact h1_any rb vr r p w1 (hi.keep hb) (hr.below hb) ih
  rw [ha]
  clear ih hi hr ha
  unfold PT.val at *
  go_enter Tryd.func80, Tryd.ntmps80
  go_wp2_with fail
  refine Calls.mono (H.out _ (back1 (alloc1 _ _))) ?_
  rintro e w1 ⟨rfl, hb1⟩
  go_wp2_with fail
  go_ret
  exact ⟨rfl, back2 hb1⟩
theorem walk_ok (rb : Nat) (vr : Value) (r : List Val) (p : PT) : WalkOk rb vr r p := by
  induction p using PT.ind with
  | h p ih => exact walk_step rb vr r p ih
set_option maxHeartbeats 1000000 in
theorem holds_any (p : PT) (vr : Value) (r : List Val) (w : World) (hi : In w p) (hr : RowIn w vr r) :
    Calls Tryd.prog 64 #[p.val, vr] w fun e w' => e = .returned (.bool (holdsP r p)) ∧ Below w.heap.size w w' := by
  obtain ⟨a, ha⟩ : ∃ a, holdsP r p = a := ⟨_, rfl⟩
  obtain ⟨ar, cr, rfl, hn⟩ := hr.slice
  have H : Hid (∀ w1, Below w.heap.size w w1 → w1.cell? ⟨w.heap.size + 1, 0, none⟩ = some (.slice ar r.length cr) → Calls Tryd.prog 80 #[.agg #[FH (w.heap.size + 1)], p.val] w1 fun e w' => e = .returned (.bool a) ∧ Below w1.heap.size w1 w') :=
    fun w1 hb hc => by rw [← ha]; exact walk_ok _ _ r p w1 (hi.keep hb) ⟨hc, hr.below hb⟩
  rw [ha]
  clear hi hr ha
  unfold PT.val at *
  go_enter Tryd.func64, Tryd.ntmps64
  go_wp2_with fail
  refine Calls.mono (H.out _ ?hb ?hc) ?_
  case hb => exact back1 (back1 (alloc1 _ _))
  case hc => simp [go_sem]
  rintro e w1 ⟨rfl, hb1⟩
  go_wp2_with fail
  go_ret
  exact ⟨rfl, back3 hb1⟩
end Go.Proofs.YtkkbbpldeeajaaaDoor.Val
