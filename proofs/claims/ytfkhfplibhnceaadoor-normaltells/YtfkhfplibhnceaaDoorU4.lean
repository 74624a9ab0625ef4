/- Plain: a predicate's parts gone through with a count, as long as they pass. No program. -/
import Derived.Test.YtfkhfplibhnceaaDoorU1
import Derived.Maps.AppendAt
import Derived.OwnWalk
import Derived.Deep.RegionLaw
import Derived.Deep.RegionHeld3
import Derived.Laws.EntriesVeiled
namespace Go.Proofs.YtfkhfplibhnceaaDoor.Val
open Go Go.RowKit

/-- One behind the other, as long as they pass. -/
def evF : List (Nat → Bool × Nat) → Nat → Bool × Nat
  | [], n => (true, n)
  | f :: fs, n => if (f n).1 then evF fs (f n).2 else (false, (f n).2)
def evA (g : Nat → PT → Bool) : PT → Nat → Bool × Nat
  | .mk o c v w lv l => fun n => if g (n + 1) (.mk o c v w lv l) then evF (l.map (evA g)) (n + 1) else (false, n + 1)
/-- Whether the parts pass, and the count behind it. -/
def ev (g : Nat → PT → Bool) (n : Nat) (p : PT) : Bool × Nat := evA g p n
def evL (g : Nat → PT → Bool) (n : Nat) (l : List PT) : Bool × Nat := evF (l.map (evA g)) n
theorem ev_mk (g : Nat → PT → Bool) (n : Nat) (p : PT) : ev g n p = if g (n + 1) p then evL g (n + 1) p.l else (false, n + 1) := by cases p; rw [ev, evA]; rfl
theorem ev_yes {g : Nat → PT → Bool} {n : Nat} {p : PT} (h : g (n + 1) p = true) : ev g n p = evL g (n + 1) p.l := by rw [ev_mk, if_pos h]
theorem ev_no {g : Nat → PT → Bool} {n : Nat} {p : PT} (h : g (n + 1) p = false) : ev g n p = (false, n + 1) := by rw [ev_mk, if_neg (by simp [h])]
theorem evL_nil (g : Nat → PT → Bool) (n : Nat) : evL g n [] = (true, n) := rfl
theorem evL_cons (g : Nat → PT → Bool) (n : Nat) (q : PT) (l : List PT) : evL g n (q :: l) = if (ev g n q).1 then evL g (ev g n q).2 l else (false, (ev g n q).2) := rfl
/-- The count ahead of the i-th of a list. -/
def nAt (g : Nat → PT → Bool) : Nat → List PT → Nat → Nat
  | n, [], _ => n
  | n, _ :: _, 0 => n
  | n, q :: l, i + 1 => nAt g (ev g n q).2 l i
theorem nAt_zero (g : Nat → PT → Bool) (n : Nat) (l : List PT) : nAt g n l 0 = n := by cases l <;> rfl
theorem nAt_succ (g : Nat → PT → Bool) (n : Nat) (l : List PT) (i : Nat) (hi : i < l.length) : nAt g n l (i + 1) = (ev g (nAt g n l i) l[i]).2 := by
  induction l generalizing n i with
  | nil => simp at hi
  | cons q l ih =>
    cases i with
    | zero => simp [nAt, nAt_zero]
    | succ i => simpa [nAt] using ih (ev g n q).2 i (by simpa using hi)
theorem evL_all (g : Nat → PT → Bool) (n : Nat) (l : List PT) (h : ∀ (j : Nat) (hj : j < l.length), (ev g (nAt g n l j) l[j]).1 = true) : evL g n l = (true, nAt g n l l.length) := by
  induction l generalizing n with
  | nil => rfl
  | cons q l ih =>
    have h0 := h 0 (by simp)
    simp only [nAt_zero, List.getElem_cons_zero] at h0
    rw [evL_cons, if_pos h0, ih (ev g n q).2 (fun j hj => h (j + 1) (by simpa using hj))]
    rfl
theorem evL_stop (g : Nat → PT → Bool) (n : Nat) (l : List PT) (k : Nat) (hk : k < l.length) (h : ∀ (j : Nat) (hj : j < k), (ev g (nAt g n l j) (l[j]'(by omega))).1 = true) (hf : (ev g (nAt g n l k) l[k]).1 = false) : evL g n l = (false, nAt g n l (k + 1)) := by
  induction l generalizing n k with
  | nil => simp at hk
  | cons q l ih =>
    cases k with
    | zero =>
      simp only [nAt_zero, List.getElem_cons_zero] at hf
      rw [evL_cons, if_neg (by simp [hf])]
      simp [nAt, nAt_zero]
    | succ k =>
      have h0 := h 0 (by omega)
      simp only [nAt_zero, List.getElem_cons_zero] at h0
      rw [evL_cons, if_pos h0, ih (ev g n q).2 k (by simpa using hk) (fun j hj => h (j + 1) (by omega)) hf]
      simp [nAt]
def sizeL (l : List PT) : Nat := (l.map PT.size).sum
theorem sizeL_cons (q : PT) (l : List PT) : sizeL (q :: l) = q.size + sizeL l := by simp [sizeL]
theorem size_l (p : PT) : p.size = 1 + sizeL p.l := by cases p; rw [size_mk]; rfl
theorem evL_le {g : Nat → PT → Bool} (l : List PT) (h : ∀ q ∈ l, ∀ n, (ev g n q).2 ≤ n + q.size) (n : Nat) : (evL g n l).2 ≤ n + sizeL l := by
  induction l generalizing n with
  | nil => rw [evL_nil]; simp
  | cons q l ih =>
    have h0 := h q (List.mem_cons_self ..) n
    have h1 := ih (fun q' hq' => h q' (List.mem_cons_of_mem _ hq')) (ev g n q).2
    rw [evL_cons, sizeL_cons]
    split
    · omega
    · simp only; omega
theorem ev_le (g : Nat → PT → Bool) (p : PT) : ∀ n, (ev g n p).2 ≤ n + p.size := by
  induction p using PT.ind with
  | h p ih =>
    intro n
    have := evL_le p.l ih (n + 1)
    rw [ev_mk, size_l]
    split
    · omega
    · simp only; omega
theorem nAt_le (g : Nat → PT → Bool) (l : List PT) (n i : Nat) (hi : i < l.length) : nAt g n l i + l[i].size ≤ n + sizeL l := by
  induction l generalizing n i with
  | nil => simp at hi
  | cons q l ih =>
    rw [sizeL_cons]
    cases i with
    | zero => simp [nAt_zero]
    | succ i =>
      have := ih (ev g n q).2 i (by simpa using hi)
      have h0 := ev_le g q n
      simp only [nAt, List.getElem_cons_succ]
      omega
/-- Where all pass. -/
theorem evL_true (l : List PT) (h : ∀ q ∈ l, ∀ n, ev (fun _ _ => true) n q = (true, n + q.size)) (n : Nat) : evL (fun _ _ => true) n l = (true, n + sizeL l) := by
  induction l generalizing n with
  | nil => rw [evL_nil]; simp [sizeL]
  | cons q l ih => rw [evL_cons, h q (List.mem_cons_self ..) n, if_pos rfl, ih (fun q' hq' => h q' (List.mem_cons_of_mem _ hq')), sizeL_cons]; simp only [Prod.mk.injEq, true_and]; omega
theorem ev_true (p : PT) : ∀ n, ev (fun _ _ => true) n p = (true, n + p.size) := by
  induction p using PT.ind with
  | h p ih => intro n; rw [ev_mk, if_pos rfl, evL_true p.l ih, size_l]; simp only [Prod.mk.injEq, true_and]; omega
/-- Whether all parts, at all depths, are right by themselves. -/
def okP (s : PT → Bool) : PT → Bool
  | .mk o c v w lv l => s (.mk o c v w lv l) && (l.map (okP s)).all id
theorem okP_mk (s : PT → Bool) (p : PT) : okP s p = (s p && (p.l.map (okP s)).all id) := by cases p; rw [okP]
def upto (s : PT → Bool) (n : Nat) (p : PT) : Bool := decide (n ≤ 15) && s p
theorem ev_upto (s : PT → Bool) (p : PT) : ∀ n, ((ev (upto s) n p).1 = true ↔ n + p.size ≤ 15 ∧ okP s p = true) ∧ ((ev (upto s) n p).1 = true → (ev (upto s) n p).2 = n + p.size) := by
  induction p using PT.ind with
  | h p ih =>
    have hL : ∀ l : List PT, (∀ q ∈ l, q ∈ p.l) → ∀ n, n ≤ 15 → ((evL (upto s) n l).1 = true ↔ n + sizeL l ≤ 15 ∧ (l.map (okP s)).all id = true) ∧ ((evL (upto s) n l).1 = true → (evL (upto s) n l).2 = n + sizeL l) := by
      intro l
      induction l with
      | nil => intro _ n hn; rw [evL_nil]; simp [sizeL]; omega
      | cons q l ihl =>
        intro hm n hn
        obtain ⟨q1, q2⟩ := ih q (hm q (List.mem_cons_self ..)) n
        rw [evL_cons, sizeL_cons]
        cases hq : (ev (upto s) n q).1
        · rw [hq] at q1
          simp only [Bool.false_eq_true, if_false, false_iff, not_and] at q1 ⊢
          refine ⟨fun h1 h2 => ?_, fun h => by cases h⟩
          rw [List.map_cons, List.all_cons, Bool.and_eq_true] at h2
          exact q1 (by omega) h2.1
        · have e2 := q2 hq
          obtain ⟨a1, a2⟩ := q1.1 hq
          obtain ⟨r1, r2⟩ := ihl (fun x hx => hm x (List.mem_cons_of_mem _ hx)) (ev (upto s) n q).2 (by omega)
          rw [if_pos rfl, e2] at *
          refine ⟨?_, fun h => by rw [r2 h]; omega⟩
          rw [r1, List.map_cons, List.all_cons, Bool.and_eq_true]
          simp only [id, a2, true_and]
          constructor
          · rintro ⟨x, y⟩; exact ⟨by omega, y⟩
          · rintro ⟨x, y⟩; exact ⟨by omega, y⟩
    intro n
    rw [ev_mk, okP_mk, size_l]
    by_cases hn : n + 1 ≤ 15
    · cases hs : s p
      · have hu : upto s (n + 1) p = false := by simp [upto, hs]
        simp [hu]
      · have hu : upto s (n + 1) p = true := by simp [upto, hs, hn]
        obtain ⟨r1, r2⟩ := hL p.l (fun _ h => h) (n + 1) hn
        rw [if_pos hu]
        refine ⟨?_, fun h => by rw [r2 h]; omega⟩
        rw [r1, Bool.true_and]
        constructor
        · rintro ⟨x, y⟩; exact ⟨by omega, y⟩
        · rintro ⟨x, y⟩; exact ⟨by omega, y⟩
    · have hu : upto s (n + 1) p = false := by simp [upto, hn]
      rw [if_neg (by simp [hu])]
      simp only [Bool.false_eq_true, false_iff, not_and]
      exact ⟨fun h => by omega, fun h => by cases h⟩
end Go.Proofs.YtfkhfplibhnceaaDoor.Val
/- Plain: predicates in memory of the call's own. No program. -/
namespace Go.Proofs.YtfkhfplibhnceaaDoor.Val
open Go Go.RowKit

/-- Its parts lie, at all depths, in rows of the call's own, whose blocks are of some kind. -/
def NewN (w : World) (T : TypeId) (P : Nat → Prop) : Nat → PT → Prop
  | 0, _ => False
  | n + 1, p => p.v.s.size ≤ maxLen ∧ p.w.s.size ≤ maxLen ∧ w.ownsRow 0 T 9 p.lv p.l.length (p.l.flatMap PT.cells) ∧ (∀ g, p.lv.ownBlock = some g → P g) ∧ ∀ q ∈ p.l, NewN w T P n q
def New (w : World) (T : TypeId) (P : Nat → Prop) (p : PT) : Prop := ∃ n, NewN w T P n p
theorem NewN.mono {w : World} {T : TypeId} {P : Nat → Prop} {n m : Nat} {p : PT} (h : NewN w T P n p) (hm : n ≤ m) : NewN w T P m p := by
  induction n generalizing m p with
  | zero => exact h.elim
  | succ n ih =>
    cases m with
    | zero => omega
    | succ m => exact ⟨h.1, h.2.1, h.2.2.1, h.2.2.2.1, fun q hq => ih (h.2.2.2.2 q hq) (by omega)⟩
theorem New.mk {w : World} {T : TypeId} {P : Nat → Prop} {o c : Int} {v u : Val} {lv : Value} {l : List PT} (h1 : v.s.size ≤ maxLen) (h2 : u.s.size ≤ maxLen) (h3 : w.ownsRow 0 T 9 lv l.length (l.flatMap PT.cells)) (h4 : ∀ g, lv.ownBlock = some g → P g) (h5 : ∀ p ∈ l, New w T P p) : New w T P (.mk o c v u lv l) := by
  obtain ⟨n, hn⟩ := all_some (f := NewN w T P) (fun n m x hx hm => NewN.mono hx hm) l h5
  exact ⟨n + 1, h1, h2, h3, h4, hn⟩
def NewL (w : World) (T : TypeId) (P : Nat → Prop) (lv : Value) (l : List PT) : Prop := w.ownsRow 0 T 9 lv l.length (l.flatMap PT.cells) ∧ (∀ g, lv.ownBlock = some g → P g) ∧ ∀ p ∈ l, New w T P p
theorem owns_sv {X : Nat → Prop} {w w' : World} {b s : Nat} {T : TypeId} {v : Value} {n : Nat} {xs : List Value} (h : w.ownsRow b T s v n xs) (hs : Sv X w w') (hx : ∀ g, v.ownBlock = some g → ¬ X g) : w'.ownsRow b T s v n xs := by
  refine ⟨h.1, ?_⟩
  rcases h.2 with hn | ⟨g, cap, cur, rfl, hb, hg, rest⟩
  · exact .inl hn
  · refine .inr ⟨g, cap, cur, rfl, hb, ?_, rest⟩
    rw [hs.block g (Array.getElem?_eq_some_iff.1 hg).1 (hx g rfl)]; exact hg
theorem owns_base {w : World} {b b' s : Nat} {T : TypeId} {v : Value} {n : Nat} {xs : List Value} (h : w.ownsRow b T s v n xs) (hb : ∀ g, v.ownBlock = some g → b' ≤ g) : w.ownsRow b' T s v n xs := by
  refine ⟨h.1, ?_⟩
  rcases h.2 with hn | ⟨g, cap, cur, rfl, _, rest⟩
  · exact .inl hn
  · exact .inr ⟨g, cap, cur, rfl, hb g rfl, rest⟩
theorem owns_lies {w : World} {b s : Nat} {T : TypeId} {v : Value} {n : Nat} {xs : List Value} (h : w.ownsRow b T s v n xs) : Lies w v n xs := by
  rcases h.2 with ⟨rfl, rfl⟩ | ⟨g, cap, cur, rfl, hb, hg, hn, hm, hs, ht⟩
  · have : xs = [] := List.eq_nil_of_length_eq_zero (by rw [h.1]; simp)
    subst this
    exact ⟨none, 0, rfl, Nat.le_refl _, Nat.zero_le _, fun _ => ⟨rfl, rfl⟩, .inl rfl⟩
  · refine ⟨some ⟨g, 0, none⟩, cap, rfl, hn, hm, fun h => (by cases h), .inr ⟨g, 0, rfl, fun j u hj => ?_⟩⟩
    have := World.ownsRow.cells h (g := g) rfl j u hj
    rw [Addr.add_lit] at this
    exact this
theorem New.row {w : World} {T : TypeId} {P : Nat → Prop} {p : PT} (h : New w T P p) : NewL w T P p.lv p.l := by
  obtain ⟨n, h⟩ := h
  cases n with
  | zero => exact h.elim
  | succ n => exact ⟨h.2.2.1, h.2.2.2.1, fun q hq => ⟨n, h.2.2.2.2 q hq⟩⟩
theorem New.isIn {w : World} {T : TypeId} {P : Nat → Prop} {p : PT} (h : New w T P p) : In w p := by
  obtain ⟨n, h⟩ := h
  refine ⟨n, ?_⟩
  induction n generalizing p with
  | zero => exact h.elim
  | succ n ih => exact ⟨h.1, h.2.1, owns_lies h.2.2.1, fun q hq => ih (h.2.2.2.2 q hq)⟩
theorem New.sv {X : Nat → Prop} {w w' : World} {T : TypeId} {P : Nat → Prop} {p : PT} (h : New w T P p) (hs : Sv X w w') (hx : ∀ b, P b → ¬ X b) : New w' T P p := by
  obtain ⟨n, h⟩ := h
  refine ⟨n, ?_⟩
  induction n generalizing p with
  | zero => exact h.elim
  | succ n ih => exact ⟨h.1, h.2.1, owns_sv h.2.2.1 hs fun g hg => hx g (h.2.2.2.1 g hg), h.2.2.2.1, fun q hq => ih (h.2.2.2.2 q hq)⟩
theorem New.imp {w : World} {T : TypeId} {P Q : Nat → Prop} {p : PT} (h : New w T P p) (hq : ∀ b, P b → b < w.heap.size → Q b) : New w T Q p := by
  obtain ⟨n, h⟩ := h
  refine ⟨n, ?_⟩
  induction n generalizing p with
  | zero => exact h.elim
  | succ n ih => exact ⟨h.1, h.2.1, h.2.2.1, fun g hg => hq g (h.2.2.2.1 g hg) (World.ownsRow.lt h.2.2.1 g hg).2, fun q hq' => ih (h.2.2.2.2 q hq')⟩
theorem New.keep {w w' : World} {T : TypeId} {P : Nat → Prop} {p : PT} (h : New w T P p) (hb : Below w.heap.size w w') : New w' T P p := h.sv (X := Nothing) (Sv.of hb) fun _ _ h => h
theorem NewL.imp {w : World} {T : TypeId} {P Q : Nat → Prop} {lv : Value} {l : List PT} (h : NewL w T P lv l) (hq : ∀ b, P b → b < w.heap.size → Q b) : NewL w T Q lv l :=
  ⟨h.1, fun g hg => hq g (h.2.1 g hg) (World.ownsRow.lt h.1 g hg).2, fun p hp => (h.2.2 p hp).imp hq⟩
theorem NewL.below {w w' : World} {T : TypeId} {P : Nat → Prop} {lv : Value} {l : List PT} (h : NewL w T P lv l) (hb : Below w.heap.size w w') : NewL w' T P lv l :=
  ⟨owns_sv h.1 (Sv.of (X := Nothing) hb) (fun _ _ h => h), h.2.1, fun p hp => (h.2.2 p hp).keep hb⟩
theorem NewL.isIn {w : World} {T : TypeId} {P : Nat → Prop} {lv : Value} {l : List PT} (h : NewL w T P lv l) : InL w lv l := ⟨owns_lies h.1, fun p hp => (h.2.2 p hp).isIn⟩
theorem NewL.slice {w : World} {T : TypeId} {P : Nat → Prop} {lv : Value} {l : List PT} (h : NewL w T P lv l) : ∃ ao c, lv = .slice ao l.length c := by
  obtain ⟨ao, c, e, _⟩ := (owns_lies h.1).slice; exact ⟨ao, c, e⟩
theorem cells_flat (l : List PT) : (l.flatMap PT.cells).length = l.length * 9 := flat_length PT.cells 9 (fun _ => rfl) l
/-- Copies so far: of the first k of a list. -/
def CL (w wr : World) (T : TypeId) (l : List PT) (k : Nat) (own : Value) : Prop :=
  ∃ m : List PT, m.map PT.bare = (l.take k).map PT.bare ∧ wr.ownsRow w.heap.size T 9 own k (m.flatMap PT.cells) ∧ (∀ q ∈ m, New wr T (fun b => w.heap.size ≤ b ∧ own.ownBlock ≠ some b) q) ∧ Below w.heap.size w wr
theorem CL.start (w : World) (T : TypeId) (l : List PT) : CL w w T l 0 (.slice none 0 0) := ⟨[], by simp, World.ownsRow_nil _ _ _ _, by simp, Below.refl _ _⟩
theorem CL.done {w wr : World} {T : TypeId} {l : List PT} {own : Value} (h : CL w wr T l l.length own) : ∃ m : List PT, m.map PT.bare = l.map PT.bare ∧ NewL wr T (fun b => w.heap.size ≤ b) own m ∧ Below w.heap.size w wr := by
  obtain ⟨m, h1, h2, h3, h4⟩ := h
  rw [List.take_length] at h1
  have hlen : m.length = l.length := by have := congrArg List.length h1; simpa using this
  refine ⟨m, h1, ⟨?_, fun g hg => (World.ownsRow.lt h2 g hg).1, fun p hp => (h3 p hp).imp fun b hb _ => hb.1⟩, h4⟩
  rw [hlen]
  exact owns_base h2 fun g hg => Nat.zero_le _
/-- What the append is handed. -/
theorem CL.owns {w wr wb : World} {T : TypeId} {l : List PT} {k : Nat} {own : Value} (h : CL w wr T l k own) (hb : Below wr.heap.size wr wb) : ∃ m : List PT, wb.ownsRow w.heap.size T 9 own k (m.flatMap PT.cells) ∧ w.heap.size ≤ wb.heap.size ∧
    ∀ (q : PT) (wa w2 : World) (v' : Value) (hk : k < l.length), Below wr.heap.size wr wa → Below wa.heap.size wa wb → q.bare = l[k].bare → New wb T (fun b => wa.heap.size ≤ b) q → w2.ownsRow w.heap.size T 9 v' (k + 1) (m.flatMap PT.cells ++ q.cells) → wb.grownBy w2 own.ownBlock → (v'.ownBlock = own.ownBlock ∨ v'.ownBlock = some wb.heap.size) → CL w w2 T l (k + 1) v' := by
  obtain ⟨m, h1, h2, h3, h4⟩ := h
  have h2' : wb.ownsRow w.heap.size T 9 own k (m.flatMap PT.cells) := owns_sv (X := Nothing) h2 (Sv.of hb) fun _ _ h => h
  refine ⟨m, h2', Nat.le_trans h4.size hb.size, fun q wa w2 v' hk ha hab hq hn ho hg hat => ?_⟩
  have hsv : Sv (fun b => own.ownBlock = some b) wb w2 := ⟨hg.os, hg.tape, hg.output, hg.size, fun b hb hx => hg.block b hb fun e => hx e.symm⟩
  have hlt : ∀ g, own.ownBlock = some g → w.heap.size ≤ g ∧ g < wr.heap.size := World.ownsRow.lt h2
  have hsize := ha.size
  have hfin : ∀ b, w.heap.size ≤ b ∧ own.ownBlock ≠ some b → b < wb.heap.size → w.heap.size ≤ b ∧ v'.ownBlock ≠ some b := fun b hb1 hb2 => ⟨hb1.1, fun e => by
    rcases hat with hat | hat
    · exact hb1.2 (by rw [← hat]; exact e)
    · rw [hat] at e; have := Option.some.inj e; omega⟩
  refine ⟨m ++ [q], ?_, ?_, ?_, ?_⟩
  · rw [List.map_append, h1, List.take_add_one, List.map_append, List.getElem?_eq_getElem hk]
    simp [hq]
  · rw [List.flatMap_append]; simpa using ho
  · intro p hp
    rcases List.mem_append.1 hp with hp | hp
    · have n1 : New wb T (fun b => w.heap.size ≤ b ∧ own.ownBlock ≠ some b) p := (h3 p hp).keep hb
      exact (n1.imp (Q := fun b => (w.heap.size ≤ b ∧ own.ownBlock ≠ some b) ∧ (w.heap.size ≤ b ∧ v'.ownBlock ≠ some b)) fun b h1 h2 => ⟨h1, hfin b h1 h2⟩).sv hsv (fun b hb e => hb.1.2 e) |>.imp fun b hb _ => hb.2
    · rw [List.mem_singleton] at hp
      subst hp
      have n1 : New wb T (fun b => w.heap.size ≤ b ∧ own.ownBlock ≠ some b) p := hn.imp fun b hb _ => ⟨by have := h4.size; omega, fun e => by have := hlt b e; omega⟩
      exact (n1.imp (Q := fun b => (w.heap.size ≤ b ∧ own.ownBlock ≠ some b) ∧ (w.heap.size ≤ b ∧ v'.ownBlock ≠ some b)) fun b h1 h2 => ⟨h1, hfin b h1 h2⟩).sv hsv (fun b hb e => hb.1.2 e) |>.imp fun b hb _ => hb.2
  · exact (h4.trans (hb.mono h4.size)).trans (hsv.below (Nat.le_trans h4.size hb.size) fun b hb e => by have := hlt b e; omega)
end Go.Proofs.YtfkhfplibhnceaaDoor.Val
/- Words on predicates in memory of the call's own: the type's facts, cells of a new one. -/
namespace Go.Proofs.YtfkhfplibhnceaaDoor.Val
open Go.RowKit

abbrev TP : TypeId := 29
theorem info_P : (Tryd.prog.info? 29).map (fun i => (i.zero, i.size, i.bytes)) = some (some (PV 0 0 false 0 ⟨#[]⟩ false 0 ⟨#[]⟩ (.slice none 0 0)), 9, 104) := by kernel_rfl
theorem sizeL_mem {l : List PT} {q : PT} (h : q ∈ l) : q.size ≤ sizeL l := by
  induction l with
  | nil => simp at h
  | cons x l ih =>
    rw [sizeL_cons]
    rcases List.mem_cons.1 h with rfl | h
    · omega
    · have := ih h; omega
theorem length_sizeL (l : List PT) : l.length ≤ sizeL l := by
  induction l with
  | nil => simp
  | cons x l ih => rw [sizeL_cons, List.length_cons]; have := size_pos x; omega
theorem one_cells (q : PT) (ao : Option Addr) (n c : Nat) (h : q.lv = .slice ao n c) : ∀ u ∈ q.cells, u.oneCell' = true := by
  intro u hu
  simp only [PT.cells, h, List.mem_cons, List.not_mem_nil, or_false] at hu
  rcases hu with rfl | rfl | rfl | rfl | rfl | rfl | rfl | rfl | rfl <;> rfl
theorem new_cells (w : World) (q : PT) (T : TypeId) : ∀ j u, q.cells[j]? = some u → (w.alloc (pobj q T)).cell? ((⟨w.heap.size, 0, none⟩ : Addr).add j) = some u := by
  intro j u hj
  rw [Addr.add_lit, Nat.zero_add, cell_of_row (w.alloc _) w.heap.size j _ T (0, 0) (heap_alloc_new w _)]
  simpa [PT.cells] using hj
theorem bare_of {p : PT} {lv : Value} {m : List PT} (h : m.map PT.bare = p.l.map PT.bare) : (PT.mk p.op p.col p.v p.w lv m).bare = p.bare := by
  cases p with | mk o c v u lv' l => rw [bare_mk, bare_mk]; exact congrArg _ h
end Go.Proofs.YtfkhfplibhnceaaDoor.Val
/- Plain: predicates in memory of the call's own, but for empty lists; lists made so far. No program. -/
namespace Go.Proofs.YtfkhfplibhnceaaDoor.Val
open Go Go.RowKit

/-- A list of parts in a row of the call's own, or an empty one. -/
def RowNw (w : World) (T : TypeId) (P : Nat → Prop) (lv : Value) (l : List PT) : Prop :=
  (w.ownsRow 0 T 9 lv l.length (l.flatMap PT.cells) ∧ ∀ g, lv.ownBlock = some g → P g) ∨ (l = [] ∧ Lies w lv 0 [])
def NwN (w : World) (T : TypeId) (P : Nat → Prop) : Nat → PT → Prop
  | 0, _ => False
  | n + 1, p => p.v.s.size ≤ maxLen ∧ p.w.s.size ≤ maxLen ∧ RowNw w T P p.lv p.l ∧ ∀ q ∈ p.l, NwN w T P n q
def Nw (w : World) (T : TypeId) (P : Nat → Prop) (p : PT) : Prop := ∃ n, NwN w T P n p
theorem lies_nil {w w' : World} {lv : Value} (h : Lies w lv 0 []) : Lies w' lv 0 [] := by
  obtain ⟨ao, c, e, h1, h2, h3, _⟩ := h
  exact ⟨ao, c, e, h1, h2, h3, .inl rfl⟩
theorem RowNw.lies {w : World} {T : TypeId} {P : Nat → Prop} {lv : Value} {l : List PT} (h : RowNw w T P lv l) : Lies w lv l.length (l.flatMap PT.cells) := by
  rcases h with ⟨h, _⟩ | ⟨rfl, h⟩
  · exact owns_lies h
  · exact h
theorem RowNw.sv {X : Nat → Prop} {w w' : World} {T : TypeId} {P : Nat → Prop} {lv : Value} {l : List PT} (h : RowNw w T P lv l) (hs : Sv X w w') (hx : ∀ b, P b → ¬ X b) : RowNw w' T P lv l := by
  rcases h with ⟨h, hp⟩ | ⟨rfl, h⟩
  · exact .inl ⟨owns_sv h hs fun g hg => hx g (hp g hg), hp⟩
  · exact .inr ⟨rfl, lies_nil h⟩
theorem RowNw.imp {w : World} {T : TypeId} {P Q : Nat → Prop} {lv : Value} {l : List PT} (h : RowNw w T P lv l) (hq : ∀ b, P b → b < w.heap.size → Q b) : RowNw w T Q lv l := by
  rcases h with ⟨h, hp⟩ | ⟨rfl, h⟩
  · exact .inl ⟨h, fun g hg => hq g (hp g hg) (World.ownsRow.lt h g hg).2⟩
  · exact .inr ⟨rfl, h⟩
theorem NwN.mono {w : World} {T : TypeId} {P : Nat → Prop} {n m : Nat} {p : PT} (h : NwN w T P n p) (hm : n ≤ m) : NwN w T P m p := by
  induction n generalizing m p with
  | zero => exact h.elim
  | succ n ih =>
    cases m with
    | zero => omega
    | succ m => exact ⟨h.1, h.2.1, h.2.2.1, fun q hq => ih (h.2.2.2 q hq) (by omega)⟩
theorem Nw.mk {w : World} {T : TypeId} {P : Nat → Prop} {o c : Int} {v u : Val} {lv : Value} {l : List PT} (h1 : v.s.size ≤ maxLen) (h2 : u.s.size ≤ maxLen) (h3 : RowNw w T P lv l) (h5 : ∀ p ∈ l, Nw w T P p) : Nw w T P (.mk o c v u lv l) := by
  obtain ⟨n, hn⟩ := all_some (f := NwN w T P) (fun n m x hx hm => NwN.mono hx hm) l h5
  exact ⟨n + 1, h1, h2, h3, hn⟩
theorem Nw.all {w : World} {T : TypeId} {P : Nat → Prop} {p : PT} (h : Nw w T P p) : RowNw w T P p.lv p.l ∧ ∀ q ∈ p.l, Nw w T P q := by
  obtain ⟨n, h⟩ := h
  cases n with
  | zero => exact h.elim
  | succ n => exact ⟨h.2.2.1, fun q hq => ⟨n, h.2.2.2 q hq⟩⟩
theorem Nw.isIn {w : World} {T : TypeId} {P : Nat → Prop} {p : PT} (h : Nw w T P p) : In w p := by
  obtain ⟨n, h⟩ := h
  refine ⟨n, ?_⟩
  induction n generalizing p with
  | zero => exact h.elim
  | succ n ih => exact ⟨h.1, h.2.1, h.2.2.1.lies, fun q hq => ih (h.2.2.2 q hq)⟩
theorem Nw.slice {w : World} {T : TypeId} {P : Nat → Prop} {p : PT} (h : Nw w T P p) : ∃ ao c, p.lv = .slice ao p.l.length c := by
  obtain ⟨ao, c, e, _⟩ := h.all.1.lies.slice; exact ⟨ao, c, e⟩
theorem Nw.sv {X : Nat → Prop} {w w' : World} {T : TypeId} {P : Nat → Prop} {p : PT} (h : Nw w T P p) (hs : Sv X w w') (hx : ∀ b, P b → ¬ X b) : Nw w' T P p := by
  obtain ⟨n, h⟩ := h
  refine ⟨n, ?_⟩
  induction n generalizing p with
  | zero => exact h.elim
  | succ n ih => exact ⟨h.1, h.2.1, h.2.2.1.sv hs hx, fun q hq => ih (h.2.2.2 q hq)⟩
theorem Nw.imp {w : World} {T : TypeId} {P Q : Nat → Prop} {p : PT} (h : Nw w T P p) (hq : ∀ b, P b → b < w.heap.size → Q b) : Nw w T Q p := by
  obtain ⟨n, h⟩ := h
  refine ⟨n, ?_⟩
  induction n generalizing p with
  | zero => exact h.elim
  | succ n ih => exact ⟨h.1, h.2.1, h.2.2.1.imp hq, fun q hq' => ih (h.2.2.2 q hq')⟩
theorem Nw.keep {w w' : World} {T : TypeId} {P : Nat → Prop} {p : PT} (h : Nw w T P p) (hb : Below w.heap.size w w') : Nw w' T P p := h.sv (X := Nothing) (Sv.of hb) fun _ _ h => h
theorem Nw.leaf (w : World) (T : TypeId) (P : Nat → Prop) (o c : Int) (v u : Val) (h1 : v.s.size ≤ maxLen) (h2 : u.s.size ≤ maxLen) : Nw w T P (.mk o c v u (.slice none 0 0) []) :=
  .mk h1 h2 (.inr ⟨rfl, none, 0, rfl, Nat.le_refl _, Nat.zero_le _, fun _ => ⟨rfl, rfl⟩, .inl rfl⟩) (by simp)
/-- Made so far: as the first k of a list, in blocks from B on. -/
def CLw (B : Nat) (wr : World) (T : TypeId) (l : List PT) (k : Nat) (own : Value) : Prop :=
  ∃ m : List PT, m.map PT.bare = (l.take k).map PT.bare ∧ wr.ownsRow B T 9 own k (m.flatMap PT.cells) ∧ (∀ q ∈ m, Nw wr T (fun b => B ≤ b ∧ own.ownBlock ≠ some b) q)
theorem CLw.start (B : Nat) (w : World) (T : TypeId) (l : List PT) : CLw B w T l 0 (.slice none 0 0) := ⟨[], by simp, World.ownsRow_nil _ _ _ _, by simp⟩
theorem CLw.sv {B : Nat} {X : Nat → Prop} {w w' : World} {T : TypeId} {l : List PT} {k : Nat} {own : Value} (h : CLw B w T l k own) (hs : Sv X w w') (hx : ∀ b, B ≤ b → ¬ X b) : CLw B w' T l k own := by
  obtain ⟨m, h1, h2, h3⟩ := h
  exact ⟨m, h1, owns_sv h2 hs fun g hg => hx g (World.ownsRow.lt h2 g hg).1, fun q hq => (h3 q hq).sv hs fun b hb => hx b hb.1⟩
theorem CLw.done {B : Nat} {wr : World} {T : TypeId} {l : List PT} {k : Nat} {own : Value} (h : CLw B wr T l k own) (hk : k = l.length) : ∃ m : List PT, m.map PT.bare = l.map PT.bare ∧ RowNw wr T (fun b => B ≤ b) own m ∧ ∀ p ∈ m, Nw wr T (fun b => B ≤ b) p := by
  obtain ⟨m, h1, h2, h3⟩ := h
  subst hk
  rw [List.take_length] at h1
  have hlen : m.length = l.length := by have := congrArg List.length h1; simpa using this
  refine ⟨m, h1, .inl ⟨?_, fun g hg => (World.ownsRow.lt h2 g hg).1⟩, fun p hp => (h3 p hp).imp fun b hb _ => hb.1⟩
  rw [hlen]
  exact owns_base h2 fun g hg => Nat.zero_le _
theorem CLw.slice {B : Nat} {wr : World} {T : TypeId} {l : List PT} {k : Nat} {own : Value} (h : CLw B wr T l k own) : ∃ ao n c, own = .slice ao n c := by
  obtain ⟨m, _, h2, _⟩ := h
  obtain ⟨ao, c, e, _⟩ := (owns_lies h2).slice
  exact ⟨ao, k, c, e⟩
/-- What the append is handed. -/
theorem CLw.owns {B : Nat} {wr wb : World} {T : TypeId} {l : List PT} {k : Nat} {own : Value} (h : CLw B wr T l k own) (hB : B ≤ wr.heap.size) (hb : Below wr.heap.size wr wb) : ∃ m : List PT, wb.ownsRow B T 9 own k (m.flatMap PT.cells) ∧ B ≤ wb.heap.size ∧
    ∀ (q : PT) (wa w2 : World) (v' : Value) (hk : k < l.length), wr.heap.size ≤ wa.heap.size → q.bare = l[k].bare → Nw wb T (fun b => wa.heap.size ≤ b) q → w2.ownsRow B T 9 v' (k + 1) (m.flatMap PT.cells ++ q.cells) → wb.grownBy w2 own.ownBlock → (v'.ownBlock = own.ownBlock ∨ v'.ownBlock = some wb.heap.size) → CLw B w2 T l (k + 1) v' ∧ Sv (fun b => B ≤ b) wb w2 := by
  obtain ⟨m, h1, h2, h3⟩ := h
  have h2' : wb.ownsRow B T 9 own k (m.flatMap PT.cells) := owns_sv (X := Nothing) h2 (Sv.of hb) fun _ _ h => h
  refine ⟨m, h2', Nat.le_trans hB hb.size, fun q wa w2 v' hk ha hq hn ho hg hat => ?_⟩
  have hlt : ∀ g, own.ownBlock = some g → B ≤ g ∧ g < wr.heap.size := World.ownsRow.lt h2
  have hsv : Sv (fun b => own.ownBlock = some b) wb w2 := ⟨hg.os, hg.tape, hg.output, hg.size, fun b hb hx => hg.block b hb fun e => hx e.symm⟩
  have hsv' : Sv (fun b => B ≤ b) wb w2 := ⟨hg.os, hg.tape, hg.output, hg.size, fun b hb hx => hg.block b hb fun e => hx (hlt b e.symm).1⟩
  have hfin : ∀ b, B ≤ b ∧ own.ownBlock ≠ some b → b < wb.heap.size → B ≤ b ∧ v'.ownBlock ≠ some b := fun b hb1 hb2 => ⟨hb1.1, fun e => by
    rcases hat with hat | hat
    · exact hb1.2 (by rw [← hat]; exact e)
    · rw [hat] at e; have := Option.some.inj e; omega⟩
  refine ⟨⟨m ++ [q], ?_, ?_, ?_⟩, hsv'⟩
  · rw [List.map_append, h1, List.take_add_one, List.map_append, List.getElem?_eq_getElem hk]
    simp [hq]
  · rw [List.flatMap_append]; simpa using ho
  · intro p hp
    rcases List.mem_append.1 hp with hp | hp
    · have n1 : Nw wb T (fun b => B ≤ b ∧ own.ownBlock ≠ some b) p := (h3 p hp).keep hb
      exact (n1.imp (Q := fun b => (B ≤ b ∧ own.ownBlock ≠ some b) ∧ (B ≤ b ∧ v'.ownBlock ≠ some b)) fun b h1 h2 => ⟨h1, hfin b h1 h2⟩).sv hsv (fun b hb e => hb.1.2 e) |>.imp fun b hb _ => hb.2
    · rw [List.mem_singleton] at hp
      subst hp
      have n1 : Nw wb T (fun b => B ≤ b ∧ own.ownBlock ≠ some b) p := hn.imp fun b hb _ => ⟨by omega, fun e => by have := hlt b e; omega⟩
      exact (n1.imp (Q := fun b => (B ≤ b ∧ own.ownBlock ≠ some b) ∧ (B ≤ b ∧ v'.ownBlock ≠ some b)) fun b h1 h2 => ⟨h1, hfin b h1 h2⟩).sv hsv (fun b hb e => hb.1.2 e) |>.imp fun b hb _ => hb.2
end Go.Proofs.YtfkhfplibhnceaaDoor.Val
/- What slices.IndexFunc, ContainsFunc and pred.all answer of a list of predicates, whatever function they are handed. -/
namespace Go.Proofs.YtfkhfplibhnceaaDoor.Val
open Go.RowKit

/-- A function value. -/
abbrev FV (f : FuncId) (first cap : Array Value) : Value := .func (.func f) first cap
/-- A function of the program's that is entered where it is called. -/
def Enters (f : FuncId) : Prop := ∀ args w, (callFunc f args).run Tryd.prog w = .ok (.enter f args) w
theorem enters_of {f : FuncId} {fn : Func} {c : Code} (hf : Tryd.prog.funcs[f]? = some fn) (hname : (fn.name == "runtime.NumGoroutine") = false) (hb : fn.body = some c) : Enters f := fun args w => by
  have h1 : fn.name ≠ "runtime.NumGoroutine" := by simpa using hname
  simp [callFunc, hf, h1, hb]
set_option maxHeartbeats 1000000 in
theorem index_any (f : FuncId) (first cap : Array Value) (lv : Value) (l : List PT) (w : World) (X : Nat → Prop) (I : Nat → World → Prop) (g : Nat → Bool) (hI : I 0 w) (hE : Enters f)
    (hl : ∀ i w1, I i w1 → Lies w1 lv l.length (l.flatMap PT.cells))
    (hc : ∀ (i : Nat) (hi : i < l.length) (w1 : World), I i w1 → Calls Tryd.prog f (first.push l[i].val ++ cap) w1 fun e w2 => e = .returned (.bool (g i)) ∧ I (i + 1) w2 ∧ Sv X w1 w2) :
    Calls Tryd.prog 72 #[lv, FV f first cap] w fun e w' => Sv X w w' ∧
      ((∃ k : Nat, k < l.length ∧ g k = true ∧ (∀ j, j < k → g j = false) ∧ e = .returned (.int .i64 k) ∧ I (k + 1) w') ∨ ((∀ j, j < l.length → g j = false) ∧ e = .returned (.int .i64 (-1)) ∧ I l.length w')) := by
  obtain ⟨ao, c, rfl, hn⟩ := (hl 0 w hI).slice
  have HL : Hid _ := hl
  have HC : Hid _ := hc
  clear hl hc
  go_enter Tryd.func72, Tryd.ntmps72
  go_wp2_with fail
  go_loopw [8] (fun i wr => ∃ k : Nat, k ≤ l.length ∧ i = .int .i64 k ∧ Hid (∀ j, j < k → g j = false) ∧ Hid (I k wr) ∧ Hid (Sv X w wr))
    (fun i _ => l.length - (intOf i).toNat)
  case atStart => exact ⟨0, Nat.zero_le _, rfl, fun j hj => by omega, hI, Sv.refl _ _⟩
  case round =>
    clear hI
    obtain ⟨k, hk, rfl, HG, HI, HS⟩ := hrel
    by_cases h1 : k < l.length
    · have i0 : (0 : Int) ≤ (k : Int) := by omega
      have i1 : (k : Int) < (l.length : Int) := by omega
      obtain ⟨b, o, rfl, hat⟩ := lies_at (HL.out k wr HI.out) k h1
      obtain ⟨c0, c1, c2, c3, c4, c5, c6, c7, c8⟩ := hat
      have HC1 : Hid _ := HC.out k h1 wr HI.out
      have hE' : ∀ args w, (callFunc f args).run Tryd.prog w = .ok (.enter f args) w := hE
      clear HC HL hE
      cases hg : g k
      · rw [hg] at HC1
        go_wp2_with fail
        refine Calls.mono HC1.out ?_
        rintro e w1 ⟨rfl, hI1, hs1⟩
        have HI1 : Hid (I (k + 1) w1) := hI1
        have HS1 : Hid (Sv X w w1) := HS.out.trans hs1
        have HG1 : Hid (∀ j, j < k + 1 → g j = false) := fun j hj => by
          rcases Nat.lt_succ_iff_lt_or_eq.1 hj with h | rfl
          · exact HG.out j h
          · exact hg
        clear hI1 hs1 HC1 HG HI HS hg hE'
        go_wp2_with fail
        go_roundw
        case rel => exact ⟨k + 1, by omega, by go_num, HG1, HI1, HS1⟩
        case measure => simp [intOf]; omega
      · rw [hg] at HC1
        go_wp2_with fail
        refine Calls.mono HC1.out ?_
        rintro e w1 ⟨rfl, hI1, hs1⟩
        have HI1 : Hid (I (k + 1) w1) := hI1
        have HS1 : Hid (Sv X w w1) := HS.out.trans hs1
        clear hI1 hs1 HC1 HI HS hE'
        go_wp2_with fail
        go_ret
        exact ⟨HS1.out, .inl ⟨k, h1, hg, HG.out, rfl, HI1.out⟩⟩
    · have i1 : decide ((k : Int) < (l.length : Int)) = false := by simp; omega
      obtain rfl : k = l.length := by omega
      clear HC HL hE
      go_wp2_with fail
      go_ret
      exact ⟨HS.out, .inr ⟨HG.out, rfl, HI.out⟩⟩
end Go.Proofs.YtfkhfplibhnceaaDoor.Val
/- What each of package normal answers, whatever function it is handed that makes a predicate. -/
namespace Go.Proofs.YtfkhfplibhnceaaDoor.Val
open Go.RowKit

def oppTab : List Int := [0, 2, 1, 4, 3, 8, 7, 6, 5, 0, 0, 12, 11]
/-- The table of opposites lies in memory. -/
def Tab (w : World) : Prop := ∀ (i : Nat) (hi : i < oppTab.length), w.cell? ⟨0, i, none⟩ = some (.int .i64 oppTab[i])
theorem Tab.below {w w' : World} (h : Tab w) (hb : Below w.heap.size w w') : Tab w' := fun i hi => by
  rw [hb.cell (World.block_lt_of_cell? w _ (h i hi))]; exact h i hi
/-- A function makes of one predicate another one, in memory of its own. -/
def MadeOk (f : FuncId) (p t : PT) : Prop := ∀ w, In w p → Tab w → Calls Tryd.prog f #[p.val] w fun e w' => ∃ q : PT, e = .returned q.val ∧ q.bare = t.bare ∧ Nw w' TP (fun b => w.heap.size ≤ b) q ∧ Below w.heap.size w w'
set_option maxHeartbeats 2000000 in
theorem each_any (f : FuncId) (hE : Enters f) (g : PT → PT) (lv : Value) (l : List PT) (w : World) (hl : InL w lv l) (hT : Tab w) (hlen : l.length ≤ 1000000) (ih : ∀ q ∈ l, MadeOk f q (g q)) :
    Calls Tryd.prog 50 #[lv, FV f #[] #[]] w fun e w' => ∃ v' m, e = .returned v' ∧ m.map PT.bare = (l.map g).map PT.bare ∧ (RowNw w' TP (fun b => w.heap.size ≤ b) v' m ∧ ∀ p ∈ m, Nw w' TP (fun b => w.heap.size ≤ b) p) ∧ Below w.heap.size w w' := by
  obtain ⟨i0, hi, hz0, hz1, hz2⟩ := info_parts info_P
  have I0 : Hid (Tryd.prog.info? 29 = some i0 ∧ i0.zero = some (PV 0 0 false 0 ⟨#[]⟩ false 0 ⟨#[]⟩ (.slice none 0 0)) ∧ i0.size = 9 ∧ i0.bytes = 104) := ⟨hi, hz0, hz1, hz2⟩
  clear hi hz0 hz1 hz2
  obtain ⟨ao, c, rfl, hn⟩ := hl.1.slice
  have HL : Hid (InL w (.slice ao l.length c) l ∧ Tab w ∧ ∀ q ∈ l, MadeOk f q (g q)) := ⟨hl, hT, ih⟩
  have hE' : ∀ args w, (callFunc f args).run Tryd.prog w = .ok (.enter f args) w := hE
  clear hl hT ih hE
  go_enter Tryd.func50, Tryd.ntmps50
  go_wp2_with fail
  go_loopw [5, 10] (fun own i wr => ∃ k : Nat, k ≤ l.length ∧ i = .int .i64 k ∧ Hid (CLw w.heap.size wr TP (l.map g) k own ∧ Below w.heap.size w wr))
    (fun _ i _ => l.length - (intOf i).toNat)
  case atStart => exact ⟨0, Nat.zero_le _, rfl, CLw.start _ w TP _, Below.refl _ _⟩
  case round =>
    obtain ⟨k, hk, rfl, HK⟩ := hrel
    by_cases h1 : k < l.length
    · have i0' : (0 : Int) ≤ (k : Int) := by omega
      have i1 : (k : Int) < (l.length : Int) := by omega
      have hbw : Below w.heap.size w wr := HK.out.2
      obtain ⟨b, o, rfl, hat⟩ := lies_at (HL.out.1.1.below hbw) k h1
      have hmem : l[k] ∈ l := List.getElem_mem h1
      have hink : In wr l[k] := (HL.out.1.2 _ hmem).keep hbw
      have HQ : Hid (∀ w1, Below wr.heap.size wr w1 → Calls Tryd.prog f #[l[k].val] w1 fun e w' => ∃ q : PT, e = .returned q.val ∧ q.bare = (g l[k]).bare ∧ Nw w' TP (fun b => w1.heap.size ≤ b) q ∧ Below w1.heap.size w1 w') :=
        fun w1 hb => HL.out.2.2 _ hmem w1 (hink.keep hb) (HL.out.2.1.below (on hbw hb))
      obtain ⟨ak, ck, hlk, _⟩ := hink.lies.slice
      obtain ⟨c0, c1, c2, c3, c4, c5, c6, c7, c8⟩ := hat
      unfold PT.val at HQ
      rw [hlk] at c8 HQ
      have HLK : Hid (l[k].lv = .slice ak l[k].l.length ck) := hlk
      have hbl : b < wr.heap.size := World.block_lt_of_cell? _ _ c0
      clear hlk hmem hink hbw
      go_wp2_with fail
      refine Calls.mono (HQ.out _ (alloc1 _ _)) ?_
      rintro e w1 ⟨q, rfl, hqb, hqn, hb1⟩
      obtain ⟨aq, cq, hlq⟩ := hqn.slice
      have hb1' : Below wr.heap.size wr w1 := back1 hb1
      obtain ⟨m, hown, hsz, hnext⟩ := CLw.owns HK.out.1 HK.out.2.size (wb := w1.alloc (pobj q 29)) (on hb1' (alloc1 _ _))
      have HN : Hid _ := hnext
      have HA : Hid (q.bare = (g l[k]).bare ∧ Nw w1 TP (fun b => (wr.alloc (pobj l[k] 29)).heap.size ≤ b) q ∧ Below wr.heap.size wr w1) := by
        rw [← HLK.out] at hqn; exact ⟨hqb, hqn, hb1'⟩
      have HW : Hid ((w1.alloc (pobj q 29)).ownsRow w.heap.size TP 9 u5 k (m.flatMap PT.cells) ∧ w.heap.size ≤ (w1.alloc (pobj q 29)).heap.size) := ⟨hown, hsz⟩
      have HQL : Hid (q.lv = .slice aq q.l.length cq) := hlq
      clear hqb hqn hb1 hb1' hnext hown hsz c0 c1 c2 c3 c4 c5 c6 c7 c8 hlq HQ
      go_wp2_with (at_builtin; refine wpList_append_own_at _ rfl _ _ _ rfl w.heap.size TP i0 _ 9 104 Tryd.underlying27 I0.out.1 I0.out.2.1 I0.out.2.2.1 I0.out.2.2.2 rfl (by decide) u5 k (m.flatMap PT.cells) rfl HW.out.1 ⟨w1.heap.size, 0, none⟩ 1 1 q.cells rfl rfl (new_cells w1 q _) (one_cells q _ _ _ HQL.out) ?_ ?_ HW.out.2 ?_)
      · unfold maxLen; omega
      · omega
      · intro v' w2 hown' hgrow _ hat
        have HC : Hid (CLw w.heap.size w2 TP (l.map g) (k + 1) v' ∧ Below w.heap.size w w2) := by
          obtain ⟨a1, a2, a3⟩ := HA.out
          obtain ⟨r1, r2⟩ := HN.out q (wr.alloc (pobj l[k] 29)) w2 v' (by simpa using h1) (by simp) (by simpa using a1) (a2.keep (alloc1 _ _)) hown' hgrow (by simpa using hat)
          have hB : Below w.heap.size w (w1.alloc (pobj q 29)) := on HK.out.2 (on a3 (alloc1 _ _))
          exact ⟨r1, hB.trans (r2.below hB.size fun b hb hx => by omega)⟩
        clear hown' hgrow hat HA HN HW HQL HLK HK
        go_wp2_with fail
        go_roundw
        case rel => exact ⟨k + 1, by omega, by go_num, HC⟩
        case measure => simp [intOf]; omega
    · have i1 : decide ((k : Int) < (l.length : Int)) = false := by simp; omega
      obtain rfl : k = l.length := by omega
      obtain ⟨m, hm1, hm2⟩ := CLw.done HK.out.1 (by simp)
      have HM : Hid (m.map PT.bare = (l.map g).map PT.bare ∧ (RowNw wr TP (fun b => w.heap.size ≤ b) u5 m ∧ ∀ p ∈ m, Nw wr TP (fun b => w.heap.size ≤ b) p) ∧ Below w.heap.size w wr) := ⟨hm1, hm2, HK.out.2⟩
      clear hm1 hm2 HK HL
      go_wp2_with fail
      go_ret
      exact ⟨_, m, rfl, HM.out⟩
end Go.Proofs.YtfkhfplibhnceaaDoor.Val
/- What row.Check and the reference's May answer. -/
namespace Go.Proofs.YtfkhfplibhnceaaDoor.Val
open Go.RowKit

/-- May a table be? -/
def mayT (cols : List Bool) : Bool := decide (1 ≤ cols.length) && decide (cols.length ≤ 4)
theorem mayT_few {cols : List Bool} (h : cols.length < 1) : mayT cols = false := by unfold mayT; rw [decide_eq_false (by omega)]; rfl
theorem mayT_many {cols : List Bool} (h : ¬ cols.length ≤ 4) : mayT cols = false := by unfold mayT; rw [decide_eq_false h, Bool.and_false]
theorem mayT_yes {cols : List Bool} (h1 : 1 ≤ cols.length) (h : cols.length ≤ 4) : mayT cols = true := by unfold mayT; rw [decide_eq_true h, decide_eq_true h1]; rfl
theorem mayT_iff {cols : List Bool} : mayT cols = true ↔ 1 ≤ cols.length ∧ cols.length ≤ 4 := by simp only [mayT, Bool.and_eq_true, decide_eq_true_eq]
def isCol (cols : List Bool) (i : Int) : Bool := decide (0 ≤ i) && decide (i < cols.length)
def colAt (cols : List Bool) (i : Int) : Bool := cols.getD i.toNat false
def isNum (cols : List Bool) (i : Int) : Bool := isCol cols i && !colAt cols i
theorem colAt_of {cols : List Bool} {i : Int} (h : i.toNat < cols.length) : colAt cols i = cols[i.toNat] := by simp [colAt, h]
theorem ret_int' {k : IntKind} {a b : Int} (h : a = b) : Ending.returned (.int k a) = Ending.returned (.int k b) := by subst h; rfl
theorem ret_bool' {a b : Bool} (h : a = b) : Ending.returned (.bool a) = Ending.returned (.bool b) := by subst h; rfl
/-- An error's number. -/
def errIf (b : Bool) (n : Int) : Int := if b then n else 0

set_option maxHeartbeats 400000 in
theorem check_any (vc : Value) (cols : List Bool) (w : World) (h : BoolsIn w vc cols) :
    Calls Tryd.prog 47 #[.agg #[vc]] w fun e w' => e = .returned (.int .i64 (errIf (!mayT cols) 1)) ∧ Below w.heap.size w w' := by
  obtain ⟨ac, cc, rfl, lc⟩ := h.slice
  clear h
  by_cases h1 : cols.length < 1
  · go_enter Tryd.func47, Tryd.ntmps47
    go_wp2
    go_ret
    exact ⟨ret_int' (by rw [mayT_few h1]; rfl), (Below.refl _ _).alloc (Nat.le_refl _) _⟩
  · by_cases h2 : cols.length ≤ 4
    · go_enter Tryd.func47, Tryd.ntmps47
      go_wp2
      go_ret
      exact ⟨ret_int' (by rw [mayT_yes (by omega) h2]; rfl), (Below.refl _ _).alloc (Nat.le_refl _) _⟩
    · go_enter Tryd.func47, Tryd.ntmps47
      go_wp2
      go_ret
      exact ⟨ret_int' (by rw [mayT_many h2]; rfl), (Below.refl _ _).alloc (Nat.le_refl _) _⟩
set_option maxHeartbeats 400000 in
theorem rmay_any (vc : Value) (cols : List Bool) (w : World) (h : BoolsIn w vc cols) :
    Calls Tryd.prog 43 #[.agg #[vc]] w fun e w' => e = .returned (.bool (mayT cols)) ∧ Below w.heap.size w w' := by
  obtain ⟨ac, cc, rfl, lc⟩ := h.slice
  have HS : Hid (mayT cols = (decide (1 ≤ cols.length) && decide (cols.length ≤ 4))) := rfl
  clear h
  by_cases h1 : 1 ≤ cols.length
  · go_enter Tryd.func43, Tryd.ntmps43
    go_wp2
    go_ret
    exact ⟨ret_bool' (by rw [HS.out]; simp [h1]; omega), (Below.refl _ _).alloc (Nat.le_refl _) _⟩
  · go_enter Tryd.func43, Tryd.ntmps43
    go_wp2
    go_ret
    exact ⟨ret_bool' (by rw [HS.out]; simp [h1]), (Below.refl _ _).alloc (Nat.le_refl _) _⟩
end Go.Proofs.YtfkhfplibhnceaaDoor.Val
/- What Right of package value answers, for any value. -/
namespace Go.Proofs.YtfkhfplibhnceaaDoor.Val
open Go.RowKit

set_option maxHeartbeats 400000 in
theorem right_text_yes (s : ByteArray) (w : World) (hs : s.size ≤ maxLen) :
    Calls Tryd.prog 71 #[V true 0 s] w fun e w' => e = .returned (.bool (decide (s.size ≤ 12))) ∧ Below w.heap.size w w' := by
  unfold maxLen at hs
  go_enter Tryd.func71, Tryd.ntmps71
  go_wp2
  go_region_held3 (fun w' => w'.cell? ⟨w.heap.size, 0, none⟩ = some (.bool true) ∧ w'.cell? ⟨w.heap.size, 1, none⟩ = some (.int .i64 0) ∧ w'.cell? ⟨w.heap.size, 2, none⟩ = some (.string s)) (go_keep)
    ((go_at_call 63; refine (bare_text _ _ _).mono ?_; rintro e w1 ⟨rfl, hb1⟩; obtain ⟨⟨c0, c1, c2⟩, hz, hb⟩ := kept1d hb1))
  go_wp2
  go_ret
  exact ⟨by simp; omega, hb⟩
set_option maxHeartbeats 400000 in
theorem right_text_no (n : Int) (s : ByteArray) (w : World) (h : (n == 0) = false) :
    Calls Tryd.prog 71 #[V true n s] w fun e w' => e = .returned (.bool false) ∧ Below w.heap.size w w' := by
  go_enter Tryd.func71, Tryd.ntmps71
  go_wp2
  first | go_region_with (go_at_call 63; refine (bare_text _ _ _).mono ?_; rintro e w1 ⟨rfl, hb1⟩; obtain ⟨⟨c0, c1, c2⟩, hz, hb⟩ := kept1d hb1) | fail
  all_goals
    go_wp2
    go_ret
    exact ⟨rfl, hb⟩
set_option maxHeartbeats 400000 in
theorem right_number_yes (n : Int) (w : World) :
    Calls Tryd.prog 71 #[V false n ⟨#[]⟩] w fun e w' => e = .returned (.bool true) ∧ Below w.heap.size w w' := by
  go_enter Tryd.func71, Tryd.ntmps71
  go_wp2
  go_region_held3 (fun w' => w'.cell? ⟨w.heap.size, 0, none⟩ = some (.bool false) ∧ w'.cell? ⟨w.heap.size, 1, none⟩ = some (.int .i64 n) ∧ w'.cell? ⟨w.heap.size, 2, none⟩ = some (.string ⟨#[]⟩)) (go_keep)
    ((go_at_call 63; refine (bare_number _ _ _).mono ?_; rintro e w1 ⟨rfl, hb1⟩; obtain ⟨⟨c0, c1, c2⟩, hz, hb⟩ := kept1d hb1))
  go_wp2
  go_ret
  exact ⟨rfl, hb⟩
set_option maxHeartbeats 400000 in
theorem right_number_no (n : Int) (s : ByteArray) (w : World) (h : s.toList.isEmpty = false) :
    Calls Tryd.prog 71 #[V false n s] w fun e w' => e = .returned (.bool false) ∧ Below w.heap.size w w' := by
  go_enter Tryd.func71, Tryd.ntmps71
  go_wp2
  first | go_region_with (go_at_call 63; refine (bare_number _ _ _).mono ?_; rintro e w1 ⟨rfl, hb1⟩; obtain ⟨⟨c0, c1, c2⟩, hz, hb⟩ := kept1d hb1) | fail
  all_goals
    go_wp2
    go_ret
    exact ⟨rfl, hb⟩
end Go.Proofs.YtfkhfplibhnceaaDoor.Val
/- What Right of package value answers, for any value. -/
namespace Go.Proofs.YtfkhfplibhnceaaDoor.Val
open Go.RowKit

/-- May it be? -/
def rightV (t : Bool) (n : Int) (s : ByteArray) : Bool := if t then n == 0 && decide (s.size ≤ 12) else s.toList.isEmpty
theorem empty_of {s : ByteArray} (h : s.toList.isEmpty = true) : s = ⟨#[]⟩ := by
  rw [ByteArray.toList_eq] at h
  cases s with | mk d => cases d with | mk l => cases l <;> simp_all
theorem right_any (t : Bool) (n : Int) (s : ByteArray) (w : World) (hs : s.size ≤ maxLen) :
    Calls Tryd.prog 71 #[V t n s] w fun e w' => e = .returned (.bool (rightV t n s)) ∧ Below w.heap.size w w' := by
  cases t
  · cases h : s.toList.isEmpty
    · simp only [rightV, h]; exact right_number_no n s w h
    · simp only [rightV, h]; obtain rfl := empty_of h; exact right_number_yes n w
  · cases h : (n == 0)
    · simp only [rightV, h]; exact right_text_no n s w h
    · obtain rfl : n = 0 := by simpa using h
      exact right_text_yes s w hs
end Go.Proofs.YtfkhfplibhnceaaDoor.Val
/- What pred.isOf answers. -/
namespace Go.Proofs.YtfkhfplibhnceaaDoor.Val
open Go.RowKit

/-- May a value stand in a column? -/
def ofB (cols : List Bool) (col : Int) (x : Val) : Bool := isCol cols col && (rightV x.t x.n x.s && (x.t == colAt cols col))
theorem ofB_low {cols : List Bool} {col : Int} {x : Val} (h : col < 0) : ofB cols col x = false := by unfold ofB isCol; rw [decide_eq_false (by omega)]; rfl
theorem ofB_high {cols : List Bool} {col : Int} {x : Val} (h : (cols.length : Int) ≤ col) : ofB cols col x = false := by unfold ofB isCol; rw [decide_eq_false (p := col < cols.length) (by omega), Bool.and_false]; rfl
theorem ofB_wrong {cols : List Bool} {col : Int} {x : Val} (h : rightV x.t x.n x.s = false) : ofB cols col x = false := by unfold ofB; rw [h, Bool.false_and, Bool.and_false]
theorem ofB_at {cols : List Bool} {k : Nat} {x : Val} (h : rightV x.t x.n x.s = true) (hk : k < cols.length) : ofB cols (k : Int) x = (x.t == cols[k]) := by
  unfold ofB isCol; rw [h, colAt_of (by simpa using hk), decide_eq_true (by omega), decide_eq_true (by omega)]; simp
set_option maxHeartbeats 1000000 in
theorem isOf_low (vc : Value) (col : Int) (x : Val) (w : World) (hlo : decide (0 ≤ col) = false) :
    Calls Tryd.prog 68 #[.agg #[vc], .int .i64 col, V x.t x.n x.s] w fun e w' => e = .returned (.bool false) ∧ Below w.heap.size w w' := by
  go_enter Tryd.func68, Tryd.ntmps68
  go_wp2_with fail
  refine wp_region_held_drew (S := fun w' => True) (by kernel_rfl) ?_ (fun hHeld => ?_)
  · trivial
  (try clear hK K)
  refine wpAnyH_take (i := 0) (v := ?_) rfl (by kernel_rfl) (by kernel_rfl) (by kernel_rfl) (fun _ _ _ h => h) (Or.inl ⟨by rfl, ?_⟩) (by assumption) ?_
  rotate_left
  · intro w hSw; (try dsimp only at hSw); go_simp; (try with_reducible rfl)
  (try simp only [Act.put, List.getElem_toArray, List.getElem_cons_zero, List.setIfInBounds_toArray, List.set_cons_zero, List.set_cons_succ])
  refine wpAnyH_take (i := 1) (v := ?_) rfl (by kernel_rfl) (by kernel_rfl) (by kernel_rfl) (fun _ _ _ h => h) (Or.inl ⟨by rfl, ?_⟩) (by assumption) ?_
  rotate_left
  · intro w hSw; (try dsimp only at hSw); go_simp; (try with_reducible rfl)
  (try simp only [Act.put, List.getElem_toArray, List.getElem_cons_succ, List.getElem_cons_zero, List.setIfInBounds_toArray, List.set_cons_zero, List.set_cons_succ])
  refine wpAnyH_take (i := 2) (v := ?_) rfl (by kernel_rfl) (by kernel_rfl) (by kernel_rfl) (fun _ _ _ h => h) (Or.inl ⟨by rfl, ?_⟩) (by assumption) ?_
  rotate_left
  · intro w hSw; (try dsimp only at hSw); go_simp; (try with_reducible rfl)
  (try simp only [Act.put, List.getElem_toArray, List.getElem_cons_succ, List.getElem_cons_zero, List.setIfInBounds_toArray, List.set_cons_zero, List.set_cons_succ])
  (try clear hK K)
  refine wpAnyH_take (i := 3) (v := undef) rfl (by kernel_rfl) (by kernel_rfl) (by kernel_rfl) (fun _ _ _ h => h) (Or.inr ⟨by rfl, rfl⟩) (by assumption) ?_
  (try simp only [Act.put, List.getElem_toArray, List.getElem_cons_succ, List.getElem_cons_zero, List.setIfInBounds_toArray, List.set_cons_zero, List.set_cons_succ])
  refine wpAnyH_take (i := 4) (v := undef) rfl (by kernel_rfl) (by kernel_rfl) (by kernel_rfl) (fun _ _ _ h => h) (Or.inr ⟨by rfl, rfl⟩) (by assumption) ?_
  (try simp only [Act.put, List.getElem_toArray, List.getElem_cons_succ, List.getElem_cons_zero, List.setIfInBounds_toArray, List.set_cons_zero, List.set_cons_succ])
  refine wpAnyH_take (i := 5) (v := undef) rfl (by kernel_rfl) (by kernel_rfl) (by kernel_rfl) (fun _ _ _ h => h) (Or.inr ⟨by rfl, rfl⟩) (by assumption) ?_
  (try simp only [Act.put, List.getElem_toArray, List.getElem_cons_succ, List.getElem_cons_zero, List.setIfInBounds_toArray, List.set_cons_zero, List.set_cons_succ])
  refine wpAnyH_take (i := 6) (v := undef) rfl (by kernel_rfl) (by kernel_rfl) (by kernel_rfl) (fun _ _ _ h => h) (Or.inr ⟨by rfl, rfl⟩) (by assumption) ?_
  (try simp only [Act.put, List.getElem_toArray, List.getElem_cons_succ, List.getElem_cons_zero, List.setIfInBounds_toArray, List.set_cons_zero, List.set_cons_succ])
  refine wpAnyH_take (i := 7) (v := undef) rfl (by kernel_rfl) (by kernel_rfl) (by kernel_rfl) (fun _ _ _ h => h) (Or.inr ⟨by rfl, rfl⟩) (by assumption) ?_
  (try simp only [Act.put, List.getElem_toArray, List.getElem_cons_succ, List.getElem_cons_zero, List.setIfInBounds_toArray, List.set_cons_zero, List.set_cons_succ])
  (try clear hK K)
  refine wpAnyH_take (i := 8) (v := ?_) rfl (by kernel_rfl) (by kernel_rfl) (by kernel_rfl) (fun _ _ _ h => h) (Or.inl ⟨by rfl, ?_⟩) (by assumption) ?_
  rotate_left
  · intro w hSw; (try dsimp only at hSw); go_simp; (try with_reducible rfl)
  (try simp only [Act.put, List.getElem_toArray, List.getElem_cons_succ, List.getElem_cons_zero, List.setIfInBounds_toArray, List.set_cons_zero, List.set_cons_succ])
  refine wpAnyH_take (i := 9) (v := ?_) rfl (by kernel_rfl) (by kernel_rfl) (by kernel_rfl) (fun _ _ _ h => h) (Or.inl ⟨by rfl, ?_⟩) (by assumption) ?_
  rotate_left
  · intro w hSw; (try dsimp only at hSw); go_simp; (try with_reducible rfl)
  (try simp only [Act.put, List.getElem_toArray, List.getElem_cons_succ, List.getElem_cons_zero, List.setIfInBounds_toArray, List.set_cons_zero, List.set_cons_succ])
  (try clear hK K)
  refine wpAnyH_take (i := 10) (v := undef) rfl (by kernel_rfl) (by kernel_rfl) (by kernel_rfl) (fun _ _ _ h => h) (Or.inr ⟨by rfl, rfl⟩) (by assumption) ?_
  (try simp only [Act.put, List.getElem_toArray, List.getElem_cons_succ, List.getElem_cons_zero, List.setIfInBounds_toArray, List.set_cons_zero, List.set_cons_succ])
  refine wpAnyH_take (i := 11) (v := undef) rfl (by kernel_rfl) (by kernel_rfl) (by kernel_rfl) (fun _ _ _ h => h) (Or.inr ⟨by rfl, rfl⟩) (by assumption) ?_
  (try simp only [Act.put, List.getElem_toArray, List.getElem_cons_succ, List.getElem_cons_zero, List.setIfInBounds_toArray, List.set_cons_zero, List.set_cons_succ])
  (try clear hK K)
  refine wpAnyH_take (i := 12) (v := ?_) rfl (by kernel_rfl) (by kernel_rfl) (by kernel_rfl) (fun _ _ _ h => h) (Or.inl ⟨by rfl, ?_⟩) (by assumption) ?_
  rotate_left
  · intro w hSw; (try dsimp only at hSw); go_simp; (try with_reducible rfl)
  (try simp only [Act.put, List.getElem_toArray, List.getElem_cons_succ, List.getElem_cons_zero, List.setIfInBounds_toArray, List.set_cons_zero, List.set_cons_succ])
  refine wpAnyH_take (i := 13) (v := ?_) rfl (by kernel_rfl) (by kernel_rfl) (by kernel_rfl) (fun _ _ _ h => h) (Or.inl ⟨by rfl, ?_⟩) (by assumption) ?_
  rotate_left
  · intro w hSw; (try dsimp only at hSw); go_simp; (try with_reducible rfl)
  (try simp only [Act.put, List.getElem_toArray, List.getElem_cons_succ, List.getElem_cons_zero, List.setIfInBounds_toArray, List.set_cons_zero, List.set_cons_succ])
  (try clear hK K)
  refine wpAnyH_take (i := 14) (v := undef) rfl (by kernel_rfl) (by kernel_rfl) (by kernel_rfl) (fun _ _ _ h => h) (Or.inr ⟨by rfl, rfl⟩) (by assumption) ?_
  (try simp only [Act.put, List.getElem_toArray, List.getElem_cons_succ, List.getElem_cons_zero, List.setIfInBounds_toArray, List.set_cons_zero, List.set_cons_succ])
  refine wpAnyH_take (i := 15) (v := undef) rfl (by kernel_rfl) (by kernel_rfl) (by kernel_rfl) (fun _ _ _ h => h) (Or.inr ⟨by rfl, rfl⟩) (by assumption) ?_
  (try simp only [Act.put, List.getElem_toArray, List.getElem_cons_succ, List.getElem_cons_zero, List.setIfInBounds_toArray, List.set_cons_zero, List.set_cons_succ])
  refine wpAnyH_take (i := 16) (v := undef) rfl (by kernel_rfl) (by kernel_rfl) (by kernel_rfl) (fun _ _ _ h => h) (Or.inr ⟨by rfl, rfl⟩) (by assumption) ?_
  (try simp only [Act.put, List.getElem_toArray, List.getElem_cons_succ, List.getElem_cons_zero, List.setIfInBounds_toArray, List.set_cons_zero, List.set_cons_succ])
  refine wpAnyH_take (i := 17) (v := undef) rfl (by kernel_rfl) (by kernel_rfl) (by kernel_rfl) (fun _ _ _ h => h) (Or.inr ⟨by rfl, rfl⟩) (by assumption) ?_
  (try simp only [Act.put, List.getElem_toArray, List.getElem_cons_succ, List.getElem_cons_zero, List.setIfInBounds_toArray, List.set_cons_zero, List.set_cons_succ])
  refine wpAnyH_take (i := 18) (v := undef) rfl (by kernel_rfl) (by kernel_rfl) (by kernel_rfl) (fun _ _ _ h => h) (Or.inr ⟨by rfl, rfl⟩) (by assumption) ?_
  (try simp only [Act.put, List.getElem_toArray, List.getElem_cons_succ, List.getElem_cons_zero, List.setIfInBounds_toArray, List.set_cons_zero, List.set_cons_succ])
  refine wpAnyH_take (i := 19) (v := undef) rfl (by kernel_rfl) (by kernel_rfl) (by kernel_rfl) (fun _ _ _ h => h) (Or.inr ⟨by rfl, rfl⟩) (by assumption) ?_
  (try simp only [Act.put, List.getElem_toArray, List.getElem_cons_succ, List.getElem_cons_zero, List.setIfInBounds_toArray, List.set_cons_zero, List.set_cons_succ])
  refine wpAnyH_take (i := 20) (v := undef) rfl (by kernel_rfl) (by kernel_rfl) (by kernel_rfl) (fun _ _ _ h => h) (Or.inr ⟨by rfl, rfl⟩) (by assumption) ?_
  (try simp only [Act.put, List.getElem_toArray, List.getElem_cons_succ, List.getElem_cons_zero, List.setIfInBounds_toArray, List.set_cons_zero, List.set_cons_succ])
  refine wpAnyH_take (i := 21) (v := undef) rfl (by kernel_rfl) (by kernel_rfl) (by kernel_rfl) (fun _ _ _ h => h) (Or.inr ⟨by rfl, rfl⟩) (by assumption) ?_
  (try simp only [Act.put, List.getElem_toArray, List.getElem_cons_succ, List.getElem_cons_zero, List.setIfInBounds_toArray, List.set_cons_zero, List.set_cons_succ])
  (try clear hK K)
  refine wpAnyH_take (i := 22) (v := ?_) rfl (by kernel_rfl) (by kernel_rfl) (by kernel_rfl) (fun _ _ _ h => h) (Or.inl ⟨by rfl, ?_⟩) (by assumption) ?_
  rotate_left
  · intro w hSw; (try dsimp only at hSw); go_simp; (try with_reducible rfl)
  (try simp only [Act.put, List.getElem_toArray, List.getElem_cons_succ, List.getElem_cons_zero, List.setIfInBounds_toArray, List.set_cons_zero, List.set_cons_succ])
  refine wpAnyH_take (i := 23) (v := ?_) rfl (by kernel_rfl) (by kernel_rfl) (by kernel_rfl) (fun _ _ _ h => h) (Or.inl ⟨by rfl, ?_⟩) (by assumption) ?_
  rotate_left
  · intro w hSw; (try dsimp only at hSw); go_simp; (try with_reducible rfl)
  (try simp only [Act.put, List.getElem_toArray, List.getElem_cons_succ, List.getElem_cons_zero, List.setIfInBounds_toArray, List.set_cons_zero, List.set_cons_succ])
  (try clear hK K)
  refine wpAnyH_done (by kernel_rfl) ?_ _
  go_wp2_with fail
  go_ret
  exact ⟨rfl, (back1 (alloc1 _ _)).drew⟩
set_option maxHeartbeats 1000000 in
theorem isOf_high (ac : Option Addr) (n cc : Nat) (col : Int) (x : Val) (w : World) (hlo : 0 ≤ col) (hhi : decide (col < (n : Int)) = false) :
    Calls Tryd.prog 68 #[.agg #[.slice ac n cc], .int .i64 col, V x.t x.n x.s] w fun e w' => e = .returned (.bool false) ∧ Below w.heap.size w w' := by
  go_enter Tryd.func68, Tryd.ntmps68
  go_wp2_with fail
  refine wp_region_held_drew (S := fun w' => w'.cell? ⟨w.heap.size, 0, none⟩ = some (.slice ac n cc)) (by kernel_rfl) ?_ (fun hHeld => ?_)
  · simp [go_sem]
  (try clear hK K)
  refine wpAnyH_take (i := 0) (v := ?_) rfl (by kernel_rfl) (by kernel_rfl) (by kernel_rfl) (fun _ _ _ h => h) (Or.inl ⟨by rfl, ?_⟩) (by assumption) ?_
  rotate_left
  · intro w hSw; (try dsimp only at hSw); go_simp; (try with_reducible rfl)
  (try simp only [Act.put, List.getElem_toArray, List.getElem_cons_zero, List.setIfInBounds_toArray, List.set_cons_zero, List.set_cons_succ])
  refine wpAnyH_take (i := 1) (v := ?_) rfl (by kernel_rfl) (by kernel_rfl) (by kernel_rfl) (fun _ _ _ h => h) (Or.inl ⟨by rfl, ?_⟩) (by assumption) ?_
  rotate_left
  · intro w hSw; (try dsimp only at hSw); go_simp; (try with_reducible rfl)
  (try simp only [Act.put, List.getElem_toArray, List.getElem_cons_succ, List.getElem_cons_zero, List.setIfInBounds_toArray, List.set_cons_zero, List.set_cons_succ])
  refine wpAnyH_take (i := 2) (v := ?_) rfl (by kernel_rfl) (by kernel_rfl) (by kernel_rfl) (fun _ _ _ h => h) (Or.inl ⟨by rfl, ?_⟩) (by assumption) ?_
  rotate_left
  · intro w hSw; (try dsimp only at hSw); go_simp; (try with_reducible rfl)
  (try simp only [Act.put, List.getElem_toArray, List.getElem_cons_succ, List.getElem_cons_zero, List.setIfInBounds_toArray, List.set_cons_zero, List.set_cons_succ])
  refine wpAnyH_take (i := 3) (v := ?_) rfl (by kernel_rfl) (by kernel_rfl) (by kernel_rfl) (fun _ _ _ h => h) (Or.inl ⟨by rfl, ?_⟩) (by assumption) ?_
  rotate_left
  · intro w hSw; (try dsimp only at hSw); go_simp; (try with_reducible rfl)
  (try simp only [Act.put, List.getElem_toArray, List.getElem_cons_succ, List.getElem_cons_zero, List.setIfInBounds_toArray, List.set_cons_zero, List.set_cons_succ])
  refine wpAnyH_take (i := 4) (v := ?_) rfl (by kernel_rfl) (by kernel_rfl) (by kernel_rfl) (fun _ _ _ h => h) (Or.inl ⟨by rfl, ?_⟩) (by assumption) ?_
  rotate_left
  · intro w hSw; (try dsimp only at hSw); go_simp; (try with_reducible rfl)
  (try simp only [Act.put, List.getElem_toArray, List.getElem_cons_succ, List.getElem_cons_zero, List.setIfInBounds_toArray, List.set_cons_zero, List.set_cons_succ])
  refine wpAnyH_take (i := 5) (v := ?_) rfl (by kernel_rfl) (by kernel_rfl) (by kernel_rfl) (fun _ _ _ h => h) (Or.inl ⟨by rfl, ?_⟩) (by assumption) ?_
  rotate_left
  · intro w hSw; (try dsimp only at hSw); go_simp; (try with_reducible rfl)
  (try simp only [Act.put, List.getElem_toArray, List.getElem_cons_succ, List.getElem_cons_zero, List.setIfInBounds_toArray, List.set_cons_zero, List.set_cons_succ])
  refine wpAnyH_take (i := 6) (v := ?_) rfl (by kernel_rfl) (by kernel_rfl) (by kernel_rfl) (fun _ _ _ h => h) (Or.inl ⟨by rfl, ?_⟩) (by assumption) ?_
  rotate_left
  · intro w hSw; (try dsimp only at hSw); go_simp; (try with_reducible rfl)
  (try simp only [Act.put, List.getElem_toArray, List.getElem_cons_succ, List.getElem_cons_zero, List.setIfInBounds_toArray, List.set_cons_zero, List.set_cons_succ])
  refine wpAnyH_take (i := 7) (v := ?_) rfl (by kernel_rfl) (by kernel_rfl) (by kernel_rfl) (fun _ _ _ h => h) (Or.inl ⟨by rfl, ?_⟩) (by assumption) ?_
  rotate_left
  · intro w hSw; (try dsimp only at hSw); go_simp; (try with_reducible rfl)
  (try simp only [Act.put, List.getElem_toArray, List.getElem_cons_succ, List.getElem_cons_zero, List.setIfInBounds_toArray, List.set_cons_zero, List.set_cons_succ])
  refine wpAnyH_take (i := 8) (v := ?_) rfl (by kernel_rfl) (by kernel_rfl) (by kernel_rfl) (fun _ _ _ h => h) (Or.inl ⟨by rfl, ?_⟩) (by assumption) ?_
  rotate_left
  · intro w hSw; (try dsimp only at hSw); go_simp; (try with_reducible rfl)
  (try simp only [Act.put, List.getElem_toArray, List.getElem_cons_succ, List.getElem_cons_zero, List.setIfInBounds_toArray, List.set_cons_zero, List.set_cons_succ])
  refine wpAnyH_take (i := 9) (v := ?_) rfl (by kernel_rfl) (by kernel_rfl) (by kernel_rfl) (fun _ _ _ h => h) (Or.inl ⟨by rfl, ?_⟩) (by assumption) ?_
  rotate_left
  · intro w hSw; (try dsimp only at hSw); go_simp; (try with_reducible rfl)
  (try simp only [Act.put, List.getElem_toArray, List.getElem_cons_succ, List.getElem_cons_zero, List.setIfInBounds_toArray, List.set_cons_zero, List.set_cons_succ])
  (try clear hK K)
  refine wpAnyH_take (i := 10) (v := undef) rfl (by kernel_rfl) (by kernel_rfl) (by kernel_rfl) (fun _ _ _ h => h) (Or.inr ⟨by rfl, rfl⟩) (by assumption) ?_
  (try simp only [Act.put, List.getElem_toArray, List.getElem_cons_succ, List.getElem_cons_zero, List.setIfInBounds_toArray, List.set_cons_zero, List.set_cons_succ])
  refine wpAnyH_take (i := 11) (v := undef) rfl (by kernel_rfl) (by kernel_rfl) (by kernel_rfl) (fun _ _ _ h => h) (Or.inr ⟨by rfl, rfl⟩) (by assumption) ?_
  (try simp only [Act.put, List.getElem_toArray, List.getElem_cons_succ, List.getElem_cons_zero, List.setIfInBounds_toArray, List.set_cons_zero, List.set_cons_succ])
  (try clear hK K)
  refine wpAnyH_take (i := 12) (v := ?_) rfl (by kernel_rfl) (by kernel_rfl) (by kernel_rfl) (fun _ _ _ h => h) (Or.inl ⟨by rfl, ?_⟩) (by assumption) ?_
  rotate_left
  · intro w hSw; (try dsimp only at hSw); go_simp; (try with_reducible rfl)
  (try simp only [Act.put, List.getElem_toArray, List.getElem_cons_succ, List.getElem_cons_zero, List.setIfInBounds_toArray, List.set_cons_zero, List.set_cons_succ])
  refine wpAnyH_take (i := 13) (v := ?_) rfl (by kernel_rfl) (by kernel_rfl) (by kernel_rfl) (fun _ _ _ h => h) (Or.inl ⟨by rfl, ?_⟩) (by assumption) ?_
  rotate_left
  · intro w hSw; (try dsimp only at hSw); go_simp; (try with_reducible rfl)
  (try simp only [Act.put, List.getElem_toArray, List.getElem_cons_succ, List.getElem_cons_zero, List.setIfInBounds_toArray, List.set_cons_zero, List.set_cons_succ])
  (try clear hK K)
  refine wpAnyH_take (i := 14) (v := undef) rfl (by kernel_rfl) (by kernel_rfl) (by kernel_rfl) (fun _ _ _ h => h) (Or.inr ⟨by rfl, rfl⟩) (by assumption) ?_
  (try simp only [Act.put, List.getElem_toArray, List.getElem_cons_succ, List.getElem_cons_zero, List.setIfInBounds_toArray, List.set_cons_zero, List.set_cons_succ])
  refine wpAnyH_take (i := 15) (v := undef) rfl (by kernel_rfl) (by kernel_rfl) (by kernel_rfl) (fun _ _ _ h => h) (Or.inr ⟨by rfl, rfl⟩) (by assumption) ?_
  (try simp only [Act.put, List.getElem_toArray, List.getElem_cons_succ, List.getElem_cons_zero, List.setIfInBounds_toArray, List.set_cons_zero, List.set_cons_succ])
  refine wpAnyH_take (i := 16) (v := undef) rfl (by kernel_rfl) (by kernel_rfl) (by kernel_rfl) (fun _ _ _ h => h) (Or.inr ⟨by rfl, rfl⟩) (by assumption) ?_
  (try simp only [Act.put, List.getElem_toArray, List.getElem_cons_succ, List.getElem_cons_zero, List.setIfInBounds_toArray, List.set_cons_zero, List.set_cons_succ])
  refine wpAnyH_take (i := 17) (v := undef) rfl (by kernel_rfl) (by kernel_rfl) (by kernel_rfl) (fun _ _ _ h => h) (Or.inr ⟨by rfl, rfl⟩) (by assumption) ?_
  (try simp only [Act.put, List.getElem_toArray, List.getElem_cons_succ, List.getElem_cons_zero, List.setIfInBounds_toArray, List.set_cons_zero, List.set_cons_succ])
  refine wpAnyH_take (i := 18) (v := undef) rfl (by kernel_rfl) (by kernel_rfl) (by kernel_rfl) (fun _ _ _ h => h) (Or.inr ⟨by rfl, rfl⟩) (by assumption) ?_
  (try simp only [Act.put, List.getElem_toArray, List.getElem_cons_succ, List.getElem_cons_zero, List.setIfInBounds_toArray, List.set_cons_zero, List.set_cons_succ])
  refine wpAnyH_take (i := 19) (v := undef) rfl (by kernel_rfl) (by kernel_rfl) (by kernel_rfl) (fun _ _ _ h => h) (Or.inr ⟨by rfl, rfl⟩) (by assumption) ?_
  (try simp only [Act.put, List.getElem_toArray, List.getElem_cons_succ, List.getElem_cons_zero, List.setIfInBounds_toArray, List.set_cons_zero, List.set_cons_succ])
  refine wpAnyH_take (i := 20) (v := undef) rfl (by kernel_rfl) (by kernel_rfl) (by kernel_rfl) (fun _ _ _ h => h) (Or.inr ⟨by rfl, rfl⟩) (by assumption) ?_
  (try simp only [Act.put, List.getElem_toArray, List.getElem_cons_succ, List.getElem_cons_zero, List.setIfInBounds_toArray, List.set_cons_zero, List.set_cons_succ])
  refine wpAnyH_take (i := 21) (v := undef) rfl (by kernel_rfl) (by kernel_rfl) (by kernel_rfl) (fun _ _ _ h => h) (Or.inr ⟨by rfl, rfl⟩) (by assumption) ?_
  (try simp only [Act.put, List.getElem_toArray, List.getElem_cons_succ, List.getElem_cons_zero, List.setIfInBounds_toArray, List.set_cons_zero, List.set_cons_succ])
  (try clear hK K)
  refine wpAnyH_take (i := 22) (v := ?_) rfl (by kernel_rfl) (by kernel_rfl) (by kernel_rfl) (fun _ _ _ h => h) (Or.inl ⟨by rfl, ?_⟩) (by assumption) ?_
  rotate_left
  · intro w hSw; (try dsimp only at hSw); go_simp; (try with_reducible rfl)
  (try simp only [Act.put, List.getElem_toArray, List.getElem_cons_succ, List.getElem_cons_zero, List.setIfInBounds_toArray, List.set_cons_zero, List.set_cons_succ])
  refine wpAnyH_take (i := 23) (v := ?_) rfl (by kernel_rfl) (by kernel_rfl) (by kernel_rfl) (fun _ _ _ h => h) (Or.inl ⟨by rfl, ?_⟩) (by assumption) ?_
  rotate_left
  · intro w hSw; (try dsimp only at hSw); go_simp; (try with_reducible rfl)
  (try simp only [Act.put, List.getElem_toArray, List.getElem_cons_succ, List.getElem_cons_zero, List.setIfInBounds_toArray, List.set_cons_zero, List.set_cons_succ])
  (try clear hK K)
  refine wpAnyH_done (by kernel_rfl) ?_ _
  go_wp2_with fail
  go_ret
  exact ⟨rfl, (back1 (alloc1 _ _)).drew⟩
set_option maxHeartbeats 1000000 in
theorem isOf_wrong (ac : Option Addr) (n cc : Nat) (col : Int) (x : Val) (w : World) (hlo : 0 ≤ col) (hhi : col < (n : Int)) (hr : rightV x.t x.n x.s = false) (hs : x.s.size ≤ maxLen) :
    Calls Tryd.prog 68 #[.agg #[.slice ac n cc], .int .i64 col, V x.t x.n x.s] w fun e w' => e = .returned (.bool false) ∧ Below w.heap.size w w' := by
  have H : Hid (∀ w1, Calls Tryd.prog 71 #[V x.t x.n x.s] w1 fun e w' => e = .returned (.bool false) ∧ Below w1.heap.size w1 w') := fun w1 => by
    have := right_any x.t x.n x.s w1 hs; rw [hr] at this; exact this
  clear hr hs
  go_enter Tryd.func68, Tryd.ntmps68
  go_wp2_with fail
  refine wp_region_held_drew (S := fun w' => w'.cell? ⟨w.heap.size, 0, none⟩ = some (.slice ac n cc) ∧ w'.cell? ⟨w.heap.size + 1, 0, none⟩ = some (.bool x.t) ∧ w'.cell? ⟨w.heap.size + 1, 1, none⟩ = some (.int .i64 x.n) ∧ w'.cell? ⟨w.heap.size + 1, 2, none⟩ = some (.string x.s)) (by kernel_rfl) ?_ (fun hHeld => ?_)
  · simp [go_sem]
  (try clear hK K)
  refine wpAnyH_take (i := 0) (v := ?_) rfl (by kernel_rfl) (by kernel_rfl) (by kernel_rfl) (fun _ _ _ h => h) (Or.inl ⟨by rfl, ?_⟩) (by assumption) ?_
  rotate_left
  · intro w hSw; (try dsimp only at hSw); go_simp; (try with_reducible rfl)
  (try simp only [Act.put, List.getElem_toArray, List.getElem_cons_zero, List.setIfInBounds_toArray, List.set_cons_zero, List.set_cons_succ])
  refine wpAnyH_take (i := 1) (v := ?_) rfl (by kernel_rfl) (by kernel_rfl) (by kernel_rfl) (fun _ _ _ h => h) (Or.inl ⟨by rfl, ?_⟩) (by assumption) ?_
  rotate_left
  · intro w hSw; (try dsimp only at hSw); go_simp; (try with_reducible rfl)
  (try simp only [Act.put, List.getElem_toArray, List.getElem_cons_succ, List.getElem_cons_zero, List.setIfInBounds_toArray, List.set_cons_zero, List.set_cons_succ])
  refine wpAnyH_take (i := 2) (v := ?_) rfl (by kernel_rfl) (by kernel_rfl) (by kernel_rfl) (fun _ _ _ h => h) (Or.inl ⟨by rfl, ?_⟩) (by assumption) ?_
  rotate_left
  · intro w hSw; (try dsimp only at hSw); go_simp; (try with_reducible rfl)
  (try simp only [Act.put, List.getElem_toArray, List.getElem_cons_succ, List.getElem_cons_zero, List.setIfInBounds_toArray, List.set_cons_zero, List.set_cons_succ])
  refine wpAnyH_take (i := 3) (v := ?_) rfl (by kernel_rfl) (by kernel_rfl) (by kernel_rfl) (fun _ _ _ h => h) (Or.inl ⟨by rfl, ?_⟩) (by assumption) ?_
  rotate_left
  · intro w hSw; (try dsimp only at hSw); go_simp; (try with_reducible rfl)
  (try simp only [Act.put, List.getElem_toArray, List.getElem_cons_succ, List.getElem_cons_zero, List.setIfInBounds_toArray, List.set_cons_zero, List.set_cons_succ])
  refine wpAnyH_take (i := 4) (v := ?_) rfl (by kernel_rfl) (by kernel_rfl) (by kernel_rfl) (fun _ _ _ h => h) (Or.inl ⟨by rfl, ?_⟩) (by assumption) ?_
  rotate_left
  · intro w hSw; (try dsimp only at hSw); go_simp; (try with_reducible rfl)
  (try simp only [Act.put, List.getElem_toArray, List.getElem_cons_succ, List.getElem_cons_zero, List.setIfInBounds_toArray, List.set_cons_zero, List.set_cons_succ])
  refine wpAnyH_take (i := 5) (v := ?_) rfl (by kernel_rfl) (by kernel_rfl) (by kernel_rfl) (fun _ _ _ h => h) (Or.inl ⟨by rfl, ?_⟩) (by assumption) ?_
  rotate_left
  · intro w hSw; (try dsimp only at hSw); go_simp; (try with_reducible rfl)
  (try simp only [Act.put, List.getElem_toArray, List.getElem_cons_succ, List.getElem_cons_zero, List.setIfInBounds_toArray, List.set_cons_zero, List.set_cons_succ])
  refine wpAnyH_take (i := 6) (v := ?_) rfl (by kernel_rfl) (by kernel_rfl) (by kernel_rfl) (fun _ _ _ h => h) (Or.inl ⟨by rfl, ?_⟩) (by assumption) ?_
  rotate_left
  · intro w hSw; (try dsimp only at hSw); go_simp; (try with_reducible rfl)
  (try simp only [Act.put, List.getElem_toArray, List.getElem_cons_succ, List.getElem_cons_zero, List.setIfInBounds_toArray, List.set_cons_zero, List.set_cons_succ])
  refine wpAnyH_take (i := 7) (v := ?_) rfl (by kernel_rfl) (by kernel_rfl) (by kernel_rfl) (fun _ _ _ h => h) (Or.inl ⟨by rfl, ?_⟩) (by assumption) ?_
  rotate_left
  · intro w hSw; (try dsimp only at hSw); go_simp; (try with_reducible rfl)
  (try simp only [Act.put, List.getElem_toArray, List.getElem_cons_succ, List.getElem_cons_zero, List.setIfInBounds_toArray, List.set_cons_zero, List.set_cons_succ])
  refine wpAnyH_take (i := 8) (v := ?_) rfl (by kernel_rfl) (by kernel_rfl) (by kernel_rfl) (fun _ _ _ h => h) (Or.inl ⟨by rfl, ?_⟩) (by assumption) ?_
  rotate_left
  · intro w hSw; (try dsimp only at hSw); go_simp; (try with_reducible rfl)
  (try simp only [Act.put, List.getElem_toArray, List.getElem_cons_succ, List.getElem_cons_zero, List.setIfInBounds_toArray, List.set_cons_zero, List.set_cons_succ])
  refine wpAnyH_take (i := 9) (v := ?_) rfl (by kernel_rfl) (by kernel_rfl) (by kernel_rfl) (fun _ _ _ h => h) (Or.inl ⟨by rfl, ?_⟩) (by assumption) ?_
  rotate_left
  · intro w hSw; (try dsimp only at hSw); go_simp; (try with_reducible rfl)
  (try simp only [Act.put, List.getElem_toArray, List.getElem_cons_succ, List.getElem_cons_zero, List.setIfInBounds_toArray, List.set_cons_zero, List.set_cons_succ])
  refine wpAnyH_take (i := 10) (v := ?_) rfl (by kernel_rfl) (by kernel_rfl) (by kernel_rfl) (fun _ _ _ h => h) (Or.inl ⟨by rfl, ?_⟩) (by assumption) ?_
  rotate_left
  · intro w hSw; (try dsimp only at hSw); go_simp; (try with_reducible rfl)
  (try simp only [Act.put, List.getElem_toArray, List.getElem_cons_succ, List.getElem_cons_zero, List.setIfInBounds_toArray, List.set_cons_zero, List.set_cons_succ])
  (try clear hK K)
  refine wpAnyH_ready (rs := [11]) (by kernel_rfl) (by simp) ?_
  refine AllReadyH.cons rfl (fun K hK => ?_) AllReadyH.nil
  go_simp
  (refine Calls.mono (H.out _) ?_; rintro e w1 ⟨rfl, hb1⟩)
  refine hK.out _ _ ?_ (fun hHeld => ?_)
  · refine ⟨?_, ?_, ?_, ?_⟩ <;> rw [hb1.cell (by simp; try omega)] <;> simp [go_sem]
  (try clear hK K)
  refine wpAnyH_take (i := 12) (v := ?_) rfl (by kernel_rfl) (by kernel_rfl) (by kernel_rfl) (fun _ _ _ h => h) (Or.inl ⟨by rfl, ?_⟩) (by assumption) ?_
  rotate_left
  · intro w hSw; (try dsimp only at hSw); go_simp; (try with_reducible rfl)
  (try simp only [Act.put, List.getElem_toArray, List.getElem_cons_succ, List.getElem_cons_zero, List.setIfInBounds_toArray, List.set_cons_zero, List.set_cons_succ])
  refine wpAnyH_take (i := 13) (v := ?_) rfl (by kernel_rfl) (by kernel_rfl) (by kernel_rfl) (fun _ _ _ h => h) (Or.inl ⟨by rfl, ?_⟩) (by assumption) ?_
  rotate_left
  · intro w hSw; (try dsimp only at hSw); go_simp; (try with_reducible rfl)
  (try simp only [Act.put, List.getElem_toArray, List.getElem_cons_succ, List.getElem_cons_zero, List.setIfInBounds_toArray, List.set_cons_zero, List.set_cons_succ])
  (try clear hK K)
  refine wpAnyH_take (i := 14) (v := undef) rfl (by kernel_rfl) (by kernel_rfl) (by kernel_rfl) (fun _ _ _ h => h) (Or.inr ⟨by rfl, rfl⟩) (by assumption) ?_
  (try simp only [Act.put, List.getElem_toArray, List.getElem_cons_succ, List.getElem_cons_zero, List.setIfInBounds_toArray, List.set_cons_zero, List.set_cons_succ])
  refine wpAnyH_take (i := 15) (v := undef) rfl (by kernel_rfl) (by kernel_rfl) (by kernel_rfl) (fun _ _ _ h => h) (Or.inr ⟨by rfl, rfl⟩) (by assumption) ?_
  (try simp only [Act.put, List.getElem_toArray, List.getElem_cons_succ, List.getElem_cons_zero, List.setIfInBounds_toArray, List.set_cons_zero, List.set_cons_succ])
  refine wpAnyH_take (i := 16) (v := undef) rfl (by kernel_rfl) (by kernel_rfl) (by kernel_rfl) (fun _ _ _ h => h) (Or.inr ⟨by rfl, rfl⟩) (by assumption) ?_
  (try simp only [Act.put, List.getElem_toArray, List.getElem_cons_succ, List.getElem_cons_zero, List.setIfInBounds_toArray, List.set_cons_zero, List.set_cons_succ])
  refine wpAnyH_take (i := 17) (v := undef) rfl (by kernel_rfl) (by kernel_rfl) (by kernel_rfl) (fun _ _ _ h => h) (Or.inr ⟨by rfl, rfl⟩) (by assumption) ?_
  (try simp only [Act.put, List.getElem_toArray, List.getElem_cons_succ, List.getElem_cons_zero, List.setIfInBounds_toArray, List.set_cons_zero, List.set_cons_succ])
  refine wpAnyH_take (i := 18) (v := undef) rfl (by kernel_rfl) (by kernel_rfl) (by kernel_rfl) (fun _ _ _ h => h) (Or.inr ⟨by rfl, rfl⟩) (by assumption) ?_
  (try simp only [Act.put, List.getElem_toArray, List.getElem_cons_succ, List.getElem_cons_zero, List.setIfInBounds_toArray, List.set_cons_zero, List.set_cons_succ])
  refine wpAnyH_take (i := 19) (v := undef) rfl (by kernel_rfl) (by kernel_rfl) (by kernel_rfl) (fun _ _ _ h => h) (Or.inr ⟨by rfl, rfl⟩) (by assumption) ?_
  (try simp only [Act.put, List.getElem_toArray, List.getElem_cons_succ, List.getElem_cons_zero, List.setIfInBounds_toArray, List.set_cons_zero, List.set_cons_succ])
  refine wpAnyH_take (i := 20) (v := undef) rfl (by kernel_rfl) (by kernel_rfl) (by kernel_rfl) (fun _ _ _ h => h) (Or.inr ⟨by rfl, rfl⟩) (by assumption) ?_
  (try simp only [Act.put, List.getElem_toArray, List.getElem_cons_succ, List.getElem_cons_zero, List.setIfInBounds_toArray, List.set_cons_zero, List.set_cons_succ])
  refine wpAnyH_take (i := 21) (v := undef) rfl (by kernel_rfl) (by kernel_rfl) (by kernel_rfl) (fun _ _ _ h => h) (Or.inr ⟨by rfl, rfl⟩) (by assumption) ?_
  (try simp only [Act.put, List.getElem_toArray, List.getElem_cons_succ, List.getElem_cons_zero, List.setIfInBounds_toArray, List.set_cons_zero, List.set_cons_succ])
  (try clear hK K)
  refine wpAnyH_take (i := 22) (v := ?_) rfl (by kernel_rfl) (by kernel_rfl) (by kernel_rfl) (fun _ _ _ h => h) (Or.inl ⟨by rfl, ?_⟩) (by assumption) ?_
  rotate_left
  · intro w hSw; (try dsimp only at hSw); go_simp; (try with_reducible rfl)
  (try simp only [Act.put, List.getElem_toArray, List.getElem_cons_succ, List.getElem_cons_zero, List.setIfInBounds_toArray, List.set_cons_zero, List.set_cons_succ])
  refine wpAnyH_take (i := 23) (v := ?_) rfl (by kernel_rfl) (by kernel_rfl) (by kernel_rfl) (fun _ _ _ h => h) (Or.inl ⟨by rfl, ?_⟩) (by assumption) ?_
  rotate_left
  · intro w hSw; (try dsimp only at hSw); go_simp; (try with_reducible rfl)
  (try simp only [Act.put, List.getElem_toArray, List.getElem_cons_succ, List.getElem_cons_zero, List.setIfInBounds_toArray, List.set_cons_zero, List.set_cons_succ])
  (try clear hK K)
  refine wpAnyH_done (by kernel_rfl) ?_ _
  go_wp2_with fail
  go_ret
  exact ⟨rfl, ((back1 (alloc1 _ _)).drew).trans (hb1.mono (by simp; omega))⟩
set_option maxHeartbeats 1000000 in
theorem isOf_at (b o n cc k : Nat) (c : Bool) (x : Val) (w : World) (hk : k < n) (hr : rightV x.t x.n x.s = true) (hs : x.s.size ≤ maxLen) (hc : w.cell? ⟨b, o + k, none⟩ = some (.bool c)) :
    Calls Tryd.prog 68 #[.agg #[.slice (some ⟨b, o, none⟩) n cc], .int .i64 (k : Int), V x.t x.n x.s] w fun e w' => e = .returned (.bool (x.t == c)) ∧ Below w.heap.size w w' := by
  have H : Hid (∀ w1, Calls Tryd.prog 71 #[V x.t x.n x.s] w1 fun e w' => e = .returned (.bool true) ∧ Below w1.heap.size w1 w') := fun w1 => by
    have := right_any x.t x.n x.s w1 hs; rw [hr] at this; exact this
  have hlt : b < w.heap.size := World.block_lt_of_cell? w _ hc
  have k0 : (0 : Int) ≤ (k : Int) := by omega
  have k1 : (k : Int) < (n : Int) := by omega
  clear hr hs
  go_enter Tryd.func68, Tryd.ntmps68
  go_wp2_with fail
  refine wp_region_held_drew (S := fun w' => w'.cell? ⟨w.heap.size, 0, none⟩ = some (.slice (some ⟨b, o, none⟩) n cc) ∧ w'.cell? ⟨w.heap.size + 1, 0, none⟩ = some (.bool x.t) ∧ w'.cell? ⟨w.heap.size + 1, 1, none⟩ = some (.int .i64 x.n) ∧ w'.cell? ⟨w.heap.size + 1, 2, none⟩ = some (.string x.s) ∧ w'.cell? ⟨b, o + k, none⟩ = some (.bool c)) (by kernel_rfl) ?_ (fun hHeld => ?_)
  · simp [go_sem, hc, World.cell?_alloc_some]
  (try clear hK K)
  refine wpAnyH_take (i := 0) (v := ?_) rfl (by kernel_rfl) (by kernel_rfl) (by kernel_rfl) (fun _ _ _ h => h) (Or.inl ⟨by rfl, ?_⟩) (by assumption) ?_
  rotate_left
  · intro w hSw; (try dsimp only at hSw); go_simp; (try with_reducible rfl)
  (try simp only [Act.put, List.getElem_toArray, List.getElem_cons_zero, List.setIfInBounds_toArray, List.set_cons_zero, List.set_cons_succ])
  refine wpAnyH_take (i := 1) (v := ?_) rfl (by kernel_rfl) (by kernel_rfl) (by kernel_rfl) (fun _ _ _ h => h) (Or.inl ⟨by rfl, ?_⟩) (by assumption) ?_
  rotate_left
  · intro w hSw; (try dsimp only at hSw); go_simp; (try with_reducible rfl)
  (try simp only [Act.put, List.getElem_toArray, List.getElem_cons_succ, List.getElem_cons_zero, List.setIfInBounds_toArray, List.set_cons_zero, List.set_cons_succ])
  refine wpAnyH_take (i := 2) (v := ?_) rfl (by kernel_rfl) (by kernel_rfl) (by kernel_rfl) (fun _ _ _ h => h) (Or.inl ⟨by rfl, ?_⟩) (by assumption) ?_
  rotate_left
  · intro w hSw; (try dsimp only at hSw); go_simp; (try with_reducible rfl)
  (try simp only [Act.put, List.getElem_toArray, List.getElem_cons_succ, List.getElem_cons_zero, List.setIfInBounds_toArray, List.set_cons_zero, List.set_cons_succ])
  refine wpAnyH_take (i := 3) (v := ?_) rfl (by kernel_rfl) (by kernel_rfl) (by kernel_rfl) (fun _ _ _ h => h) (Or.inl ⟨by rfl, ?_⟩) (by assumption) ?_
  rotate_left
  · intro w hSw; (try dsimp only at hSw); go_simp; (try with_reducible rfl)
  (try simp only [Act.put, List.getElem_toArray, List.getElem_cons_succ, List.getElem_cons_zero, List.setIfInBounds_toArray, List.set_cons_zero, List.set_cons_succ])
  refine wpAnyH_take (i := 4) (v := ?_) rfl (by kernel_rfl) (by kernel_rfl) (by kernel_rfl) (fun _ _ _ h => h) (Or.inl ⟨by rfl, ?_⟩) (by assumption) ?_
  rotate_left
  · intro w hSw; (try dsimp only at hSw); go_simp; (try with_reducible rfl)
  (try simp only [Act.put, List.getElem_toArray, List.getElem_cons_succ, List.getElem_cons_zero, List.setIfInBounds_toArray, List.set_cons_zero, List.set_cons_succ])
  refine wpAnyH_take (i := 5) (v := ?_) rfl (by kernel_rfl) (by kernel_rfl) (by kernel_rfl) (fun _ _ _ h => h) (Or.inl ⟨by rfl, ?_⟩) (by assumption) ?_
  rotate_left
  · intro w hSw; (try dsimp only at hSw); go_simp; (try with_reducible rfl)
  (try simp only [Act.put, List.getElem_toArray, List.getElem_cons_succ, List.getElem_cons_zero, List.setIfInBounds_toArray, List.set_cons_zero, List.set_cons_succ])
  refine wpAnyH_take (i := 6) (v := ?_) rfl (by kernel_rfl) (by kernel_rfl) (by kernel_rfl) (fun _ _ _ h => h) (Or.inl ⟨by rfl, ?_⟩) (by assumption) ?_
  rotate_left
  · intro w hSw; (try dsimp only at hSw); go_simp; (try with_reducible rfl)
  (try simp only [Act.put, List.getElem_toArray, List.getElem_cons_succ, List.getElem_cons_zero, List.setIfInBounds_toArray, List.set_cons_zero, List.set_cons_succ])
  refine wpAnyH_take (i := 7) (v := ?_) rfl (by kernel_rfl) (by kernel_rfl) (by kernel_rfl) (fun _ _ _ h => h) (Or.inl ⟨by rfl, ?_⟩) (by assumption) ?_
  rotate_left
  · intro w hSw; (try dsimp only at hSw); go_simp; (try with_reducible rfl)
  (try simp only [Act.put, List.getElem_toArray, List.getElem_cons_succ, List.getElem_cons_zero, List.setIfInBounds_toArray, List.set_cons_zero, List.set_cons_succ])
  refine wpAnyH_take (i := 8) (v := ?_) rfl (by kernel_rfl) (by kernel_rfl) (by kernel_rfl) (fun _ _ _ h => h) (Or.inl ⟨by rfl, ?_⟩) (by assumption) ?_
  rotate_left
  · intro w hSw; (try dsimp only at hSw); go_simp; (try with_reducible rfl)
  (try simp only [Act.put, List.getElem_toArray, List.getElem_cons_succ, List.getElem_cons_zero, List.setIfInBounds_toArray, List.set_cons_zero, List.set_cons_succ])
  refine wpAnyH_take (i := 9) (v := ?_) rfl (by kernel_rfl) (by kernel_rfl) (by kernel_rfl) (fun _ _ _ h => h) (Or.inl ⟨by rfl, ?_⟩) (by assumption) ?_
  rotate_left
  · intro w hSw; (try dsimp only at hSw); go_simp; (try with_reducible rfl)
  (try simp only [Act.put, List.getElem_toArray, List.getElem_cons_succ, List.getElem_cons_zero, List.setIfInBounds_toArray, List.set_cons_zero, List.set_cons_succ])
  refine wpAnyH_take (i := 10) (v := ?_) rfl (by kernel_rfl) (by kernel_rfl) (by kernel_rfl) (fun _ _ _ h => h) (Or.inl ⟨by rfl, ?_⟩) (by assumption) ?_
  rotate_left
  · intro w hSw; (try dsimp only at hSw); go_simp; (try with_reducible rfl)
  (try simp only [Act.put, List.getElem_toArray, List.getElem_cons_succ, List.getElem_cons_zero, List.setIfInBounds_toArray, List.set_cons_zero, List.set_cons_succ])
  (try clear hK K)
  refine wpAnyH_ready (rs := [11]) (by kernel_rfl) (by simp) ?_
  refine AllReadyH.cons rfl (fun K hK => ?_) AllReadyH.nil
  go_simp
  (refine Calls.mono (H.out _) ?_; rintro e w1 ⟨rfl, hb1⟩)
  refine hK.out _ _ ?_ (fun hHeld => ?_)
  · refine ⟨?_, ?_, ?_, ?_, ?_⟩ <;> rw [hb1.cell (by simp; try omega)] <;> simp [go_sem, hc, World.cell?_alloc_some]
  (try clear hK K)
  refine wpAnyH_take (i := 12) (v := ?_) rfl (by kernel_rfl) (by kernel_rfl) (by kernel_rfl) (fun _ _ _ h => h) (Or.inl ⟨by rfl, ?_⟩) (by assumption) ?_
  rotate_left
  · intro w hSw; (try dsimp only at hSw); go_simp; (try with_reducible rfl)
  (try simp only [Act.put, List.getElem_toArray, List.getElem_cons_succ, List.getElem_cons_zero, List.setIfInBounds_toArray, List.set_cons_zero, List.set_cons_succ])
  refine wpAnyH_take (i := 13) (v := ?_) rfl (by kernel_rfl) (by kernel_rfl) (by kernel_rfl) (fun _ _ _ h => h) (Or.inl ⟨by rfl, ?_⟩) (by assumption) ?_
  rotate_left
  · intro w hSw; (try dsimp only at hSw); go_simp; (try with_reducible rfl)
  (try simp only [Act.put, List.getElem_toArray, List.getElem_cons_succ, List.getElem_cons_zero, List.setIfInBounds_toArray, List.set_cons_zero, List.set_cons_succ])
  refine wpAnyH_take (i := 14) (v := ?_) rfl (by kernel_rfl) (by kernel_rfl) (by kernel_rfl) (fun _ _ _ h => h) (Or.inl ⟨by rfl, ?_⟩) (by assumption) ?_
  rotate_left
  · intro w hSw; (try dsimp only at hSw); go_simp; (try with_reducible rfl)
  (try simp only [Act.put, List.getElem_toArray, List.getElem_cons_succ, List.getElem_cons_zero, List.setIfInBounds_toArray, List.set_cons_zero, List.set_cons_succ])
  refine wpAnyH_take (i := 15) (v := ?_) rfl (by kernel_rfl) (by kernel_rfl) (by kernel_rfl) (fun _ _ _ h => h) (Or.inl ⟨by rfl, ?_⟩) (by assumption) ?_
  rotate_left
  · intro w hSw; (try dsimp only at hSw); go_simp; (try with_reducible rfl)
  (try simp only [Act.put, List.getElem_toArray, List.getElem_cons_succ, List.getElem_cons_zero, List.setIfInBounds_toArray, List.set_cons_zero, List.set_cons_succ])
  refine wpAnyH_take (i := 16) (v := ?_) rfl (by kernel_rfl) (by kernel_rfl) (by kernel_rfl) (fun _ _ _ h => h) (Or.inl ⟨by rfl, ?_⟩) (by assumption) ?_
  rotate_left
  · intro w hSw; (try dsimp only at hSw); go_simp; (try with_reducible rfl)
  (try simp only [Act.put, List.getElem_toArray, List.getElem_cons_succ, List.getElem_cons_zero, List.setIfInBounds_toArray, List.set_cons_zero, List.set_cons_succ])
  refine wpAnyH_take (i := 17) (v := ?_) rfl (by kernel_rfl) (by kernel_rfl) (by kernel_rfl) (fun _ _ _ h => h) (Or.inl ⟨by rfl, ?_⟩) (by assumption) ?_
  rotate_left
  · intro w hSw; (try dsimp only at hSw); go_simp; (try with_reducible rfl)
  (try simp only [Act.put, List.getElem_toArray, List.getElem_cons_succ, List.getElem_cons_zero, List.setIfInBounds_toArray, List.set_cons_zero, List.set_cons_succ])
  refine wpAnyH_take (i := 18) (v := ?_) rfl (by kernel_rfl) (by kernel_rfl) (by kernel_rfl) (fun _ _ _ h => h) (Or.inl ⟨by rfl, ?_⟩) (by assumption) ?_
  rotate_left
  · intro w hSw; (try dsimp only at hSw); go_simp; (try with_reducible rfl)
  (try simp only [Act.put, List.getElem_toArray, List.getElem_cons_succ, List.getElem_cons_zero, List.setIfInBounds_toArray, List.set_cons_zero, List.set_cons_succ])
  refine wpAnyH_take (i := 19) (v := ?_) rfl (by kernel_rfl) (by kernel_rfl) (by kernel_rfl) (fun _ _ _ h => h) (Or.inl ⟨by rfl, ?_⟩) (by assumption) ?_
  rotate_left
  · intro w hSw; (try dsimp only at hSw); go_simp; (try with_reducible rfl)
  (try simp only [Act.put, List.getElem_toArray, List.getElem_cons_succ, List.getElem_cons_zero, List.setIfInBounds_toArray, List.set_cons_zero, List.set_cons_succ])
  refine wpAnyH_take (i := 20) (v := ?_) rfl (by kernel_rfl) (by kernel_rfl) (by kernel_rfl) (fun _ _ _ h => h) (Or.inl ⟨by rfl, ?_⟩) (by assumption) ?_
  rotate_left
  · intro w hSw; (try dsimp only at hSw); go_simp; (try with_reducible rfl)
  (try simp only [Act.put, List.getElem_toArray, List.getElem_cons_succ, List.getElem_cons_zero, List.setIfInBounds_toArray, List.set_cons_zero, List.set_cons_succ])
  refine wpAnyH_take (i := 21) (v := ?_) rfl (by kernel_rfl) (by kernel_rfl) (by kernel_rfl) (fun _ _ _ h => h) (Or.inl ⟨by rfl, ?_⟩) (by assumption) ?_
  rotate_left
  · intro w hSw; (try dsimp only at hSw); go_simp; (try with_reducible rfl)
  (try simp only [Act.put, List.getElem_toArray, List.getElem_cons_succ, List.getElem_cons_zero, List.setIfInBounds_toArray, List.set_cons_zero, List.set_cons_succ])
  refine wpAnyH_take (i := 22) (v := ?_) rfl (by kernel_rfl) (by kernel_rfl) (by kernel_rfl) (fun _ _ _ h => h) (Or.inl ⟨by rfl, ?_⟩) (by assumption) ?_
  rotate_left
  · intro w hSw; (try dsimp only at hSw); go_simp; (try with_reducible rfl)
  (try simp only [Act.put, List.getElem_toArray, List.getElem_cons_succ, List.getElem_cons_zero, List.setIfInBounds_toArray, List.set_cons_zero, List.set_cons_succ])
  refine wpAnyH_take (i := 23) (v := ?_) rfl (by kernel_rfl) (by kernel_rfl) (by kernel_rfl) (fun _ _ _ h => h) (Or.inl ⟨by rfl, ?_⟩) (by assumption) ?_
  rotate_left
  · intro w hSw; (try dsimp only at hSw); go_simp; (try with_reducible rfl)
  (try simp only [Act.put, List.getElem_toArray, List.getElem_cons_succ, List.getElem_cons_zero, List.setIfInBounds_toArray, List.set_cons_zero, List.set_cons_succ])
  (try clear hK K)
  refine wpAnyH_done (by kernel_rfl) ?_ _
  go_wp2_with fail
  go_ret
  exact ⟨rfl, ((back1 (alloc1 _ _)).drew).trans (hb1.mono (by simp; omega))⟩
theorem isOf_any (vc : Value) (cols : List Bool) (col : Int) (x : Val) (w : World) (h : BoolsIn w vc cols) (hs : x.s.size ≤ maxLen) :
    Calls Tryd.prog 68 #[.agg #[vc], .int .i64 col, V x.t x.n x.s] w fun e w' => e = .returned (.bool (ofB cols col x)) ∧ Below w.heap.size w w' := by
  by_cases hlo : col < 0
  · rw [ofB_low hlo]; exact isOf_low vc col x w (by simp; omega)
  obtain ⟨ac, cc, rfl, lc⟩ := h.slice
  by_cases hhi : (cols.length : Int) ≤ col
  · rw [ofB_high hhi]; exact isOf_high ac _ cc col x w (by omega) (by simp; omega)
  cases hr : rightV x.t x.n x.s
  · rw [ofB_wrong hr]; exact isOf_wrong ac _ cc col x w (by omega) (by omega) hr hs
  · obtain ⟨k, rfl⟩ : ∃ k : Nat, col = (k : Int) := ⟨col.toNat, by omega⟩
    have hk : k < cols.length := by omega
    obtain ⟨b, o, rfl, hc⟩ := h.at k hk
    rw [ofB_at hr hk]
    exact isOf_at b o _ cc k _ x w hk hr hs hc
end Go.Proofs.YtfkhfplibhnceaaDoor.Val
/- What pred.suits answers. -/
namespace Go.Proofs.YtfkhfplibhnceaaDoor.Val
open Go.RowKit

theorem ret_b2 {a b : Bool} (h : a = b) : Ending.returned (.bool a) = Ending.returned (.bool b) := by subst h; rfl
/-- May a part be a table's, whatever its own parts are? -/
def suitO (cols : List Bool) (op col : Int) (v u : Val) (n : Nat) : Bool :=
  if op = 1 ∨ op = 2 then decide (n = 0) else if 3 ≤ op ∧ op ≤ 8 then decide (n = 0) && ofB cols col v else if op = 9 then decide (n = 0) && (ofB cols col v && ofB cols col u) else if op = 10 then decide (n = 1) else if op = 11 ∨ op = 12 then decide (0 < n) else false
def suitP (cols : List Bool) (p : PT) : Bool := suitO cols p.op p.col p.v p.w p.l.length
set_option maxHeartbeats 1000000 in
/-- PTrue, PFalse. -/
theorem suits_12 (vc lv : Value) (op col : Int) (v u : Val) (ao : Option Addr) (n c : Nat) (w : World) (hl : lv = .slice ao n c) (ho : op = 1 ∨ op = 2) (_hn : n ≤ 9223372036854775807) :
    Calls Tryd.prog 61 #[.agg #[vc], PV op col v.t v.n v.s u.t u.n u.s lv] w fun e w' => e = .returned (.bool (decide (n = 0))) ∧ Below w.heap.size w w' := by
  subst hl
  rcases ho with rfl | rfl
  · go_enter Tryd.func61, Tryd.ntmps61
    go_wp2_with fail
    go_ret
    exact ⟨ret_b2 (by rw [Bool.eq_iff_iff]; simp), back1 (alloc1 _ _)⟩
  · go_enter Tryd.func61, Tryd.ntmps61
    go_wp2_with fail
    go_ret
    exact ⟨ret_b2 (by rw [Bool.eq_iff_iff]; simp), back1 (alloc1 _ _)⟩
set_option maxHeartbeats 2000000 in
/-- PEq to PGe. -/
theorem suits_38 (vc : Value) (op col : Int) (v u : Val) (ao : Option Addr) (n c : Nat) (w : World) (a : Bool) (ho : op = 3 ∨ op = 4 ∨ op = 5 ∨ op = 6 ∨ op = 7 ∨ op = 8) (hn : n ≤ 9223372036854775807)
    (h : ∀ w1, Below w.heap.size w w1 → Calls Tryd.prog 68 #[.agg #[vc], .int .i64 col, V v.t v.n v.s] w1 fun e w' => e = .returned (.bool a) ∧ Below w1.heap.size w1 w') :
    Calls Tryd.prog 61 #[.agg #[vc], PV op col v.t v.n v.s u.t u.n u.s (.slice ao n c)] w fun e w' => e = .returned (.bool (decide (n = 0) && a)) ∧ Below w.heap.size w w' := by
  have H : Hid _ := h
  clear h
  by_cases h0 : n = 0
  · subst h0
    rcases ho with rfl | rfl | rfl | rfl | rfl | rfl <;>
    · go_enter Tryd.func61, Tryd.ntmps61
      go_wp2_with fail
      refine Calls.mono (H.out _ (back1 (alloc1 _ _))) ?_
      rintro e w1 ⟨rfl, hb⟩
      go_wp2_with fail
      go_ret
      exact ⟨rfl, back2 hb⟩
  · have h1 : ((n : Int) == 0) = false := by rw [beq_eq_false_iff_ne]; omega
    have HD : Hid (decide (n = 0) = false) := by rw [Hid]; simpa using h0
    clear H h0
    rcases ho with rfl | rfl | rfl | rfl | rfl | rfl <;>
    · go_enter Tryd.func61, Tryd.ntmps61
      go_wp2_with fail
      go_ret
      exact ⟨ret_b2 (by rw [HD.out]; rfl), back1 (alloc1 _ _)⟩
set_option maxHeartbeats 2000000 in
/-- PIn. -/
theorem suits_9 (vc : Value) (col : Int) (v u : Val) (ao : Option Addr) (n c : Nat) (w : World) (a a' : Bool) (hn : n ≤ 9223372036854775807)
    (h : ∀ w1, Below w.heap.size w w1 → Calls Tryd.prog 68 #[.agg #[vc], .int .i64 col, V v.t v.n v.s] w1 fun e w' => e = .returned (.bool a) ∧ Below w1.heap.size w1 w')
    (h' : ∀ w1, Below w.heap.size w w1 → Calls Tryd.prog 68 #[.agg #[vc], .int .i64 col, V u.t u.n u.s] w1 fun e w' => e = .returned (.bool a') ∧ Below w1.heap.size w1 w') :
    Calls Tryd.prog 61 #[.agg #[vc], PV 9 col v.t v.n v.s u.t u.n u.s (.slice ao n c)] w fun e w' => e = .returned (.bool (decide (n = 0) && (a && a'))) ∧ Below w.heap.size w w' := by
  have H : Hid _ := h
  have H' : Hid _ := h'
  clear h h'
  by_cases h0 : n = 0
  · subst h0
    go_enter Tryd.func61, Tryd.ntmps61
    go_wp2_with fail
    refine Calls.mono (H.out _ (back1 (alloc1 _ _))) ?_
    rintro e w1 ⟨rfl, hb⟩
    have HB : Hid (Below w.heap.size w w1) := back2 hb
    have t0 : w1.cell? ⟨w.heap.size, 0, none⟩ = some vc := by rw [hb.cell (by simp; omega)]; simp [go_sem]
    have d1 : w1.cell? ⟨w.heap.size + 1, 1, none⟩ = some (.int .i64 col) := by rw [hb.cell (by simp)]; simp [go_sem]
    have d5 : w1.cell? ⟨w.heap.size + 1, 5, none⟩ = some (.bool u.t) := by rw [hb.cell (by simp)]; simp [go_sem]
    have d6 : w1.cell? ⟨w.heap.size + 1, 6, none⟩ = some (.int .i64 u.n) := by rw [hb.cell (by simp)]; simp [go_sem]
    have d7 : w1.cell? ⟨w.heap.size + 1, 7, none⟩ = some (.string u.s) := by rw [hb.cell (by simp)]; simp [go_sem]
    clear hb H
    cases a
    · clear H'
      go_wp2_with fail
      go_ret
      exact ⟨rfl, HB.out⟩
    · go_wp2_with fail
      refine Calls.mono (H'.out _ HB.out) ?_
      rintro e w2 ⟨rfl, hb2⟩
      have HB2 : Hid (Below w.heap.size w w2) := on HB.out hb2
      clear hb2 HB H'
      go_wp2_with fail
      go_ret
      exact ⟨rfl, HB2.out⟩
  · have h1 : ((n : Int) == 0) = false := by rw [beq_eq_false_iff_ne]; omega
    have HD : Hid (decide (n = 0) = false) := by rw [Hid]; simpa using h0
    clear H H' h0
    go_enter Tryd.func61, Tryd.ntmps61
    go_wp2_with fail
    go_ret
    exact ⟨ret_b2 (by rw [HD.out]; rfl), back1 (alloc1 _ _)⟩
set_option maxHeartbeats 1000000 in
/-- PNot, PAnd, POr, and what is none. -/
theorem suits_10 (vc : Value) (col : Int) (v u : Val) (ao : Option Addr) (n c : Nat) (w : World) (_hn : n ≤ 9223372036854775807) :
    Calls Tryd.prog 61 #[.agg #[vc], PV 10 col v.t v.n v.s u.t u.n u.s (.slice ao n c)] w fun e w' => e = .returned (.bool (decide (n = 1))) ∧ Below w.heap.size w w' := by
  go_enter Tryd.func61, Tryd.ntmps61
  go_wp2_with fail
  go_ret
  exact ⟨ret_b2 (by rw [Bool.eq_iff_iff]; simp; omega), back1 (alloc1 _ _)⟩
set_option maxHeartbeats 1000000 in
theorem suits_11 (vc : Value) (op col : Int) (v u : Val) (ao : Option Addr) (n c : Nat) (w : World) (ho : op = 11 ∨ op = 12) (_hn : n ≤ 9223372036854775807) :
    Calls Tryd.prog 61 #[.agg #[vc], PV op col v.t v.n v.s u.t u.n u.s (.slice ao n c)] w fun e w' => e = .returned (.bool (decide (0 < n))) ∧ Below w.heap.size w w' := by
  rcases ho with rfl | rfl
  · go_enter Tryd.func61, Tryd.ntmps61
    go_wp2_with fail
    go_ret
    exact ⟨ret_b2 (by rw [Bool.eq_iff_iff]), back1 (alloc1 _ _)⟩
  · go_enter Tryd.func61, Tryd.ntmps61
    go_wp2_with fail
    go_ret
    exact ⟨ret_b2 (by rw [Bool.eq_iff_iff]), back1 (alloc1 _ _)⟩
set_option maxHeartbeats 1000000 in
theorem suits_none (vc lv : Value) (op col : Int) (v u : Val) (w : World) (e1 : (op == 1) = false) (e2 : (op == 2) = false) (e3 : (op == 3) = false) (e4 : (op == 4) = false) (e5 : (op == 5) = false) (e6 : (op == 6) = false) (e7 : (op == 7) = false) (e8 : (op == 8) = false) (e9 : (op == 9) = false) (e10 : (op == 10) = false) (e11 : (op == 11) = false) (e12 : (op == 12) = false) :
    Calls Tryd.prog 61 #[.agg #[vc], PV op col v.t v.n v.s u.t u.n u.s lv] w fun e w' => e = .returned (.bool false) ∧ Below w.heap.size w w' := by
  go_enter Tryd.func61, Tryd.ntmps61
  go_wp2_with fail
  go_ret
  exact ⟨rfl, back1 (alloc1 _ _)⟩
theorem suits_any (vc : Value) (cols : List Bool) (p : PT) (w : World) (h : BoolsIn w vc cols) (hi : In w p) :
    Calls Tryd.prog 61 #[.agg #[vc], p.val] w fun e w' => e = .returned (.bool (suitP cols p)) ∧ Below w.heap.size w w' := by
  obtain ⟨ao, c, hlv, hn⟩ := hi.lies.slice
  have hv := fun w1 (hb : Below w.heap.size w w1) => isOf_any vc cols p.col p.v w1 (h.below hb) hi.sv
  have hu := fun w1 (hb : Below w.heap.size w w1) => isOf_any vc cols p.col p.w w1 (h.below hb) hi.sw
  unfold PT.val suitP suitO
  rw [hlv]
  by_cases h12 : p.op = 1 ∨ p.op = 2
  · rw [if_pos h12]; exact suits_12 vc _ _ _ _ _ _ _ _ w rfl h12 hn
  rw [if_neg h12]
  by_cases h38 : 3 ≤ p.op ∧ p.op ≤ 8
  · rw [if_pos h38]; exact suits_38 vc _ _ _ _ _ _ _ w _ (by omega) hn hv
  rw [if_neg h38]
  by_cases h9 : p.op = 9
  · rw [if_pos h9, h9]; exact suits_9 vc _ _ _ _ _ _ w _ _ hn hv hu
  rw [if_neg h9]
  by_cases h10 : p.op = 10
  · rw [if_pos h10, h10]; exact suits_10 vc _ _ _ _ _ _ w hn
  rw [if_neg h10]
  by_cases h11 : p.op = 11 ∨ p.op = 12
  · rw [if_pos h11]; exact suits_11 vc _ _ _ _ _ _ _ w h11 hn
  rw [if_neg h11]
  have hne : ∀ k : Int, p.op ≠ k → (p.op == k) = false := fun k hk => by simpa using hk
  exact suits_none vc _ _ _ _ _ w (hne _ (by omega)) (hne _ (by omega)) (hne _ (by omega)) (hne _ (by omega)) (hne _ (by omega)) (hne _ (by omega)) (hne _ (by omega)) (hne _ (by omega)) (hne _ (by omega)) (hne _ (by omega)) (hne _ (by omega)) (hne _ (by omega))
end Go.Proofs.YtfkhfplibhnceaaDoor.Val
/- What slices.ContainsFunc and pred.all answer of a list of predicates, whatever function they are handed. -/
namespace Go.Proofs.YtfkhfplibhnceaaDoor.Val
open Go.RowKit

theorem enters_all1 : Enters 70 := enters_of Tryd.func70 (by decide +kernel) rfl
set_option maxHeartbeats 1000000 in
theorem contains_any (f : FuncId) (first cap : Array Value) (lv : Value) (l : List PT) (w : World) (X : Nat → Prop) (I : Nat → World → Prop) (g : Nat → Bool) (hI : I 0 w) (hE : Enters f)
    (hl : ∀ i w1, I i w1 → Lies w1 lv l.length (l.flatMap PT.cells))
    (hc : ∀ (i : Nat) (hi : i < l.length) (w1 : World), I i w1 → Calls Tryd.prog f (first.push l[i].val ++ cap) w1 fun e w2 => e = .returned (.bool (g i)) ∧ I (i + 1) w2 ∧ Sv X w1 w2) :
    Calls Tryd.prog 69 #[lv, FV f first cap] w fun e w' => Sv X w w' ∧
      ((∃ k : Nat, k < l.length ∧ g k = true ∧ (∀ j, j < k → g j = false) ∧ e = .returned (.bool true) ∧ I (k + 1) w') ∨ ((∀ j, j < l.length → g j = false) ∧ e = .returned (.bool false) ∧ I l.length w')) := by
  have H : Hid _ := index_any f first cap lv l w X I g hI hE hl hc
  clear hl hc hI hE
  go_enter Tryd.func69, Tryd.ntmps69
  go_wp2_with fail
  refine Calls.mono H.out ?_
  rintro e w1 ⟨hs, ⟨k, hk, hg, hj, rfl, hI⟩ | ⟨hj, rfl, hI⟩⟩
  · have HA : Hid (Sv X w w1 ∧ g k = true ∧ (∀ j, j < k → g j = false) ∧ I (k + 1) w1) := ⟨hs, hg, hj, hI⟩
    clear hs hg hj hI H
    have k0 : (0 : Int) ≤ (k : Int) := by omega
    go_wp2_with fail
    go_ret
    exact ⟨HA.out.1, .inl ⟨k, hk, HA.out.2.1, HA.out.2.2.1, rfl, HA.out.2.2.2⟩⟩
  · have HA : Hid (Sv X w w1 ∧ (∀ j, j < l.length → g j = false) ∧ I l.length w1) := ⟨hs, hj, hI⟩
    clear hs hj hI H
    go_wp2_with fail
    go_ret
    exact ⟨HA.out.1, .inr ⟨HA.out.2.1, rfl, HA.out.2.2⟩⟩
set_option maxHeartbeats 1000000 in
theorem all1_any (f : FuncId) (first cap : Array Value) (p : PT) (B : Nat) (w : World) (R : Bool → World → Prop) (hE : Enters f) (hB : w.cell? ⟨B, 0, none⟩ = some (FV f first cap))
    (hc : Calls Tryd.prog f (first.push p.val ++ cap) (w.alloc (.cells #[.int .i64 p.op, .int .i64 p.col, .bool p.v.t, .int .i64 p.v.n, .string p.v.s, .bool p.w.t, .int .i64 p.w.n, .string p.w.s, p.lv] 29)) fun e w2 => ∃ b, e = .returned (.bool b) ∧ R b w2) :
    Calls Tryd.prog 70 #[p.val, .pointer (some ⟨B, 0, none⟩)] w fun e w2 => ∃ b, e = .returned (.bool (!b)) ∧ R b w2 := by
  have H : Hid _ := hc
  have hE' : ∀ args w, (callFunc f args).run Tryd.prog w = .ok (.enter f args) w := hE
  have hlt : B < w.heap.size := World.block_lt_of_cell? w _ hB
  clear hc hE
  unfold PT.val
  go_enter Tryd.func70, Tryd.ntmps70
  go_wp2_with fail
  refine Calls.mono H.out ?_
  rintro e w1 ⟨b, rfl, hR⟩
  have HR : Hid (R b w1) := hR
  clear hR H hE'
  go_wp2_with fail
  go_ret
  exact ⟨b, rfl, HR.out⟩
set_option maxHeartbeats 1000000 in
theorem all_any (f : FuncId) (first cap : Array Value) (lv : Value) (l : List PT) (w : World) (X : Nat → Prop) (I : Nat → World → Prop) (g : Nat → Bool) (hI : I 0 w) (hE : Enters f)
    (hX : ∀ k, X k → k < w.heap.size) (hIa : ∀ i w1 o, I i w1 → I i (w1.alloc o)) (hl : ∀ i w1, I i w1 → Lies w1 lv l.length (l.flatMap PT.cells))
    (hc : ∀ (i : Nat) (hi : i < l.length) (w1 : World), I i w1 → Calls Tryd.prog f (first.push l[i].val ++ cap) w1 fun e w2 => e = .returned (.bool (g i)) ∧ I (i + 1) w2 ∧ Sv X w1 w2) :
    Calls Tryd.prog 66 #[lv, FV f first cap] w fun e w' => Sv X w w' ∧
      ((∃ k : Nat, k < l.length ∧ g k = false ∧ (∀ j, j < k → g j = true) ∧ e = .returned (.bool false) ∧ I (k + 1) w') ∨ ((∀ j, j < l.length → g j = true) ∧ e = .returned (.bool true) ∧ I l.length w')) := by
  have H : Hid _ := contains_any 70 #[] #[.pointer (some ⟨w.heap.size, 0, none⟩)] lv l (w.alloc (.cells #[FV f first cap] 43)) X (fun i w1 => I i w1 ∧ w1.cell? ⟨w.heap.size, 0, none⟩ = some (FV f first cap)) (fun i => !g i)
    ⟨hIa _ _ _ hI, by simp⟩ enters_all1 (fun i w1 h => hl i w1 h.1) (fun i hi w1 h => by
      obtain ⟨h1, h2⟩ := h
      have hlt : w.heap.size < w1.heap.size := World.block_lt_of_cell? w1 _ h2
      refine Calls.mono (all1_any f first cap l[i] w.heap.size w1 (fun b w2 => b = g i ∧ I (i + 1) w2 ∧ Sv X w1 w2) hE h2 ?_) ?_
      · refine Calls.mono (hc i hi _ (hIa _ _ _ h1)) ?_
        rintro e w2 ⟨rfl, k1, k2⟩
        exact ⟨_, rfl, rfl, k1, (Sv.alloc _ _ _).trans k2⟩
      · rintro e w2 ⟨b, rfl, rfl, k1, k2⟩
        refine ⟨rfl, ⟨k1, ?_⟩, k2⟩
        rw [k2.cell hlt (fun hx => by have := hX _ hx; simp at this)]
        exact h2)
  have HSA : Hid (Sv X w (w.alloc (.cells #[FV f first cap] 43))) := Sv.alloc _ _ _
  clear hl hc hI hE hIa hX
  go_enter Tryd.func66, Tryd.ntmps66
  go_wp2_with fail
  refine Calls.mono H.out ?_
  rintro e w1 ⟨hs, ⟨k, hk, hg, hj, rfl, hI, _⟩ | ⟨hj, rfl, hI, _⟩⟩
  · have HA : Hid (Sv X w w1 ∧ g k = false ∧ (∀ j, j < k → g j = true) ∧ I (k + 1) w1) := ⟨HSA.out.trans hs, by simpa using hg, fun j h => by simpa using hj j h, hI⟩
    clear hs hg hj hI H
    go_wp2_with fail
    go_ret
    exact ⟨HA.out.1, .inl ⟨k, hk, HA.out.2.1, HA.out.2.2.1, rfl, HA.out.2.2.2⟩⟩
  · have HA : Hid (Sv X w w1 ∧ (∀ j, j < l.length → g j = true) ∧ I l.length w1) := ⟨HSA.out.trans hs, fun j h => by simpa using hj j h, hI⟩
    clear hs hj hI H
    go_wp2_with fail
    go_ret
    exact ⟨HA.out.1, .inr ⟨HA.out.2.1, rfl, HA.out.2.2⟩⟩
/-- Functions that write nothing old. -/
theorem map_at {α β : Type} (f : α → β) (d : β) (l : List α) (i : Nat) (h : i < l.length) : ((l.map f)[i]?).getD d = f l[i] := by simp [h]
theorem all_pure (f : FuncId) (first cap : Array Value) (lv : Value) (l : List PT) (w : World) (g : PT → Bool) (hE : Enters f) (hl : InL w lv l)
    (hc : ∀ q ∈ l, ∀ w1, Below w.heap.size w w1 → Calls Tryd.prog f (first.push q.val ++ cap) w1 fun e w2 => e = .returned (.bool (g q)) ∧ Below w1.heap.size w1 w2) :
    Calls Tryd.prog 66 #[lv, FV f first cap] w fun e w' => e = .returned (.bool ((l.map g).all id)) ∧ Below w.heap.size w w' := by
  refine Calls.mono (all_any f first cap lv l w Nothing (fun _ w1 => Below w.heap.size w w1) (fun i => ((l.map g)[i]?).getD false) (Below.refl _ _) hE (fun k h => h.elim) (fun i w1 o h => h.alloc h.size _) (fun i w1 h => hl.1.below h) (fun i hi w1 h => ?_)) ?_
  · refine Calls.mono (hc l[i] (List.getElem_mem hi) w1 h) ?_
    rintro e w2 ⟨rfl, hb⟩
    exact ⟨by rw [map_at g false l i hi], on h hb, Sv.of hb⟩
  · rintro e w2 ⟨hs, ⟨k, hk, hg, _, rfl, _⟩ | ⟨hj, rfl, _⟩⟩
    · refine ⟨?_, hs.pure⟩
      rw [map_at g false l k hk] at hg
      have : (l.map g).all id = false := by
        rw [← Bool.not_eq_true, List.all_eq_true]
        intro h
        have := h (g l[k]) (List.mem_map.2 ⟨_, List.getElem_mem hk, rfl⟩)
        simp [hg] at this
      rw [this]
    · refine ⟨?_, hs.pure⟩
      have : (l.map g).all id = true := by
        rw [List.all_eq_true]
        intro x hx
        obtain ⟨q, hq, rfl⟩ := List.mem_map.1 hx
        obtain ⟨i, hi, rfl⟩ := List.mem_iff_getElem.1 hq
        have := hj i hi
        rw [map_at g false l i hi] at this
        exact this
      rw [this]
theorem contains_pure (f : FuncId) (first cap : Array Value) (lv : Value) (l : List PT) (w : World) (g : PT → Bool) (hE : Enters f) (hl : InL w lv l)
    (hc : ∀ q ∈ l, ∀ w1, Below w.heap.size w w1 → Calls Tryd.prog f (first.push q.val ++ cap) w1 fun e w2 => e = .returned (.bool (g q)) ∧ Below w1.heap.size w1 w2) :
    Calls Tryd.prog 69 #[lv, FV f first cap] w fun e w' => e = .returned (.bool ((l.map g).any id)) ∧ Below w.heap.size w w' := by
  refine Calls.mono (contains_any f first cap lv l w Nothing (fun _ w1 => Below w.heap.size w w1) (fun i => ((l.map g)[i]?).getD false) (Below.refl _ _) hE (fun i w1 h => hl.1.below h) (fun i hi w1 h => ?_)) ?_
  · refine Calls.mono (hc l[i] (List.getElem_mem hi) w1 h) ?_
    rintro e w2 ⟨rfl, hb⟩
    exact ⟨by rw [map_at g false l i hi], on h hb, Sv.of hb⟩
  · rintro e w2 ⟨hs, ⟨k, hk, hg, _, rfl, _⟩ | ⟨hj, rfl, _⟩⟩
    · refine ⟨?_, hs.pure⟩
      rw [map_at g false l k hk] at hg
      have : (l.map g).any id = true := by
        rw [List.any_eq_true]
        exact ⟨g l[k], List.mem_map.2 ⟨_, List.getElem_mem hk, rfl⟩, hg⟩
      rw [this]
    · refine ⟨?_, hs.pure⟩
      have : (l.map g).any id = false := by
        rw [← Bool.not_eq_true, List.any_eq_true]
        rintro ⟨x, hx, hx1⟩
        obtain ⟨q, hq, rfl⟩ := List.mem_map.1 hx
        obtain ⟨i, hi, rfl⟩ := List.mem_iff_getElem.1 hq
        have := hj i hi
        rw [map_at g false l i hi] at this
        simp [this] at hx1
      rw [this]
end Go.Proofs.YtfkhfplibhnceaaDoor.Val
/- What pred.every answers of a predicate, whatever function that counts it is handed. -/
namespace Go.Proofs.YtfkhfplibhnceaaDoor.Val
open Go.RowKit

theorem enters_walk' : Enters 67 := enters_of Tryd.func67 (by decide +kernel) rfl
/-- A count in a block of its own. -/
def Cnt (w : World) (c n : Nat) : Prop := w.cell? ⟨c, 0, none⟩ = some (.int .i64 (n : Int)) ∧ w.frozen? ⟨c, 0, none⟩ = false
theorem Cnt.lt {w : World} {c n : Nat} (h : Cnt w c n) : c < w.heap.size := World.block_lt_of_cell? w _ h.1
theorem Cnt.alloc {w : World} {c n : Nat} (h : Cnt w c n) (o : Obj) : Cnt (w.alloc o) c n := by
  have hb := (Below.refl w.heap.size w).alloc (Nat.le_refl _) o
  exact ⟨by rw [hb.cell h.lt]; exact h.1, by rw [hb.frozen h.lt]; exact h.2⟩
/-- What goes with a count: a world's facts that hold as long as nothing but the count is written. -/
structure Goods (w0 : World) (c : Nat) (G : World → Prop) : Prop where
  old : ∀ w, G w → Below w0.heap.size w0 w
  on : ∀ w w', G w → Sv (· = c) w w' → G w'
/-- The function that is handed in: it counts one, and tells whether the part passes. -/
def PassOk (w0 : World) (c : Nat) (G : World → Prop) (g : Nat → PT → Bool) (f : FuncId) (first cap : Array Value) : Prop :=
  ∀ (p : PT) (w : World) (n : Nat), In w0 p → G w → Cnt w c n → n < 1000000 → Calls Tryd.prog f (first.push p.val ++ cap) w fun e w' => e = .returned (.bool (g (n + 1) p)) ∧ Cnt w' c (n + 1) ∧ Sv (· = c) w w'
abbrev FE (eb : Nat) : Value := FV 65 #[] #[.pointer (some ⟨eb, 0, none⟩)]
abbrev ME (eb : Nat) : Value := FV 67 #[.agg #[FE eb]] #[]
def EvOk (c : Nat) (G : World → Prop) (g : Nat → PT → Bool) (f : FuncId) (first cap : Array Value) (eb : Nat) (p : PT) : Prop :=
  ∀ (w : World) (n : Nat), G w → w.cell? ⟨eb, 0, none⟩ = some (FV f first cap) → Cnt w c n → n + p.size ≤ 1000000 →
    Calls Tryd.prog 67 #[.agg #[FE eb], p.val] w fun e w' => e = .returned (.bool (ev g n p).1) ∧ Cnt w' c (ev g n p).2 ∧ Sv (· = c) w w'

theorem all_ev {w0 : World} {c : Nat} {G : World → Prop} {g : Nat → PT → Bool} {f : FuncId} {first cap : Array Value} {eb : Nat} (hG : Goods w0 c G) (hne : eb ≠ c) (p : PT) (hi : In w0 p)
    (ih : ∀ q ∈ p.l, EvOk c G g f first cap eb q) (w : World) (n : Nat) (hg : G w) (he : w.cell? ⟨eb, 0, none⟩ = some (FV f first cap)) (hn : Cnt w c n) (hs : n + sizeL p.l ≤ 1000000) :
    Calls Tryd.prog 66 #[p.lv, ME eb] w fun e w' => e = .returned (.bool (evL g n p.l).1) ∧ Cnt w' c (evL g n p.l).2 ∧ Sv (· = c) w w' := by
  refine Calls.mono (all_any _ _ _ p.lv p.l w (· = c) (fun i w1 => G w1 ∧ w1.cell? ⟨eb, 0, none⟩ = some (FV f first cap) ∧ Cnt w1 c (nAt g n p.l i)) (fun i => if h : i < p.l.length then (ev g (nAt g n p.l i) p.l[i]).1 else false)
    ⟨hg, he, by rw [nAt_zero]; exact hn⟩ enters_walk' (fun k hk => by rw [hk]; exact hn.lt) (fun i w1 o h => ⟨hG.on _ _ h.1 (Sv.alloc _ _ _), cell_alloc h.2.1 _, h.2.2.alloc _⟩) (fun i w1 h => hi.lies.below (hG.old _ h.1)) (fun i hi' w1 h => ?_)) ?_
  · obtain ⟨h1, h2, h3⟩ := h
    have hb := nAt_le g p.l n i hi'
    refine Calls.mono (ih p.l[i] (List.getElem_mem hi') w1 (nAt g n p.l i) h1 h2 h3 (by omega)) ?_
    rintro e w2 ⟨rfl, k1, k2⟩
    refine ⟨by simp [hi'], ⟨hG.on _ _ h1 k2, ?_, by rw [nAt_succ g n p.l i hi']; exact k1⟩, k2⟩
    rw [k2.cell (World.block_lt_of_cell? w1 _ h2) hne]; exact h2
  · rintro e w2 ⟨hs2, ⟨k, hk, hf, hj, rfl, _, _, hI⟩ | ⟨hj, rfl, _, _, hI⟩⟩
    · have := evL_stop g n p.l k hk (fun j hj' => by have := hj j hj'; simpa [show j < p.l.length by omega] using this) (by simpa [hk] using hf)
      rw [this]
      exact ⟨rfl, hI, hs2⟩
    · have := evL_all g n p.l (fun j hj' => by have := hj j hj'; simpa [hj'] using this)
      rw [this]
      exact ⟨rfl, hI, hs2⟩
set_option maxHeartbeats 1000000 in
theorem every1_any {w0 : World} {c : Nat} {G : World → Prop} {g : Nat → PT → Bool} {f : FuncId} {first cap : Array Value} {eb : Nat} (hG : Goods w0 c G) (hP : PassOk w0 c G g f first cap) (hE : Enters f) (hne : eb ≠ c) (p : PT) (hi : In w0 p)
    (ih : ∀ q ∈ p.l, EvOk c G g f first cap eb q) (w : World) (n : Nat) (hg : G w) (he : w.cell? ⟨eb, 0, none⟩ = some (FV f first cap)) (hn : Cnt w c n) (hs : n + p.size ≤ 1000000) :
    Calls Tryd.prog 65 #[p.val, ME eb, .pointer (some ⟨eb, 0, none⟩)] w fun e w' => e = .returned (.bool (ev g n p).1) ∧ Cnt w' c (ev g n p).2 ∧ Sv (· = c) w w' := by
  have hE' : ∀ args w, (callFunc f args).run Tryd.prog w = .ok (.enter f args) w := hE
  have hlt : eb < w.heap.size := World.block_lt_of_cell? w _ he
  have hclt := hn.lt
  obtain ⟨b, hb⟩ : ∃ b, g (n + 1) p = b := ⟨_, rfl⟩
  obtain ⟨r, hr⟩ : ∃ r, ev g n p = r := ⟨_, rfl⟩
  have hsz := size_l p
  have H1 : Hid (Calls Tryd.prog f (first.push p.val ++ cap) (w.alloc (pobj p 29)) fun e w' => e = .returned (.bool b) ∧ Cnt w' c (n + 1) ∧ Sv (· = c) (w.alloc (pobj p 29)) w') := by
    rw [← hb]; exact hP p _ n hi (hG.on _ _ hg (Sv.alloc _ _ _)) (hn.alloc _) (by omega)
  have H2 : Hid (b = true → ∀ w1, Cnt w1 c (n + 1) → Sv (· = c) w w1 → Calls Tryd.prog 66 #[p.lv, ME eb] w1 fun e w' => e = .returned (.bool r.1) ∧ Cnt w' c r.2 ∧ Sv (· = c) w1 w') := by
    intro hbt w1 h1 h2
    rw [← hr, ev_yes (by rw [hb]; exact hbt)]
    exact all_ev hG hne p hi ih w1 (n + 1) (hG.on _ _ hg h2) (by rw [h2.cell hlt hne]; exact he) h1 (by omega)
  have H3 : Hid (b = false → r = (false, n + 1)) := fun hbf => by rw [← hr]; exact ev_no (by rw [hb]; exact hbf)
  have HX : Hid (w.heap.size ≠ c) := by rw [Hid]; omega
  rw [hr]
  clear hE hG hP ih hg hn hs hi hr hb hclt hsz
  unfold PT.val at *
  go_enter Tryd.func65, Tryd.ntmps65
  go_wp2_with fail
  refine Calls.mono H1.out ?_
  rintro e w1 ⟨rfl, hc1, hs1⟩
  have hs2 : Sv (· = c) w w1 := (Sv.alloc _ _ _).trans hs1
  have hbox := (Box.new w p 29).sv hs1 HX.out
  have b8 := hbox.c8
  have HC : Hid (Cnt w1 c (n + 1) ∧ Sv (· = c) w w1) := ⟨hc1, hs2⟩
  clear hc1 hs1 hs2 hbox H1 hE'
  cases b
  · obtain rfl := H3.out rfl
    clear H2
    go_wp2_with fail
    go_ret
    exact ⟨rfl, HC.out⟩
  · have H4 : Hid _ := H2.out rfl w1 HC.out.1 HC.out.2
    go_wp2_with fail
    refine Calls.mono H4.out ?_
    rintro e w2 ⟨rfl, hc2, hs2⟩
    have HC2 : Hid (Cnt w2 c r.2 ∧ Sv (· = c) w w2) := ⟨hc2, HC.out.2.trans hs2⟩
    clear hc2 hs2 HC H2 H3 H4
    go_wp2_with fail
    go_ret
    exact ⟨rfl, HC2.out⟩
set_option maxHeartbeats 1000000 in
theorem ev_step {w0 : World} {c : Nat} {G : World → Prop} {g : Nat → PT → Bool} {f : FuncId} {first cap : Array Value} {eb : Nat} (hG : Goods w0 c G) (hP : PassOk w0 c G g f first cap) (hE : Enters f) (hne : eb ≠ c) (p : PT) (hi : In w0 p)
    (ih : ∀ q ∈ p.l, EvOk c G g f first cap eb q) : EvOk c G g f first cap eb p := by
  intro w n hg he hn hs
  obtain ⟨r, hr⟩ : ∃ r, ev g n p = r := ⟨_, rfl⟩
  have H : Hid (∀ o1 o2, Calls Tryd.prog 65 #[p.val, ME eb, .pointer (some ⟨eb, 0, none⟩)] ((w.alloc o1).alloc o2) fun e w' => e = .returned (.bool r.1) ∧ Cnt w' c r.2 ∧ Sv (· = c) w w') := by
    intro o1 o2
    have ha : Sv (· = c) w ((w.alloc o1).alloc o2) := (Sv.alloc _ _ _).trans (Sv.alloc _ _ _)
    rw [← hr]
    refine Calls.mono (every1_any hG hP hE hne p hi ih _ n (hG.on _ _ hg ha) (cell_alloc (cell_alloc he _) _) ((hn.alloc _).alloc _) hs) ?_
    rintro e w' ⟨h1, h2, h3⟩
    exact ⟨h1, h2, ha.trans h3⟩
  rw [hr]
  clear hG hP hE ih hg he hn hs hi hr
  unfold PT.val at *
  go_enter Tryd.func67, Tryd.ntmps67
  go_wp2_with fail
  refine Calls.mono (H.out _ _) ?_
  rintro e w1 ⟨rfl, hc1⟩
  have HC : Hid _ := hc1
  clear hc1 H
  go_wp2_with fail
  go_ret
  exact ⟨rfl, HC.out⟩
theorem ev_ok {w0 : World} {c : Nat} {G : World → Prop} {g : Nat → PT → Bool} {f : FuncId} {first cap : Array Value} {eb : Nat} (hG : Goods w0 c G) (hP : PassOk w0 c G g f first cap) (hE : Enters f) (hne : eb ≠ c) (p : PT) (hi : In w0 p) : EvOk c G g f first cap eb p := by
  induction p using PT.ind with
  | h p ih => exact ev_step hG hP hE hne p hi fun q hq => ih q hq (hi.part q hq)
set_option maxHeartbeats 1000000 in
/-- every, of a function that counts. -/
theorem every_any {w0 : World} {c : Nat} {G : World → Prop} {g : Nat → PT → Bool} {f : FuncId} {first cap : Array Value} (hG : Goods w0 c G) (hP : PassOk w0 c G g f first cap) (hE : Enters f) (p : PT) (hi : In w0 p) (w : World) (n : Nat) (hg : G w) (hn : Cnt w c n) (hs : n + p.size ≤ 1000000) :
    Calls Tryd.prog 59 #[p.val, FV f first cap] w fun e w' => e = .returned (.bool (ev g n p).1) ∧ Cnt w' c (ev g n p).2 ∧ Sv (· = c) w w' := by
  obtain ⟨r, hr⟩ : ∃ r, ev g n p = r := ⟨_, rfl⟩
  have hclt := hn.lt
  have H : Hid (∀ o1 o3, Calls Tryd.prog 67 #[.agg #[FE (w.heap.size + 1)], p.val] (((w.alloc o1).alloc (.cells #[FV f first cap] 43)).alloc o3) fun e w' => e = .returned (.bool r.1) ∧ Cnt w' c r.2 ∧ Sv (· = c) w w') := by
    intro o1 o3
    have ha : Sv (· = c) w (((w.alloc o1).alloc (.cells #[FV f first cap] 43)).alloc o3) := ((Sv.alloc _ _ _).trans (Sv.alloc _ _ _)).trans (Sv.alloc _ _ _)
    rw [← hr]
    refine Calls.mono (ev_ok hG hP hE (eb := w.heap.size + 1) (by omega) p hi _ n (hG.on _ _ hg ha) (cell_alloc (by simp [go_sem]) _) (((hn.alloc _).alloc _).alloc _) hs) ?_
    rintro e w' ⟨h1, h2, h3⟩
    exact ⟨h1, h2, ha.trans h3⟩
  rw [hr]
  clear hG hP hE hg hn hs hi hr hclt
  unfold PT.val at *
  go_enter Tryd.func59, Tryd.ntmps59
  go_wp2_with fail
  refine Calls.mono (H.out _ _) ?_
  rintro e w1 ⟨rfl, hc1⟩
  have HC : Hid _ := hc1
  clear hc1 H
  go_wp2_with fail
  go_ret
  exact ⟨rfl, HC.out⟩
theorem cnt_next {w : World} {c n : Nat} (o : Obj) (h : Cnt w c n) : Cnt ((w.setCell ⟨c, 0, none⟩ (.int .i64 ((n : Int) + 1))).alloc o) c (n + 1) ∧ Sv (· = c) w ((w.setCell ⟨c, 0, none⟩ (.int .i64 ((n : Int) + 1))).alloc o) := by
  have hs : Cnt (w.setCell ⟨c, 0, none⟩ (.int .i64 ((n : Int) + 1))) c (n + 1) := by
    refine ⟨?_, ?_⟩
    · rw [World.cell?_setCell_same' _ _ _ (by rw [h.1]; rfl)]; simp
    · rw [World.frozen?_setCell]; exact h.2
  have ht : Sv (· = c) w (w.setCell ⟨c, 0, none⟩ (.int .i64 ((n : Int) + 1))) := ⟨rfl, rfl, rfl, by simp [World.setCell], fun k hk hx => Below.heap_setCell _ _ _ _ hx⟩
  exact ⟨hs.alloc o, ht.trans (Sv.alloc _ _ _)⟩
end Go.Proofs.YtfkhfplibhnceaaDoor.Val
/- What pred.Check answers. -/
namespace Go.Proofs.YtfkhfplibhnceaaDoor.Val
open Go.RowKit

theorem enters_may1 : Enters 60 := enters_of Tryd.func60 (by decide +kernel) rfl
/-- May it be a table's? -/
def mayP (cols : List Bool) (p : PT) : Bool := decide (p.size ≤ 15) && okP (suitP cols) p
theorem mayP_ev (cols : List Bool) (p : PT) : (ev (upto (suitP cols)) 0 p).1 = mayP cols p := by
  have := (ev_upto (suitP cols) p 0).1
  rw [Bool.eq_iff_iff, this, mayP]
  simp
set_option maxHeartbeats 1000000 in
theorem may1_ok (w0 : World) (c tb : Nat) (vc : Value) (cols : List Bool) (h0 : BoolsIn w0 vc cols) (hne : tb ≠ c) (hc : w0.heap.size ≤ c) :
    PassOk w0 c (fun w => Below w0.heap.size w0 w ∧ w.cell? ⟨tb, 0, none⟩ = some vc) (upto (suitP cols)) 60 #[] #[.pointer (some ⟨c, 0, none⟩), .pointer (some ⟨tb, 0, none⟩)] := by
  rintro p w n hi ⟨hg, ht⟩ hn hs
  have hlt := hn.lt
  have hltt : tb < w.heap.size := World.block_lt_of_cell? w _ ht
  obtain ⟨a, ha⟩ : ∃ a, suitP cols p = a := ⟨_, rfl⟩
  have HN : Hid (∀ o, Cnt ((w.setCell ⟨c, 0, none⟩ (.int .i64 ((n : Int) + 1))).alloc o) c (n + 1) ∧ Sv (· = c) w ((w.setCell ⟨c, 0, none⟩ (.int .i64 ((n : Int) + 1))).alloc o)) := fun o => cnt_next o hn
  have HS : Hid (∀ o, Calls Tryd.prog 61 #[.agg #[vc], p.val] ((w.setCell ⟨c, 0, none⟩ (.int .i64 ((n : Int) + 1))).alloc o) fun e w' => e = .returned (.bool a) ∧ Below ((w.setCell ⟨c, 0, none⟩ (.int .i64 ((n : Int) + 1))).alloc o).heap.size ((w.setCell ⟨c, 0, none⟩ (.int .i64 ((n : Int) + 1))).alloc o) w') := fun o => by
    have hb : Below w0.heap.size w0 ((w.setCell ⟨c, 0, none⟩ (.int .i64 ((n : Int) + 1))).alloc o) := hg.trans ((cnt_next o hn).2.below hg.size fun k hk e => by omega)
    rw [← ha]; exact suits_any vc cols p _ (h0.below hb) (hi.keep hb)
  obtain ⟨h1, h2⟩ := hn
  have n0 : (0 : Int) ≤ (n : Int) := by omega
  have n1 : (n : Int) < 1000000 := by omega
  show Calls Tryd.prog 60 #[p.val, .pointer (some ⟨c, 0, none⟩), .pointer (some ⟨tb, 0, none⟩)] w _
  clear hi hg hs h0 hc
  by_cases h15 : n + 1 ≤ 15
  · have HU : Hid (upto (suitP cols) (n + 1) p = a) := by rw [Hid, upto, ha, decide_eq_true h15]; rfl
    have j1 : (n : Int) + 1 ≤ 15 := by omega
    rw [HU.out]
    clear ha HU
    unfold PT.val at *
    go_enter Tryd.func60, Tryd.ntmps60
    go_wp2_with fail
    refine Calls.mono (HS.out _) ?_
    rintro e w1 ⟨rfl, hb⟩
    have HC : Hid (Cnt w1 c (n + 1) ∧ Sv (· = c) w w1) := by
      obtain ⟨k1, k2⟩ := HN.out (pobj p 29)
      exact ⟨⟨by rw [hb.cell k1.lt]; exact k1.1, by rw [hb.frozen k1.lt]; exact k1.2⟩, k2.trans (Sv.of hb)⟩
    clear hb HN HS
    go_wp2_with fail
    go_ret
    exact ⟨rfl, HC.out⟩
  · have HU : Hid (upto (suitP cols) (n + 1) p = false) := by rw [Hid, upto, decide_eq_false h15]; rfl
    have j1 : decide ((n : Int) + 1 ≤ 15) = false := by simp; omega
    rw [HU.out]
    clear ha HU HS
    unfold PT.val at *
    go_enter Tryd.func60, Tryd.ntmps60
    go_wp2_with fail
    go_ret
    exact ⟨rfl, HN.out _⟩
set_option maxHeartbeats 1000000 in
theorem mayBe_any (vc : Value) (cols : List Bool) (p : PT) (w : World) (h : BoolsIn w vc cols) (hi : In w p) (hs : p.size ≤ 1000000) :
    Calls Tryd.prog 48 #[.agg #[vc], p.val] w fun e w' => e = .returned (.bool (mayP cols p)) ∧ Below w.heap.size w w' := by
  obtain ⟨a, ha⟩ : ∃ a, mayP cols p = a := ⟨_, rfl⟩
  have H : Hid (∀ w2, Below w.heap.size w w2 → w2.cell? ⟨w.heap.size, 0, none⟩ = some vc → Cnt w2 (w.heap.size + 1 + 1) 0 → Calls Tryd.prog 59 #[p.val, FV 60 #[] #[.pointer (some ⟨w.heap.size + 1 + 1, 0, none⟩), .pointer (some ⟨w.heap.size, 0, none⟩)]] w2 fun e w' => e = .returned (.bool a) ∧ Below w.heap.size w w') := by
    intro w2 hb ht h0
    have hg : Goods w (w.heap.size + 1 + 1) (fun w1 => Below w.heap.size w w1 ∧ w1.cell? ⟨w.heap.size, 0, none⟩ = some vc) := ⟨fun _ h => h.1, fun a b h1 h2 => ⟨h1.1.trans (h2.below h1.1.size fun k hk e => by omega), by rw [h2.cell (World.block_lt_of_cell? a _ h1.2) (by simp only; omega)]; exact h1.2⟩⟩
    refine Calls.mono (every_any hg (may1_ok w _ _ vc cols h (by omega) (by omega)) enters_may1 p hi w2 0 ⟨hb, ht⟩ h0 (by omega)) ?_
    rw [mayP_ev, ha]
    rintro e w' ⟨rfl, h1, h2⟩
    exact ⟨rfl, hb.trans (h2.below hb.size fun k hk e => by omega)⟩
  rw [ha]
  clear hi hs ha h
  unfold PT.val at *
  go_enter Tryd.func48, Tryd.ntmps48
  go_wp2_with fail
  refine Calls.mono (H.out _ (back2 (alloc1 _ _)) (by simp [go_sem]) ⟨by simp [go_sem], by simp [go_sem]⟩) ?_
  rintro e w1 ⟨rfl, hb1⟩
  have HB : Hid _ := hb1
  clear hb1 H
  go_wp2_with fail
  go_ret
  exact ⟨rfl, HB.out⟩
/-- What Check answers. -/
def checkN (cols : List Bool) (p : PT) : Int := if mayT cols then (if mayP cols p then 0 else 30) else 1
set_option maxHeartbeats 1000000 in
theorem pcheck_any (vc : Value) (cols : List Bool) (p : PT) (w : World) (h : BoolsIn w vc cols) (hi : In w p) (hs : p.size ≤ 1000000) :
    Calls Tryd.prog 28 #[.agg #[vc], p.val] w fun e w' => e = .returned (.int .i64 (checkN cols p)) ∧ Below w.heap.size w w' := by
  obtain ⟨a, ha⟩ : ∃ a, mayP cols p = a := ⟨_, rfl⟩
  obtain ⟨t, ht⟩ : ∃ t, mayT cols = t := ⟨_, rfl⟩
  have H1 : Hid (∀ w1, Below w.heap.size w w1 → Calls Tryd.prog 47 #[.agg #[vc]] w1 fun e w' => e = .returned (.int .i64 (errIf (!t) 1)) ∧ Below w1.heap.size w1 w') := fun w1 hb => by rw [← ht]; exact check_any vc cols w1 (h.below hb)
  have H2 : Hid (∀ w1, Below w.heap.size w w1 → Calls Tryd.prog 48 #[.agg #[vc], p.val] w1 fun e w' => e = .returned (.bool a) ∧ Below w1.heap.size w1 w') := fun w1 hb => by rw [← ha]; exact mayBe_any vc cols p w1 (h.below hb) (hi.keep hb) hs
  have HK : Hid (checkN cols p = if t then (if a then 0 else 30) else 1) := by rw [Hid, checkN, ha, ht]
  rw [HK.out]
  clear ha ht h hi hs HK
  unfold PT.val at *
  go_enter Tryd.func28, Tryd.ntmps28
  go_wp2_with fail
  refine Calls.mono (H1.out _ (back1 (alloc1 _ _))) ?_
  rintro e w1 ⟨rfl, hb⟩
  have HB : Hid (Below w.heap.size w w1) := back2 hb
  cases t
  · clear hb H1 H2
    simp only [errIf, Bool.not_false, if_true]
    go_wp2_with fail
    go_ret
    exact ⟨rfl, HB.out⟩
  · simp only [errIf, Bool.not_true, Bool.false_eq_true, if_false]
    have t0 : w1.cell? ⟨w.heap.size, 0, none⟩ = some vc := by rw [hb.cell (by simp; omega)]; simp [go_sem]
    obtain ⟨b0, b1, b2, b3, b4, b5, b6, b7, b8⟩ := (Box.new (w.alloc (.cells #[vc] 24)) p 29).below hb
    have z : (w.alloc (.cells #[vc] 24)).heap.size = w.heap.size + 1 := by simp
    rw [z] at b0 b1 b2 b3 b4 b5 b6 b7 b8
    clear hb z H1
    go_wp2_with fail
    refine Calls.mono (H2.out _ HB.out) ?_
    rintro e w2 ⟨rfl, hb2⟩
    have HB2 : Hid (Below w.heap.size w w2) := on HB.out hb2
    clear hb2 HB H2 t0 b0 b1 b2 b3 b4 b5 b6 b7 b8
    cases a
    · go_wp2_with fail
      go_ret
      exact ⟨rfl, HB2.out⟩
    · go_wp2_with fail
      go_ret
      exact ⟨rfl, HB2.out⟩
end Go.Proofs.YtfkhfplibhnceaaDoor.Val
