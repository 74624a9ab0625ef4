/- Plain: a predicate's parts gone through with a count, as long as they pass. No program. -/
import Derived.Test.YtfkhfplibhnceaaDoorPredBox
namespace Go.Proofs.YtfkhfplibhnceaaDoor.Val
open Go Go.RowKit

/-- One behind the other, as long as they pass. -/
def evF : List (Nat → Bool × Nat) → Nat → Bool × Nat
  | [], n => (true, n)
  | f :: fs, n => if (f n).1 then evF fs (f n).2 else (false, (f n).2)
def evA (g : Nat → PT → Bool) : PT → Nat → Bool × Nat
  | .mk o c v w lv l => fun n => if g (n + 1) (.mk o c v w lv l) then evF (l.map (evA g)) (n + 1) else (false, n + 1)
/-- Whether the parts pass, and the count behind it. -/
def ev (g : Nat → PT → Bool) (n : Nat) (p : PT) : Bool × Nat := evA g p n
def evL (g : Nat → PT → Bool) (n : Nat) (l : List PT) : Bool × Nat := evF (l.map (evA g)) n
theorem ev_mk (g : Nat → PT → Bool) (n : Nat) (p : PT) : ev g n p = if g (n + 1) p then evL g (n + 1) p.l else (false, n + 1) := by cases p; rw [ev, evA]; rfl
theorem ev_yes {g : Nat → PT → Bool} {n : Nat} {p : PT} (h : g (n + 1) p = true) : ev g n p = evL g (n + 1) p.l := by rw [ev_mk, if_pos h]
theorem ev_no {g : Nat → PT → Bool} {n : Nat} {p : PT} (h : g (n + 1) p = false) : ev g n p = (false, n + 1) := by rw [ev_mk, if_neg (by simp [h])]
theorem evL_nil (g : Nat → PT → Bool) (n : Nat) : evL g n [] = (true, n) := rfl
theorem evL_cons (g : Nat → PT → Bool) (n : Nat) (q : PT) (l : List PT) : evL g n (q :: l) = if (ev g n q).1 then evL g (ev g n q).2 l else (false, (ev g n q).2) := rfl
/-- The count ahead of the i-th of a list. -/
def nAt (g : Nat → PT → Bool) : Nat → List PT → Nat → Nat
  | n, [], _ => n
  | n, _ :: _, 0 => n
  | n, q :: l, i + 1 => nAt g (ev g n q).2 l i
theorem nAt_zero (g : Nat → PT → Bool) (n : Nat) (l : List PT) : nAt g n l 0 = n := by cases l <;> rfl
theorem nAt_succ (g : Nat → PT → Bool) (n : Nat) (l : List PT) (i : Nat) (hi : i < l.length) : nAt g n l (i + 1) = (ev g (nAt g n l i) l[i]).2 := by
  induction l generalizing n i with
  | nil => simp at hi
  | cons q l ih =>
    cases i with
    | zero => simp [nAt, nAt_zero]
    | succ i => simpa [nAt] using ih (ev g n q).2 i (by simpa using hi)
theorem evL_all (g : Nat → PT → Bool) (n : Nat) (l : List PT) (h : ∀ (j : Nat) (hj : j < l.length), (ev g (nAt g n l j) l[j]).1 = true) : evL g n l = (true, nAt g n l l.length) := by
  induction l generalizing n with
  | nil => rfl
  | cons q l ih =>
    have h0 := h 0 (by simp)
    simp only [nAt_zero, List.getElem_cons_zero] at h0
    rw [evL_cons, if_pos h0, ih (ev g n q).2 (fun j hj => h (j + 1) (by simpa using hj))]
    rfl
theorem evL_stop (g : Nat → PT → Bool) (n : Nat) (l : List PT) (k : Nat) (hk : k < l.length) (h : ∀ (j : Nat) (hj : j < k), (ev g (nAt g n l j) (l[j]'(by omega))).1 = true) (hf : (ev g (nAt g n l k) l[k]).1 = false) : evL g n l = (false, nAt g n l (k + 1)) := by
  induction l generalizing n k with
  | nil => simp at hk
  | cons q l ih =>
    cases k with
    | zero =>
      simp only [nAt_zero, List.getElem_cons_zero] at hf
      rw [evL_cons, if_neg (by simp [hf])]
      simp [nAt, nAt_zero]
    | succ k =>
      have h0 := h 0 (by omega)
      simp only [nAt_zero, List.getElem_cons_zero] at h0
      rw [evL_cons, if_pos h0, ih (ev g n q).2 k (by simpa using hk) (fun j hj => h (j + 1) (by omega)) hf]
      simp [nAt]
def sizeL (l : List PT) : Nat := (l.map PT.size).sum
theorem sizeL_cons (q : PT) (l : List PT) : sizeL (q :: l) = q.size + sizeL l := by simp [sizeL]
theorem size_l (p : PT) : p.size = 1 + sizeL p.l := by cases p; rw [size_mk]; rfl
theorem evL_le {g : Nat → PT → Bool} (l : List PT) (h : ∀ q ∈ l, ∀ n, (ev g n q).2 ≤ n + q.size) (n : Nat) : (evL g n l).2 ≤ n + sizeL l := by
  induction l generalizing n with
  | nil => rw [evL_nil]; simp
  | cons q l ih =>
    have h0 := h q (List.mem_cons_self ..) n
    have h1 := ih (fun q' hq' => h q' (List.mem_cons_of_mem _ hq')) (ev g n q).2
    rw [evL_cons, sizeL_cons]
    split
    · omega
    · simp only; omega
theorem ev_le (g : Nat → PT → Bool) (p : PT) : ∀ n, (ev g n p).2 ≤ n + p.size := by
  induction p using PT.ind with
  | h p ih =>
    intro n
    have := evL_le p.l ih (n + 1)
    rw [ev_mk, size_l]
    split
    · omega
    · simp only; omega
theorem nAt_le (g : Nat → PT → Bool) (l : List PT) (n i : Nat) (hi : i < l.length) : nAt g n l i + l[i].size ≤ n + sizeL l := by
  induction l generalizing n i with
  | nil => simp at hi
  | cons q l ih =>
    rw [sizeL_cons]
    cases i with
    | zero => simp [nAt_zero]
    | succ i =>
      have := ih (ev g n q).2 i (by simpa using hi)
      have h0 := ev_le g q n
      simp only [nAt, List.getElem_cons_succ]
      omega
/-- Where all pass. -/
theorem evL_true (l : List PT) (h : ∀ q ∈ l, ∀ n, ev (fun _ _ => true) n q = (true, n + q.size)) (n : Nat) : evL (fun _ _ => true) n l = (true, n + sizeL l) := by
  induction l generalizing n with
  | nil => rw [evL_nil]; simp [sizeL]
  | cons q l ih => rw [evL_cons, h q (List.mem_cons_self ..) n, if_pos rfl, ih (fun q' hq' => h q' (List.mem_cons_of_mem _ hq')), sizeL_cons]; simp only [Prod.mk.injEq, true_and]; omega
theorem ev_true (p : PT) : ∀ n, ev (fun _ _ => true) n p = (true, n + p.size) := by
  induction p using PT.ind with
  | h p ih => intro n; rw [ev_mk, if_pos rfl, evL_true p.l ih, size_l]; simp only [Prod.mk.injEq, true_and]; omega
/-- Whether all parts, at all depths, are right by themselves. -/
def okP (s : PT → Bool) : PT → Bool
  | .mk o c v w lv l => s (.mk o c v w lv l) && (l.map (okP s)).all id
theorem okP_mk (s : PT → Bool) (p : PT) : okP s p = (s p && (p.l.map (okP s)).all id) := by cases p; rw [okP]
def upto (s : PT → Bool) (n : Nat) (p : PT) : Bool := decide (n ≤ 15) && s p
theorem ev_upto (s : PT → Bool) (p : PT) : ∀ n, ((ev (upto s) n p).1 = true ↔ n + p.size ≤ 15 ∧ okP s p = true) ∧ ((ev (upto s) n p).1 = true → (ev (upto s) n p).2 = n + p.size) := by
  induction p using PT.ind with
  | h p ih =>
    have hL : ∀ l : List PT, (∀ q ∈ l, q ∈ p.l) → ∀ n, n ≤ 15 → ((evL (upto s) n l).1 = true ↔ n + sizeL l ≤ 15 ∧ (l.map (okP s)).all id = true) ∧ ((evL (upto s) n l).1 = true → (evL (upto s) n l).2 = n + sizeL l) := by
      intro l
      induction l with
      | nil => intro _ n hn; rw [evL_nil]; simp [sizeL]; omega
      | cons q l ihl =>
        intro hm n hn
        obtain ⟨q1, q2⟩ := ih q (hm q (List.mem_cons_self ..)) n
        rw [evL_cons, sizeL_cons]
        cases hq : (ev (upto s) n q).1
        · rw [hq] at q1
          simp only [Bool.false_eq_true, if_false, false_iff, not_and] at q1 ⊢
          refine ⟨fun h1 h2 => ?_, fun h => by cases h⟩
          rw [List.map_cons, List.all_cons, Bool.and_eq_true] at h2
          exact q1 (by omega) h2.1
        · have e2 := q2 hq
          obtain ⟨a1, a2⟩ := q1.1 hq
          obtain ⟨r1, r2⟩ := ihl (fun x hx => hm x (List.mem_cons_of_mem _ hx)) (ev (upto s) n q).2 (by omega)
          rw [if_pos rfl, e2] at *
          refine ⟨?_, fun h => by rw [r2 h]; omega⟩
          rw [r1, List.map_cons, List.all_cons, Bool.and_eq_true]
          simp only [id, a2, true_and]
          constructor
          · rintro ⟨x, y⟩; exact ⟨by omega, y⟩
          · rintro ⟨x, y⟩; exact ⟨by omega, y⟩
    intro n
    rw [ev_mk, okP_mk, size_l]
    by_cases hn : n + 1 ≤ 15
    · cases hs : s p
      · have hu : upto s (n + 1) p = false := by simp [upto, hs]
        simp [hu]
      · have hu : upto s (n + 1) p = true := by simp [upto, hs, hn]
        obtain ⟨r1, r2⟩ := hL p.l (fun _ h => h) (n + 1) hn
        rw [if_pos hu]
        refine ⟨?_, fun h => by rw [r2 h]; omega⟩
        rw [r1, Bool.true_and]
        constructor
        · rintro ⟨x, y⟩; exact ⟨by omega, y⟩
        · rintro ⟨x, y⟩; exact ⟨by omega, y⟩
    · have hu : upto s (n + 1) p = false := by simp [upto, hn]
      rw [if_neg (by simp [hu])]
      simp only [Bool.false_eq_true, false_iff, not_and]
      exact ⟨fun h => by omega, fun h => by cases h⟩
end Go.Proofs.YtfkhfplibhnceaaDoor.Val
