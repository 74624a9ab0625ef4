/- Plain facts on updates: when one may be. No program's walk. -/
import Derived.Test.YtncefhjegkhamaaRowGoes
namespace Go.Proofs.Ytncefhjegkhamaa.Val
open Go.RowKit

/-- May a set be? -/
def setOk (cols : List Bool) (s : SetP) : Bool := isCol cols s.col && decide (s.col ≠ 0) && goesB cols s
def setsFrom (cols : List Bool) : List Int → List SetP → Bool
  | _, [] => true
  | seen, s :: l => setOk cols s && !seen.contains s.col && setsFrom cols (s.col :: seen) l
/-- May an update be? -/
def setsB (cols : List Bool) (l : List SetP) : Bool := decide (l.length ≤ 3) && setsFrom cols [] l
theorem setsFrom_iff {cols : List Bool} {l : List SetP} : ∀ {seen : List Int}, setsFrom cols seen l = true ↔
    ∀ j (h : j < l.length), setOk cols l[j] = true ∧ l[j].col ∉ seen ∧ ∀ i (hi : i < j), l[i].col ≠ l[j].col := by
  induction l with
  | nil => intro seen; simp [setsFrom]
  | cons s l ih =>
    intro seen
    simp only [setsFrom, Bool.and_eq_true, ih]
    constructor
    · rintro ⟨⟨h1, h2⟩, h3⟩ j hj
      cases j with
      | zero => exact ⟨h1, by simpa using h2, fun i hi => by omega⟩
      | succ j =>
        obtain ⟨g1, g2, g3⟩ := h3 j (by simpa using hj)
        simp only [List.mem_cons, not_or] at g2
        refine ⟨g1, g2.2, fun i hi => ?_⟩
        cases i with
        | zero => exact fun e => g2.1 e.symm
        | succ i => exact g3 i (by omega)
    · intro h
      have h0 := h 0 (by simp)
      refine ⟨⟨h0.1, by simpa using h0.2.1⟩, fun j hj => ?_⟩
      have h1 := h (j + 1) (by simpa using hj)
      refine ⟨h1.1, ?_, fun i hi => h1.2.2 (i + 1) (by omega)⟩
      simp only [List.mem_cons, not_or]
      exact ⟨fun e => h1.2.2 0 (by omega) e.symm, h1.2.1⟩
/-- All sets so far may be. -/
def OkTo (cols : List Bool) (l : List SetP) (k : Nat) : Prop := ∀ j (h : j < l.length), j < k → setOk cols l[j] = true ∧ ∀ i (hi : i < j), l[i].col ≠ l[j].col
theorem OkTo.zero (cols : List Bool) (l : List SetP) : OkTo cols l 0 := fun j _ h => by omega
theorem OkTo.next {cols : List Bool} {l : List SetP} {k : Nat} (h : OkTo cols l k) (hk : k < l.length) (h1 : setOk cols l[k] = true) (h2 : ∀ i (hi : i < k), l[i].col ≠ l[k].col) : OkTo cols l (k + 1) := fun j hj hlt => by
  by_cases e : j = k
  · subst e; exact ⟨h1, h2⟩
  · exact h j hj (by omega)
theorem setsB_iff {cols : List Bool} {l : List SetP} : setsB cols l = true ↔ l.length ≤ 3 ∧ OkTo cols l l.length := by
  unfold setsB
  simp only [Bool.and_eq_true, decide_eq_true_eq, setsFrom_iff]
  refine and_congr Iff.rfl ⟨fun h j hj _ => ⟨(h j hj).1, (h j hj).2.2⟩, fun h j hj => ⟨(h j hj hj).1, by simp, (h j hj hj).2⟩⟩
theorem setsB_yes {cols : List Bool} {l : List SetP} {k : Nat} (h1 : l.length ≤ 3) (hk : l.length ≤ k) (h2 : OkTo cols l k) : setsB cols l = true :=
  setsB_iff.2 ⟨h1, fun j hj _ => h2 j hj (by omega)⟩
theorem setsB_no {cols : List Bool} {l : List SetP} {k : Nat} (hk : k < l.length) (h : ¬ (setOk cols l[k] = true ∧ ∀ i (hi : i < k), l[i].col ≠ l[k].col)) : setsB cols l = false := by
  cases e : setsB cols l
  · rfl
  · exact absurd ((setsB_iff.1 e).2 k hk hk) h
theorem setsB_bad {cols : List Bool} {l : List SetP} {k : Nat} (hk : k < l.length) (h : setOk cols l[k] = false) : setsB cols l = false := setsB_no hk fun g => by rw [g.1] at h; cases h
theorem setsB_long {cols : List Bool} {l : List SetP} (h : 3 < l.length) : setsB cols l = false := by unfold setsB; rw [decide_eq_false (by omega)]; rfl
/-- What the marks say: a column is marked, if it is the key or was set. -/
def Marked (l : List SetP) (k : Nat) (m : Nat → Bool) : Prop := ∀ i, i < 4 → (m i = true ↔ i = 0 ∨ ∃ j, ∃ h : j < l.length, j < k ∧ l[j].col = (i : Int))
theorem Marked.zero (l : List SetP) : Marked l 0 (fun i => decide (i = 0)) := fun i _ => by simp
theorem Marked.next {l : List SetP} {k : Nat} {m : Nat → Bool} (h : Marked l k m) (hk : k < l.length) (c : Nat) (hc : l[k].col = (c : Int)) : Marked l (k + 1) (fun i => if i = c then true else m i) := fun i hi => by
  by_cases e : i = c
  · subst e; simp only [if_true, true_iff]; exact .inr ⟨k, hk, by omega, hc⟩
  · simp only [e, if_false, h i hi]
    refine or_congr Iff.rfl ⟨fun ⟨j, hj, hlt, hv⟩ => ⟨j, hj, by omega, hv⟩, fun ⟨j, hj, hlt, hv⟩ => ?_⟩
    by_cases ej : j = k
    · subst ej; rw [hc] at hv; exact absurd (by omega) e
    · exact ⟨j, hj, by omega, hv⟩
theorem Marked.no {cols : List Bool} {l : List SetP} {k : Nat} {m : Nat → Bool} (h : Marked l k m) (hk : k < l.length) (c : Nat) (hc4 : c < 4) (hc : l[k].col = (c : Int)) (hm : m c = true) : setsB cols l = false := by
  refine setsB_no hk fun ⟨g1, g2⟩ => ?_
  rcases (h c hc4).1 hm with rfl | ⟨j, hj, hlt, hv⟩
  · simp [setOk, hc] at g1
  · exact g2 j hlt (by rw [hv, hc])
theorem Marked.yes {l : List SetP} {k : Nat} {m : Nat → Bool} (h : Marked l k m) (hk : k < l.length) (c : Nat) (hc4 : c < 4) (hc : l[k].col = (c : Int)) (hm : m c = false) : c ≠ 0 ∧ ∀ i (hi : i < k), l[i].col ≠ l[k].col := by
  refine ⟨fun e => ?_, fun i hi e => ?_⟩
  · rw [(h c hc4).2 (.inl e)] at hm; cases hm
  · rw [(h c hc4).2 (.inr ⟨i, by omega, hi, by rw [e, hc]⟩)] at hm; cases hm
theorem setOk_of {cols : List Bool} {s : SetP} (h1 : isCol cols s.col = true) (h2 : s.col ≠ 0) : setOk cols s = goesB cols s := by unfold setOk; rw [h1, decide_eq_true h2]; rfl
theorem setOk_no {cols : List Bool} {s : SetP} (h1 : isCol cols s.col = false) : setOk cols s = false := by unfold setOk; rw [h1]; rfl
/-- A set's cells, from a place on. -/
def SBO (w : World) (b p : Nat) (c op f o : Int) (t : Bool) (n : Int) (s : ByteArray) : Prop :=
  w.cell? ⟨b, p, none⟩ = some (.int .i64 c) ∧ w.cell? ⟨b, p + 1, none⟩ = some (.int .i64 op) ∧ w.cell? ⟨b, p + 2, none⟩ = some (.int .i64 f) ∧ w.cell? ⟨b, p + 3, none⟩ = some (.int .i64 o) ∧ w.cell? ⟨b, p + 4, none⟩ = some (.bool t) ∧ w.cell? ⟨b, p + 5, none⟩ = some (.int .i64 n) ∧ w.cell? ⟨b, p + 6, none⟩ = some (.string s)
end Go.Proofs.Ytncefhjegkhamaa.Val
