/- What row.comesTo answers, whatever the set that goes with its table. -/
import Derived.Test.YtncefhjegkhamaaRowComes
namespace Go.Proofs.Ytncefhjegkhamaa.Val
open Go.RowKit

/-- Memory's facts on sets: their values can be read. -/
def SetsOk (l : List SetP) : Prop := ∀ s ∈ l, fits s.v.n = true ∧ s.v.s.size ≤ maxLen
theorem getD_of {xs : List Val} {k : Nat} (h : k < xs.length) : xs.getD ((k : Int)).toNat Val.zero = xs[k] := by simp [h]
theorem isNum_col {cols : List Bool} {i : Int} (h : isNum cols i = true) : isCol cols i = true := by
  unfold isNum at h; cases e : isCol cols i
  · rw [e] at h; cases h
  · rfl
theorem nat_of_col {cols : List Bool} {i : Int} (h : isCol cols i = true) : ∃ k : Nat, i = k ∧ k < cols.length := by
  obtain ⟨h0, h1⟩ := isCol_iff.1 h
  exact ⟨i.toNat, by omega, by omega⟩
theorem goes_src {cols : List Bool} {s : SetP} (h : goesB cols s = true) (h1 : s.op ≠ 1) : ∃ k : Nat, s.src = k ∧ k < cols.length := by
  unfold goesB at h
  rw [if_neg h1] at h
  by_cases h2 : s.op = 2
  · rw [if_pos h2, Bool.and_eq_true] at h
    exact nat_of_col h.1
  · rw [if_neg h2] at h
    by_cases h3 : s.op = 3 ∨ s.op = 4 ∨ s.op = 5
    · rw [if_pos h3, Bool.and_eq_true, Bool.and_eq_true] at h
      exact nat_of_col (isNum_col h.1.2)
    · rw [if_neg h3] at h
      by_cases h6 : s.op = 6
      · rw [if_pos h6, Bool.and_eq_true, Bool.and_eq_true] at h
        exact nat_of_col (isNum_col h.1.2)
      · rw [if_neg h6] at h; cases h
theorem goes_other {cols : List Bool} {s : SetP} (h : goesB cols s = true) (h6 : s.op = 6) : ∃ k : Nat, s.other = k ∧ k < cols.length := by
  unfold goesB at h
  rw [h6, if_neg (by omega), if_neg (by omega), if_neg (by omega), if_pos rfl, Bool.and_eq_true] at h
  exact nat_of_col (isNum_col h.2)
theorem goes_ops {cols : List Bool} {s : SetP} (h : goesB cols s = true) : s.op = 1 ∨ s.op = 2 ∨ s.op = 3 ∨ s.op = 4 ∨ s.op = 5 ∨ s.op = 6 := by
  unfold goesB at h
  by_cases h1 : s.op = 1
  · exact .inl h1
  by_cases h2 : s.op = 2
  · exact .inr (.inl h2)
  by_cases h3 : s.op = 3 ∨ s.op = 4 ∨ s.op = 5
  · omega
  by_cases h6 : s.op = 6
  · omega
  rw [if_neg h1, if_neg h2, if_neg h3, if_neg h6] at h
  cases h
theorem comesTo_any (vr : Value) (cols : List Bool) (xs : List Val) (s : SetP) (w : World) (hr : RowIn w vr xs) (ho : RowOk xs) (hn : fits s.v.n = true) (hg : goesB cols s = true) (hl : xs.length = cols.length) :
    Calls Try.prog 27 #[vr, SV s.col s.op s.src s.other s.v.t s.v.n s.v.s] w fun e w' => e = .returned (.tuple #[V (comes xs s).1.t (comes xs s).1.n (comes xs s).1.s, .bool (comes xs s).2]) ∧ Below w.heap.size w w' := by
  have hops := goes_ops hg
  have hsrc := goes_src hg
  have hoth := goes_other hg
  obtain ⟨c, op, f, o, v⟩ := s
  simp only at *
  by_cases h1 : op = 1
  · subst h1; exact comesTo_to vr c f o v.t v.n v.s w
  · obtain ⟨j, rfl, hj⟩ := hsrc h1
    have hj' : j < xs.length := by omega
    have gj := getD_of hj'
    have oj := ho xs[j] (List.getElem_mem _)
    rcases hops with rfl | rfl | rfl | rfl | rfl | rfl
    · exact absurd rfl h1
    · have e : comes xs ⟨c, 2, j, o, v⟩ = (xs[j], true) := by unfold comes; rw [gj]; rfl
      rw [e]; exact comesTo_copy vr xs j c o v.t v.n v.s w hr hj'
    · have e : comes xs ⟨c, 3, j, o, v⟩ = (⟨false, val (xs[j].n + v.n), ⟨#[]⟩⟩, fits (xs[j].n + v.n)) := by unfold comes; rw [gj]; rfl
      rw [e]; exact comesTo_add vr xs j c o v.t v.n v.s w hr hj' _ _ fun w1 => add_any _ _ w1 oj.1 hn
    · have e : comes xs ⟨c, 4, j, o, v⟩ = (⟨false, val (xs[j].n - v.n), ⟨#[]⟩⟩, fits (xs[j].n - v.n)) := by unfold comes; rw [gj]; rfl
      rw [e]; exact comesTo_sub vr xs j c o v.t v.n v.s w hr hj' _ _ fun w1 => sub_any _ _ w1 oj.1 hn
    · have e : comes xs ⟨c, 5, j, o, v⟩ = (⟨false, val (xs[j].n * v.n), ⟨#[]⟩⟩, fits (xs[j].n * v.n)) := by unfold comes; rw [gj]; rfl
      rw [e]; exact comesTo_times vr xs j c o v.t v.n v.s w hr hj' _ _ fun w1 => times_any _ _ w1 oj.1 hn
    · obtain ⟨i, rfl, hi⟩ := hoth rfl
      have hi' : i < xs.length := by omega
      have gi := getD_of hi'
      have oi := ho xs[i] (List.getElem_mem _)
      have e : comes xs ⟨c, 6, j, i, v⟩ = (⟨false, val (xs[j].n + xs[i].n), ⟨#[]⟩⟩, fits (xs[j].n + xs[i].n)) := by unfold comes; rw [gj, gi]; rfl
      rw [e]; exact comesTo_sum vr xs j c i v.t v.n v.s w hr hj' hi' _ _ fun w1 => add_any _ _ w1 oj.1 oi.1
end Go.Proofs.Ytncefhjegkhamaa.Val
