/- Plain facts on what an update makes of a row. No program's walk. -/
import Derived.Test.YtncefhjegkhamaaRowComes2
import Derived.Test.YtncefhjegkhamaaRowFitsC
namespace Go.Proofs.Ytncefhjegkhamaa.Val
open Go.RowKit

/-- The sets, one by one: the row, or none where one is beyond 64 bits. -/
def runSets (xs : List Val) : List SetP → List Val → Option (List Val)
  | [], cur => some cur
  | s :: l, cur => if (comes xs s).2 = true then runSets xs l (cur.set s.col.toNat (comes xs s).1) else none
/-- Update's answer: the row and the error. -/
def upd (cols : List Bool) (xs : List Val) (l : List SetP) : List Val × Int :=
  if fitsRow cols xs = true then (if setsB cols l = true then (match runSets xs l xs with | some out => (out, 0) | none => ([], 21)) else ([], 20)) else ([], 1)
theorem upd_unfit {cols : List Bool} {xs : List Val} {l : List SetP} (h : fitsRow cols xs = false) : upd cols xs l = ([], 1) := by unfold upd; rw [h]; rfl
theorem upd_set {cols : List Bool} {xs : List Val} {l : List SetP} (h : fitsRow cols xs = true) (h2 : setsB cols l = false) : upd cols xs l = ([], 20) := by unfold upd; rw [h, h2]; rfl
theorem upd_over {cols : List Bool} {xs : List Val} {l : List SetP} (h : fitsRow cols xs = true) (h2 : setsB cols l = true) (h3 : runSets xs l xs = none) : upd cols xs l = ([], 21) := by unfold upd; rw [h, h2, h3]; rfl
theorem upd_ok {cols : List Bool} {xs : List Val} {l : List SetP} {out : List Val} (h : fitsRow cols xs = true) (h2 : setsB cols l = true) (h3 : runSets xs l xs = some out) : upd cols xs l = (out, 0) := by unfold upd; rw [h, h2, h3]; rfl
theorem runSets_step {xs : List Val} {l : List SetP} {k : Nat} (hk : k < l.length) (cur : List Val) : runSets xs (l.drop k) cur = if (comes xs l[k]).2 = true then runSets xs (l.drop (k + 1)) (cur.set l[k].col.toNat (comes xs l[k]).1) else none := by
  rw [List.drop_eq_getElem_cons hk]; rfl
theorem runSets_done {xs : List Val} {l : List SetP} {k : Nat} (hk : l.length ≤ k) (cur : List Val) : runSets xs (l.drop k) cur = some cur := by
  rw [List.drop_eq_nil_of_le hk]; rfl
theorem fitsRow_parts {cols : List Bool} {xs : List Val} (h : fitsRow cols xs = true) : mayT cols = true ∧ xs.length = cols.length ∧ fitsL cols xs = true := by
  unfold fitsRow at h
  rw [Bool.and_eq_true, Bool.and_eq_true, decide_eq_true_eq] at h
  exact ⟨h.1.1, h.1.2, h.2⟩
theorem checkSetsN_of {cols : List Bool} {l : List SetP} (h : mayT cols = true) : checkSetsN cols l = if setsB cols l then 0 else 20 := by unfold checkSetsN; rw [h]; rfl
/-- Facts on a set that may be. -/
theorem setOk_parts {cols : List Bool} {s : SetP} (h : setOk cols s = true) : (∃ k : Nat, s.col = k ∧ k < cols.length ∧ 0 < k) ∧ goesB cols s = true := by
  unfold setOk at h
  rw [Bool.and_eq_true, Bool.and_eq_true, decide_eq_true_eq] at h
  obtain ⟨k, hk, hlt⟩ := nat_of_col h.1.1
  refine ⟨⟨k, hk, hlt, ?_⟩, h.2⟩
  have := h.1.2
  omega
/-- What comes of a set can be read. -/
theorem comes_ok {xs : List Val} {s : SetP} (ho : RowOk xs) (hs : fits s.v.n = true ∧ s.v.s.size ≤ maxLen) : fits (comes xs s).1.n = true ∧ (comes xs s).1.s.size ≤ maxLen := by
  have hg : ∀ k, fits (xs.getD k Val.zero).n = true ∧ (xs.getD k Val.zero).s.size ≤ maxLen := fun k => by
    by_cases h : k < xs.length
    · rw [List.getD_eq_getElem?_getD, List.getElem?_eq_getElem h]; exact ho _ (List.getElem_mem _)
    · rw [List.getD_eq_getElem?_getD, List.getElem?_eq_none (by omega)]; exact ⟨by decide, Nat.zero_le _⟩
  unfold comes
  split
  · exact hs
  · split
    · exact hg _
    · split
      · exact ⟨fits_val _, Nat.zero_le _⟩
      · split
        · exact ⟨fits_val _, Nat.zero_le _⟩
        · split
          · exact ⟨fits_val _, Nat.zero_le _⟩
          · exact ⟨fits_val _, Nat.zero_le _⟩
theorem RowOk.set {xs : List Val} {x : Val} (h : RowOk xs) (hx : fits x.n = true ∧ x.s.size ≤ maxLen) (k : Nat) : RowOk (xs.set k x) := fun y hy => by
  rcases List.mem_or_eq_of_mem_set hy with h1 | rfl
  · exact h y h1
  · exact hx
theorem runSets_ok {xs : List Val} (ho : RowOk xs) : ∀ {l : List SetP} {cur out : List Val}, SetsOk l → RowOk cur → runSets xs l cur = some out → RowOk out := by
  intro l
  induction l with
  | nil => intro cur out _ hc h; cases h; exact hc
  | cons s l ih =>
    intro cur out hs hc h
    unfold runSets at h
    split at h
    · exact ih (fun x hx => hs x (List.mem_cons_of_mem _ hx)) (hc.set (comes_ok ho (hs s (List.mem_cons_self))) _) h
    · cases h
theorem upd_ok_row {cols : List Bool} {xs : List Val} {l : List SetP} (ho : RowOk xs) (hs : SetsOk l) : RowOk (upd cols xs l).1 := by
  unfold upd
  split
  · split
    · cases h : runSets xs l xs with
      | none => intro x hx; simp at hx
      | some out => exact runSets_ok ho hs ho h
    · intro x hx; simp at hx
  · intro x hx; simp at hx
end Go.Proofs.Ytncefhjegkhamaa.Val
