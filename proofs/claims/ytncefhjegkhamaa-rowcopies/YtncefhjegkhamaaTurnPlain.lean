/- Plain facts: the order of sets plays no part in an update. No program's walk. -/
import Derived.Test.YtncefhjegkhamaaUpdFacts
namespace Go.Proofs.Ytncefhjegkhamaa.Val
open Go.RowKit

theorem runSets_set {xs : List Val} {c : Nat} {v : Val} : ∀ {l : List SetP} {cur : List Val}, (∀ s ∈ l, s.col.toNat ≠ c) → runSets xs l (cur.set c v) = (runSets xs l cur).map (·.set c v) := by
  intro l
  induction l with
  | nil => intro cur _; rfl
  | cons s l ih =>
    intro cur h
    have hs := h s List.mem_cons_self
    unfold runSets
    split
    · rw [List.set_comm _ _ (Ne.symm hs)]
      exact ih fun x hx => h x (List.mem_cons_of_mem _ hx)
    · rfl
theorem runSets_snoc {xs : List Val} {s : SetP} : ∀ {l : List SetP} {cur : List Val}, runSets xs (l ++ [s]) cur = (runSets xs l cur).bind fun c => if (comes xs s).2 = true then some (c.set s.col.toNat (comes xs s).1) else none := by
  intro l
  induction l with
  | nil => intro cur; rfl
  | cons t l ih =>
    intro cur
    rw [List.cons_append]
    unfold runSets
    split
    · exact ih
    · rfl
theorem runSets_reverse {xs : List Val} : ∀ {l : List SetP} {cur : List Val}, (l.map (·.col.toNat)).Nodup → runSets xs l.reverse cur = runSets xs l cur := by
  intro l
  induction l with
  | nil => intro cur _; rfl
  | cons s l ih =>
    intro cur h
    rw [List.map_cons, List.nodup_cons] at h
    rw [List.reverse_cons, runSets_snoc, ih h.2]
    conv => rhs; unfold runSets
    split
    · rw [runSets_set (fun x hx e => h.1 (List.mem_map.2 ⟨x, hx, e⟩))]
      cases runSets xs l cur <;> rfl
    · cases runSets xs l cur <;> rfl
theorem bool_iff {a b : Bool} (h : a = true ↔ b = true) : a = b := by cases a <;> cases b <;> simp_all
theorem nodup_rev {l : List Int} : l.reverse.Nodup ↔ l.Nodup := by
  rw [List.Nodup, List.pairwise_reverse]
  exact ⟨fun h => h.imp Ne.symm, fun h => h.imp Ne.symm⟩
theorem setsB_reverse {cols : List Bool} {l : List SetP} : setsB cols l.reverse = setsB cols l := by
  refine bool_iff ?_
  rw [setsB_iff', setsB_iff', List.length_reverse, List.map_reverse, nodup_rev]
  simp only [List.mem_reverse]
theorem toNat_nodup {cols : List Bool} {l : List SetP} (h : setsB cols l = true) : (l.map (·.col.toNat)).Nodup := by
  obtain ⟨_, h1, h2⟩ := setsB_iff'.1 h
  rw [List.Nodup, List.pairwise_map] at h2 ⊢
  refine h2.imp_of_mem fun {a b} ha hb hne e => ?_
  obtain ⟨⟨k, hk, _, _⟩, _⟩ := setOk_parts (h1 a ha)
  obtain ⟨⟨j, hj, _, _⟩, _⟩ := setOk_parts (h1 b hb)
  rw [hk, hj] at e hne
  simp at e
  exact hne (by rw [e])
/-- Sets in another order change nothing. -/
theorem upd_reverse {cols : List Bool} {xs : List Val} {l : List SetP} : upd cols xs l.reverse = upd cols xs l := by
  unfold upd
  rw [setsB_reverse]
  split
  · split
    · rename_i h; rw [runSets_reverse (toNat_nodup h)]
    · rfl
  · rfl
theorem upd_none_fit {cols : List Bool} {xs : List Val} (h : fitsRow cols xs = true) : upd cols xs [] = (xs, 0) := upd_ok h rfl rfl
end Go.Proofs.Ytncefhjegkhamaa.Val
