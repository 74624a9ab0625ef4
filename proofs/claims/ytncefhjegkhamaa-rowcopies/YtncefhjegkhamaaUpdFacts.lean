/- Plain facts on what an update makes of a row: what stays, what fits, that the order of sets plays no part. No program's walk. -/
import Derived.Test.YtncefhjegkhamaaUpdPlain
namespace Go.Proofs.Ytncefhjegkhamaa.Val
open Go.RowKit

theorem upd_cases (cols : List Bool) (xs : List Val) (l : List SetP) :
    (fitsRow cols xs = true ∧ setsB cols l = true ∧ (upd cols xs l).2 = 0 ∧ runSets xs l xs = some (upd cols xs l).1) ∨
    ((upd cols xs l).1 = [] ∧ ((upd cols xs l).2 = 1 ∨ (upd cols xs l).2 = 20 ∨ (upd cols xs l).2 = 21)) := by
  cases h1 : fitsRow cols xs
  · rw [upd_unfit h1]; exact .inr ⟨rfl, .inl rfl⟩
  · cases h2 : setsB cols l
    · rw [upd_set h1 h2]; exact .inr ⟨rfl, .inr (.inl rfl)⟩
    · cases h3 : runSets xs l xs with
      | none => rw [upd_over h1 h2 h3]; exact .inr ⟨rfl, .inr (.inr rfl)⟩
      | some out => rw [upd_ok h1 h2 h3]; exact .inl ⟨rfl, rfl, rfl, rfl⟩
theorem runSets_length {xs : List Val} : ∀ {l : List SetP} {cur out : List Val}, runSets xs l cur = some out → out.length = cur.length := by
  intro l
  induction l with
  | nil => intro cur out h; cases h; rfl
  | cons s l ih =>
    intro cur out h
    unfold runSets at h
    split at h
    · rw [ih h, List.length_set]
    · cases h
/-- A column that isn't set stays. -/
theorem runSets_stays {xs : List Val} {i : Nat} : ∀ {l : List SetP} {cur out : List Val}, runSets xs l cur = some out → (∀ s ∈ l, s.col.toNat ≠ i) → out[i]? = cur[i]? := by
  intro l
  induction l with
  | nil => intro cur out h _; cases h; rfl
  | cons s l ih =>
    intro cur out h hn
    unfold runSets at h
    split at h
    · rw [ih h (fun x hx => hn x (List.mem_cons_of_mem _ hx)), List.getElem?_set_ne (hn s List.mem_cons_self)]
    · cases h
/-- What comes of a set suits its column. -/
theorem comes_suits {cols : List Bool} {xs : List Val} {s : SetP} (hg : goesB cols s = true) (hf : fitsL cols xs = true) (hl : xs.length = cols.length) : suitV (colAt cols s.col) (comes xs s).1 = true := by
  have hops := goes_ops hg
  have hsrc := goes_src hg
  obtain ⟨c, op, f, o, v⟩ := s
  simp only at *
  have hnum : ∀ n, isNum cols c = true → suitV (colAt cols c) ⟨false, n, ⟨#[]⟩⟩ = true := fun n h => by
    have hc : colAt cols c = false := by unfold isNum at h; rw [Bool.and_eq_true] at h; simpa using h.2
    rw [hc]
    simp [suitV, rightV, ByteArray.toList_eq]
  rcases hops with rfl | rfl | rfl | rfl | rfl | rfl
  · exact hg
  · obtain ⟨j, rfl, hj⟩ := hsrc (by decide)
    have hj' : j < xs.length := by omega
    have e : comes xs ⟨c, 2, j, o, v⟩ = (xs[j], true) := by unfold comes; rw [getD_of hj']; rfl
    rw [e]
    have h1 := fitsL_iff.1 hf j hj hj'
    unfold goesB at hg
    simp only [show (2 : Int) = 1 ↔ False by decide, if_false, if_true, Bool.and_eq_true, beq_iff_eq] at hg
    rw [← hg.2, colAt_nat hj]
    exact h1
  · exact hnum _ (by unfold goesB at hg; simp at hg; exact hg.1.1)
  · exact hnum _ (by unfold goesB at hg; simp at hg; exact hg.1.1)
  · exact hnum _ (by unfold goesB at hg; simp at hg; exact hg.1.1)
  · exact hnum _ (by unfold goesB at hg; simp at hg; exact hg.1.1)
theorem fitsL_set {cols : List Bool} {cur : List Val} {c : Nat} {x : Val} (hf : fitsL cols cur = true) (hx : ∀ h : c < cols.length, suitV cols[c] x = true) : fitsL cols (cur.set c x) = true := by
  rw [fitsL_iff] at *
  intro k h1 h2
  rw [List.length_set] at h2
  rw [List.getElem_set]
  split
  · rename_i e; subst e; exact hx h1
  · exact hf k h1 h2
theorem runSets_fits {cols : List Bool} {xs : List Val} (hf : fitsL cols xs = true) (hl : xs.length = cols.length) : ∀ {l : List SetP} {cur out : List Val}, (∀ s ∈ l, setOk cols s = true) → fitsL cols cur = true → runSets xs l cur = some out → fitsL cols out = true := by
  intro l
  induction l with
  | nil => intro cur out _ hc h; cases h; exact hc
  | cons s l ih =>
    intro cur out hs hc h
    unfold runSets at h
    split at h
    · obtain ⟨_, hg⟩ := setOk_parts (hs s List.mem_cons_self)
      refine ih (fun x hx => hs x (List.mem_cons_of_mem _ hx)) (fitsL_set hc fun h1 => ?_) h
      have := comes_suits hg hf hl
      rw [colAt_of h1] at this
      exact this
    · cases h
/-- An update that may be: each set may be, and no two have one column. -/
theorem setsB_iff' {cols : List Bool} {l : List SetP} : setsB cols l = true ↔ l.length ≤ 3 ∧ (∀ s ∈ l, setOk cols s = true) ∧ (l.map (·.col)).Nodup := by
  rw [setsB_iff]
  refine and_congr Iff.rfl ⟨fun h => ⟨fun s hs => ?_, ?_⟩, fun h j hj _ => ⟨h.1 _ (List.getElem_mem _), fun i hi e => ?_⟩⟩
  · obtain ⟨k, hk, rfl⟩ := List.mem_iff_getElem.1 hs
    exact (h k hk hk).1
  · rw [List.Nodup, List.pairwise_iff_getElem]
    intro i j hi hj hij
    simp only [List.length_map] at hi hj
    simp only [List.getElem_map]
    exact (h j hj hj).2 i hij
  · have h2 := List.pairwise_iff_getElem.1 h.2 i j (by simp; omega) (by simpa using hj) hi
    simp only [List.getElem_map] at h2
    exact h2 e
/-- What Update tells fits; the key stays, and so do columns that aren't set. -/
theorem upd_fits {cols : List Bool} {xs : List Val} {l : List SetP} (h1 : fitsRow cols xs = true) (h2 : setsB cols l = true) {out : List Val} (h3 : runSets xs l xs = some out) : fitsRow cols out = true := by
  obtain ⟨hm, hl, hf⟩ := fitsRow_parts h1
  rw [fitsRow_of hm (by rw [runSets_length h3]; exact hl)]
  exact runSets_fits hf hl (setsB_iff'.1 h2).2.1 hf h3
theorem upd_stays {cols : List Bool} {xs : List Val} {l : List SetP} (h2 : setsB cols l = true) {out : List Val} (h3 : runSets xs l xs = some out) (i : Nat) (hi : i < xs.length) (hi' : i < out.length) (hn : ∀ s ∈ l, s.col ≠ (i : Int)) : out[i] = xs[i] := by
  have h := runSets_stays (i := i) h3 (fun s hs e => by
    obtain ⟨⟨k, hk, _, _⟩, _⟩ := setOk_parts ((setsB_iff'.1 h2).2.1 s hs)
    rw [hk] at e
    exact hn s hs (by rw [hk, ← e]; simp))
  rw [List.getElem?_eq_getElem hi', List.getElem?_eq_getElem hi] at h
  exact Option.some.inj h
theorem upd_key {cols : List Bool} {xs : List Val} {l : List SetP} (h2 : setsB cols l = true) {out : List Val} (h3 : runSets xs l xs = some out) (hi : 0 < xs.length) (hi' : 0 < out.length) : out[0] = xs[0] :=
  upd_stays h2 h3 0 hi hi' fun s hs e => by
    obtain ⟨⟨k, hk, _, h0⟩, _⟩ := setOk_parts ((setsB_iff'.1 h2).2.1 s hs)
    rw [hk] at e
    omega
end Go.Proofs.Ytncefhjegkhamaa.Val
