/- What holds of all modes, by asking all. -/
import Derived.Test.YtkkbbpldeeajaaaDoorUM
import Derived.Test.YtkkbbpldeeajaaaDoorUQ
import Derived.Test.YtkkbbpldeeajaaaDoorUC4
import Derived.Test.YtkkbbpldeeajaaaDoorUC2
import Derived.Test.YtkkbbpldeeajaaaDoorUC3
namespace Go.Proofs.YtkkbbpldeeajaaaDoor.Val
open Go Go.RowKit

def le7all (p : Nat → Nat → Nat → Bool) : Bool := (List.range 7).all fun k => (List.range 7).all fun j => (List.range 7).all fun i => p k j i
theorem of_le7all {p : Nat → Nat → Nat → Bool} (h : le7all p = true) {k j i : Nat} (hk : k < 7) (hj : j < 7) (hi : i < 7) : p k j i = true := by
  simp only [le7all, List.all_eq_true, List.mem_range] at h
  exact h k hk j hj i hi
theorem all_right {p : Int → Int → Int → Bool} (h : le7all (fun k j i => p k j i) = true) {a b c : Int} (ha : rightM a = true) (hb : rightM b = true) (hc : rightM c = true) : p a b c = true := by
  obtain ⟨k, hk, rfl⟩ := mode_of ha
  obtain ⟨j, hj, rfl⟩ := mode_of hb
  obtain ⟨i, hi, rfl⟩ := mode_of hc
  exact of_le7all h hk hj hi
theorem join_wrong {a b : Int} (h : (rightM a && rightM b) = false) : joinM a b = 0 := by rw [joinM, h]; rfl
theorem joins_fits {a b c : Int} (ha : rightM a = true) (hb : rightM b = true) (hc : rightM c = true) : fitsM (joinM a b) c = (fitsM a c && fitsM b c) :=
  eq_of_beq (all_right (p := fun a b c => fitsM (joinM a b) c == (fitsM a c && fitsM b c)) (by decide +kernel) ha hb hc)
theorem joins_left {a b c : Int} (ha : rightM a = true) (hb : rightM b = true) (hc : rightM c = true) : coversM (joinM a b) a = true :=
  all_right (p := fun a b _ => coversM (joinM a b) a) (by decide +kernel) ha hb hc
theorem joins_right {a b c : Int} (ha : rightM a = true) (hb : rightM b = true) (hc : rightM c = true) : coversM (joinM a b) b = true :=
  all_right (p := fun a b _ => coversM (joinM a b) b) (by decide +kernel) ha hb hc
theorem joins_least {a b c : Int} (ha : rightM a = true) (hb : rightM b = true) (hc : rightM c = true) : (!(coversM c a && coversM c b) || coversM c (joinM a b)) = true :=
  all_right (p := fun a b c => !(coversM c a && coversM c b) || coversM c (joinM a b)) (by decide +kernel) ha hb hc
theorem covers_thru {a b c : Int} (ha : rightM a = true) (hb : rightM b = true) (hc : rightM c = true) : (!(coversM a b && coversM b c) || coversM a c) = true :=
  all_right (p := fun a b c => !(coversM a b && coversM b c) || coversM a c) (by decide +kernel) ha hb hc
theorem covers_same {a b c : Int} (ha : rightM a = true) (hb : rightM b = true) (hc : rightM c = true) : (coversM a b && coversM b a) = (a == b) :=
  eq_of_beq (all_right (p := fun a b _ => (coversM a b && coversM b a) == (a == b)) (by decide +kernel) ha hb hc)
theorem joins_assoc {a b c : Int} (ha : rightM a = true) (hb : rightM b = true) (hc : rightM c = true) : joinM a (joinM b c) = joinM (joinM a b) c :=
  eq_of_beq (all_right (p := fun a b c => joinM a (joinM b c) == joinM (joinM a b) c) (by decide +kernel) ha hb hc)
theorem joins_comm {a b c : Int} (ha : rightM a = true) (hb : rightM b = true) (hc : rightM c = true) : joinM b a = joinM a b :=
  eq_of_beq (all_right (p := fun a b _ => joinM b a == joinM a b) (by decide +kernel) ha hb hc)
theorem joins_ends {a : Int} (ha : rightM a = true) : joinM a a = a ∧ coversM a 0 = true ∧ coversM 6 a = true := by
  have := all_right (p := fun a _ _ => (joinM a a == a) && (coversM a 0 && coversM 6 a)) (by decide +kernel) ha ha ha
  simpa using this
theorem grows {a b c : Int} (ha : rightM a = true) (hc : rightM c = true) : (!fitsM (joinM a c) b || fitsM a b) = true := by
  by_cases hb : rightM b = true
  · exact all_right (p := fun a b c => !fitsM (joinM a c) b || fitsM a b) (by decide +kernel) ha hb hc
  · simp [fitsM, hb]
end Go.Proofs.YtkkbbpldeeajaaaDoor.Val
/- Plain: what may be a table's hangs on no place. No program. -/
namespace Go.Proofs.YtkkbbpldeeajaaaDoor.Val
open Go.RowKit

theorem suit_bare (cols : List Bool) (p : PT) : suitP cols p.bare = suitP cols p := by
  cases p with | mk o c v u lv l => rw [bare_mk]; simp [suitP]
theorem ok_bare (cols : List Bool) (p : PT) : okP (suitP cols) p.bare = okP (suitP cols) p := by
  induction p using PT.ind with
  | h p ih =>
    rw [okP_mk, okP_mk, suit_bare]
    have : p.bare.l = p.l.map PT.bare := by cases p with | mk o c v u lv l => rw [bare_mk]
    rw [this, map_bare (okP (suitP cols)) p.l ih]
theorem ok_of_bare {p q : PT} (h : p.bare = q.bare) (cols : List Bool) : okP (suitP cols) p = okP (suitP cols) q := by rw [← ok_bare cols p, h, ok_bare]
theorem check_of_bare {p q : PT} (h : p.bare = q.bare) (cols : List Bool) : checkN cols p = checkN cols q := by unfold checkN mayP; rw [size_of_bare h, ok_of_bare h]
theorem mayP_bare {p q : PT} (h : p.bare = q.bare) (cols : List Bool) : mayP cols p = mayP cols q := by unfold mayP; rw [size_of_bare h, ok_of_bare h]
end Go.Proofs.YtkkbbpldeeajaaaDoor.Val
/- Plain: what follows for claims that may be, about one thing, and what they join to. -/
namespace Go.Proofs.YtkkbbpldeeajaaaDoor.Val
open Go.RowKit

theorem joinI_all {f : List Val → Bool} {l m : List (List Val)} : (joinI l m).all f = (l.all f && m.all f) := by
  rw [Bool.eq_iff_iff, Bool.and_eq_true, List.all_eq_true, List.all_eq_true, List.all_eq_true]
  exact ⟨fun h => ⟨fun x hx => h x (mem_joinI.2 (.inl hx)), fun x hx => h x (mem_joinI.2 (.inr hx))⟩, fun h x hx => (mem_joinI.1 hx).elim (h.1 x) (h.2 x)⟩
theorem joinI_any {f : List Val → Bool} {l m : List (List Val)} : (joinI l m).any f = (l.any f || m.any f) := by
  rw [Bool.eq_iff_iff, Bool.or_eq_true, List.any_eq_true, List.any_eq_true, List.any_eq_true]
  constructor
  · rintro ⟨x, hx, h⟩
    exact (mem_joinI.1 hx).elim (fun hx => .inl ⟨x, hx, h⟩) fun hx => .inr ⟨x, hx, h⟩
  · rintro (⟨x, hx, h⟩ | ⟨x, hx, h⟩)
    · exact ⟨x, mem_joinI.2 (.inl hx), h⟩
    · exact ⟨x, mem_joinI.2 (.inr hx), h⟩
theorem joins_fits' {a b : Int} (ha : rightM a = true) (hb : rightM b = true) (c : Int) : fitsM (joinM a b) c = (fitsM a c && fitsM b c) := by
  by_cases hc : rightM c = true
  · exact joins_fits ha hb hc
  · simp [fitsM, hc]
/-- What a claim that may be has. -/
theorem may_right {l : List (Value × List Bool)} {c : CP} (h : mayA l c = true) : rightM c.mode = true ∧ (c.kind = 1 ∨ c.kind = 2 ∨ c.kind = 3) := by
  unfold mayA at h
  split at h
  · cases h
  · cases hx : l[c.table.toNat]? with
    | none => rw [hx] at h; cases h
    | some x =>
      rw [hx] at h
      simp only [mayC, Bool.and_eq_true] at h
      obtain ⟨_, h⟩ := h
      split at h
      · rename_i hk
        simp only [Bool.and_eq_true] at h
        exact ⟨h.1, .inl hk⟩
      · split at h
        · rename_i hk
          simp only [Bool.and_eq_true] at h
          refine ⟨?_, .inr (.inl hk)⟩
          have h2 := h.2.2
          unfold suitsC at h2
          rw [right_iff]
          split at h2
          · omega
          · split at h2
            · omega
            · cases h2
        · split at h
          · rename_i hk
            simp only [Bool.and_eq_true, beq_iff_eq] at h
            exact ⟨by rw [right_iff]; omega, .inr (.inr hk)⟩
          · cases h
theorem same_parts {s : Bool} {a b : CP} (h : sameC s a b = true) : a.table = b.table ∧ a.kind = b.kind ∧ (a.kind = 2 → a.key = b.key) ∧ (a.kind = 3 → s = true) := by
  simp only [sameC, Bool.and_eq_true, beq_iff_eq, Bool.or_eq_true] at h
  obtain ⟨ht, hk, h⟩ := h
  refine ⟨ht, hk, fun h2 => ?_, fun h3 => ?_⟩
  · rcases h with (h | h) | h
    · omega
    · exact eqV_iff.1 h.2
    · omega
  · rcases h with (h | h) | h
    · omega
    · omega
    · exact h.2
/-- It covers both, and is about their thing. -/
theorem join_covers {l : List (Value × List Bool)} {s : Bool} {a b d : CP} (ha : mayA l a = true) (hb : mayA l b = true) (hs : sameC s a b = true) (hsb : s = true ↔ a.p.bare = b.p.bare) (h : JoinC s a b d) (s1 s2 : Bool) (h1 : s1 = true ↔ d.p.bare = a.p.bare) (h2 : s2 = true ↔ d.p.bare = b.p.bare) :
    coversC s1 d a = true ∧ coversC s2 d b = true ∧ sameC s1 d a = true := by
  obtain ⟨ra, ka⟩ := may_right ha
  obtain ⟨rb, kb⟩ := may_right hb
  obtain ⟨ht, hk, hkey, h3⟩ := same_parts hs
  have e1 : s1 = true := h1.2 h.p
  have e2 : a.kind = 3 → s2 = true := fun hk3 => h2.2 (h.p.trans (hsb.1 (h3 hk3)))
  have hm := h.mode
  have hr := h.rows
  rw [hs, if_pos rfl] at hm hr
  have q1 : sameC s1 d a = true := by
    rw [e1]
    simp only [sameC, h.table, h.kind, h.key, eqV_iff.2 rfl, beq_self_eq_true, Bool.true_and, Bool.and_true, Bool.or_eq_true, beq_iff_eq]
    omega
  have q2 : sameC s2 d b = true := by
    simp only [sameC, h.table, h.kind, h.key, ht, hk, beq_self_eq_true, Bool.true_and, Bool.and_eq_true, Bool.or_eq_true, beq_iff_eq]
    rcases kb with k | k | k
    · exact .inl (.inl k)
    · exact .inl (.inr ⟨k, by rw [eqV_iff]; exact hkey (hk.trans k)⟩)
    · exact .inr ⟨k, e2 (hk.trans k)⟩
  refine ⟨?_, ?_, q1⟩
  · simp only [coversC, q1, Bool.true_and, hm, hr, joins_left ra rb ra, List.all_eq_true]
    exact fun x hx => hasI_iff.2 (mem_joinI.2 (.inl hx))
  · simp only [coversC, q2, Bool.true_and, hm, hr, joins_right ra rb ra, List.all_eq_true]
    exact fun x hx => hasI_iff.2 (mem_joinI.2 (.inr hx))
theorem catch_join {s : Bool} {a b d : CP} (hs : sameC s a b = true) (h : JoinC s a b d) (ra : rightM a.mode = true) (rb : rightM b.mode = true) (ea : a.mode ≠ 6 → a.rows = []) (eb : b.mode ≠ 6 → b.rows = []) (p : PT) : catchC p d = (catchC p a || catchC p b) := by
  have hm := h.mode
  have hr := h.rows
  rw [hs, if_pos rfl] at hm hr
  have hj : (joinM a.mode b.mode == 6) = ((a.mode == 6 || b.mode == 6) || (joinM a.mode b.mode == 6)) := by
    have := all_right (p := fun a b _ => (joinM a b == 6) == ((a == 6 || b == 6) || (joinM a b == 6))) (by decide +kernel) ra rb ra
    exact eq_of_beq this
  have hx : (a.mode == 6 || b.mode == 6) = true → (joinM a.mode b.mode == 6) = true := fun hh => by rw [hj, hh]; rfl
  unfold catchC
  rw [hm, hr, joinI_any]
  by_cases h6 : a.mode = 6
  · have : (joinM a.mode b.mode == 6) = true := hx (by simp [h6])
    rw [this]
    by_cases k6 : b.mode = 6
    · simp [h6, k6]
    · simp [h6, eb k6]
  · by_cases k6 : b.mode = 6
    · have : (joinM a.mode b.mode == 6) = true := hx (by simp [k6])
      rw [this]
      simp [k6, ea h6]
    · simp [ea h6, eb k6]
theorem conflict_join {s : Bool} {a b c d : CP} (hs : sameC s a b = true) (hsb : s = true ↔ a.p.bare = b.p.bare) (h : JoinC s a b d) (ra : rightM a.mode = true) (rb : rightM b.mode = true) (ea : a.kind = 2 → a.mode ≠ 6 → a.rows = []) (eb : b.kind = 2 → b.mode ≠ 6 → b.rows = []) : conflictC d c = (conflictC a c || conflictC b c) := by
  obtain ⟨ht, hk, hkey, h3⟩ := same_parts hs
  have hm := h.mode
  rw [hs, if_pos rfl] at hm
  have hf : fitsM d.mode c.mode = (fitsM a.mode c.mode && fitsM b.mode c.mode) := by rw [hm]; exact joins_fits' ra rb _
  unfold conflictC
  rw [h.table, ← ht, h.kind, ← hk, hf, h.key]
  cases (a.table == c.table)
  · rfl
  rw [Bool.true_and, Bool.true_and, Bool.true_and]
  by_cases k1 : a.kind = 1 ∧ c.kind = 1
  · rw [if_pos k1, if_pos k1, if_pos k1]; cases fitsM a.mode c.mode <;> cases fitsM b.mode c.mode <;> rfl
  rw [if_neg k1, if_neg k1, if_neg k1]
  by_cases k2 : a.kind = 2 ∧ c.kind = 2
  · rw [if_pos k2, if_pos k2, if_pos k2, ← hkey k2.1]; cases eqV a.key c.key <;> cases fitsM a.mode c.mode <;> cases fitsM b.mode c.mode <;> rfl
  rw [if_neg k2, if_neg k2, if_neg k2]
  by_cases k3 : a.kind = 3 ∧ c.kind = 2
  · rw [if_pos k3, if_pos k3, if_pos k3]
    have e1 : catchC d.p c = catchC a.p c := by unfold catchC; simp only [holds_of_bare h.p]
    have e2 : catchC b.p c = catchC a.p c := by unfold catchC; simp only [holds_of_bare (hsb.1 (h3 k3.1)).symm]
    rw [e1, e2, Bool.or_self]
  rw [if_neg k3, if_neg k3, if_neg k3]
  by_cases k4 : a.kind = 2 ∧ c.kind = 3
  · rw [if_pos k4, if_pos k4, if_pos k4]
    exact catch_join hs h ra rb (ea k4.1) (eb (hk.symm.trans k4.1)) c.p
  rw [if_neg k4, if_neg k4, if_neg k4]
  rfl
theorem may_at {l : List (Value × List Bool)} {c : CP} (h : mayA l c = true) : 0 ≤ c.table ∧ ∃ x, l[c.table.toNat]? = some x ∧ mayC x.2 c = true := by
  unfold mayA at h
  split at h
  · cases h
  · cases hx : l[c.table.toNat]? with
    | none => rw [hx] at h; cases h
    | some x => rw [hx] at h; exact ⟨by omega, x, rfl, h⟩
theorem may_of {l : List (Value × List Bool)} {c : CP} {x : Value × List Bool} (h0 : 0 ≤ c.table) (hx : l[c.table.toNat]? = some x) (h : mayC x.2 c = true) : mayA l c = true := by
  unfold mayA
  rw [if_neg (by omega), hx]; exact h
theorem suits_modes {cols : List Bool} {c : CP} (h : suitsC cols c = true) : (c.mode = 3 ∨ c.mode = 5 ∨ c.mode = 6) ∧ (c.mode ≠ 6 → c.rows = []) ∧ (c.mode = 6 → c.rows.all (suitI cols c.key) = true) := by
  unfold suitsC at h
  split at h
  · refine ⟨by omega, fun _ => ?_, fun _ => by omega⟩
    unfold CP.rows; rw [List.isEmpty_iff.1 h]; rfl
  · split at h
    · exact ⟨by omega, fun h6 => by omega, fun _ => h⟩
    · cases h
theorem may_rows {l : List (Value × List Bool)} {c : CP} (h : mayA l c = true) (hk : c.kind = 2) (hm : c.mode ≠ 6) : c.rows = [] := by
  obtain ⟨_, x, _, h⟩ := may_at h
  rw [mayC, if_neg (by omega), if_pos hk] at h
  simp only [Bool.and_eq_true] at h
  exact (suits_modes h.2.2.2).2.1 hm
theorem all_of {f : List Val → Bool} {l : List (List Val)} (h : l = [] ∨ l.all f = true) : l.all f = true := by
  rcases h with rfl | h
  · rfl
  · exact h
/-- The join may be. -/
theorem join_may {l : List (Value × List Bool)} {s : Bool} {a b d : CP} (ha : mayA l a = true) (hb : mayA l b = true) (hs : sameC s a b = true) (h : JoinC s a b d) : mayA l d = true := by
  obtain ⟨h0, x, hx, ma⟩ := may_at ha
  obtain ⟨_, x', hx', mb⟩ := may_at hb
  obtain ⟨ht, hk, hkey, h3⟩ := same_parts hs
  rw [← ht, hx] at hx'
  obtain rfl := Option.some.inj hx'
  have hm := h.mode
  have hr := h.rows
  rw [hs, if_pos rfl] at hm hr
  refine may_of (by rw [h.table]; exact h0) (by rw [h.table]; exact hx) ?_
  simp only [mayC, Bool.and_eq_true] at ma mb
  obtain ⟨mt, ma⟩ := ma
  obtain ⟨_, mb⟩ := mb
  rw [← hk] at mb
  have e7 : ∀ k : Nat, k < 7 → ∀ j : Nat, j < 7 → ((k == 0 || j == 0) || (joinN k j != 0)) = true := by decide +kernel
  rw [mayC, mt, h.kind, Bool.true_and]
  by_cases k1 : a.kind = 1
  · rw [if_pos k1] at ma mb ⊢
    simp only [Bool.and_eq_true] at ma mb ⊢
    obtain ⟨i, hi, ei⟩ := mode_of ma.1
    obtain ⟨j, hj, ej⟩ := mode_of mb.1
    rw [hm, ei, ej, join_nat hi hj]
    have hlt : ∀ k : Nat, k < 7 → ∀ j : Nat, j < 7 → joinN k j < 7 := by decide +kernel
    refine ⟨right_nat (hlt i hi j hj), ?_⟩
    have := e7 i hi j hj
    have hi0 : i ≠ 0 := fun e => by rw [ei, e] at ma; simp at ma
    have hj0 : j ≠ 0 := fun e => by rw [ej, e] at mb; simp at mb
    simp [hi0, hj0] at this
    simp [this]
  rw [if_neg k1] at ma mb ⊢
  by_cases k2 : a.kind = 2
  · rw [if_pos k2] at ma mb ⊢
    simp only [Bool.and_eq_true] at ma mb ⊢
    rw [h.key]
    refine ⟨ma.1, ma.2.1, ?_⟩
    obtain ⟨a1, a2, a3⟩ := suits_modes ma.2.2
    obtain ⟨b1, b2, b3⟩ := suits_modes mb.2.2
    rw [← hkey k2] at b3
    have hall : (joinI a.rows b.rows).all (suitI x.2 a.key) = true := by
      rw [joinI_all, Bool.and_eq_true]
      exact ⟨all_of (by by_cases h6 : a.mode = 6; exact .inr (a3 h6); exact .inl (a2 h6)), all_of (by by_cases h6 : b.mode = 6; exact .inr (b3 h6); exact .inl (b2 h6))⟩
    have j33 : joinM 3 3 = 3 := by decide +kernel
    have j35 : joinM 3 5 = 5 := by decide +kernel
    have j36 : joinM 3 6 = 6 := by decide +kernel
    have j53 : joinM 5 3 = 5 := by decide +kernel
    have j55 : joinM 5 5 = 5 := by decide +kernel
    have j56 : joinM 5 6 = 6 := by decide +kernel
    have j63 : joinM 6 3 = 6 := by decide +kernel
    have j65 : joinM 6 5 = 6 := by decide +kernel
    have j66 : joinM 6 6 = 6 := by decide +kernel
    have hemp : a.mode ≠ 6 → b.mode ≠ 6 → d.ims.isEmpty = true := fun n1 n2 => by
      have : d.rows = [] := by rw [hr, a2 n1, b2 n2]; rfl
      unfold CP.rows at this
      rw [List.isEmpty_iff]
      exact List.map_eq_nil_iff.1 this
    have h6 : d.mode = 6 → suitsC x.2 d = true := fun e => by rw [suitsC, if_neg (by omega), if_pos e, hr, h.key]; exact hall
    rcases a1 with e | e | e <;> rcases b1 with f | f | f
    · rw [suitsC, if_pos (by rw [hm, e, f, j33]; exact .inl rfl)]; exact hemp (by omega) (by omega)
    · rw [suitsC, if_pos (by rw [hm, e, f, j35]; exact .inr rfl)]; exact hemp (by omega) (by omega)
    · exact h6 (by rw [hm, e, f, j36])
    · rw [suitsC, if_pos (by rw [hm, e, f, j53]; exact .inr rfl)]; exact hemp (by omega) (by omega)
    · rw [suitsC, if_pos (by rw [hm, e, f, j55]; exact .inr rfl)]; exact hemp (by omega) (by omega)
    · exact h6 (by rw [hm, e, f, j56])
    · exact h6 (by rw [hm, e, f, j63])
    · exact h6 (by rw [hm, e, f, j65])
    · exact h6 (by rw [hm, e, f, j66])
  rw [if_neg k2] at ma mb ⊢
  by_cases k3 : a.kind = 3
  · rw [if_pos k3] at ma mb ⊢
    simp only [Bool.and_eq_true, beq_iff_eq] at ma mb ⊢
    exact ⟨by rw [hm, ma.1, mb.1]; decide +kernel, by rw [mayP_bare h.p]; exact ma.2⟩
  · rw [if_neg k3] at ma; cases ma
end Go.Proofs.YtkkbbpldeeajaaaDoor.Val
