/- Plain: what spans say of values. No program. -/
import Derived.Test.YtfkhfplibhnceaaDoorNormPlain
namespace Go.Proofs.YtfkhfplibhnceaaDoor.Val
open Go Go.RowKit

theorem goesX (a b c : Val) : Goes (cmpX a b) (cmpX b c) (cmpX a c) := goesV _ _ _ _ _ _ _ _ _
theorem turnX (a b : Val) : cmpX b a = -cmpX a b := cmpV_turn _ _ _ _ _ _
theorem selfX (a : Val) : cmpX a a = 0 := cmpV_self _ _ _
/-- An end that there is not is the zero value. -/
def wfE (e : En) : Prop := e.has = true ∨ e = En.zero
theorem wf_low (s : Sp) : wfE (lowE s) := by unfold lowE; split; exact .inl rfl; exact .inr rfl
theorem wf_upp (s : Sp) : wfE (uppE s) := by unfold uppE; split; exact .inl rfl; exact .inr rfl
theorem wf_zero : wfE En.zero := .inr rfl
theorem isZ_has {e : En} (h : e.has = true) : isZ e = false := by cases e with | mk a b c => cases h; rfl
theorem isZ_zero : isZ En.zero = true := isZ_iff.2 rfl
theorem isZ_closed (v : Val) : isZ (closedE v) = false := isZ_has rfl
theorem wf_cases {e : En} (h : wfE e) : (isZ e = true ∧ e = En.zero) ∨ (isZ e = false ∧ e.has = true) := by
  rcases h with h | h
  · exact .inr ⟨isZ_has h, h⟩
  · exact .inl ⟨isZ_iff.2 h, h⟩
/-- Does a value lie on the right side of an end? -/
def loB (e : En) (v : Val) : Bool := !apartE e (closedE v)
def hiB (e : En) (v : Val) : Bool := !apartE (closedE v) e
theorem loB_eq (e : En) (v : Val) : loB e v = (isZ e || !sideB (cmpX e.x v) e.op) := by
  unfold loB apartE
  rw [isZ_closed]
  simp [closedE]
theorem hiB_eq (e : En) (v : Val) : hiB e v = (isZ e || !sideB (cmpX v e.x) e.op) := by
  unfold hiB apartE
  rw [isZ_closed]
  simp [closedE]
theorem loB_zero (v : Val) : loB En.zero v = true := by rw [loB_eq, isZ_zero]; rfl
theorem hiB_zero (v : Val) : hiB En.zero v = true := by rw [hiB_eq, isZ_zero]; rfl
theorem within_eq (s : Sp) (v : Val) : withinS s v = (!s.no && (loB (lowE s) v && hiB (uppE s) v)) := rfl
theorem side_iff (c : Int) (o : Bool) : sideB c o = true ↔ 0 < c ∨ (c = 0 ∧ o = true) := by simp [sideB]
theorem nside_iff (c : Int) (o : Bool) : sideB c o = false ↔ c < 0 ∨ (c = 0 ∧ o = false) := by
  have := side_iff c o
  cases h : sideB c o
  · simp only [h, Bool.false_eq_true, false_iff] at this
    simp only [true_iff]
    cases o <;> simp_all <;> omega
  · simp only [h, true_iff] at this
    simp only [Bool.true_eq_false, false_iff]
    cases o <;> simp_all <;> omega
theorem apart_none {lo hi : En} {v : Val} (h : apartE lo hi = true) (h1 : loB lo v = true) (h2 : hiB hi v = true) : False := by
  unfold apartE at h
  rw [Bool.and_eq_true, Bool.not_eq_true', Bool.or_eq_false_iff] at h
  obtain ⟨⟨z1, z2⟩, hs⟩ := h
  rw [loB_eq, z1, Bool.false_or, Bool.not_eq_true', nside_iff] at h1
  rw [hiB_eq, z2, Bool.false_or, Bool.not_eq_true', nside_iff] at h2
  rw [side_iff] at hs
  obtain ⟨g1, g2, g3, g4, g5, g6, g7, g8, g9, g10⟩ := goesX lo.x v hi.x
  generalize cmpX lo.x v = a at *
  generalize cmpX v hi.x = b at *
  generalize cmpX lo.x hi.x = c at *
  have hc : c ≤ 0 := g7 (by omega) (by omega)
  have hc0 : ¬ (a < 0 ∨ b < 0) := fun h => by have := g9 (by omega) (by omega) h; omega
  rcases hs with hs | ⟨_, hs⟩
  · omega
  · rcases h1 with h1 | ⟨_, h1⟩
    · omega
    · rcases h2 with h2 | ⟨_, h2⟩
      · omega
      · rw [h1, h2] at hs; cases hs
theorem low_btw {lo hi : En} (h : wfE lo) : lowE ⟨false, lo.has, lo.op, lo.x, hi.has, hi.op, hi.x⟩ = lo := by
  rcases h with h | rfl
  · unfold lowE; simp only [h, if_true]; cases lo; simp_all
  · rfl
theorem upp_btw {lo hi : En} (h : wfE hi) : uppE ⟨false, lo.has, lo.op, lo.x, hi.has, hi.op, hi.x⟩ = hi := by
  rcases h with h | rfl
  · unfold uppE; simp only [h, if_true]; cases hi; simp_all
  · rfl
theorem within_btw {lo hi : En} (hl : wfE lo) (hh : wfE hi) (v : Val) : withinS (btw lo hi) v = (loB lo v && hiB hi v) := by
  unfold btw
  cases h : apartE lo hi
  · rw [if_neg (by simp), within_eq, low_btw hl, upp_btw hh]; rfl
  · rw [if_pos rfl]
    cases h1 : loB lo v
    · rfl
    · cases h2 : hiB hi v
      · rfl
      · exact (apart_none h h1 h2).elim
theorem within_clean (s : Sp) (v : Val) : withinS (cleanS s) v = withinS s v := by
  unfold cleanS
  cases h : s.no
  · rw [if_neg (by simp), within_btw (wf_low s) (wf_upp s), within_eq, h]; rfl
  · rw [if_pos rfl, within_eq s, h]; rfl
theorem has_chosen {a b : En} {side : Int} {o : Bool} (ha : a.has = true) (hb : b.has = true) : (chosenE a b side o).has = true := by
  unfold chosenE
  split
  · exact ha
  · split
    · exact hb
    · exact ha
theorem wf_inner {a b : En} {side : Int} (ha : wfE a) (hb : wfE b) : wfE (innerE a b side) := by
  unfold innerE
  rcases wf_cases ha with ⟨z, _⟩ | ⟨z, ha'⟩
  · rw [if_pos z]; exact hb
  · rw [if_neg (by simp [z])]
    rcases wf_cases hb with ⟨z', _⟩ | ⟨z', hb'⟩
    · rw [if_pos z']; exact ha
    · rw [if_neg (by simp [z'])]; exact .inl (has_chosen ha' hb')
theorem wf_outer {a b : En} {side : Int} (ha : wfE a) (hb : wfE b) : wfE (outerE a b side) := by
  unfold outerE
  rcases wf_cases ha with ⟨z, _⟩ | ⟨z, ha'⟩
  · rw [if_pos (by simp [z])]; exact wf_zero
  · rcases wf_cases hb with ⟨z', _⟩ | ⟨z', hb'⟩
    · rw [if_pos (by simp [z'])]; exact wf_zero
    · rw [if_neg (by simp [z, z'])]; exact .inl (has_chosen ha' hb')
/-- Of two ends, the one that is chosen. -/
theorem chosen_cases (a b : En) (side : Int) (o : Bool) (hs : side = 1 ∨ side = -1) :
    (cmpX a.x b.x = side ∧ chosenE a b side o = a) ∨ (cmpX a.x b.x = -side ∧ chosenE a b side o = b) ∨ (cmpX a.x b.x = 0 ∧ chosenE a b side o = ⟨a.has, o, a.x⟩) := by
  unfold chosenE
  by_cases h1 : cmpX a.x b.x = side
  · exact .inl ⟨h1, if_pos h1⟩
  · by_cases h2 : cmpX a.x b.x = -side
    · exact .inr (.inl ⟨h2, by rw [if_neg h1, if_pos h2]⟩)
    · refine .inr (.inr ⟨?_, by rw [if_neg h1, if_neg h2]⟩)
      have g1 := (goesX a.x b.x b.x).lo
      have g2 := (goesX a.x b.x b.x).hi
      omega
/-- How three stand. -/
theorem three (a b v : Val) (x y z : Int) (hx : cmpX a b = x) (hy : cmpX a v = y) (hz : cmpX b v = z) : (-1 ≤ x ∧ x ≤ 1 ∧ -1 ≤ y ∧ y ≤ 1 ∧ -1 ≤ z ∧ z ≤ 1) ∧ (x = 0 → y = z) ∧ (x ≤ 0 → z ≤ 0 → y ≤ 0) ∧ (x < 0 → z ≤ 0 → y < 0) ∧ (x ≤ 0 → z < 0 → y < 0) ∧ (0 ≤ x → y ≤ 0 → z ≤ 0) ∧ (0 < x → y ≤ 0 → z < 0) ∧ (0 ≤ x → y < 0 → z < 0) := by
  have t := turnX a b
  obtain ⟨g1, g2, g3, g4, g5, g6, g7, g8, g9, g10⟩ := goesX a b v
  obtain ⟨k1, k2, k3, k4, k5, k6, k7, k8, k9, k10⟩ := goesX b a v
  rw [hx] at *
  rw [hy] at *
  rw [hz] at *
  rw [t] at *
  refine ⟨⟨g1, g2, g5, g6, g3, g4⟩, fun h => ?_, g7, fun h1 h2 => g9 (by omega) h2 (.inl h1), fun h1 h2 => g9 h1 (by omega) (.inr h2), fun h1 h2 => k7 (by omega) h2, fun h1 h2 => k9 (by omega) h2 (.inl (by omega)), fun h1 h2 => k9 (by omega) (by omega) (.inr h2)⟩
  subst h
  have e1 : z = 0 → y = 0 := g8 rfl
  have e2 : y = 0 → z = 0 := k8 (by omega)
  have e3 : z < 0 → y < 0 := fun h => g9 (by omega) (by omega) (.inr h)
  have e4 : y < 0 → z < 0 := fun h => k9 (by omega) (by omega) (.inr h)
  omega
theorem or_not (z p q : Bool) : (z || !p) = q ↔ (z = true ∧ q = true) ∨ (z = false ∧ p = !q) := by cases z <;> cases p <;> cases q <;> decide
theorem lo_inner {a b : En} (ha : wfE a) (hb : wfE b) (v : Val) : loB (innerE a b 1) v = (loB a v && loB b v) := by
  unfold innerE
  rcases wf_cases ha with ⟨z, rfl⟩ | ⟨z, ha'⟩
  · rw [if_pos z, loB_zero]; simp
  rcases wf_cases hb with ⟨z', rfl⟩ | ⟨z', hb'⟩
  · rw [if_neg (by simp [z]), if_pos z', loB_zero]; simp
  rw [if_neg (by simp [z]), if_neg (by simp [z'])]
  obtain ⟨⟨k1, k2, k3, k4, k5, k6⟩, h0, h1, h2, h3, h4, h5, h6⟩ := three a.x b.x v _ _ _ rfl rfl rfl
  have la := loB_eq a v
  have lb := loB_eq b v
  rw [z, Bool.false_or] at la
  rw [z', Bool.false_or] at lb
  rcases chosen_cases a b 1 (a.op || b.op) (.inl rfl) with ⟨hc, e⟩ | ⟨hc, e⟩ | ⟨hc, e⟩
  · rw [e]
    cases q : loB a v
    · rfl
    · rw [q] at la
      have la' := (nside_iff _ _).1 (by simpa using la.symm)
      have : sideB (cmpX b.x v) b.op = false := (nside_iff _ _).2 (.inl (h5 (by omega) (by omega)))
      rw [lb, this]; rfl
  · rw [e]
    cases q : loB b v
    · simp
    · rw [q] at lb
      have lb' := (nside_iff _ _).1 (by simpa using lb.symm)
      have : sideB (cmpX a.x v) a.op = false := (nside_iff _ _).2 (.inl (h2 (by omega) (by omega)))
      rw [la, this]; rfl
  · rw [e, la, lb, loB_eq, isZ_has (show (En.mk a.has (a.op || b.op) a.x).has = true from ha'), ← h0 hc]
    generalize cmpX a.x v = y
    cases a.op <;> cases b.op <;> simp [sideB] <;> intros <;> omega
theorem hi_inner {a b : En} (ha : wfE a) (hb : wfE b) (v : Val) : hiB (innerE a b (-1)) v = (hiB a v && hiB b v) := by
  unfold innerE
  rcases wf_cases ha with ⟨z, rfl⟩ | ⟨z, ha'⟩
  · rw [if_pos z, hiB_zero]; simp
  rcases wf_cases hb with ⟨z', rfl⟩ | ⟨z', hb'⟩
  · rw [if_neg (by simp [z]), if_pos z', hiB_zero]; simp
  rw [if_neg (by simp [z]), if_neg (by simp [z'])]
  obtain ⟨⟨k1, k2, k3, k4, k5, k6⟩, h0, h1, h2, h3, h4, h5, h6⟩ := three a.x b.x v _ _ _ rfl rfl rfl
  have la := hiB_eq a v
  have lb := hiB_eq b v
  have ta := turnX a.x v
  have tb := turnX b.x v
  rw [z, Bool.false_or] at la
  rw [z', Bool.false_or] at lb
  rcases chosen_cases a b (-1) (a.op || b.op) (.inr rfl) with ⟨hc, e⟩ | ⟨hc, e⟩ | ⟨hc, e⟩
  · rw [e]
    cases q : hiB a v
    · rfl
    · rw [q] at la
      have la' := (nside_iff _ _).1 (by simpa using la.symm)
      have : sideB (cmpX v b.x) b.op = false := (nside_iff _ _).2 (.inl (by omega))
      rw [lb, this]; rfl
  · rw [e]
    cases q : hiB b v
    · simp
    · rw [q] at lb
      have lb' := (nside_iff _ _).1 (by simpa using lb.symm)
      have : sideB (cmpX v a.x) a.op = false := (nside_iff _ _).2 (.inl (by omega))
      rw [la, this]; rfl
  · rw [e, la, lb, hiB_eq, isZ_has (show (En.mk a.has (a.op || b.op) a.x).has = true from ha'), tb, ta, ← h0 hc]
    generalize -cmpX a.x v = y
    cases a.op <;> cases b.op <;> simp [sideB] <;> intros <;> omega
theorem lo_outer {a b : En} (ha : wfE a) (hb : wfE b) (v : Val) : loB (outerE a b (-1)) v = (loB a v || loB b v) := by
  unfold outerE
  rcases wf_cases ha with ⟨z, rfl⟩ | ⟨z, ha'⟩
  · rw [if_pos (by simp [z]), loB_zero]; simp
  rcases wf_cases hb with ⟨z', rfl⟩ | ⟨z', hb'⟩
  · rw [if_pos (by simp [z']), loB_zero]; simp
  rw [if_neg (by simp [z, z'])]
  obtain ⟨⟨k1, k2, k3, k4, k5, k6⟩, h0, h1, h2, h3, h4, h5, h6⟩ := three a.x b.x v _ _ _ rfl rfl rfl
  have la := loB_eq a v
  have lb := loB_eq b v
  rw [z, Bool.false_or] at la
  rw [z', Bool.false_or] at lb
  rcases chosen_cases a b (-1) (a.op && b.op) (.inr rfl) with ⟨hc, e⟩ | ⟨hc, e⟩ | ⟨hc, e⟩
  · rw [e]
    cases q : loB b v
    · simp
    · rw [q] at lb
      have lb' := (nside_iff _ _).1 (by simpa using lb.symm)
      have : sideB (cmpX a.x v) a.op = false := (nside_iff _ _).2 (.inl (h2 (by omega) (by omega)))
      rw [la, this]; rfl
  · rw [e]
    cases q : loB a v
    · rfl
    · rw [q] at la
      have la' := (nside_iff _ _).1 (by simpa using la.symm)
      have : sideB (cmpX b.x v) b.op = false := (nside_iff _ _).2 (.inl (h5 (by omega) (by omega)))
      rw [lb, this]; rfl
  · rw [e, la, lb, loB_eq, isZ_has (show (En.mk a.has (a.op && b.op) a.x).has = true from ha'), ← h0 hc]
    generalize cmpX a.x v = y
    cases a.op <;> cases b.op <;> simp [sideB] <;> intros <;> omega
theorem hi_outer {a b : En} (ha : wfE a) (hb : wfE b) (v : Val) : hiB (outerE a b 1) v = (hiB a v || hiB b v) := by
  unfold outerE
  rcases wf_cases ha with ⟨z, rfl⟩ | ⟨z, ha'⟩
  · rw [if_pos (by simp [z]), hiB_zero]; simp
  rcases wf_cases hb with ⟨z', rfl⟩ | ⟨z', hb'⟩
  · rw [if_pos (by simp [z']), hiB_zero]; simp
  rw [if_neg (by simp [z, z'])]
  obtain ⟨⟨k1, k2, k3, k4, k5, k6⟩, h0, h1, h2, h3, h4, h5, h6⟩ := three a.x b.x v _ _ _ rfl rfl rfl
  have la := hiB_eq a v
  have lb := hiB_eq b v
  have ta := turnX a.x v
  have tb := turnX b.x v
  rw [z, Bool.false_or] at la
  rw [z', Bool.false_or] at lb
  rcases chosen_cases a b 1 (a.op && b.op) (.inl rfl) with ⟨hc, e⟩ | ⟨hc, e⟩ | ⟨hc, e⟩
  · rw [e]
    cases q : hiB b v
    · simp
    · rw [q] at lb
      have lb' := (nside_iff _ _).1 (by simpa using lb.symm)
      have : sideB (cmpX v a.x) a.op = false := (nside_iff _ _).2 (.inl (by omega))
      rw [la, this]; rfl
  · rw [e]
    cases q : hiB a v
    · rfl
    · rw [q] at la
      have la' := (nside_iff _ _).1 (by simpa using la.symm)
      have : sideB (cmpX v b.x) b.op = false := (nside_iff _ _).2 (.inl (by omega))
      rw [lb, this]; rfl
  · rw [e, la, lb, hiB_eq, isZ_has (show (En.mk a.has (a.op && b.op) a.x).has = true from ha'), tb, ta, ← h0 hc]
    generalize -cmpX a.x v = y
    cases a.op <;> cases b.op <;> simp [sideB] <;> intros <;> omega
/-- A clean span: nothing, or its ends. -/
theorem clean_cases (s : Sp) : cleanS s = Sp.none ∨ ((cleanS s).no = false ∧ apartE (lowE s) (uppE s) = false ∧ lowE (cleanS s) = lowE s ∧ uppE (cleanS s) = uppE s ∧ btw (lowE s) (uppE s) = cleanS s) := by
  unfold cleanS
  cases h : s.no
  · rw [if_neg (by simp)]
    cases h1 : apartE (lowE s) (uppE s)
    · have e : btw (lowE s) (uppE s) = ⟨false, (lowE s).has, (lowE s).op, (lowE s).x, (uppE s).has, (uppE s).op, (uppE s).x⟩ := by unfold btw; rw [h1]; rfl
      exact .inr ⟨by rw [e], rfl, by rw [e, low_btw (wf_low s)], by rw [e, upp_btw (wf_upp s)], rfl⟩
    · left; unfold btw; rw [h1]; rfl
  · left; rfl
theorem within_none (v : Val) : withinS Sp.none v = false := rfl
theorem within_meet (a b : Sp) (v : Val) : withinS (meetS a b) v = (withinS a v && withinS b v) := by
  rw [← within_clean a, ← within_clean b]
  unfold meetS meetC
  rcases clean_cases a with ha | ⟨na, _, ha, ha', _⟩
  · rw [ha]; rfl
  rcases clean_cases b with hb | ⟨nb, _, hb, hb', _⟩
  · rw [hb, if_pos (by simp [Sp.none])]; simp [within_none]
  rw [if_neg (by simp [na, nb]), within_btw (wf_inner (wf_low _) (wf_low _)) (wf_inner (wf_upp _) (wf_upp _)), lo_inner (wf_low _) (wf_low _), hi_inner (wf_upp _) (wf_upp _), within_eq, within_eq, na, nb]
  cases loB (lowE (cleanS a)) v <;> cases loB (lowE (cleanS b)) v <;> cases hiB (uppE (cleanS a)) v <;> cases hiB (uppE (cleanS b)) v <;> rfl
def hullB (a b : Sp) (v : Val) : Bool :=
  if (cleanS a).no then withinS b v else if (cleanS b).no then withinS a v else (loB (lowE (cleanS a)) v || loB (lowE (cleanS b)) v) && (hiB (uppE (cleanS a)) v || hiB (uppE (cleanS b)) v)
theorem within_hull (a b : Sp) (v : Val) : withinS (hullS a b) v = hullB a b v := by
  unfold hullS hullC hullB
  cases na : (cleanS a).no
  · cases nb : (cleanS b).no
    · simp only [Bool.false_eq_true, if_false]
      rw [within_btw (wf_outer (wf_low _) (wf_low _)) (wf_outer (wf_upp _) (wf_upp _)), lo_outer (wf_low _) (wf_low _), hi_outer (wf_upp _) (wf_upp _)]
    · simp only [Bool.false_eq_true, if_false, if_true, within_clean]
  · simp only [if_true, within_clean]
theorem no_within {s : Sp} {v : Val} (h : (cleanS s).no = true) : withinS s v = false := by rw [← within_clean, within_eq, h]; rfl
theorem hull_turn (a b : Sp) (v : Val) : hullB a b v = hullB b a v := by
  unfold hullB
  cases na : (cleanS a).no
  · cases nb : (cleanS b).no
    · simp only [Bool.false_eq_true, if_false]
      cases loB (lowE (cleanS a)) v <;> cases loB (lowE (cleanS b)) v <;> cases hiB (uppE (cleanS a)) v <;> cases hiB (uppE (cleanS b)) v <;> rfl
    · simp
  · cases nb : (cleanS b).no
    · simp
    · simp [no_within na, no_within nb]
theorem hull_has (a b : Sp) (v : Val) (h : (withinS a v || withinS b v) = true) : withinS (hullS a b) v = true := by
  rw [within_hull]
  unfold hullB
  cases na : (cleanS a).no
  · cases nb : (cleanS b).no
    · simp only [Bool.false_eq_true, if_false]
      rw [← within_clean a, ← within_clean b, within_eq, within_eq, na, nb] at h
      revert h
      cases loB (lowE (cleanS a)) v <;> cases loB (lowE (cleanS b)) v <;> cases hiB (uppE (cleanS a)) v <;> cases hiB (uppE (cleanS b)) v <;> simp
    · rw [no_within nb] at h; simpa using h
  · rw [no_within na] at h; simpa using h
theorem btw_no {lo hi : En} (h : (btw lo hi).no = true) : btw lo hi = Sp.none := by
  unfold btw at *
  cases h1 : apartE lo hi
  · rw [h1] at h; simp at h
  · rfl
theorem meet_no {a b : Sp} (h : (meetS a b).no = true) : meetS a b = Sp.none := by
  unfold meetS meetC at *
  cases h1 : ((cleanS a).no || (cleanS b).no)
  · rw [h1] at h; simp only [Bool.false_eq_true, if_false] at h ⊢; exact btw_no h
  · rfl
theorem cmp_self_chosen (a : En) (side : Int) (hs : side = 1 ∨ side = -1) (o : Bool) (h : o = a.op) : chosenE a a side o = a := by
  unfold chosenE
  rw [selfX, if_neg (by omega), if_neg (by omega), h]
theorem inner_self (a : En) (side : Int) (hs : side = 1 ∨ side = -1) : innerE a a side = a := by
  unfold innerE
  cases isZ a
  · simp only [Bool.false_eq_true, if_false]; exact cmp_self_chosen a side hs _ (by simp)
  · simp
theorem outer_self (a : En) (side : Int) (hs : side = 1 ∨ side = -1) : outerE a a side = a := by
  unfold outerE
  cases h : isZ a
  · simp only [Bool.or_self, Bool.false_eq_true, if_false]; exact cmp_self_chosen a side hs _ (by simp)
  · simp; exact (isZ_iff.1 h).symm
theorem clean_clean (s : Sp) : cleanS (cleanS s) = cleanS s := by
  rcases clean_cases s with h | ⟨n, ap, h1, h2, h3⟩
  · rw [h]; rfl
  · rw [cleanS, n, if_neg (by simp), h1, h2, h3]
theorem meet_self (s : Sp) : meetS s s = cleanS s := by
  unfold meetS meetC
  rw [inner_self _ 1 (.inl rfl), inner_self _ (-1) (.inr rfl)]
  rcases clean_cases s with h | ⟨n, ap, h1, h2, h3⟩
  · rw [h]; rfl
  · rw [n]; simp only [Bool.or_self, Bool.false_eq_true, if_false]; rw [h1, h2, h3]
theorem hull_self (s : Sp) : hullS s s = cleanS s := by
  unfold hullS hullC
  rw [outer_self _ (-1) (.inr rfl), outer_self _ 1 (.inl rfl)]
  rcases clean_cases s with h | ⟨n, ap, h1, h2, h3⟩
  · rw [h]; rfl
  · rw [n]; simp only [Bool.false_eq_true, if_false]; rw [h1, h2, h3]
theorem clean_none : cleanS Sp.none = Sp.none := rfl
theorem clean_all : cleanS Sp.all = Sp.all := by
  have : apartE En.zero En.zero = false := by unfold apartE; rw [isZ_zero]; rfl
  show (if Sp.all.no then Sp.none else btw En.zero En.zero) = Sp.all
  unfold btw
  rw [this]; rfl
theorem meet_none (s : Sp) : meetS s Sp.none = Sp.none := by unfold meetS meetC; rw [clean_none]; simp [Sp.none]
theorem hull_none (s : Sp) : hullS Sp.none s = cleanS s := rfl
theorem meet_all (s : Sp) : meetS Sp.all s = cleanS s := by
  unfold meetS meetC
  rw [clean_all]
  rcases clean_cases s with h | ⟨n, ap, h1, h2, h3⟩
  · rw [h]; rfl
  · rw [n, if_neg (by simp [Sp.all])]
    have e1 : lowE Sp.all = En.zero := rfl
    have e2 : uppE Sp.all = En.zero := rfl
    have e3 : ∀ b side, innerE En.zero b side = b := fun b side => by unfold innerE; rw [if_pos isZ_zero]
    rw [e1, e2, e3, e3, h1, h2, h3]
theorem hull_all (s : Sp) : hullS s Sp.all = Sp.all := by
  unfold hullS hullC
  rw [clean_all]
  rcases clean_cases s with h | ⟨n, ap, h1, h2, h3⟩
  · rw [h]; rfl
  · have e1 : lowE Sp.all = En.zero := rfl
    have e2 : uppE Sp.all = En.zero := rfl
    have e3 : ∀ a side, outerE a En.zero side = En.zero := fun a side => by unfold outerE; rw [if_pos (by simp [isZ_zero])]
    have e4 : btw En.zero En.zero = Sp.all := by have := clean_all; exact this
    rw [n, e1, e2, e3, e3, e4]
    rfl
theorem within_all (v : Val) : withinS Sp.all v = true := by
  rw [within_eq]
  show (!false && (loB En.zero v && hiB En.zero v)) = true
  rw [loB_zero, hiB_zero]; rfl
end Go.Proofs.YtfkhfplibhnceaaDoor.Val
