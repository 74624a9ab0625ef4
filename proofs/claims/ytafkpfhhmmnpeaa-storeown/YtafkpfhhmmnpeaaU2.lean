/- Plain: what spans say of values. No program. -/
import Derived.Test.YtafkpfhhmmnpeaaU1
import Derived.Deep.RegionHeld3
import Derived.Laws.CopyOwn
import Derived.Deep.RegionLaw
import Derived.Deep.QuietTactic
namespace Go.Proofs.Ytafkpfhhmmnpeaa.Val
open Go Go.RowKit

theorem goesX (a b c : Val) : Goes (cmpX a b) (cmpX b c) (cmpX a c) := goesV _ _ _ _ _ _ _ _ _
theorem turnX (a b : Val) : cmpX b a = -cmpX a b := cmpV_turn _ _ _ _ _ _
theorem selfX (a : Val) : cmpX a a = 0 := cmpV_self _ _ _
/-- An end that there is not is the zero value. -/
def wfE (e : En) : Prop := e.has = true ∨ e = En.zero
theorem wf_low (s : Sp) : wfE (lowE s) := by unfold lowE; split; exact .inl rfl; exact .inr rfl
theorem wf_upp (s : Sp) : wfE (uppE s) := by unfold uppE; split; exact .inl rfl; exact .inr rfl
theorem wf_zero : wfE En.zero := .inr rfl
theorem isZ_has {e : En} (h : e.has = true) : isZ e = false := by cases e with | mk a b c => cases h; rfl
theorem isZ_zero : isZ En.zero = true := isZ_iff.2 rfl
theorem isZ_closed (v : Val) : isZ (closedE v) = false := isZ_has rfl
theorem wf_cases {e : En} (h : wfE e) : (isZ e = true ∧ e = En.zero) ∨ (isZ e = false ∧ e.has = true) := by
  rcases h with h | h
  · exact .inr ⟨isZ_has h, h⟩
  · exact .inl ⟨isZ_iff.2 h, h⟩
/-- Does a value lie on the right side of an end? -/
def loB (e : En) (v : Val) : Bool := !apartE e (closedE v)
def hiB (e : En) (v : Val) : Bool := !apartE (closedE v) e
theorem loB_eq (e : En) (v : Val) : loB e v = (isZ e || !sideB (cmpX e.x v) e.op) := by
  unfold loB apartE
  rw [isZ_closed]
  simp [closedE]
theorem hiB_eq (e : En) (v : Val) : hiB e v = (isZ e || !sideB (cmpX v e.x) e.op) := by
  unfold hiB apartE
  rw [isZ_closed]
  simp [closedE]
theorem loB_zero (v : Val) : loB En.zero v = true := by rw [loB_eq, isZ_zero]; rfl
theorem hiB_zero (v : Val) : hiB En.zero v = true := by rw [hiB_eq, isZ_zero]; rfl
theorem within_eq (s : Sp) (v : Val) : withinS s v = (!s.no && (loB (lowE s) v && hiB (uppE s) v)) := rfl
theorem side_iff (c : Int) (o : Bool) : sideB c o = true ↔ 0 < c ∨ (c = 0 ∧ o = true) := by simp [sideB]
theorem nside_iff (c : Int) (o : Bool) : sideB c o = false ↔ c < 0 ∨ (c = 0 ∧ o = false) := by
  have := side_iff c o
  cases h : sideB c o
  · simp only [h, Bool.false_eq_true, false_iff] at this
    simp only [true_iff]
    cases o <;> simp_all <;> omega
  · simp only [h, true_iff] at this
    simp only [Bool.true_eq_false, false_iff]
    cases o <;> simp_all <;> omega
theorem apart_none {lo hi : En} {v : Val} (h : apartE lo hi = true) (h1 : loB lo v = true) (h2 : hiB hi v = true) : False := by
  unfold apartE at h
  rw [Bool.and_eq_true, Bool.not_eq_true', Bool.or_eq_false_iff] at h
  obtain ⟨⟨z1, z2⟩, hs⟩ := h
  rw [loB_eq, z1, Bool.false_or, Bool.not_eq_true', nside_iff] at h1
  rw [hiB_eq, z2, Bool.false_or, Bool.not_eq_true', nside_iff] at h2
  rw [side_iff] at hs
  obtain ⟨g1, g2, g3, g4, g5, g6, g7, g8, g9, g10⟩ := goesX lo.x v hi.x
  generalize cmpX lo.x v = a at *
  generalize cmpX v hi.x = b at *
  generalize cmpX lo.x hi.x = c at *
  have hc : c ≤ 0 := g7 (by omega) (by omega)
  have hc0 : ¬ (a < 0 ∨ b < 0) := fun h => by have := g9 (by omega) (by omega) h; omega
  rcases hs with hs | ⟨_, hs⟩
  · omega
  · rcases h1 with h1 | ⟨_, h1⟩
    · omega
    · rcases h2 with h2 | ⟨_, h2⟩
      · omega
      · rw [h1, h2] at hs; cases hs
theorem low_btw {lo hi : En} (h : wfE lo) : lowE ⟨false, lo.has, lo.op, lo.x, hi.has, hi.op, hi.x⟩ = lo := by
  rcases h with h | rfl
  · unfold lowE; simp only [h, if_true]; cases lo; simp_all
  · rfl
theorem upp_btw {lo hi : En} (h : wfE hi) : uppE ⟨false, lo.has, lo.op, lo.x, hi.has, hi.op, hi.x⟩ = hi := by
  rcases h with h | rfl
  · unfold uppE; simp only [h, if_true]; cases hi; simp_all
  · rfl
theorem within_btw {lo hi : En} (hl : wfE lo) (hh : wfE hi) (v : Val) : withinS (btw lo hi) v = (loB lo v && hiB hi v) := by
  unfold btw
  cases h : apartE lo hi
  · rw [if_neg (by simp), within_eq, low_btw hl, upp_btw hh]; rfl
  · rw [if_pos rfl]
    cases h1 : loB lo v
    · rfl
    · cases h2 : hiB hi v
      · rfl
      · exact (apart_none h h1 h2).elim
theorem within_clean (s : Sp) (v : Val) : withinS (cleanS s) v = withinS s v := by
  unfold cleanS
  cases h : s.no
  · rw [if_neg (by simp), within_btw (wf_low s) (wf_upp s), within_eq, h]; rfl
  · rw [if_pos rfl, within_eq s, h]; rfl
theorem has_chosen {a b : En} {side : Int} {o : Bool} (ha : a.has = true) (hb : b.has = true) : (chosenE a b side o).has = true := by
  unfold chosenE
  split
  · exact ha
  · split
    · exact hb
    · exact ha
theorem wf_inner {a b : En} {side : Int} (ha : wfE a) (hb : wfE b) : wfE (innerE a b side) := by
  unfold innerE
  rcases wf_cases ha with ⟨z, _⟩ | ⟨z, ha'⟩
  · rw [if_pos z]; exact hb
  · rw [if_neg (by simp [z])]
    rcases wf_cases hb with ⟨z', _⟩ | ⟨z', hb'⟩
    · rw [if_pos z']; exact ha
    · rw [if_neg (by simp [z'])]; exact .inl (has_chosen ha' hb')
theorem wf_outer {a b : En} {side : Int} (ha : wfE a) (hb : wfE b) : wfE (outerE a b side) := by
  unfold outerE
  rcases wf_cases ha with ⟨z, _⟩ | ⟨z, ha'⟩
  · rw [if_pos (by simp [z])]; exact wf_zero
  · rcases wf_cases hb with ⟨z', _⟩ | ⟨z', hb'⟩
    · rw [if_pos (by simp [z'])]; exact wf_zero
    · rw [if_neg (by simp [z, z'])]; exact .inl (has_chosen ha' hb')
/-- Of two ends, the one that is chosen. -/
theorem chosen_cases (a b : En) (side : Int) (o : Bool) (hs : side = 1 ∨ side = -1) :
    (cmpX a.x b.x = side ∧ chosenE a b side o = a) ∨ (cmpX a.x b.x = -side ∧ chosenE a b side o = b) ∨ (cmpX a.x b.x = 0 ∧ chosenE a b side o = ⟨a.has, o, a.x⟩) := by
  unfold chosenE
  by_cases h1 : cmpX a.x b.x = side
  · exact .inl ⟨h1, if_pos h1⟩
  · by_cases h2 : cmpX a.x b.x = -side
    · exact .inr (.inl ⟨h2, by rw [if_neg h1, if_pos h2]⟩)
    · refine .inr (.inr ⟨?_, by rw [if_neg h1, if_neg h2]⟩)
      have g1 := (goesX a.x b.x b.x).lo
      have g2 := (goesX a.x b.x b.x).hi
      omega
/-- How three stand. -/
theorem three (a b v : Val) (x y z : Int) (hx : cmpX a b = x) (hy : cmpX a v = y) (hz : cmpX b v = z) : (-1 ≤ x ∧ x ≤ 1 ∧ -1 ≤ y ∧ y ≤ 1 ∧ -1 ≤ z ∧ z ≤ 1) ∧ (x = 0 → y = z) ∧ (x ≤ 0 → z ≤ 0 → y ≤ 0) ∧ (x < 0 → z ≤ 0 → y < 0) ∧ (x ≤ 0 → z < 0 → y < 0) ∧ (0 ≤ x → y ≤ 0 → z ≤ 0) ∧ (0 < x → y ≤ 0 → z < 0) ∧ (0 ≤ x → y < 0 → z < 0) := by
  have t := turnX a b
  obtain ⟨g1, g2, g3, g4, g5, g6, g7, g8, g9, g10⟩ := goesX a b v
  obtain ⟨k1, k2, k3, k4, k5, k6, k7, k8, k9, k10⟩ := goesX b a v
  rw [hx] at *
  rw [hy] at *
  rw [hz] at *
  rw [t] at *
  refine ⟨⟨g1, g2, g5, g6, g3, g4⟩, fun h => ?_, g7, fun h1 h2 => g9 (by omega) h2 (.inl h1), fun h1 h2 => g9 h1 (by omega) (.inr h2), fun h1 h2 => k7 (by omega) h2, fun h1 h2 => k9 (by omega) h2 (.inl (by omega)), fun h1 h2 => k9 (by omega) (by omega) (.inr h2)⟩
  subst h
  have e1 : z = 0 → y = 0 := g8 rfl
  have e2 : y = 0 → z = 0 := k8 (by omega)
  have e3 : z < 0 → y < 0 := fun h => g9 (by omega) (by omega) (.inr h)
  have e4 : y < 0 → z < 0 := fun h => k9 (by omega) (by omega) (.inr h)
  omega
theorem or_not (z p q : Bool) : (z || !p) = q ↔ (z = true ∧ q = true) ∨ (z = false ∧ p = !q) := by cases z <;> cases p <;> cases q <;> decide
theorem lo_inner {a b : En} (ha : wfE a) (hb : wfE b) (v : Val) : loB (innerE a b 1) v = (loB a v && loB b v) := by
  unfold innerE
  rcases wf_cases ha with ⟨z, rfl⟩ | ⟨z, ha'⟩
  · rw [if_pos z, loB_zero]; simp
  rcases wf_cases hb with ⟨z', rfl⟩ | ⟨z', hb'⟩
  · rw [if_neg (by simp [z]), if_pos z', loB_zero]; simp
  rw [if_neg (by simp [z]), if_neg (by simp [z'])]
  obtain ⟨⟨k1, k2, k3, k4, k5, k6⟩, h0, h1, h2, h3, h4, h5, h6⟩ := three a.x b.x v _ _ _ rfl rfl rfl
  have la := loB_eq a v
  have lb := loB_eq b v
  rw [z, Bool.false_or] at la
  rw [z', Bool.false_or] at lb
  rcases chosen_cases a b 1 (a.op || b.op) (.inl rfl) with ⟨hc, e⟩ | ⟨hc, e⟩ | ⟨hc, e⟩
  · rw [e]
    cases q : loB a v
    · rfl
    · rw [q] at la
      have la' := (nside_iff _ _).1 (by simpa using la.symm)
      have : sideB (cmpX b.x v) b.op = false := (nside_iff _ _).2 (.inl (h5 (by omega) (by omega)))
      rw [lb, this]; rfl
  · rw [e]
    cases q : loB b v
    · simp
    · rw [q] at lb
      have lb' := (nside_iff _ _).1 (by simpa using lb.symm)
      have : sideB (cmpX a.x v) a.op = false := (nside_iff _ _).2 (.inl (h2 (by omega) (by omega)))
      rw [la, this]; rfl
  · rw [e, la, lb, loB_eq, isZ_has (show (En.mk a.has (a.op || b.op) a.x).has = true from ha'), ← h0 hc]
    generalize cmpX a.x v = y
    cases a.op <;> cases b.op <;> simp [sideB] <;> intros <;> omega
theorem hi_inner {a b : En} (ha : wfE a) (hb : wfE b) (v : Val) : hiB (innerE a b (-1)) v = (hiB a v && hiB b v) := by
  unfold innerE
  rcases wf_cases ha with ⟨z, rfl⟩ | ⟨z, ha'⟩
  · rw [if_pos z, hiB_zero]; simp
  rcases wf_cases hb with ⟨z', rfl⟩ | ⟨z', hb'⟩
  · rw [if_neg (by simp [z]), if_pos z', hiB_zero]; simp
  rw [if_neg (by simp [z]), if_neg (by simp [z'])]
  obtain ⟨⟨k1, k2, k3, k4, k5, k6⟩, h0, h1, h2, h3, h4, h5, h6⟩ := three a.x b.x v _ _ _ rfl rfl rfl
  have la := hiB_eq a v
  have lb := hiB_eq b v
  have ta := turnX a.x v
  have tb := turnX b.x v
  rw [z, Bool.false_or] at la
  rw [z', Bool.false_or] at lb
  rcases chosen_cases a b (-1) (a.op || b.op) (.inr rfl) with ⟨hc, e⟩ | ⟨hc, e⟩ | ⟨hc, e⟩
  · rw [e]
    cases q : hiB a v
    · rfl
    · rw [q] at la
      have la' := (nside_iff _ _).1 (by simpa using la.symm)
      have : sideB (cmpX v b.x) b.op = false := (nside_iff _ _).2 (.inl (by omega))
      rw [lb, this]; rfl
  · rw [e]
    cases q : hiB b v
    · simp
    · rw [q] at lb
      have lb' := (nside_iff _ _).1 (by simpa using lb.symm)
      have : sideB (cmpX v a.x) a.op = false := (nside_iff _ _).2 (.inl (by omega))
      rw [la, this]; rfl
  · rw [e, la, lb, hiB_eq, isZ_has (show (En.mk a.has (a.op || b.op) a.x).has = true from ha'), tb, ta, ← h0 hc]
    generalize -cmpX a.x v = y
    cases a.op <;> cases b.op <;> simp [sideB] <;> intros <;> omega
theorem lo_outer {a b : En} (ha : wfE a) (hb : wfE b) (v : Val) : loB (outerE a b (-1)) v = (loB a v || loB b v) := by
  unfold outerE
  rcases wf_cases ha with ⟨z, rfl⟩ | ⟨z, ha'⟩
  · rw [if_pos (by simp [z]), loB_zero]; simp
  rcases wf_cases hb with ⟨z', rfl⟩ | ⟨z', hb'⟩
  · rw [if_pos (by simp [z']), loB_zero]; simp
  rw [if_neg (by simp [z, z'])]
  obtain ⟨⟨k1, k2, k3, k4, k5, k6⟩, h0, h1, h2, h3, h4, h5, h6⟩ := three a.x b.x v _ _ _ rfl rfl rfl
  have la := loB_eq a v
  have lb := loB_eq b v
  rw [z, Bool.false_or] at la
  rw [z', Bool.false_or] at lb
  rcases chosen_cases a b (-1) (a.op && b.op) (.inr rfl) with ⟨hc, e⟩ | ⟨hc, e⟩ | ⟨hc, e⟩
  · rw [e]
    cases q : loB b v
    · simp
    · rw [q] at lb
      have lb' := (nside_iff _ _).1 (by simpa using lb.symm)
      have : sideB (cmpX a.x v) a.op = false := (nside_iff _ _).2 (.inl (h2 (by omega) (by omega)))
      rw [la, this]; rfl
  · rw [e]
    cases q : loB a v
    · rfl
    · rw [q] at la
      have la' := (nside_iff _ _).1 (by simpa using la.symm)
      have : sideB (cmpX b.x v) b.op = false := (nside_iff _ _).2 (.inl (h5 (by omega) (by omega)))
      rw [lb, this]; rfl
  · rw [e, la, lb, loB_eq, isZ_has (show (En.mk a.has (a.op && b.op) a.x).has = true from ha'), ← h0 hc]
    generalize cmpX a.x v = y
    cases a.op <;> cases b.op <;> simp [sideB] <;> intros <;> omega
theorem hi_outer {a b : En} (ha : wfE a) (hb : wfE b) (v : Val) : hiB (outerE a b 1) v = (hiB a v || hiB b v) := by
  unfold outerE
  rcases wf_cases ha with ⟨z, rfl⟩ | ⟨z, ha'⟩
  · rw [if_pos (by simp [z]), hiB_zero]; simp
  rcases wf_cases hb with ⟨z', rfl⟩ | ⟨z', hb'⟩
  · rw [if_pos (by simp [z']), hiB_zero]; simp
  rw [if_neg (by simp [z, z'])]
  obtain ⟨⟨k1, k2, k3, k4, k5, k6⟩, h0, h1, h2, h3, h4, h5, h6⟩ := three a.x b.x v _ _ _ rfl rfl rfl
  have la := hiB_eq a v
  have lb := hiB_eq b v
  have ta := turnX a.x v
  have tb := turnX b.x v
  rw [z, Bool.false_or] at la
  rw [z', Bool.false_or] at lb
  rcases chosen_cases a b 1 (a.op && b.op) (.inl rfl) with ⟨hc, e⟩ | ⟨hc, e⟩ | ⟨hc, e⟩
  · rw [e]
    cases q : hiB b v
    · simp
    · rw [q] at lb
      have lb' := (nside_iff _ _).1 (by simpa using lb.symm)
      have : sideB (cmpX v a.x) a.op = false := (nside_iff _ _).2 (.inl (by omega))
      rw [la, this]; rfl
  · rw [e]
    cases q : hiB a v
    · rfl
    · rw [q] at la
      have la' := (nside_iff _ _).1 (by simpa using la.symm)
      have : sideB (cmpX v b.x) b.op = false := (nside_iff _ _).2 (.inl (by omega))
      rw [lb, this]; rfl
  · rw [e, la, lb, hiB_eq, isZ_has (show (En.mk a.has (a.op && b.op) a.x).has = true from ha'), tb, ta, ← h0 hc]
    generalize -cmpX a.x v = y
    cases a.op <;> cases b.op <;> simp [sideB] <;> intros <;> omega
/-- A clean span: nothing, or its ends. -/
theorem clean_cases (s : Sp) : cleanS s = Sp.none ∨ ((cleanS s).no = false ∧ apartE (lowE s) (uppE s) = false ∧ lowE (cleanS s) = lowE s ∧ uppE (cleanS s) = uppE s ∧ btw (lowE s) (uppE s) = cleanS s) := by
  unfold cleanS
  cases h : s.no
  · rw [if_neg (by simp)]
    cases h1 : apartE (lowE s) (uppE s)
    · have e : btw (lowE s) (uppE s) = ⟨false, (lowE s).has, (lowE s).op, (lowE s).x, (uppE s).has, (uppE s).op, (uppE s).x⟩ := by unfold btw; rw [h1]; rfl
      exact .inr ⟨by rw [e], rfl, by rw [e, low_btw (wf_low s)], by rw [e, upp_btw (wf_upp s)], rfl⟩
    · left; unfold btw; rw [h1]; rfl
  · left; rfl
theorem within_none (v : Val) : withinS Sp.none v = false := rfl
theorem within_meet (a b : Sp) (v : Val) : withinS (meetS a b) v = (withinS a v && withinS b v) := by
  rw [← within_clean a, ← within_clean b]
  unfold meetS meetC
  rcases clean_cases a with ha | ⟨na, _, ha, ha', _⟩
  · rw [ha]; rfl
  rcases clean_cases b with hb | ⟨nb, _, hb, hb', _⟩
  · rw [hb, if_pos (by simp [Sp.none])]; simp [within_none]
  rw [if_neg (by simp [na, nb]), within_btw (wf_inner (wf_low _) (wf_low _)) (wf_inner (wf_upp _) (wf_upp _)), lo_inner (wf_low _) (wf_low _), hi_inner (wf_upp _) (wf_upp _), within_eq, within_eq, na, nb]
  cases loB (lowE (cleanS a)) v <;> cases loB (lowE (cleanS b)) v <;> cases hiB (uppE (cleanS a)) v <;> cases hiB (uppE (cleanS b)) v <;> rfl
def hullB (a b : Sp) (v : Val) : Bool :=
  if (cleanS a).no then withinS b v else if (cleanS b).no then withinS a v else (loB (lowE (cleanS a)) v || loB (lowE (cleanS b)) v) && (hiB (uppE (cleanS a)) v || hiB (uppE (cleanS b)) v)
theorem within_hull (a b : Sp) (v : Val) : withinS (hullS a b) v = hullB a b v := by
  unfold hullS hullC hullB
  cases na : (cleanS a).no
  · cases nb : (cleanS b).no
    · simp only [Bool.false_eq_true, if_false]
      rw [within_btw (wf_outer (wf_low _) (wf_low _)) (wf_outer (wf_upp _) (wf_upp _)), lo_outer (wf_low _) (wf_low _), hi_outer (wf_upp _) (wf_upp _)]
    · simp only [Bool.false_eq_true, if_false, if_true, within_clean]
  · simp only [if_true, within_clean]
theorem no_within {s : Sp} {v : Val} (h : (cleanS s).no = true) : withinS s v = false := by rw [← within_clean, within_eq, h]; rfl
theorem hull_turn (a b : Sp) (v : Val) : hullB a b v = hullB b a v := by
  unfold hullB
  cases na : (cleanS a).no
  · cases nb : (cleanS b).no
    · simp only [Bool.false_eq_true, if_false]
      cases loB (lowE (cleanS a)) v <;> cases loB (lowE (cleanS b)) v <;> cases hiB (uppE (cleanS a)) v <;> cases hiB (uppE (cleanS b)) v <;> rfl
    · simp
  · cases nb : (cleanS b).no
    · simp
    · simp [no_within na, no_within nb]
theorem hull_has (a b : Sp) (v : Val) (h : (withinS a v || withinS b v) = true) : withinS (hullS a b) v = true := by
  rw [within_hull]
  unfold hullB
  cases na : (cleanS a).no
  · cases nb : (cleanS b).no
    · simp only [Bool.false_eq_true, if_false]
      rw [← within_clean a, ← within_clean b, within_eq, within_eq, na, nb] at h
      revert h
      cases loB (lowE (cleanS a)) v <;> cases loB (lowE (cleanS b)) v <;> cases hiB (uppE (cleanS a)) v <;> cases hiB (uppE (cleanS b)) v <;> simp
    · rw [no_within nb] at h; simpa using h
  · rw [no_within na] at h; simpa using h
theorem btw_no {lo hi : En} (h : (btw lo hi).no = true) : btw lo hi = Sp.none := by
  unfold btw at *
  cases h1 : apartE lo hi
  · rw [h1] at h; simp at h
  · rfl
theorem meet_no {a b : Sp} (h : (meetS a b).no = true) : meetS a b = Sp.none := by
  unfold meetS meetC at *
  cases h1 : ((cleanS a).no || (cleanS b).no)
  · rw [h1] at h; simp only [Bool.false_eq_true, if_false] at h ⊢; exact btw_no h
  · rfl
theorem cmp_self_chosen (a : En) (side : Int) (hs : side = 1 ∨ side = -1) (o : Bool) (h : o = a.op) : chosenE a a side o = a := by
  unfold chosenE
  rw [selfX, if_neg (by omega), if_neg (by omega), h]
theorem inner_self (a : En) (side : Int) (hs : side = 1 ∨ side = -1) : innerE a a side = a := by
  unfold innerE
  cases isZ a
  · simp only [Bool.false_eq_true, if_false]; exact cmp_self_chosen a side hs _ (by simp)
  · simp
theorem outer_self (a : En) (side : Int) (hs : side = 1 ∨ side = -1) : outerE a a side = a := by
  unfold outerE
  cases h : isZ a
  · simp only [Bool.or_self, Bool.false_eq_true, if_false]; exact cmp_self_chosen a side hs _ (by simp)
  · simp; exact (isZ_iff.1 h).symm
theorem clean_clean (s : Sp) : cleanS (cleanS s) = cleanS s := by
  rcases clean_cases s with h | ⟨n, ap, h1, h2, h3⟩
  · rw [h]; rfl
  · rw [cleanS, n, if_neg (by simp), h1, h2, h3]
theorem meet_self (s : Sp) : meetS s s = cleanS s := by
  unfold meetS meetC
  rw [inner_self _ 1 (.inl rfl), inner_self _ (-1) (.inr rfl)]
  rcases clean_cases s with h | ⟨n, ap, h1, h2, h3⟩
  · rw [h]; rfl
  · rw [n]; simp only [Bool.or_self, Bool.false_eq_true, if_false]; rw [h1, h2, h3]
theorem hull_self (s : Sp) : hullS s s = cleanS s := by
  unfold hullS hullC
  rw [outer_self _ (-1) (.inr rfl), outer_self _ 1 (.inl rfl)]
  rcases clean_cases s with h | ⟨n, ap, h1, h2, h3⟩
  · rw [h]; rfl
  · rw [n]; simp only [Bool.false_eq_true, if_false]; rw [h1, h2, h3]
theorem clean_none : cleanS Sp.none = Sp.none := rfl
theorem clean_all : cleanS Sp.all = Sp.all := by
  have : apartE En.zero En.zero = false := by unfold apartE; rw [isZ_zero]; rfl
  show (if Sp.all.no then Sp.none else btw En.zero En.zero) = Sp.all
  unfold btw
  rw [this]; rfl
theorem meet_none (s : Sp) : meetS s Sp.none = Sp.none := by unfold meetS meetC; rw [clean_none]; simp [Sp.none]
theorem hull_none (s : Sp) : hullS Sp.none s = cleanS s := rfl
theorem meet_all (s : Sp) : meetS Sp.all s = cleanS s := by
  unfold meetS meetC
  rw [clean_all]
  rcases clean_cases s with h | ⟨n, ap, h1, h2, h3⟩
  · rw [h]; rfl
  · rw [n, if_neg (by simp [Sp.all])]
    have e1 : lowE Sp.all = En.zero := rfl
    have e2 : uppE Sp.all = En.zero := rfl
    have e3 : ∀ b side, innerE En.zero b side = b := fun b side => by unfold innerE; rw [if_pos isZ_zero]
    rw [e1, e2, e3, e3, h1, h2, h3]
theorem hull_all (s : Sp) : hullS s Sp.all = Sp.all := by
  unfold hullS hullC
  rw [clean_all]
  rcases clean_cases s with h | ⟨n, ap, h1, h2, h3⟩
  · rw [h]; rfl
  · have e1 : lowE Sp.all = En.zero := rfl
    have e2 : uppE Sp.all = En.zero := rfl
    have e3 : ∀ a side, outerE a En.zero side = En.zero := fun a side => by unfold outerE; rw [if_pos (by simp [isZ_zero])]
    have e4 : btw En.zero En.zero = Sp.all := by have := clean_all; exact this
    rw [n, e1, e2, e3, e3, e4]
    rfl
theorem within_all (v : Val) : withinS Sp.all v = true := by
  rw [within_eq]
  show (!false && (loB En.zero v && hiB En.zero v)) = true
  rw [loB_zero, hiB_zero]; rfl
end Go.Proofs.Ytafkpfhhmmnpeaa.Val
/- What Right of package value answers, for any value. -/
namespace Go.Proofs.Ytafkpfhhmmnpeaa.Val
open Go.RowKit

set_option maxHeartbeats 400000 in
theorem right_text_yes (s : ByteArray) (w : World) (hs : s.size ≤ maxLen) :
    Calls Try.prog 52 #[V true 0 s] w fun e w' => e = .returned (.bool (decide (s.size ≤ 12))) ∧ Below w.heap.size w w' := by
  unfold maxLen at hs
  go_enter Try.func52, Try.ntmps52
  go_wp2
  go_region_held3 (fun w' => w'.cell? ⟨w.heap.size, 0, none⟩ = some (.bool true) ∧ w'.cell? ⟨w.heap.size, 1, none⟩ = some (.int .i64 0) ∧ w'.cell? ⟨w.heap.size, 2, none⟩ = some (.string s)) (go_keep)
    ((go_at_call 68; refine (bare_text _ _ _).mono ?_; rintro e w1 ⟨rfl, hb1⟩; obtain ⟨⟨c0, c1, c2⟩, hz, hb⟩ := kept1d hb1))
  go_wp2
  go_ret
  exact ⟨by simp; omega, hb⟩
set_option maxHeartbeats 400000 in
theorem right_text_no (n : Int) (s : ByteArray) (w : World) (h : (n == 0) = false) :
    Calls Try.prog 52 #[V true n s] w fun e w' => e = .returned (.bool false) ∧ Below w.heap.size w w' := by
  go_enter Try.func52, Try.ntmps52
  go_wp2
  first | go_region_with (go_at_call 68; refine (bare_text _ _ _).mono ?_; rintro e w1 ⟨rfl, hb1⟩; obtain ⟨⟨c0, c1, c2⟩, hz, hb⟩ := kept1d hb1) | fail
  all_goals
    go_wp2
    go_ret
    exact ⟨rfl, hb⟩
set_option maxHeartbeats 400000 in
theorem right_number_yes (n : Int) (w : World) :
    Calls Try.prog 52 #[V false n ⟨#[]⟩] w fun e w' => e = .returned (.bool true) ∧ Below w.heap.size w w' := by
  go_enter Try.func52, Try.ntmps52
  go_wp2
  go_region_held3 (fun w' => w'.cell? ⟨w.heap.size, 0, none⟩ = some (.bool false) ∧ w'.cell? ⟨w.heap.size, 1, none⟩ = some (.int .i64 n) ∧ w'.cell? ⟨w.heap.size, 2, none⟩ = some (.string ⟨#[]⟩)) (go_keep)
    ((go_at_call 68; refine (bare_number _ _ _).mono ?_; rintro e w1 ⟨rfl, hb1⟩; obtain ⟨⟨c0, c1, c2⟩, hz, hb⟩ := kept1d hb1))
  go_wp2
  go_ret
  exact ⟨rfl, hb⟩
set_option maxHeartbeats 400000 in
theorem right_number_no (n : Int) (s : ByteArray) (w : World) (h : s.toList.isEmpty = false) :
    Calls Try.prog 52 #[V false n s] w fun e w' => e = .returned (.bool false) ∧ Below w.heap.size w w' := by
  go_enter Try.func52, Try.ntmps52
  go_wp2
  first | go_region_with (go_at_call 68; refine (bare_number _ _ _).mono ?_; rintro e w1 ⟨rfl, hb1⟩; obtain ⟨⟨c0, c1, c2⟩, hz, hb⟩ := kept1d hb1) | fail
  all_goals
    go_wp2
    go_ret
    exact ⟨rfl, hb⟩
end Go.Proofs.Ytafkpfhhmmnpeaa.Val
/- What Right of package value answers, for any value. -/
namespace Go.Proofs.Ytafkpfhhmmnpeaa.Val
open Go.RowKit

/-- May it be? -/
def rightV (t : Bool) (n : Int) (s : ByteArray) : Bool := if t then n == 0 && decide (s.size ≤ 12) else s.toList.isEmpty
theorem empty_of {s : ByteArray} (h : s.toList.isEmpty = true) : s = ⟨#[]⟩ := by
  rw [ByteArray.toList_eq] at h
  cases s with | mk d => cases d with | mk l => cases l <;> simp_all
theorem right_any (t : Bool) (n : Int) (s : ByteArray) (w : World) (hs : s.size ≤ maxLen) :
    Calls Try.prog 52 #[V t n s] w fun e w' => e = .returned (.bool (rightV t n s)) ∧ Below w.heap.size w w' := by
  cases t
  · cases h : s.toList.isEmpty
    · simp only [rightV, h]; exact right_number_no n s w h
    · simp only [rightV, h]; obtain rfl := empty_of h; exact right_number_yes n w
  · cases h : (n == 0)
    · simp only [rightV, h]; exact right_text_no n s w h
    · obtain rfl : n = 0 := by simpa using h
      exact right_text_yes s w hs
end Go.Proofs.Ytafkpfhhmmnpeaa.Val
/- Plain: rows of keys that rise, and what is put, got and deleted there. No program. -/
namespace Go.Proofs.Ytafkpfhhmmnpeaa.Val
open Go Go.RowKit
set_option maxRecDepth 100000

/-- A place, as plain data: four values, how many they are, and the number. -/
structure Pl where
  a : Val
  b : Val
  c : Val
  d : Val
  w : Int
  m : Int
def Pl.zero : Pl := ⟨Val.zero, Val.zero, Val.zero, Val.zero, 0, 0⟩
/-- A key, and what stands there. -/
structure Pr where
  k : Val
  v : Pl
def rightX (x : Val) : Bool := rightV x.t x.n x.s
theorem cmpN_zero {a b : Int} (h : cmpN a b = 0) : a = b := by
  unfold cmpN at h
  by_cases e : a = b
  · exact e
  · rw [if_neg (by simpa using e)] at h
    split at h <;> simp at h
theorem cmpS_zero {a b : List UInt8} (h : cmpS a b = 0) : a = b := by
  unfold cmpS at h
  by_cases e : a = b
  · exact e
  · rw [if_neg (by simpa using e)] at h
    split at h <;> simp at h
/-- Of values that may be, only the same ones stand at one place. -/
theorem cmp_eq {a b : Val} (ha : rightX a = true) (hb : rightX b = true) (h : cmpX a b = 0) : a = b := by
  obtain ⟨ta, na, sa⟩ := a
  obtain ⟨tb, nb, sb⟩ := b
  unfold rightX rightV at ha hb
  unfold cmpX cmpV at h
  cases ta <;> cases tb <;> simp only [Bool.false_eq_true, if_false, if_true] at ha hb h
  · have e1 := empty_of ha
    have e2 := empty_of hb
    have e3 := cmpN_zero h
    subst e1 e2 e3; rfl
  · simp at h
  · simp at h
  · rw [Bool.and_eq_true, beq_iff_eq] at ha hb
    have e3 := cmpS_zero h
    have e4 : sa = sb := by
      rw [ByteArray.toList_eq, ByteArray.toList_eq] at e3
      cases sa; cases sb; simp_all [Array.toList_inj]
    rw [ha.1, hb.1, e4]
theorem ltX_trans {a b c : Val} (h1 : cmpX a b < 0) (h2 : cmpX b c < 0) : cmpX a c < 0 := by
  obtain ⟨_, h, _⟩ := three a b c _ _ _ rfl rfl rfl
  obtain ⟨_, _, _, h3, _⟩ := three a b c _ _ _ rfl rfl rfl
  exact h3 h1 (by omega)
theorem ltX_eq {a b c : Val} (h1 : cmpX a b = 0) : cmpX a c = cmpX b c := (three a b c _ _ _ rfl rfl rfl).2.1 h1
/-- The keys rise. -/
def Rises (l : List Pr) : Prop := l.Pairwise fun a b => cmpX a.k b.k < 0
def Rights (l : List Pr) : Prop := ∀ x ∈ l, rightX x.k = true
/-- A key is put. -/
def insP (k : Val) (v : Pl) : List Pr → List Pr
  | [] => [⟨k, v⟩]
  | x :: l => if cmpX x.k k < 0 then x :: insP k v l else if cmpX x.k k = 0 then ⟨k, v⟩ :: l else ⟨k, v⟩ :: x :: l
/-- A key is there. -/
def hasP (k : Val) (l : List Pr) : Bool := l.any fun x => eqV x.k k
def getP (k : Val) (l : List Pr) : Pl × Bool := match l.find? fun x => eqV x.k k with
  | some x => (x.v, true)
  | none => (Pl.zero, false)
def delP (k : Val) (l : List Pr) : List Pr := l.filter fun x => !eqV x.k k
def rangeP (s : Sp) (l : List Pr) : List Pr := l.filter fun x => withinS s x.k
theorem mem_ins {k : Val} {v : Pl} {y : Pr} : ∀ {l : List Pr}, y ∈ insP k v l → y = ⟨k, v⟩ ∨ y ∈ l := by
  intro l
  induction l with
  | nil => intro h; exact .inl (by simpa [insP] using h)
  | cons x l ih =>
    intro h
    unfold insP at h
    split at h
    · rcases List.mem_cons.1 h with h | h
      · exact .inr (by simp [h])
      · rcases ih h with h | h
        · exact .inl h
        · exact .inr (by simp [h])
    · split at h
      · rcases List.mem_cons.1 h with h | h
        · exact .inl h
        · exact .inr (by simp [h])
      · rcases List.mem_cons.1 h with h | h
        · exact .inl h
        · exact .inr h
theorem ins_rights {k : Val} {v : Pl} {l : List Pr} (hk : rightX k = true) (h : Rights l) : Rights (insP k v l) := fun y hy => by
  rcases mem_ins hy with rfl | hy
  · exact hk
  · exact h y hy
theorem ins_rises {k : Val} {v : Pl} : ∀ {l : List Pr}, Rises l → Rises (insP k v l) := by
  intro l
  induction l with
  | nil => intro _; exact List.pairwise_singleton _ _
  | cons x l ih =>
    intro h
    have h1 := (List.pairwise_cons.1 h).1
    have h2 := (List.pairwise_cons.1 h).2
    unfold insP
    split
    · rename_i hc
      refine List.pairwise_cons.2 ⟨fun y hy => ?_, ih h2⟩
      rcases mem_ins hy with rfl | hy
      · exact hc
      · exact h1 y hy
    · split
      · rename_i _ hc
        refine List.pairwise_cons.2 ⟨fun y hy => ?_, h2⟩
        have := ltX_eq (c := y.k) hc
        have h3 := h1 y hy
        show cmpX k y.k < 0
        omega
      · rename_i hc hc'
        have hx : cmpX k x.k < 0 := by have := turnX x.k k; omega
        refine List.pairwise_cons.2 ⟨fun y hy => ?_, h⟩
        rcases List.mem_cons.1 hy with rfl | hy
        · exact hx
        · exact ltX_trans hx (h1 y hy)
theorem del_rises {k : Val} {l : List Pr} (h : Rises l) : Rises (delP k l) := List.Pairwise.filter _ h
theorem del_rights {k : Val} {l : List Pr} (h : Rights l) : Rights (delP k l) := fun y hy => h y (List.mem_filter.1 hy).1
/-- As the reference puts a key: what is out so far, whether it is done, whether it is new. -/
def putLoop (k : Val) (v : Pl) : List Pr → Bool → Bool → List Pr → List Pr × Bool
  | out, done, fresh, [] => (if done then out else out ++ [⟨k, v⟩], fresh)
  | out, done, fresh, x :: l =>
    if cmpX x.k k = 0 then putLoop k v (out ++ [⟨k, v⟩]) true false l
    else if 0 < cmpX x.k k ∧ done = false then putLoop k v (out ++ [⟨k, v⟩] ++ [x]) true fresh l
    else putLoop k v (out ++ [x]) done fresh l
theorem put_done (k : Val) (v : Pl) : ∀ (l out : List Pr) (f : Bool), (∀ x ∈ l, 0 < cmpX x.k k) → putLoop k v out true f l = (out ++ l, f) := by
  intro l
  induction l with
  | nil => intro out f _; simp [putLoop]
  | cons x l ih =>
    intro out f h
    have hx := h x (by simp)
    unfold putLoop
    rw [if_neg (by omega), if_neg (by simp), ih _ _ fun y hy => h y (by simp [hy])]
    simp
theorem put_loop (k : Val) (v : Pl) : ∀ (l out : List Pr), Rises l → putLoop k v out false true l = (out ++ insP k v l, !(l.any fun x => cmpX x.k k == 0)) := by
  intro l
  induction l with
  | nil => intro out _; simp [putLoop, insP]
  | cons x l ih =>
    intro out h
    have h1 := (List.pairwise_cons.1 h).1
    have h2 := (List.pairwise_cons.1 h).2
    unfold putLoop insP
    rcases (by omega : cmpX x.k k < 0 ∨ cmpX x.k k = 0 ∨ 0 < cmpX x.k k) with hc | hc | hc
    · have e : (cmpX x.k k == 0) = false := by simp; omega
      rw [if_neg (by omega), if_neg (by omega), if_pos hc, ih _ h2]
      simp [e]
    · have hg : ∀ y ∈ l, 0 < cmpX y.k k := fun y hy => by
        have h3 := h1 y hy
        have h4 := ltX_eq (c := y.k) hc
        have h5 := turnX k y.k
        omega
      rw [if_pos hc, if_neg (by omega), if_pos hc, put_done k v l _ _ hg]
      simp [hc]
    · have hg : ∀ y ∈ x :: l, 0 < cmpX y.k k := fun y hy => by
        rcases List.mem_cons.1 hy with rfl | hy
        · exact hc
        · have h3 := h1 y hy
          have h4 := turnX x.k k
          have h5 := turnX k y.k
          have h6 := ltX_trans (a := k) (b := x.k) (c := y.k) (by omega) h3
          omega
      have e : (cmpX x.k k == 0) = false := by simp; omega
      have en : (l.any fun x => cmpX x.k k == 0) = false := by
        rw [List.any_eq_false]
        intro y hy
        have := hg y (by simp [hy])
        simp; omega
      rw [if_neg (by omega), if_pos ⟨hc, rfl⟩, if_neg (by omega), if_neg (by omega), put_done k v l _ _ fun y hy => hg y (by simp [hy])]
      simp [e, en]
/-- Where keys may be, at one place is the same. -/
theorem has_cmp {k : Val} {l : List Pr} (hk : rightX k = true) (h : Rights l) : (l.any fun x => cmpX x.k k == 0) = hasP k l := by
  unfold hasP
  induction l with
  | nil => rfl
  | cons x l ih =>
    rw [List.any_cons, List.any_cons, ih fun y hy => h y (by simp [hy])]
    congr 1
    rw [Bool.eq_iff_iff, beq_iff_eq, eqV_iff]
    exact ⟨fun e => cmp_eq (h x (by simp)) hk e, fun e => by rw [e]; exact selfX k⟩
theorem put_ref {k : Val} {v : Pl} {l : List Pr} (hk : rightX k = true) (hr : Rises l) (h : Rights l) : putLoop k v [] false true l = (insP k v l, !hasP k l) := by
  rw [put_loop k v l [] hr, has_cmp hk h]; simp
theorem del_no {k : Val} {l : List Pr} (h : hasP k l = false) : delP k l = l := by
  unfold delP
  rw [List.filter_eq_self]
  intro x hx
  unfold hasP at h
  rw [List.any_eq_false] at h
  simpa using h x hx
theorem del_short {k : Val} {l : List Pr} : decide ((delP k l).length < l.length) = hasP k l := by
  cases h : hasP k l
  · rw [del_no h]; simp
  · unfold hasP at h
    rw [List.any_eq_true] at h
    obtain ⟨x, hx, he⟩ := h
    rw [decide_eq_true_eq]
    unfold delP
    have := List.length_filter_lt_length_iff_exists (p := fun x : Pr => !eqV x.k k) (l := l)
    rw [this]
    exact ⟨x, hx, by simp [he]⟩
end Go.Proofs.Ytafkpfhhmmnpeaa.Val
/- Plain: what is put and deleted at one key, seen from others; rows that rise are told by what they hold. No program. -/
namespace Go.Proofs.Ytafkpfhhmmnpeaa.Val
open Go Go.RowKit
set_option maxRecDepth 100000

theorem neX_of_lt {a b : Val} (h : cmpX a b < 0) : a ≠ b := fun e => by rw [e, selfX] at h; omega
/-- Two rows that rise and hold the same are one. -/
theorem rises_ext : ∀ {l m : List Pr}, Rises l → Rises m → (∀ x, x ∈ l ↔ x ∈ m) → l = m := by
  intro l
  induction l with
  | nil =>
    intro m _ _ h
    cases m with
    | nil => rfl
    | cons y m => exact absurd ((h y).2 (by simp)) (by simp)
  | cons x l ih =>
    intro m hl hm h
    cases m with
    | nil => exact absurd ((h x).1 (by simp)) (by simp)
    | cons y m =>
      have l1 := (List.pairwise_cons.1 hl).1
      have l2 := (List.pairwise_cons.1 hl).2
      have m1 := (List.pairwise_cons.1 hm).1
      have m2 := (List.pairwise_cons.1 hm).2
      have hxy : x = y := by
        rcases List.mem_cons.1 ((h x).1 (by simp)) with e | e
        · exact e
        · rcases List.mem_cons.1 ((h y).2 (by simp)) with e' | e'
          · exact e'.symm
          · have a := m1 x e
            have b := l1 y e'
            have := ltX_trans a b
            rw [selfX] at this; omega
      subst hxy
      congr 1
      refine ih l2 m2 fun z => ⟨fun hz => ?_, fun hz => ?_⟩
      · rcases List.mem_cons.1 ((h z).1 (by simp [hz])) with e | e
        · subst e; exact absurd rfl (neX_of_lt (l1 z hz))
        · exact e
      · rcases List.mem_cons.1 ((h z).2 (by simp [hz])) with e | e
        · subst e; exact absurd rfl (neX_of_lt (m1 z hz))
        · exact e
theorem mem_ins_iff {k : Val} {v : Pl} {y : Pr} : ∀ {l : List Pr}, Rises l → (y ∈ insP k v l ↔ y = ⟨k, v⟩ ∨ (y ∈ l ∧ cmpX y.k k ≠ 0)) := by
  intro l
  induction l with
  | nil => intro _; simp [insP]
  | cons x l ih =>
    intro h
    have h1 := (List.pairwise_cons.1 h).1
    have h2 := (List.pairwise_cons.1 h).2
    unfold insP
    rcases (by omega : cmpX x.k k < 0 ∨ cmpX x.k k = 0 ∨ 0 < cmpX x.k k) with hc | hc | hc
    · rw [if_pos hc, List.mem_cons, ih h2, List.mem_cons]
      constructor
      · rintro (rfl | rfl | ⟨h3, h4⟩)
        · exact .inr ⟨.inl rfl, by omega⟩
        · exact .inl rfl
        · exact .inr ⟨.inr h3, h4⟩
      · rintro (rfl | ⟨rfl | h3, h4⟩)
        · exact .inr (.inl rfl)
        · exact .inl rfl
        · exact .inr (.inr ⟨h3, h4⟩)
    · rw [if_neg (by omega), if_pos hc, List.mem_cons, List.mem_cons]
      have hg : ∀ z ∈ l, cmpX z.k k ≠ 0 := fun z hz => by
        have h3 := h1 z hz
        have h4 := ltX_eq (c := z.k) hc
        have h5 := turnX k z.k
        omega
      constructor
      · rintro (rfl | h3)
        · exact .inl rfl
        · exact .inr ⟨.inr h3, hg y h3⟩
      · rintro (rfl | ⟨rfl | h3, h4⟩)
        · exact .inl rfl
        · exact absurd hc h4
        · exact .inr h3
    · rw [if_neg (by omega), if_neg (by omega), List.mem_cons, List.mem_cons]
      have hg : ∀ z ∈ l, cmpX z.k k ≠ 0 := fun z hz => by
        have h3 := h1 z hz
        have h4 := turnX x.k k
        have h5 := turnX k z.k
        have h6 := ltX_trans (a := k) (b := x.k) (c := z.k) (by omega) h3
        omega
      constructor
      · rintro (rfl | rfl | h3)
        · exact .inl rfl
        · exact .inr ⟨.inl rfl, by omega⟩
        · exact .inr ⟨.inr h3, hg y h3⟩
      · rintro (rfl | ⟨rfl | h3, h4⟩)
        · exact .inl rfl
        · exact .inr (.inl rfl)
        · exact .inr (.inr h3)
theorem mem_del_iff {k : Val} {y : Pr} {l : List Pr} : y ∈ delP k l ↔ y ∈ l ∧ y.k ≠ k := by
  unfold delP
  rw [List.mem_filter]
  refine and_congr Iff.rfl ?_
  rw [Bool.not_eq_true', ← Bool.not_eq_true, eqV_iff]
theorem has_iff {k : Val} {l : List Pr} : hasP k l = true ↔ ∃ v, (⟨k, v⟩ : Pr) ∈ l := by
  unfold hasP
  rw [List.any_eq_true]
  constructor
  · rintro ⟨x, hx, he⟩
    rw [eqV_iff] at he
    exact ⟨x.v, by rw [← he]; exact hx⟩
  · rintro ⟨v, hv⟩
    exact ⟨_, hv, eqV_iff.2 rfl⟩
/-- At one key there is one value. -/
theorem rises_one {k : Val} {u v : Pl} {l : List Pr} (h : Rises l) (h1 : (⟨k, u⟩ : Pr) ∈ l) (h2 : (⟨k, v⟩ : Pr) ∈ l) : u = v := by
  induction l with
  | nil => cases h1
  | cons x l ih =>
    have l1 := (List.pairwise_cons.1 h).1
    rcases List.mem_cons.1 h1 with e1 | e1 <;> rcases List.mem_cons.1 h2 with e2 | e2
    · rw [← e1] at e2; exact congrArg Pr.v e2.symm
    · have := l1 _ e2; rw [← e1] at this; exact absurd rfl (neX_of_lt this)
    · have := l1 _ e1; rw [← e2] at this; exact absurd rfl (neX_of_lt this)
    · exact ih (List.pairwise_cons.1 h).2 e1 e2
theorem get_iff {k : Val} {v : Pl} {l : List Pr} (h : Rises l) : getP k l = (v, true) ↔ (⟨k, v⟩ : Pr) ∈ l := by
  unfold getP
  cases e : l.find? fun x => eqV x.k k with
  | none =>
    simp only [Prod.mk.injEq, Bool.false_eq_true, and_false, false_iff]
    intro hm
    have := List.find?_eq_none.1 e _ hm
    exact this (eqV_iff.2 rfl)
  | some x =>
    have hx := List.mem_of_find?_eq_some e
    have hk : eqV x.k k = true := by have := List.find?_some e; simpa using this
    rw [eqV_iff] at hk
    simp only [Prod.mk.injEq, and_true]
    constructor
    · intro hv; rw [← hk, ← hv]; exact hx
    · intro hm
      have hx' : (⟨k, x.v⟩ : Pr) ∈ l := by rw [← hk]; exact hx
      exact rises_one h hx' hm
theorem get_no {k : Val} {l : List Pr} : getP k l = (Pl.zero, false) ↔ hasP k l = false := by
  unfold getP
  cases e : l.find? fun x => eqV x.k k with
  | none =>
    simp only [true_iff]
    unfold hasP
    rw [List.any_eq_false]
    exact fun x hx => by simpa using List.find?_eq_none.1 e x hx
  | some x =>
    have hx := List.mem_of_find?_eq_some e
    have hk : eqV x.k k = true := by have := List.find?_some e; simpa using this
    simp only [Prod.mk.injEq, Bool.true_eq_false, and_false, false_iff, Bool.not_eq_false]
    unfold hasP
    rw [List.any_eq_true]
    exact ⟨x, hx, hk⟩
theorem get_cases {k : Val} {l : List Pr} : (∃ v, getP k l = (v, true)) ∨ getP k l = (Pl.zero, false) := by
  unfold getP
  cases l.find? fun x => eqV x.k k with
  | none => exact .inr rfl
  | some x => exact .inl ⟨x.v, rfl⟩
/-- What a row answers hangs on what it holds at that key alone. -/
theorem get_congr {k : Val} {l m : List Pr} (hl : Rises l) (hm : Rises m) (h : ∀ v, (⟨k, v⟩ : Pr) ∈ l ↔ (⟨k, v⟩ : Pr) ∈ m) : getP k l = getP k m := by
  rcases get_cases (k := k) (l := l) with ⟨v, e⟩ | e
  · rw [e]; exact ((get_iff hm).2 ((h v).1 ((get_iff hl).1 e))).symm
  · rw [e]
    refine (get_no.2 ?_).symm
    have h0 := get_no.1 e
    cases hh : hasP k m
    · rfl
    · obtain ⟨v, hv⟩ := has_iff.1 hh
      have := has_iff.2 ⟨v, (h v).2 hv⟩
      rw [h0] at this; cases this
theorem get_ins_same {k : Val} {v : Pl} {l : List Pr} (h : Rises l) : getP k (insP k v l) = (v, true) := (get_iff (ins_rises h)).2 ((mem_ins_iff h).2 (.inl rfl))
theorem get_ins_other {k j : Val} {v : Pl} {l : List Pr} (hk : rightX k = true) (hr : Rights l) (h : Rises l) (hne : j ≠ k) : getP j (insP k v l) = getP j l := by
  refine get_congr (ins_rises h) h fun u => ?_
  rw [mem_ins_iff h]
  constructor
  · rintro (e | ⟨h1, _⟩)
    · exact absurd (congrArg Pr.k e) hne
    · exact h1
  · intro h1
    exact .inr ⟨h1, fun e => hne (cmp_eq (hr _ h1) hk e)⟩
theorem get_del_same {k : Val} {l : List Pr} : getP k (delP k l) = (Pl.zero, false) := by
  refine get_no.2 ?_
  cases h : hasP k (delP k l)
  · rfl
  · obtain ⟨v, hv⟩ := has_iff.1 h
    exact absurd rfl (mem_del_iff.1 hv).2
theorem get_del_other {k j : Val} {l : List Pr} (h : Rises l) (hne : j ≠ k) : getP j (delP k l) = getP j l :=
  get_congr (del_rises h) h fun u => by rw [mem_del_iff]; exact ⟨fun h => h.1, fun h1 => ⟨h1, hne⟩⟩
theorem len_ins (k : Val) (v : Pl) : ∀ (l : List Pr), Rises l → (insP k v l).length = if (l.any fun x => cmpX x.k k == 0) then l.length else l.length + 1 := by
  intro l
  induction l with
  | nil => intro _; rfl
  | cons x l ih =>
    intro h
    have h1 := (List.pairwise_cons.1 h).1
    have h2 := (List.pairwise_cons.1 h).2
    unfold insP
    rw [List.any_cons]
    rcases (by omega : cmpX x.k k < 0 ∨ cmpX x.k k = 0 ∨ 0 < cmpX x.k k) with hc | hc | hc
    · have e : (cmpX x.k k == 0) = false := by simp; omega
      rw [if_pos hc, List.length_cons, ih h2, e, Bool.false_or]
      split <;> simp
    · have e : (cmpX x.k k == 0) = true := by simp [hc]
      rw [if_neg (by omega), if_pos hc, e, Bool.true_or, if_pos rfl]; simp
    · have e : (cmpX x.k k == 0) = false := by simp; omega
      have en : (l.any fun x => cmpX x.k k == 0) = false := by
        rw [List.any_eq_false]
        intro y hy
        have h3 := h1 y hy
        have h4 := turnX x.k k
        have h5 := turnX k y.k
        have h6 := ltX_trans (a := k) (b := x.k) (c := y.k) (by omega) h3
        simp; omega
      rw [if_neg (by omega), if_neg (by omega), e, en]; simp
theorem len_put {k : Val} {v : Pl} {l : List Pr} (hk : rightX k = true) (hr : Rises l) (h : Rights l) : (insP k v l).length = if hasP k l then l.length else l.length + 1 := by
  rw [len_ins k v l hr, has_cmp hk h]
/-- Put and deleted: as it was, where it was not there. -/
theorem del_ins {k : Val} {v : Pl} {l : List Pr} (hk : rightX k = true) (hr : Rises l) (h : Rights l) : delP k (insP k v l) = delP k l := by
  refine rises_ext (del_rises (ins_rises hr)) (del_rises hr) fun y => ?_
  rw [mem_del_iff, mem_del_iff, mem_ins_iff hr]
  constructor
  · rintro ⟨e | ⟨h1, _⟩, h2⟩
    · subst e; exact absurd rfl h2
    · exact ⟨h1, h2⟩
  · rintro ⟨h1, h2⟩
    exact ⟨.inr ⟨h1, fun e => h2 (cmp_eq (h y h1) hk e)⟩, h2⟩
theorem range_rises {s : Sp} {l : List Pr} (h : Rises l) : Rises (rangeP s l) := List.Pairwise.filter _ h
theorem range_all (l : List Pr) : rangeP Sp.all l = l := by
  unfold rangeP
  rw [List.filter_eq_self]
  exact fun x _ => within_all x.k
end Go.Proofs.Ytafkpfhhmmnpeaa.Val
/- A tree in memory: its rows, how many of each are taken, the nodes given up. Plain facts; no function of the program. -/
namespace Go.Proofs.Ytafkpfhhmmnpeaa.Val
open Go Go.RowKit
set_option maxRecDepth 100000

/-- An item, as plain data. -/
structure It where
  k : Val
  v : Pl
  d : Nat
def It.cells (x : It) : List Value := [.bool x.k.t, .int .i64 x.k.n, .string x.k.s, .bool x.v.a.t, .int .i64 x.v.a.n, .string x.v.a.s, .bool x.v.b.t, .int .i64 x.v.b.n, .string x.v.b.s, .bool x.v.c.t, .int .i64 x.v.c.n, .string x.v.c.s, .bool x.v.d.t, .int .i64 x.v.d.n, .string x.v.d.s, .int .i64 x.v.w, .int .i64 x.v.m, .int .i64 x.d]
abbrev It.val (x : It) : Value := .agg #[.bool x.k.t, .int .i64 x.k.n, .string x.k.s, .bool x.v.a.t, .int .i64 x.v.a.n, .string x.v.a.s, .bool x.v.b.t, .int .i64 x.v.b.n, .string x.v.b.s, .bool x.v.c.t, .int .i64 x.v.c.n, .string x.v.c.s, .bool x.v.d.t, .int .i64 x.v.d.n, .string x.v.d.s, .int .i64 x.v.w, .int .i64 x.v.m, .int .i64 x.d]
def It.zero : It := ⟨Val.zero, Pl.zero, 0⟩
theorem It.cells_length (x : It) : x.cells.length = 18 := rfl
abbrev icells (l : List It) : List Value := l.flatMap It.cells
theorem icells_length (l : List It) : (icells l).length = l.length * 18 := flat_length _ 18 It.cells_length l
theorem icells_append (a b : List It) : icells (a ++ b) = icells a ++ icells b := List.flatMap_append
theorem icells_one (l : List It) : ∀ u ∈ icells l, u.oneCell' = true := by
  intro u hu
  obtain ⟨x, _, hx⟩ := List.mem_flatMap.1 hu
  simp only [It.cells, List.mem_cons, List.not_mem_nil, or_false] at hx
  rcases hx with rfl | rfl | rfl | rfl | rfl | rfl | rfl | rfl | rfl | rfl | rfl | rfl | rfl | rfl | rfl | rfl | rfl | rfl <;> rfl

/-- Where cells lie in a row of cells. -/
def Seg (cur : List Value) (o : Nat) (xs : List Value) : Prop := ∀ j u, xs[j]? = some u → cur[o + j]? = some u
theorem Seg.nil (cur : List Value) (o : Nat) : Seg cur o [] := fun j u h => by simp at h
theorem Seg.app {cur : List Value} {o : Nat} {a b : List Value} (h : Seg cur o a) (k : Seg cur (o + a.length) b) : Seg cur o (a ++ b) := fun j u hj => by
  by_cases c : j < a.length
  · exact h j u (by rwa [List.getElem?_append_left c] at hj)
  · rw [List.getElem?_append_right (by omega)] at hj
    have := k _ _ hj
    rwa [show o + a.length + (j - a.length) = o + j by omega] at this
theorem Seg.left {cur : List Value} {o : Nat} {a b : List Value} (h : Seg cur o (a ++ b)) : Seg cur o a := fun j u hj => h j u (by
  rw [List.getElem?_append_left (List.getElem?_eq_some_iff.1 hj).1]; exact hj)
theorem Seg.right {cur : List Value} {o : Nat} {a b : List Value} (h : Seg cur o (a ++ b)) : Seg cur (o + a.length) b := fun j u hj => by
  have := h (a.length + j) u (by rw [List.getElem?_append_right (by omega), Nat.add_sub_cancel_left]; exact hj)
  rwa [Nat.add_assoc]
theorem splice_get (L : List Value) (off : Nat) (cs : List Value) (h : off + cs.length ≤ L.length) (j : Nat) :
    (splice L off cs)[j]? = if off ≤ j ∧ j < off + cs.length then cs[j - off]? else L[j]? := by
  unfold splice
  have l1 : (L.take off).length = off := by simp; omega
  by_cases c1 : j < off
  · rw [if_neg (by omega), List.getElem?_append_left (by omega), List.getElem?_take, if_pos c1]
  · rw [List.getElem?_append_right (by omega), l1]
    by_cases c2 : j < off + cs.length
    · rw [if_pos ⟨by omega, c2⟩, List.getElem?_append_left (by omega)]
    · rw [if_neg (by omega), List.getElem?_append_right (by omega), List.getElem?_drop]
      congr 1; omega
theorem Seg.put (L : List Value) (off : Nat) (cs : List Value) (h : off + cs.length ≤ L.length) : Seg (splice L off cs) off cs := fun j u hj => by
  have := (List.getElem?_eq_some_iff.1 hj).1
  rw [splice_get _ _ _ h, if_pos (by omega), Nat.add_sub_cancel_left]; exact hj
theorem Seg.far {L : List Value} {o off : Nat} {xs cs : List Value} (k : Seg L o xs) (h : off + cs.length ≤ L.length) (hd : o + xs.length ≤ off ∨ off + cs.length ≤ o) : Seg (splice L off cs) o xs := fun j u hj => by
  have := (List.getElem?_eq_some_iff.1 hj).1
  rw [splice_get _ _ _ h, if_neg (by omega)]; exact k j u hj
/-- Cells are as they were but for the 90 from a place on. -/
structure Node (o : Nat) (L L' : List Value) : Prop where
  len : L'.length = L.length
  out : ∀ j, j < o ∨ o + 90 ≤ j → L'[j]? = L[j]?
theorem Node.refl (o : Nat) (L : List Value) : Node o L L := ⟨rfl, fun _ _ => rfl⟩
theorem Node.trans {o : Nat} {a b c : List Value} (h : Node o a b) (k : Node o b c) : Node o a c := ⟨k.len.trans h.len, fun j hj => (k.out j hj).trans (h.out j hj)⟩
theorem Node.put {o off : Nat} {L cs : List Value} (h : off + cs.length ≤ L.length) (h1 : o ≤ off) (h2 : off + cs.length ≤ o + 90) : Node o L (splice L off cs) :=
  ⟨length_splice _ _ _ h, fun j hj => by rw [splice_get _ _ _ h, if_neg (by omega)]⟩
theorem Node.seg {o p : Nat} {L L' xs : List Value} (h : Node o L L') (k : Seg L p xs) (hd : p + xs.length ≤ o ∨ o + 90 ≤ p) : Seg L' p xs := fun j u hj => by
  have := (List.getElem?_eq_some_iff.1 hj).1
  rw [h.out _ (by omega)]; exact k j u hj

abbrev TI : TypeId := 105
abbrev TT : TypeId := 101
abbrev TN : TypeId := 3
/-- Where a tree lies: its own block, and its three slices. -/
structure Hd where
  p : Nat
  av : Value
  fv : Value
  rv : Value
def Hd.has (h : Hd) (k : Nat) : Prop := k = h.p ∨ h.av.ownBlock = some k ∨ h.fv.ownBlock = some k ∨ h.rv.ownBlock = some k
/-- The rows of so many nodes lie in the arena. -/
def Arena (w : World) (v : Value) (R : Nat → List It) (m : Nat) : Prop :=
  (v = .slice none 0 0 ∧ m = 0) ∨ ∃ g cap cur, v = .slice (some ⟨g, 0, none⟩) (m * 5) cap ∧ w.heap[g]? = some (.cells (List.toArray cur) TI (0, 0)) ∧ m * 5 ≤ cap ∧ cap ≤ maxLen ∧ cur.length = cap * 18 ∧
    ∀ n, n < m → (R n).length ≤ 5 ∧ Seg cur (n * 90) (icells (R n))
abbrev fcells (F : Nat → Nat) (m : Nat) : List Value := (List.range m).map fun n => .int .i64 (F n)
abbrev ncells (l : List Nat) : List Value := l.map fun (n : Nat) => .int .i64 n
/-- A tree in memory; its arena has room for so many nodes, counts are there for so many. -/
structure TMx (w : World) (h : Hd) (R : Nat → List It) (F : Nat → Nat) (ma m : Nat) (fr : List Nat) (root dep cnt : Nat) : Prop where
  box : w.heap[h.p]? = some (.cells #[h.av, h.fv, h.rv, .int .i64 root, .int .i64 dep, .int .i64 cnt] TT (0, 0))
  arena : Arena w h.av R ma
  fill : w.ownsRow 0 TN 1 h.fv m (fcells F m)
  free : w.ownsRow 0 TN 1 h.rv fr.length (ncells fr)
  ap : h.av.ownBlock ≠ some h.p
  fp : h.fv.ownBlock ≠ some h.p
  rp : h.rv.ownBlock ≠ some h.p
  af : ∀ k, h.av.ownBlock = some k → h.fv.ownBlock ≠ some k
  ar : ∀ k, h.av.ownBlock = some k → h.rv.ownBlock ≠ some k
  fr' : ∀ k, h.fv.ownBlock = some k → h.rv.ownBlock ≠ some k

abbrev TM (w : World) (h : Hd) (R : Nat → List It) (F : Nat → Nat) (m : Nat) (fr : List Nat) (root dep cnt : Nat) : Prop := TMx w h R F m m fr root dep cnt

theorem ownsRow_sv {w w' : World} {X : Nat → Prop} {base size n : Nat} {e : TypeId} {v : Value} {xs : List Value} (h : w.ownsRow base e size v n xs) (hs : Sv X w w') (hx : ∀ k, v.ownBlock = some k → ¬ X k) : w'.ownsRow base e size v n xs := by
  refine ⟨h.1, ?_⟩
  rcases h.2 with hn | ⟨g, cap, cur, rfl, hb, hg, rest⟩
  · exact .inl hn
  · refine .inr ⟨g, cap, cur, rfl, hb, ?_, rest⟩
    rw [hs.block g (Array.getElem?_eq_some_iff.1 hg).1 (hx g rfl)]; exact hg
theorem Arena.sv {w w' : World} {X : Nat → Prop} {v : Value} {R : Nat → List It} {m : Nat} (h : Arena w v R m) (hs : Sv X w w') (hx : ∀ k, v.ownBlock = some k → ¬ X k) : Arena w' v R m := by
  rcases h with hn | ⟨g, cap, cur, rfl, hg, rest⟩
  · exact .inl hn
  · refine .inr ⟨g, cap, cur, rfl, ?_, rest⟩
    rw [hs.block g (Array.getElem?_eq_some_iff.1 hg).1 (hx g rfl)]; exact hg
theorem Arena.lt {w : World} {v : Value} {R : Nat → List It} {m : Nat} (h : Arena w v R m) : ∀ k, v.ownBlock = some k → k < w.heap.size := by
  intro k hk
  rcases h with ⟨rfl, _⟩ | ⟨g, cap, cur, rfl, hg, _⟩
  · simp [Value.ownBlock] at hk
  · simp [Value.ownBlock] at hk; subst hk; exact (Array.getElem?_eq_some_iff.1 hg).1
section
variable {w w' : World} {h : Hd} {R : Nat → List It} {F : Nat → Nat} {ma m : Nat} {fr : List Nat} {root dep cnt : Nat}
theorem TMx.lt (t : TMx w h R F ma m fr root dep cnt) : ∀ k, h.has k → k < w.heap.size := by
  intro k hk
  rcases hk with rfl | hk | hk | hk
  · exact (Array.getElem?_eq_some_iff.1 t.box).1
  · exact t.arena.lt k hk
  · exact (t.fill.lt k hk).2
  · exact (t.free.lt k hk).2
theorem TMx.sv {X : Nat → Prop} (t : TMx w h R F ma m fr root dep cnt) (hs : Sv X w w') (hx : ∀ k, h.has k → ¬ X k) : TMx w' h R F ma m fr root dep cnt :=
  ⟨by rw [hs.block _ (Array.getElem?_eq_some_iff.1 t.box).1 (hx _ (.inl rfl))]; exact t.box, t.arena.sv hs fun k hk => hx k (.inr (.inl hk)), ownsRow_sv t.fill hs fun k hk => hx k (.inr (.inr (.inl hk))), ownsRow_sv t.free hs fun k hk => hx k (.inr (.inr (.inr hk))),
    t.ap, t.fp, t.rp, t.af, t.ar, t.fr'⟩
theorem TMx.below (t : TMx w h R F ma m fr root dep cnt) (hb : Below w.heap.size w w') : TMx w' h R F ma m fr root dep cnt := t.sv (X := Nothing) (Sv.of hb) fun _ _ h => h
/-- The cells of the tree's own block. -/
theorem TMx.c (t : TMx w h R F ma m fr root dep cnt) : w.cell? ⟨h.p, 0, none⟩ = some h.av ∧ w.cell? ⟨h.p, 1, none⟩ = some h.fv ∧ w.cell? ⟨h.p, 2, none⟩ = some h.rv ∧ w.cell? ⟨h.p, 3, none⟩ = some (.int .i64 root) ∧ w.cell? ⟨h.p, 4, none⟩ = some (.int .i64 dep) ∧ w.cell? ⟨h.p, 5, none⟩ = some (.int .i64 cnt) := by
  have := t.box
  refine ⟨?_, ?_, ?_, ?_, ?_, ?_⟩ <;> simp [World.cell?, this]
theorem TMx.open (t : TMx w h R F ma m fr root dep cnt) (j : Nat) : w.frozen? ⟨h.p, j, none⟩ = false := by simp [World.frozen?, t.box]
end

/-- What a step of a tree's does: nothing to others; its blocks are those it had, and new ones. -/
structure Mv (w : World) (h : Hd) (w' : World) (h' : Hd) : Prop where
  sv : Sv h.has w w'
  p : h'.p = h.p
  own : ∀ k, h'.has k → h.has k ∨ w.heap.size ≤ k
theorem Mv.refl (w : World) (h : Hd) : Mv w h w h := ⟨Sv.refl _ _, rfl, fun _ h => .inl h⟩
theorem Mv.trans {w w1 w2 : World} {h h1 h2 : Hd} (a : Mv w h w1 h1) (b : Mv w1 h1 w2 h2) : Mv w h w2 h2 := by
  refine ⟨⟨b.sv.os.trans a.sv.os, b.sv.tape.trans a.sv.tape, b.sv.output.trans a.sv.output, Nat.le_trans a.sv.size b.sv.size, fun k hk hx => ?_⟩, b.p.trans a.p, fun k hk => ?_⟩
  · refine (b.sv.block k (Nat.lt_of_lt_of_le hk a.sv.size) fun h1 => ?_).trans (a.sv.block k hk hx)
    rcases a.own k h1 with h2 | h2
    · exact hx h2
    · omega
  · rcases b.own k hk with h1 | h1
    · exact a.own k h1
    · exact .inr (Nat.le_trans a.sv.size h1)
theorem Mv.of {w w' : World} {h : Hd} (hb : Below w.heap.size w w') : Mv w h w' h := ⟨Sv.of hb, rfl, fun _ h => .inl h⟩
theorem Mv.below {w w' : World} {h h' : Hd} (a : Mv w h w' h') {B : Nat} (hB : B ≤ w.heap.size) (hx : ∀ k, h.has k → B ≤ k) : Below B w w' := a.sv.below hB fun k hk hh => by have := hx k hh; omega
end Go.Proofs.Ytafkpfhhmmnpeaa.Val
/- append, copy and clear within a row that lies anywhere in a block, of elements of whatever size: their runs, and as operations of a walk. -/
namespace Go.Proofs.Ytafkpfhhmmnpeaa.Val
open Go Go.RowKit
set_option maxRecDepth 100000
variable {P : Program}

theorem run_append_in (w : World) (t ty e : TypeId) (i : TypeInfo) (ht : P.underlying t = some (.slice e)) (hi : P.info? e = some i)
    (g o n cap : Nat) (cur : List Value) (hg : w.heap[g]? = some (.cells cur.toArray e (0, 0)))
    (a : Addr) (m c : Nat) (news : List Value) (hl : news.length = m * i.size) (hnews : ∀ j u, news[j]? = some u → w.cell? (a.add j) = some u) (h1 : ∀ u ∈ news, u.oneCell' = true)
    (hroom : n + m ≤ cap) (hfit : o + n * i.size + news.length ≤ cur.length) :
    (Builtin.append_ #[t, t] ty #[.slice (some ⟨g, o, none⟩) n cap, .slice (some a) m c]).run P w =
      .ok (.slice (some ⟨g, o, none⟩) (n + m) cap) (w.setRow g (splice cur (o + n * i.size) news).toArray) := by
  have hf := run_firstCells_some (P := P) w i.size m a m c news hl hnews
  have hst := run_storeCells_at P g (o + n * i.size) e news 0 cur.toArray w hg (by simpa using hfit) h1
  simp only [Nat.add_zero, List.append_assoc] at hst
  have hadd : (⟨g, o, none⟩ : Addr).add (n * i.size) = ⟨g, o + n * i.size, none⟩ := by unfold Addr.add; split <;> simp_all
  simp [Builtin.append_, run_underlying ht, sizeOf, typeInfo, hi, Builtin.lenOf, hroom, hf, hadd, hst, splice]
theorem run_copy_in (w : World) (dT sT ty e : TypeId) (i : TypeInfo) (ht : P.underlying dT = some (.slice e)) (hi : P.info? e = some i) (g o dLen dCap : Nat) (a : Addr) (sLen sCap : Nat) (cur : List Value) (t : TypeId) (cs : List Value)
    (hg : w.heap[g]? = some (.cells cur.toArray t (0, 0))) (hn : cs.length = Nat.min sLen dLen * i.size) (hsrc : ∀ j v, cs[j]? = some v → w.cell? (a.add j) = some v) (hfit : o + cs.length ≤ cur.length) (h1 : ∀ v ∈ cs, v.oneCell' = true) :
    (Builtin.copy_ #[dT, sT] ty #[.slice (some ⟨g, o, none⟩) dLen dCap, .slice (some a) sLen sCap]).run P w =
      .ok (goInt (Nat.min sLen dLen)) (w.setRow g (splice cur o cs).toArray) := by
  have hl := run_loadCells_list (P := P) w a cs hsrc
  have hst := run_storeCells_at P g o t cs 0 cur.toArray w hg (by simpa using hfit) h1
  simp only [Nat.add_zero, List.append_assoc] at hst
  simp [Builtin.copy_, run_underlying ht, Builtin.lenOf, Builtin.firstCells, sizeOf, typeInfo, hi, ← hn, hl, hst, splice]
/-- Nothing goes over. -/
theorem run_copy_no (w : World) (dT sT ty e : TypeId) (i : TypeInfo) (ht : P.underlying dT = some (.slice e)) (hi : P.info? e = some i) (d a : Option Addr) (dLen dCap sLen sCap : Nat) (hn : Nat.min sLen dLen = 0) :
    (Builtin.copy_ #[dT, sT] ty #[.slice d dLen dCap, .slice a sLen sCap]).run P w = .ok (goInt 0) w := by
  have hl : ∀ (x : Addr), (loadCells x 0).run P w = .ok #[] w := fun x => by simpa using run_loadCells_list (P := P) w x [] (by simp)
  cases d <;> cases a <;> simp [Builtin.copy_, run_underlying ht, Builtin.lenOf, Builtin.firstCells, sizeOf, typeInfo, hi, hn, storeCells, hl]
theorem run_clear_in (w : World) (t ty e : TypeId) (i : TypeInfo) (z : Value) (ht : P.underlying t = some (.slice e)) (hi : P.info? e = some i) (hz : i.zero = some z) (g o n cap : Nat) (cur : List Value) (te : TypeId)
    (hg : w.heap[g]? = some (.cells cur.toArray te (0, 0))) (h0 : 0 < n) (hfit : o + (Builtin.zeroCells z.cells n).toList.length ≤ cur.length) (h1 : ∀ v ∈ (Builtin.zeroCells z.cells n).toList, v.oneCell' = true) :
    (Builtin.clear_ #[t] ty #[.slice (some ⟨g, o, none⟩) n cap]).run P w = .ok (.tuple #[]) (w.setRow g (splice cur o (Builtin.zeroCells z.cells n).toList).toArray) := by
  have hst := run_storeCells_at P g o te (Builtin.zeroCells z.cells n).toList 0 cur.toArray w hg (by simpa using hfit) h1
  simp only [Nat.add_zero, List.append_assoc] at hst
  obtain ⟨q, rfl⟩ : ∃ q, n = q + 1 := ⟨n - 1, by omega⟩
  simp [Builtin.clear_, run_underlying ht, zeroValue, typeInfo, hi, hz, hst, splice]

section
variable {w : World} {ops : Array Oper} {rest : List Oper} {o : Oper} {a : Act} {Q : Exit → Act → World → Prop} {K : Act → World → Prop} {E : Prop}
theorem wpList_append_known (hgd : o.guard = none) (s x : Operand) (t tn : TypeId) (ho : o.op = .call { callee := .builtin .append, args := #[s, x], argTypes := #[t, tn] }) (vs vx : Value) (hs : a.eval s = vs) (hx : a.eval x = vx)
    (v' : Value) (w' : World) (hr : (Builtin.append_ #[t, tn] o.type #[vs, vx]).run P w = .ok v' w') (h : wpList P ops Q rest (a.put o.dst v') w') : wpList P ops Q (o :: rest) a w := by
  refine wpList_plain hgd fun K hK => ?_
  unfold Oper.wp
  simp [execOp, ho, resolve, invoke, builtin, hs, hx, hr, Result.andThen]
  exact hK _ _ h
theorem step_append_known (hgd : o.guard = none) (s x : Operand) (t tn : TypeId) (ho : o.op = .call { callee := .builtin .append, args := #[s, x], argTypes := #[t, tn] }) (vs vx : Value) (hs : a.eval s = vs) (hx : a.eval x = vx)
    (v' : Value) (w' : World) (hr : (Builtin.append_ #[t, tn] o.type #[vs, vx]).run P w = .ok v' w') (h : K (a.put o.dst v') w') : if Region.wanted o (yielded ops a.tmps) = true then Oper.wp P o a w K Q else E := by
  rw [if_pos (by simp [Region.wanted, hgd])]
  unfold Oper.wp
  simp [execOp, ho, resolve, invoke, builtin, hs, hx, hr, Result.andThen]
  exact h
theorem wpList_copy_known (hgd : o.guard = none) (d s : Operand) (dT sT : TypeId) (ho : o.op = .call { callee := .builtin .copy, args := #[d, s], argTypes := #[dT, sT] }) (vd vs : Value) (hd : a.eval d = vd) (hs : a.eval s = vs)
    (v' : Value) (w' : World) (hr : (Builtin.copy_ #[dT, sT] o.type #[vd, vs]).run P w = .ok v' w') (h : wpList P ops Q rest (a.put o.dst v') w') : wpList P ops Q (o :: rest) a w := by
  refine wpList_plain hgd fun K hK => ?_
  unfold Oper.wp
  simp [execOp, ho, resolve, invoke, builtin, hd, hs, hr, Result.andThen]
  exact hK _ _ h
theorem step_copy_known (hgd : o.guard = none) (d s : Operand) (dT sT : TypeId) (ho : o.op = .call { callee := .builtin .copy, args := #[d, s], argTypes := #[dT, sT] }) (vd vs : Value) (hd : a.eval d = vd) (hs : a.eval s = vs)
    (v' : Value) (w' : World) (hr : (Builtin.copy_ #[dT, sT] o.type #[vd, vs]).run P w = .ok v' w') (h : K (a.put o.dst v') w') : if Region.wanted o (yielded ops a.tmps) = true then Oper.wp P o a w K Q else E := by
  rw [if_pos (by simp [Region.wanted, hgd])]
  unfold Oper.wp
  simp [execOp, ho, resolve, invoke, builtin, hd, hs, hr, Result.andThen]
  exact h
theorem wpList_clear_known (hgd : o.guard = none) (s : Operand) (t : TypeId) (ho : o.op = .call { callee := .builtin .clear, args := #[s], argTypes := #[t] }) (vs : Value) (hs : a.eval s = vs)
    (v' : Value) (w' : World) (hr : (Builtin.clear_ #[t] o.type #[vs]).run P w = .ok v' w') (h : wpList P ops Q rest (a.put o.dst v') w') : wpList P ops Q (o :: rest) a w := by
  refine wpList_plain hgd fun K hK => ?_
  unfold Oper.wp
  simp [execOp, ho, resolve, invoke, builtin, hs, hr, Result.andThen]
  exact hK _ _ h
end
end Go.Proofs.Ytafkpfhhmmnpeaa.Val
/- What the tree's row answers: where a node's items lie. -/
namespace Go.Proofs.Ytafkpfhhmmnpeaa.Val
open Go Go.RowKit
set_option maxRecDepth 100000

theorem fcells_at (F : Nat → Nat) (m n : Nat) (hn : n < m) : (fcells F m)[n]? = some (.int .i64 (F n)) := by simp [hn]
/-- Where the counts lie. -/
theorem TMx.fillAt {w : World} {h : Hd} {R : Nat → List It} {F : Nat → Nat} {m : Nat} {fr : List Nat} {root dep cnt : Nat} (t : TM w h R F m fr root dep cnt) (n : Nat) (hn : n < m) :
    ∃ g c, h.fv = .slice (some ⟨g, 0, none⟩) m c ∧ w.cell? ⟨g, n, none⟩ = some (.int .i64 (F n)) ∧ w.frozen? ⟨g, n, none⟩ = false ∧ g ≠ h.p ∧ m ≤ maxLen := by
  rcases t.fill.2 with ⟨_, h0⟩ | ⟨g, cap, cur, e, _, hg, hc, hm, hs, ht⟩
  · omega
  · refine ⟨g, cap, e, ?_, ?_, fun e' => t.fp (by rw [e, e']; rfl), by omega⟩
    · have h1 := t.fill
      rw [e] at h1
      rw [World.ownsRow.cellAt h1 n (by omega)]
      exact fcells_at F m n hn
    · have h1 := t.fill
      rw [e] at h1
      exact World.ownsRow.frozenAt h1 n
theorem TMx.arenaAt {w : World} {h : Hd} {R : Nat → List It} {F : Nat → Nat} {m : Nat} {fr : List Nat} {root dep cnt : Nat} (t : TM w h R F m fr root dep cnt) (hm : 0 < m) :
    ∃ g cap cur, h.av = .slice (some ⟨g, 0, none⟩) (m * 5) cap ∧ w.heap[g]? = some (.cells (List.toArray cur) TI (0, 0)) ∧ m * 5 ≤ cap ∧ cap ≤ maxLen ∧ cur.length = cap * 18 ∧
    ∀ n, n < m → (R n).length ≤ 5 ∧ Seg cur (n * 90) (icells (R n)) := by
  rcases t.arena with ⟨_, h0⟩ | h
  · omega
  · exact h
theorem add_25 (n : Nat) : n * 5 * 18 = n * 90 := by omega
set_option maxHeartbeats 1000000 in
theorem row_any {w : World} {h : Hd} {R : Nat → List It} {F : Nat → Nat} {m : Nat} {fr : List Nat} {root dep cnt : Nat} (t : TM w h R F m fr root dep cnt) (n : Nat) (hn : n < m) (hF : F n ≤ 5) (g cap : Nat) (hav : h.av = .slice (some ⟨g, 0, none⟩) (m * 5) cap) :
    Calls Try.prog 53 #[.pointer (some ⟨h.p, 0, none⟩), .int .i64 n] w fun e w' => e = .returned (.slice (some ⟨g, n * 90, none⟩) (F n) 5) ∧ Below w.heap.size w w' := by
  obtain ⟨c0, c1, _, _, _, _⟩ := t.c
  obtain ⟨gf, cf, hf, hcf, _, hgf, hmx⟩ := t.fillAt n hn
  obtain ⟨g', cap', cur, e', _, hc1, hc2, _⟩ := t.arenaAt (by omega)
  rw [e'] at hav
  cases hav
  rw [e'] at c0
  rw [hf] at c1
  clear t e' hf
  have hn0 : (0 : Int) ≤ (n : Int) := by omega
  have hn1 : (n : Int) < (m : Int) := by omega
  unfold maxLen at hc2 hmx
  have a1 : (n : Int) * 5 ≤ 9223372036854775807 := by omega
  have a2 : (0 : Int) ≤ (n : Int) * 5 := by omega
  have a3 : (n : Int) * 5 + (F n : Int) ≤ 9223372036854775807 := by omega
  have a4 : (n : Int) * 5 + 5 ≤ 9223372036854775807 := by omega
  have a5 : (n : Int) * 5 + 5 ≤ (cap : Int) := by omega
  have e1 : IntKind.i64.wrap ((n : Int) * 5 + (F n : Int)) = (n : Int) * 5 + (F n : Int) := by rw [IntKind.wrap_i64]; omega
  have e2 : IntKind.i64.wrap ((n : Int) * 5 + 5) = (n : Int) * 5 + 5 := by rw [IntKind.wrap_i64]; omega
  have hsl : ∀ w', (Instr.slice 98 (.slice (some ⟨g, 0, none⟩) (m * 5) cap) (some (.int .i64 ((n : Int) * 5))) (some (.int .i64 ((n : Int) * 5 + (F n : Int)))) (some (.int .i64 ((n : Int) * 5 + 5)))).run Try.prog w' = .ok (.slice (some ⟨g, n * 90, none⟩) (F n) 5) w' := fun w' => by
    have n1 : ((n : Int) * 5).toNat = n * 5 := by omega
    have n2 : ((n : Int) * 5 + (F n : Int)).toNat = n * 5 + F n := by omega
    have n3 : ((n : Int) * 5 + 5).toNat = n * 5 + 5 := by omega
    have b1 : (n : Int) * 5 + 5 ≤ (cap : Int) := by omega
    have b2 : (n : Int) * 5 + (F n : Int) ≤ (n : Int) * 5 + 5 := by omega
    have b3 : (n : Int) * 5 ≤ (n : Int) * 5 + (F n : Int) := by omega
    have b4 : (0 : Int) ≤ (n : Int) * 5 + (F n : Int) := by omega
    have b5 : (0 : Int) ≤ (n : Int) * 5 + 5 := by omega
    simp [Instr.slice, Instr.sliceBounds, Instr.sliceBound, run_underlying Try.underlying98, asIntOf, n1, n2, n3, b1, b2, b3, b4, b5, a2, Addr.add_lit]
  go_enter Try.func53, Try.ntmps53
  go_wp2_with fail
  go_quiet (fail)
  go_wp2_with fail
  go_ret
  exact ⟨rfl, below_drewN (Below.refl _ _) _⟩
end Go.Proofs.Ytafkpfhhmmnpeaa.Val
