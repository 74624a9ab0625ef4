/- Plain: the span of a predicate's keys; what is normal stays so. No program. -/
import Derived.Test.YtfkhfplibhnceaaDoorNormPush
import Derived.Test.YtfkhfplibhnceaaDoorNormMath
import Derived.Test.YtfkhfplibhnceaaDoorPredOwn
namespace Go.Proofs.YtfkhfplibhnceaaDoor.Val
open Go Go.RowKit

def leafS (o : Int) (v w : Val) : Sp := if o = 3 then btw (closedE v) (closedE v) else if o = 5 then btw En.zero (openE v) else if o = 6 then btw En.zero (closedE v) else if o = 7 then btw (openE v) En.zero else if o = 8 then btw (closedE v) En.zero else if o = 9 then btw (closedE v) (closedE w) else Sp.all
/-- The span of the keys of which it may hold. -/
def keysP : PT → Sp
  | .mk o c v w _ l => if o = 2 then Sp.none else if o = 11 then (l.map keysP).foldl meetS Sp.all else if o = 12 then (l.map keysP).foldl hullS Sp.none else if c ≠ 0 then Sp.all else leafS o v w
theorem keys_mk (p : PT) : keysP p = if p.op = 2 then Sp.none else if p.op = 11 then (p.l.map keysP).foldl meetS Sp.all else if p.op = 12 then (p.l.map keysP).foldl hullS Sp.none else if p.col ≠ 0 then Sp.all else leafS p.op p.v p.w := by cases p; rw [keysP]
theorem keys_bare (p : PT) : keysP p.bare = keysP p := by
  induction p using PT.ind with
  | h p ih => cases p with | mk o c v w lv l => rw [bare_mk, keys_mk, keys_mk]; simp only; rw [map_bare keysP l ih]
theorem keys_of_bare {p q : PT} (h : p.bare = q.bare) : keysP p = keysP q := by rw [← keys_bare p, h, keys_bare]
theorem clean_btw {lo hi : En} (hl : wfE lo) (hh : wfE hi) : cleanS (btw lo hi) = btw lo hi := by
  cases h : apartE lo hi
  · have e : btw lo hi = ⟨false, lo.has, lo.op, lo.x, hi.has, hi.op, hi.x⟩ := by unfold btw; rw [h]; rfl
    have e2 : cleanS ⟨false, lo.has, lo.op, lo.x, hi.has, hi.op, hi.x⟩ = btw (lowE ⟨false, lo.has, lo.op, lo.x, hi.has, hi.op, hi.x⟩) (uppE ⟨false, lo.has, lo.op, lo.x, hi.has, hi.op, hi.x⟩) := rfl
    rw [e, e2, low_btw hl, upp_btw hh, e]
  · have e : btw lo hi = Sp.none := by unfold btw; rw [h]; rfl
    rw [e]; rfl
theorem clean_meet (a b : Sp) : cleanS (meetS a b) = meetS a b := by
  unfold meetS meetC
  split
  · rfl
  · exact clean_btw (wf_inner (wf_low _) (wf_low _)) (wf_inner (wf_upp _) (wf_upp _))
theorem clean_hull (a b : Sp) : cleanS (hullS a b) = hullS a b := by
  unfold hullS hullC
  split
  · exact clean_clean b
  · split
    · exact clean_clean a
    · exact clean_btw (wf_outer (wf_low _) (wf_low _)) (wf_outer (wf_upp _) (wf_upp _))
theorem wf_closed (v : Val) : wfE (closedE v) := .inl rfl
theorem wf_open (v : Val) : wfE (openE v) := .inl rfl
theorem clean_leaf (o : Int) (v w : Val) : cleanS (leafS o v w) = leafS o v w := by
  unfold leafS
  repeat (split; · first | exact clean_btw (wf_closed _) (wf_closed _) | exact clean_btw wf_zero (wf_open _) | exact clean_btw wf_zero (wf_closed _) | exact clean_btw (wf_open _) wf_zero | exact clean_btw (wf_closed _) wf_zero)
  exact clean_all
theorem clean_foldM (ks : List Sp) : ∀ s, cleanS s = s → cleanS (ks.foldl meetS s) = ks.foldl meetS s := by
  induction ks with
  | nil => intro s h; exact h
  | cons k ks ih => intro s _; exact ih _ (clean_meet s k)
theorem clean_foldH (ks : List Sp) : ∀ s, cleanS s = s → cleanS (ks.foldl hullS s) = ks.foldl hullS s := by
  induction ks with
  | nil => intro s h; exact h
  | cons k ks ih => intro s _; exact ih _ (clean_hull s k)
theorem clean_keys (p : PT) : cleanS (keysP p) = keysP p := by
  rw [keys_mk]
  split
  · rfl
  split
  · exact clean_foldM _ _ clean_all
  split
  · exact clean_foldH _ _ clean_none
  split
  · exact clean_all
  · exact clean_leaf _ _ _
/-- From the first one on. -/
theorem foldM_cons {k : Sp} (h : cleanS k = k) (ks : List Sp) : (k :: ks).foldl meetS Sp.all = ks.foldl meetS k := by rw [List.foldl_cons, meet_all, h]
theorem foldH_cons {k : Sp} (h : cleanS k = k) (ks : List Sp) : (k :: ks).foldl hullS Sp.none = ks.foldl hullS k := by rw [List.foldl_cons, hull_none, h]
theorem within_foldM (ks : List Sp) (v : Val) : ∀ s, withinS (ks.foldl meetS s) v = (withinS s v && ks.all fun k => withinS k v) := by
  induction ks with
  | nil => intro s; simp
  | cons k ks ih => intro s; rw [List.foldl_cons, ih, within_meet, List.all_cons, Bool.and_assoc]
theorem within_foldH (ks : List Sp) (v : Val) : ∀ s, (withinS s v || ks.any fun k => withinS k v) = true → withinS (ks.foldl hullS s) v = true := by
  induction ks with
  | nil => intro s h; simpa using h
  | cons k ks ih =>
    intro s h
    rw [List.foldl_cons]
    refine ih _ ?_
    rw [List.any_cons, ← Bool.or_assoc, Bool.or_eq_true] at h
    rcases h with h | h
    · rw [hull_has s k v h]; rfl
    · rw [h, Bool.or_true]
theorem lo_closed (v x : Val) : loB (closedE v) x = !decide (cmpX x v < 0) := by
  rw [loB_eq, isZ_closed]
  have t := turnX x v
  show (false || !sideB (cmpX v x) false) = _
  rw [t]
  generalize cmpX x v = c
  rw [Bool.eq_iff_iff]; simp [sideB]; try omega
theorem hi_closed (v x : Val) : hiB (closedE v) x = decide (cmpX x v ≤ 0) := by
  rw [hiB_eq, isZ_closed]
  show (false || !sideB (cmpX x v) false) = _
  generalize cmpX x v = c
  rw [Bool.eq_iff_iff]; simp [sideB]; try omega
theorem lo_open (v x : Val) : loB (openE v) x = decide (0 < cmpX x v) := by
  rw [loB_eq, isZ_has (e := openE v) rfl]
  have t := turnX x v
  show (false || !sideB (cmpX v x) true) = _
  rw [t]
  generalize cmpX x v = c
  rw [Bool.eq_iff_iff]; simp [sideB]; try omega
theorem hi_open (v x : Val) : hiB (openE v) x = decide (cmpX x v < 0) := by
  rw [hiB_eq, isZ_has (e := openE v) rfl]
  show (false || !sideB (cmpX x v) true) = _
  generalize cmpX x v = c
  rw [Bool.eq_iff_iff]; simp [sideB]; try omega
theorem leaf_within {o : Int} {v w x : Val} (h : standB o (cmpX x v) (cmpX x w) = true) : withinS (leafS o v w) x = true := by
  unfold leafS
  by_cases h3 : o = 3
  · subst h3; rw [if_pos rfl, within_btw (wf_closed _) (wf_closed _), lo_closed, hi_closed]; simp [standB] at h; simp [h]
  rw [if_neg h3]
  by_cases h5 : o = 5
  · subst h5; rw [if_pos rfl, within_btw wf_zero (wf_open _), loB_zero, hi_open]; simp [standB] at h; simp [h]
  rw [if_neg h5]
  by_cases h6 : o = 6
  · subst h6; rw [if_pos rfl, within_btw wf_zero (wf_closed _), loB_zero, hi_closed]; simp [standB] at h; simp [h]
  rw [if_neg h6]
  by_cases h7 : o = 7
  · subst h7; rw [if_pos rfl, within_btw (wf_open _) wf_zero, hiB_zero, lo_open]; simp [standB] at h; simp [h]
  rw [if_neg h7]
  by_cases h8 : o = 8
  · subst h8; rw [if_pos rfl, within_btw (wf_closed _) wf_zero, hiB_zero, lo_closed]; simp [standB] at h; simp [h]
  rw [if_neg h8]
  by_cases h9 : o = 9
  · subst h9; rw [if_pos rfl, within_btw (wf_closed _) (wf_closed _), lo_closed, hi_closed]; simp [standB] at h; simp [h]
  rw [if_neg h9]
  exact within_all x
/-- What it holds of has its key within the span. -/
theorem keys_within {x : Val} {r : List Val} (p : PT) : holdsP (x :: r) p = true → withinS (keysP p) x = true := by
  induction p using PT.ind with
  | h p ih =>
    intro h
    rw [keys_mk]
    by_cases h2 : p.op = 2
    · rw [holds_two h2] at h; cases h
    rw [if_neg h2]
    by_cases h11 : p.op = 11
    · rw [if_pos h11, within_foldM, within_all, Bool.true_and, List.all_eq_true]
      rw [holds_11 h11, List.all_eq_true] at h
      intro k hk
      obtain ⟨q, hq, rfl⟩ := List.mem_map.1 hk
      exact ih q hq (h _ (List.mem_map.2 ⟨q, hq, rfl⟩))
    rw [if_neg h11]
    by_cases h12 : p.op = 12
    · rw [if_pos h12]
      refine within_foldH _ _ _ ?_
      rw [holds_12 h12, List.any_eq_true] at h
      obtain ⟨b, hb, hb'⟩ := h
      obtain ⟨q, hq, rfl⟩ := List.mem_map.1 hb
      rw [Bool.or_eq_true, List.any_eq_true]
      exact .inr ⟨keysP q, List.mem_map.2 ⟨q, hq, rfl⟩, ih q hq hb'⟩
    rw [if_neg h12]
    by_cases hc : p.col ≠ 0
    · rw [if_pos hc]; exact within_all x
    rw [if_neg hc]
    have hc' : p.col = ((0 : Nat) : Int) := by omega
    by_cases h1 : p.op = 1
    · rw [h1]; exact within_all x
    by_cases h10 : p.op = 10
    · rw [h10]; exact within_all x
    rw [holds_leaf h1 h10 h11 h12, hc', leaf_at (by simp)] at h
    exact leaf_within h
theorem push_one {b : Bool} {c : Int} {v w : Val} {o : Int} (h : o ≠ 10) (h1 : o ≠ 11) (h2 : o ≠ 12) : pushP (lfN o c v w) b = pushL o c v w b := push_leaf (p := lfN o c v w) h h1 h2
theorem opp_range {o : Int} (h : 3 ≤ o ∧ o ≤ 8) : 3 ≤ oppO o ∧ oppO o ≤ 8 := by unfold oppO; omega
/-- What is normal stays so. -/
theorem push_push {cols : List Bool} (p : PT) : Good cols p → ∀ b, pushP (pushP p b) false = pushP p b := by
  induction p using PT.ind with
  | h p ih =>
    intro hg b
    rcases suit_cases hg.suit with ⟨h, hl⟩ | ⟨h, hl, ho⟩ | ⟨h, hl, ho, ho'⟩ | ⟨h, q, hl⟩ | ⟨h, hl⟩
    · rw [push_leaf (p := p) (by omega) (by omega) (by omega), pushL, if_pos h]
      have : (if b = true then 3 - p.op else p.op) = 1 ∨ (if b = true then 3 - p.op else p.op) = 2 := by cases b <;> simp <;> omega
      generalize (if b = true then 3 - p.op else p.op) = o at this
      rw [push_one (by omega) (by omega) (by omega), pushL, if_pos this]; rfl
    · rw [push_leaf (p := p) (by omega) (by omega) (by omega), pushL, if_neg (by omega)]
      cases b
      · simp only [Bool.false_eq_true, if_false]
        rw [push_one (by omega) (by omega) (by omega), pushL, if_neg (by omega)]; rfl
      · have := opp_range h
        rw [if_pos rfl, if_neg (by omega), push_one (by omega) (by omega) (by omega), pushL, if_neg (by omega)]; rfl
    · rw [push_leaf (p := p) (by omega) (by omega) (by omega), pushL, if_neg (by omega)]
      cases b
      · simp only [Bool.false_eq_true, if_false]
        rw [push_one (by omega) (by omega) (by omega), pushL, if_neg (by omega)]; rfl
      · rw [if_pos rfl, if_pos h, push_list (.inr rfl)]
        simp only [List.map_cons, List.map_nil, Bool.false_eq_true, if_false]
        rw [push_one (by decide) (by decide) (by decide), push_one (by decide) (by decide) (by decide)]; rfl
    · rw [push_10 (p := p) h q hl]; exact ih q (by rw [hl]; simp) (hg.part q (by rw [hl]; simp)) _
    · rw [push_list (p := p) h]
      have : (if b = true then 23 - p.op else p.op) = 11 ∨ (if b = true then 23 - p.op else p.op) = 12 := by cases b <;> simp <;> omega
      generalize (if b = true then 23 - p.op else p.op) = o at this
      rw [push_list this]
      simp only [Bool.false_eq_true, if_false, List.map_map]
      congr 1
      exact List.map_congr_left fun q hq => ih q hq (hg.part q hq) b
theorem suit_lf {cols : List Bool} {o c : Int} {v w : Val} (h : 3 ≤ o ∧ o ≤ 8) (ho : ofB cols c v = true) : Good cols (lfN o c v w) := by
  refine .mk ?_ (by simp [lfN])
  show suitO cols o c v w 0 = true
  unfold suitO
  rw [if_neg (by omega), if_pos h, ho]; rfl
theorem push_good {cols : List Bool} (p : PT) : Good cols p → ∀ b, Good cols (pushP p b) := by
  induction p using PT.ind with
  | h p ih =>
    intro hg b
    rcases suit_cases hg.suit with ⟨h, hl⟩ | ⟨h, hl, ho⟩ | ⟨h, hl, ho, ho'⟩ | ⟨h, q, hl⟩ | ⟨h, hl⟩
    · rw [push_leaf (by omega) (by omega) (by omega), pushL, if_pos h]
      have : (if b = true then 3 - p.op else p.op) = 1 ∨ (if b = true then 3 - p.op else p.op) = 2 := by cases b <;> simp <;> omega
      generalize (if b = true then 3 - p.op else p.op) = o at this
      refine .mk ?_ (by simp [lfN])
      show suitO cols o 0 Val.zero Val.zero 0 = true
      unfold suitO
      rw [if_pos this]; rfl
    · rw [push_leaf (by omega) (by omega) (by omega), pushL, if_neg (by omega)]
      cases b
      · exact suit_lf h ho
      · rw [if_pos rfl, if_neg (by omega)]; exact suit_lf (opp_range h) ho
    · rw [push_leaf (by omega) (by omega) (by omega), pushL, if_neg (by omega)]
      cases b
      · refine .mk ?_ (by simp [lfN])
        show suitO cols p.op p.col p.v p.w 0 = true
        unfold suitO
        rw [if_neg (by omega), if_neg (by omega), if_pos h, ho, ho']; rfl
      · rw [if_pos rfl, if_pos h]
        refine .mk (show suitO cols 12 0 Val.zero Val.zero 2 = true by simp [suitO]) fun q hq => ?_
        simp only [List.mem_cons, List.not_mem_nil, or_false] at hq
        rcases hq with rfl | rfl
        · exact suit_lf (by omega) ho
        · exact suit_lf (by omega) ho'
    · rw [push_10 h q hl]; exact ih q (by rw [hl]; simp) (hg.part q (by rw [hl]; simp)) _
    · rw [push_list h]
      have : (if b = true then 23 - p.op else p.op) = 11 ∨ (if b = true then 23 - p.op else p.op) = 12 := by cases b <;> simp <;> omega
      generalize (if b = true then 23 - p.op else p.op) = o at this
      refine .mk ?_ fun x hx => ?_
      · show suitO cols o 0 Val.zero Val.zero (p.l.map fun q => pushP q b).length = true
        unfold suitO
        rw [if_neg (by omega), if_neg (by omega), if_neg (by omega), if_neg (by omega), if_pos this, List.length_map]
        have : p.l.length ≠ 0 := fun e => hl (List.eq_nil_of_length_eq_zero e)
        simp; omega
      · obtain ⟨q, hq, rfl⟩ := List.mem_map.1 hx
        exact ih q hq (hg.part q hq) b
theorem push_size (p : PT) : ∀ b, (pushP p b).size ≤ 3 * p.size := by
  induction p using PT.ind with
  | h p ih =>
    intro b
    have hp := size_pos p
    by_cases h10 : p.op = 10
    · cases p with | mk o c v u lv l =>
      obtain rfl : o = 10 := h10
      rw [push_mk, if_pos rfl]
      cases l with
      | nil => simp [PT.zero, size_mk]
      | cons q l =>
        have h1 := ih q (List.mem_cons_self ..) (!b)
        have h2 := size_part (p := .mk 10 c v u lv (q :: l)) (q := q) (List.mem_cons_self ..)
        show (pushP q (!b)).size ≤ _
        omega
    · by_cases h11 : p.op = 11 ∨ p.op = 12
      · rw [push_list h11, size_mk, size_l p]
        have : ∀ l : List PT, (∀ q ∈ l, (pushP q b).size ≤ 3 * q.size) → ((l.map fun q => pushP q b).map PT.size).sum ≤ 3 * sizeL l := by
          intro l
          induction l with
          | nil => simp [sizeL]
          | cons q l ihl =>
            intro hl
            have h1 := hl q (List.mem_cons_self ..)
            have h2 := ihl fun x hx => hl x (List.mem_cons_of_mem _ hx)
            rw [sizeL_cons]
            simp only [List.map_cons, List.sum_cons]
            omega
        have := this p.l fun q hq => ih q hq b
        omega
      · rw [push_leaf h10 (by omega) (by omega)]
        have e : ∀ o c v w, (lfN o c v w).size = 1 := fun o c v w => by simp [lfN, size_mk]
        have : (pushL p.op p.col p.v p.w b).size ≤ 3 := by
          unfold pushL
          split
          · rw [e]; omega
          · split
            · split
              · rw [size_mk]; simp [e]
              · rw [e]; omega
            · rw [e]; omega
        omega
/-- Normal's answer. -/
def normP (cols : List Bool) (p : PT) : PT := if checkN cols p = 0 then pushP p false else lfN 2 0 Val.zero Val.zero
theorem check_iff {cols : List Bool} {p : PT} : checkN cols p = 0 ↔ mayT cols = true ∧ p.size ≤ 15 ∧ Good cols p := by
  unfold checkN mayP Good
  cases mayT cols
  · simp
  · by_cases h : p.size ≤ 15
    · cases okP (suitP cols) p <;> simp [h]
    · simp [h]
theorem check_may {cols : List Bool} {p : PT} : (checkN cols p = 0) ↔ (mayT cols && mayP cols p) = true := by
  unfold checkN
  cases mayT cols <;> cases mayP cols p <;> simp
theorem norm_bare (cols : List Bool) (p : PT) : (normP cols p).bare = normP cols p := by
  unfold normP
  split
  · exact push_bare p false
  · exact lfN_bare _ _ _ _
theorem norm_size (cols : List Bool) (p : PT) : (normP cols p).size ≤ 3 * p.size := by
  unfold normP
  split
  · exact push_size p false
  · have := size_pos p
    have e : (lfN 2 0 Val.zero Val.zero).size = 1 := by simp [lfN, size_mk]
    omega
/-- Keys's answer. -/
def keysN (cols : List Bool) (p : PT) : Sp := keysP (normP cols p)
theorem keysN_no {cols : List Bool} {p : PT} (h : checkN cols p ≠ 0) : keysN cols p = Sp.none := by unfold keysN normP; rw [if_neg h, keys_mk]; rfl
end Go.Proofs.YtfkhfplibhnceaaDoor.Val
