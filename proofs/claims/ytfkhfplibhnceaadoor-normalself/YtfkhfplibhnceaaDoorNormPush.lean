/- Plain: predicates without PNot. No program. -/
import Derived.Test.YtfkhfplibhnceaaDoorPredCheck
import Derived.Test.YtfkhfplibhnceaaDoorRowFitsP
namespace Go.Proofs.YtfkhfplibhnceaaDoor.Val
open Go Go.RowKit

def oppO (o : Int) : Int := if o = 3 then 4 else if o = 4 then 3 else if o = 5 then 8 else if o = 6 then 7 else if o = 7 then 6 else if o = 8 then 5 else 0
/-- A leaf, in no memory. -/
def lfN (o c : Int) (v w : Val) : PT := .mk o c v w (.slice none 0 0) []
/-- A leaf, or its opposite. -/
def pushL (o c : Int) (v w : Val) (b : Bool) : PT :=
  if o = 1 ∨ o = 2 then lfN (if b then 3 - o else o) 0 Val.zero Val.zero
  else if b then (if o = 9 then .mk 12 0 Val.zero Val.zero (.slice none 0 0) [lfN 5 c v Val.zero, lfN 7 c w Val.zero] else lfN (oppO o) c v Val.zero)
  else lfN o c v w
/-- A predicate, or its opposite, without PNot. -/
def pushP : PT → Bool → PT
  | .mk o c v w _ l => fun b =>
    if o = 10 then (((l.map pushP).head?).map fun f => f (!b)).getD PT.zero
    else if o = 11 ∨ o = 12 then .mk (if b then 23 - o else o) 0 Val.zero Val.zero (.slice none 0 0) ((l.map pushP).map fun f => f b)
    else pushL o c v w b
theorem push_mk (o c : Int) (v w : Val) (lv : Value) (l : List PT) (b : Bool) : pushP (.mk o c v w lv l) b =
    if o = 10 then (((l.map pushP).head?).map fun f => f (!b)).getD PT.zero
    else if o = 11 ∨ o = 12 then .mk (if b then 23 - o else o) 0 Val.zero Val.zero (.slice none 0 0) (l.map fun q => pushP q b)
    else pushL o c v w b := by rw [pushP]; simp only [List.map_map]; rfl
theorem push_10 {p : PT} {b : Bool} (h : p.op = 10) (q : PT) (hq : p.l = [q]) : pushP p b = pushP q (!b) := by
  cases p with | mk o c v u lv l => 
    obtain rfl : o = 10 := h
    obtain rfl : l = [q] := hq
    rw [push_mk, if_pos rfl]; rfl
theorem push_list {p : PT} {b : Bool} (h : p.op = 11 ∨ p.op = 12) : pushP p b = .mk (if b then 23 - p.op else p.op) 0 Val.zero Val.zero (.slice none 0 0) (p.l.map fun q => pushP q b) := by
  cases p with | mk o c v u lv l =>
    have h' : o = 11 ∨ o = 12 := h
    rw [push_mk, if_neg (by omega), if_pos h']
theorem push_leaf {p : PT} {b : Bool} (h1 : p.op ≠ 10) (h2 : p.op ≠ 11) (h3 : p.op ≠ 12) : pushP p b = pushL p.op p.col p.v p.w b := by
  cases p with | mk o c v u lv l =>
    have e1 : o ≠ 10 := h1
    have e2 : o ≠ 11 := h2
    have e3 : o ≠ 12 := h3
    rw [push_mk, if_neg e1, if_neg (by omega)]
theorem lfN_bare (o c : Int) (v w : Val) : (lfN o c v w).bare = lfN o c v w := by unfold lfN; rw [bare_mk]; rfl
theorem pushL_bare (o c : Int) (v w : Val) (b : Bool) : (pushL o c v w b).bare = pushL o c v w b := by
  unfold pushL
  split
  · exact lfN_bare _ _ _ _
  · split
    · split
      · rw [bare_mk]; simp [lfN_bare]
      · exact lfN_bare _ _ _ _
    · exact lfN_bare _ _ _ _

/-- It may be a table's, but for how many parts it has. -/
def Good (cols : List Bool) (p : PT) : Prop := okP (suitP cols) p = true
theorem Good.suit {cols : List Bool} {p : PT} (h : Good cols p) : suitP cols p = true := by unfold Good at h; rw [okP_mk, Bool.and_eq_true] at h; exact h.1
theorem Good.part {cols : List Bool} {p : PT} (h : Good cols p) : ∀ q ∈ p.l, Good cols q := by
  unfold Good at h
  rw [okP_mk, Bool.and_eq_true, List.all_eq_true] at h
  intro q hq
  have := h.2 (okP (suitP cols) q) (List.mem_map.2 ⟨q, hq, rfl⟩)
  exact this
theorem Good.mk {cols : List Bool} {p : PT} (h : suitP cols p = true) (hl : ∀ q ∈ p.l, Good cols q) : Good cols p := by
  unfold Good
  rw [okP_mk, h, Bool.true_and, List.all_eq_true]
  intro b hb
  obtain ⟨q, hq, rfl⟩ := List.mem_map.1 hb
  exact hl q hq
/-- What kinds there are. -/
theorem suit_cases {cols : List Bool} {p : PT} (h : suitP cols p = true) :
    ((p.op = 1 ∨ p.op = 2) ∧ p.l = []) ∨ ((3 ≤ p.op ∧ p.op ≤ 8) ∧ p.l = [] ∧ ofB cols p.col p.v = true) ∨ (p.op = 9 ∧ p.l = [] ∧ ofB cols p.col p.v = true ∧ ofB cols p.col p.w = true) ∨ (p.op = 10 ∧ ∃ q, p.l = [q]) ∨ ((p.op = 11 ∨ p.op = 12) ∧ p.l ≠ []) := by
  unfold suitP suitO at h
  split at h
  · exact .inl ⟨‹_›, List.eq_nil_of_length_eq_zero (by simpa using h)⟩
  split at h
  · rw [Bool.and_eq_true] at h
    exact .inr (.inl ⟨‹_›, List.eq_nil_of_length_eq_zero (by simpa using h.1), h.2⟩)
  split at h
  · rw [Bool.and_eq_true, Bool.and_eq_true] at h
    exact .inr (.inr (.inl ⟨‹_›, List.eq_nil_of_length_eq_zero (by simpa using h.1), h.2.1, h.2.2⟩))
  split at h
  · refine .inr (.inr (.inr (.inl ⟨‹_›, ?_⟩)))
    have hl : p.l.length = 1 := by simpa using h
    match p.l, hl with
    | [q], _ => exact ⟨q, rfl⟩
  split at h
  · refine .inr (.inr (.inr (.inr ⟨‹_›, fun e => ?_⟩)))
    rw [e] at h
    simp at h
  · cases h
theorem push_bare (p : PT) : ∀ b, (pushP p b).bare = pushP p b := by
  induction p using PT.ind with
  | h p ih =>
    intro b
    by_cases h10 : p.op = 10
    · cases p with | mk o c v u lv l =>
      obtain rfl : o = 10 := h10
      rw [push_mk, if_pos rfl]
      cases l with
      | nil => simp [PT.zero, bare_mk]
      | cons q l => exact ih q (List.mem_cons_self ..) (!b)
    · by_cases h11 : p.op = 11 ∨ p.op = 12
      · rw [push_list h11, bare_mk, List.map_map]
        congr 1
        exact List.map_congr_left fun q hq => ih q hq b
      · rw [push_leaf h10 (by omega) (by omega)]; exact pushL_bare _ _ _ _ _
/-- It has no PNot. -/
def noNot : PT → Bool
  | .mk o _ _ _ _ l => (l.map noNot).all id && o != 10
theorem noNot_mk (p : PT) : noNot p = ((p.l.map noNot).all id && p.op != 10) := by cases p; rw [noNot]
theorem push_noNot {cols : List Bool} (p : PT) : Good cols p → ∀ b, noNot (pushP p b) = true := by
  induction p using PT.ind with
  | h p ih =>
    intro hg b
    rcases suit_cases hg.suit with ⟨h, hl⟩ | ⟨h, hl, _⟩ | ⟨h, hl, _⟩ | ⟨h, q, hl⟩ | ⟨h, hl⟩
    · rw [push_leaf (by omega) (by omega) (by omega), pushL, if_pos h]
      rcases h with h | h <;> cases b <;> simp [lfN, noNot_mk, h]
    · rw [push_leaf (by omega) (by omega) (by omega), pushL, if_neg (by omega)]
      cases b
      · simp [lfN, noNot_mk]; omega
      · have : p.op = 3 ∨ p.op = 4 ∨ p.op = 5 ∨ p.op = 6 ∨ p.op = 7 ∨ p.op = 8 := by omega
        rcases this with h' | h' | h' | h' | h' | h' <;> simp [lfN, noNot_mk, h', oppO]
    · rw [push_leaf (by omega) (by omega) (by omega), pushL, if_neg (by omega)]
      cases b <;> simp [lfN, noNot_mk, h]
    · rw [push_10 h q hl]; exact ih q (by rw [hl]; simp) (hg.part q (by rw [hl]; simp)) _
    · rw [push_list h, noNot_mk, List.map_map]
      rw [Bool.and_eq_true, List.all_eq_true]
      refine ⟨fun x hx => ?_, ?_⟩
      · obtain ⟨q, hq, rfl⟩ := List.mem_map.1 hx
        exact ih q hq (hg.part q hq) b
      · cases b <;> simp <;> omega
theorem noNot_bare (p : PT) : noNot p.bare = noNot p := by
  induction p using PT.ind with
  | h p ih => cases p with | mk o c v w lv l => rw [bare_mk, noNot_mk, noNot_mk]; exact congrArg (fun x => x.all id && o != 10) (map_bare noNot l ih)
theorem noNot_of_bare {p q : PT} (h : p.bare = q.bare) : noNot p = noNot q := by rw [← noNot_bare p, h, noNot_bare]
/-- A column that there is. -/
theorem of_col {cols : List Bool} {col : Int} {x : Val} (h : ofB cols col x = true) : ∃ k : Nat, col = (k : Int) ∧ k < cols.length := by
  unfold ofB isCol at h
  simp only [Bool.and_eq_true, decide_eq_true_eq] at h
  exact ⟨col.toNat, by omega, by omega⟩
theorem stand_opp {o c d d' : Int} (h : 3 ≤ o ∧ o ≤ 8) : standB (oppO o) c d' = !standB o c d := by
  have : o = 3 ∨ o = 4 ∨ o = 5 ∨ o = 6 ∨ o = 7 ∨ o = 8 := by omega
  rcases this with rfl | rfl | rfl | rfl | rfl | rfl
  · simp [standB, oppO]; rw [Bool.eq_iff_iff]; simp
  · simp [standB, oppO]; rw [Bool.eq_iff_iff]; simp
  · simp [standB, oppO]; rw [Bool.eq_iff_iff]; simp
  · simp [standB, oppO]; rw [Bool.eq_iff_iff]; simp
  · simp [standB, oppO]; rw [Bool.eq_iff_iff]; simp
  · simp [standB, oppO]; rw [Bool.eq_iff_iff]; simp
theorem holds_lf {r : List Val} {o : Int} {k : Nat} {v w : Val} (hk : k < r.length) (h : 3 ≤ o ∧ o ≤ 9) : holdsP r (lfN o (k : Int) v w) = standB o (cmpX r[k] v) (cmpX r[k] w) := by
  rw [holds_leaf (p := lfN o (k : Int) v w) (by show o ≠ 1; omega) (by show o ≠ 10; omega) (by show o ≠ 11; omega) (by show o ≠ 12; omega)]
  exact leaf_at hk
theorem holds_one {r : List Val} {v w : Val} {c : Int} : holdsP r (lfN 1 c v w) = true := holds_1 rfl
theorem leaf_two {r : List Val} {c : Int} {v w : Val} : leafB r 2 c v w = false := by
  unfold leafB
  split
  · rfl
  · split
    · rfl
    · simp [standB]
theorem holds_two {r : List Val} {p : PT} (h : p.op = 2) : holdsP r p = false := by
  rw [holds_leaf (by omega) (by omega) (by omega) (by omega), h]; exact leaf_two
/-- Without PNot it says the same. -/
theorem push_holds {cols : List Bool} {r : List Val} (hr : r.length = cols.length) (p : PT) : Good cols p → ∀ b, holdsP r (pushP p b) = (holdsP r p != b) := by
  induction p using PT.ind with
  | h p ih =>
    intro hg b
    rcases suit_cases hg.suit with ⟨h, hl⟩ | ⟨h, hl, ho⟩ | ⟨h, hl, ho, ho'⟩ | ⟨h, q, hl⟩ | ⟨h, hl⟩
    · rw [push_leaf (by omega) (by omega) (by omega), pushL, if_pos h]
      rcases h with h | h
      · rw [holds_1 h, h]
        cases b
        · simpa using holds_one
        · simpa using holds_two (p := lfN 2 0 Val.zero Val.zero) rfl
      · rw [holds_two h, h]
        cases b
        · simpa using holds_two (p := lfN 2 0 Val.zero Val.zero) rfl
        · simpa using holds_one
    · obtain ⟨k, hk, hlt⟩ := of_col ho
      have e : holdsP r p = standB p.op (cmpX (r[k]'(by omega)) p.v) (cmpX (r[k]'(by omega)) p.w) := by
        rw [holds_leaf (by omega) (by omega) (by omega) (by omega), hk]; exact leaf_at _
      rw [push_leaf (by omega) (by omega) (by omega), pushL, if_neg (by omega), e, hk]
      cases b
      · rw [if_neg (by simp), holds_lf (by omega) ⟨h.1, by omega⟩]; simp
      · rw [if_pos rfl, if_neg (by omega), holds_lf (by omega) (by unfold oppO; omega), stand_opp h (d := cmpX (r[k]'(by omega)) p.w)]; simp
    · obtain ⟨k, hk, hlt⟩ := of_col ho
      have e : holdsP r p = standB p.op (cmpX (r[k]'(by omega)) p.v) (cmpX (r[k]'(by omega)) p.w) := by
        rw [holds_leaf (by omega) (by omega) (by omega) (by omega), hk]; exact leaf_at _
      rw [push_leaf (by omega) (by omega) (by omega), pushL, if_neg (by omega), e, hk]
      cases b
      · rw [if_neg (by simp), holds_lf (by omega) ⟨by omega, by omega⟩]; simp
      · rw [if_pos rfl, if_pos h, h]
        rw [holds_12 rfl]
        simp only [List.map_cons, List.map_nil, holds_lf (show k < r.length by omega) (show (3 : Int) ≤ 5 ∧ (5 : Int) ≤ 9 by omega), holds_lf (show k < r.length by omega) (show (3 : Int) ≤ 7 ∧ (7 : Int) ≤ 9 by omega)]
        generalize cmpX (r[k]'(by omega)) p.v = c
        generalize cmpX (r[k]'(by omega)) p.w = d
        rw [Bool.eq_iff_iff]
        simp [standB]
    · rw [push_10 h q hl, ih q (by rw [hl]; simp) (hg.part q (by rw [hl]; simp)), holds_10 h, hl]
      cases b <;> simp
    · rw [push_list h]
      have hm : (p.l.map fun q => pushP q b).map (holdsP r) = (p.l.map (holdsP r)).map (fun x => x != b) := by
        rw [List.map_map, List.map_map]
        exact List.map_congr_left fun q hq => ih q hq (hg.part q hq) b
      rcases h with h | h
      · cases b
        · rw [holds_11 (p := .mk _ _ _ _ _ _) (by simp [h]), holds_11 h]; simp only; rw [hm]; simp [Function.comp_def]
        · rw [holds_12 (p := .mk _ _ _ _ _ _) (by simp [h]), holds_11 h]; simp only; rw [hm]; simp [List.any_map, List.all_map, List.not_all_eq_any_not, Function.comp_def]
      · cases b
        · rw [holds_12 (p := .mk _ _ _ _ _ _) (by simp [h]), holds_12 h]; simp only; rw [hm]; simp [Function.comp_def]
        · rw [holds_11 (p := .mk _ _ _ _ _ _) (by simp [h]), holds_12 h]; simp only; rw [hm]; simp [List.any_map, List.all_map, List.not_any_eq_all_not, Function.comp_def]
end Go.Proofs.YtfkhfplibhnceaaDoor.Val
