/- A row's values can be read. -/
import Derived.Test.YtfkhfplibhnceaaDoorU1
import Derived.Test.YtfkhfplibhnceaaDoorUS
import Derived.Test.YtfkhfplibhnceaaDoorU4
namespace Go.Proofs.YtfkhfplibhnceaaDoor.Val
open Go Go.RowKit

/-- Memory's facts on a row's values: they can be read. -/
def RowOk (xs : List Val) : Prop := ∀ x ∈ xs, fits x.n = true ∧ x.s.size ≤ maxLen
end Go.Proofs.YtfkhfplibhnceaaDoor.Val
/- What the reference's Right answers, for any value. -/
namespace Go.Proofs.YtfkhfplibhnceaaDoor.Val
open Go.RowKit

set_option maxHeartbeats 400000 in
theorem rright_text (n : Int) (s : ByteArray) (w : World) (hs : s.size ≤ maxLen) (b : Bool) (h : (n == 0) = b) :
    Calls Tryd.prog 45 #[V true n s] w fun e w' => e = .returned (.bool (b && decide (s.size ≤ 12))) ∧ Below w.heap.size w w' := by
  unfold maxLen at hs
  cases b
  · go_enter Tryd.func45, Tryd.ntmps45
    go_wp2
    go_ret
    exact ⟨rfl, (Below.refl _ _).alloc (Nat.le_refl _) _⟩
  · go_enter Tryd.func45, Tryd.ntmps45
    go_wp2
    go_ret
    exact ⟨by simp; omega, (Below.refl _ _).alloc (Nat.le_refl _) _⟩
set_option maxHeartbeats 400000 in
theorem rright_number (n : Int) (s : ByteArray) (w : World) :
    Calls Tryd.prog 45 #[V false n s] w fun e w' => e = .returned (.bool s.toList.isEmpty) ∧ Below w.heap.size w w' := by
  go_enter Tryd.func45, Tryd.ntmps45
  go_wp2
  go_ret
  exact ⟨rfl, (Below.refl _ _).alloc (Nat.le_refl _) _⟩
theorem rright_any (t : Bool) (n : Int) (s : ByteArray) (w : World) (hs : s.size ≤ maxLen) :
    Calls Tryd.prog 45 #[V t n s] w fun e w' => e = .returned (.bool (rightV t n s)) ∧ Below w.heap.size w w' := by
  cases t
  · exact rright_number n s w
  · exact rright_text n s w hs _ rfl
end Go.Proofs.YtfkhfplibhnceaaDoor.Val
/- Plain: when a row fits a table. -/
namespace Go.Proofs.YtfkhfplibhnceaaDoor.Val
open Go.RowKit

/-- May a value stand in a column? -/
def suitV (c : Bool) (x : Val) : Bool := rightV x.t x.n x.s && x.t == c
def fitsL (cols : List Bool) (xs : List Val) : Bool := (cols.zip xs).all fun p => suitV p.1 p.2
/-- Does a row fit a table that may be? -/
def fitsRow (cols : List Bool) (xs : List Val) : Bool := mayT cols && decide (xs.length = cols.length) && fitsL cols xs
theorem fitsL_iff {cols : List Bool} {xs : List Val} : fitsL cols xs = true ↔ ∀ k (h1 : k < cols.length) (h2 : k < xs.length), suitV cols[k] xs[k] = true := by
  unfold fitsL
  rw [List.all_eq_true]
  refine ⟨fun h k h1 h2 => ?_, fun h p hp => ?_⟩
  · exact h (cols[k], xs[k]) (List.mem_iff_getElem.2 ⟨k, by simp; omega, by simp⟩)
  · obtain ⟨k, hk, rfl⟩ := List.mem_iff_getElem.1 hp
    rw [List.length_zip] at hk
    simpa using h k (by omega) (by omega)
theorem fitsL_no {cols : List Bool} {xs : List Val} {k : Nat} (h1 : k < cols.length) (h2 : k < xs.length) (h : suitV cols[k] xs[k] = false) : fitsL cols xs = false := by
  cases e : fitsL cols xs
  · rfl
  · rw [fitsL_iff.1 e k h1 h2] at h; cases h
/-- So far all suit. -/
def FitsTo (cols : List Bool) (xs : List Val) (k : Nat) : Prop := ∀ j (h1 : j < cols.length) (h2 : j < xs.length), j < k → suitV cols[j] xs[j] = true
theorem FitsTo.zero (cols : List Bool) (xs : List Val) : FitsTo cols xs 0 := fun j _ _ h => by omega
theorem FitsTo.next {cols : List Bool} {xs : List Val} {k : Nat} (h : FitsTo cols xs k) (h1 : k < cols.length) (h2 : k < xs.length) (hs : suitV cols[k] xs[k] = true) : FitsTo cols xs (k + 1) := fun j g1 g2 hj => by
  by_cases e : j = k
  · subst e; exact hs
  · exact h j g1 g2 (by omega)
theorem FitsTo.all {cols : List Bool} {xs : List Val} {k : Nat} (h : FitsTo cols xs k) (hk : xs.length ≤ k) : fitsL cols xs = true := fitsL_iff.2 fun j h1 h2 => h j h1 h2 (by omega)
theorem fitsRow_may {cols : List Bool} {xs : List Val} (h : mayT cols = false) : fitsRow cols xs = false := by unfold fitsRow; rw [h]; rfl
theorem fitsRow_len {cols : List Bool} {xs : List Val} (h : ¬ xs.length = cols.length) : fitsRow cols xs = false := by unfold fitsRow; rw [decide_eq_false h]; simp
theorem fitsRow_of {cols : List Bool} {xs : List Val} (h : mayT cols = true) (hl : xs.length = cols.length) : fitsRow cols xs = fitsL cols xs := by unfold fitsRow; rw [h, decide_eq_true hl]; rfl
end Go.Proofs.YtfkhfplibhnceaaDoor.Val
/- Plain: predicates without PNot. No program. -/
namespace Go.Proofs.YtfkhfplibhnceaaDoor.Val
open Go Go.RowKit

def oppO (o : Int) : Int := if o = 3 then 4 else if o = 4 then 3 else if o = 5 then 8 else if o = 6 then 7 else if o = 7 then 6 else if o = 8 then 5 else 0
/-- A leaf, in no memory. -/
def lfN (o c : Int) (v w : Val) : PT := .mk o c v w (.slice none 0 0) []
/-- A leaf, or its opposite. -/
def pushL (o c : Int) (v w : Val) (b : Bool) : PT :=
  if o = 1 ∨ o = 2 then lfN (if b then 3 - o else o) 0 Val.zero Val.zero
  else if b then (if o = 9 then .mk 12 0 Val.zero Val.zero (.slice none 0 0) [lfN 5 c v Val.zero, lfN 7 c w Val.zero] else lfN (oppO o) c v Val.zero)
  else lfN o c v w
/-- A predicate, or its opposite, without PNot. -/
def pushP : PT → Bool → PT
  | .mk o c v w _ l => fun b =>
    if o = 10 then (((l.map pushP).head?).map fun f => f (!b)).getD PT.zero
    else if o = 11 ∨ o = 12 then .mk (if b then 23 - o else o) 0 Val.zero Val.zero (.slice none 0 0) ((l.map pushP).map fun f => f b)
    else pushL o c v w b
theorem push_mk (o c : Int) (v w : Val) (lv : Value) (l : List PT) (b : Bool) : pushP (.mk o c v w lv l) b =
    if o = 10 then (((l.map pushP).head?).map fun f => f (!b)).getD PT.zero
    else if o = 11 ∨ o = 12 then .mk (if b then 23 - o else o) 0 Val.zero Val.zero (.slice none 0 0) (l.map fun q => pushP q b)
    else pushL o c v w b := by rw [pushP]; simp only [List.map_map]; rfl
theorem push_10 {p : PT} {b : Bool} (h : p.op = 10) (q : PT) (hq : p.l = [q]) : pushP p b = pushP q (!b) := by
  cases p with | mk o c v u lv l => 
    obtain rfl : o = 10 := h
    obtain rfl : l = [q] := hq
    rw [push_mk, if_pos rfl]; rfl
theorem push_list {p : PT} {b : Bool} (h : p.op = 11 ∨ p.op = 12) : pushP p b = .mk (if b then 23 - p.op else p.op) 0 Val.zero Val.zero (.slice none 0 0) (p.l.map fun q => pushP q b) := by
  cases p with | mk o c v u lv l =>
    have h' : o = 11 ∨ o = 12 := h
    rw [push_mk, if_neg (by omega), if_pos h']
theorem push_leaf {p : PT} {b : Bool} (h1 : p.op ≠ 10) (h2 : p.op ≠ 11) (h3 : p.op ≠ 12) : pushP p b = pushL p.op p.col p.v p.w b := by
  cases p with | mk o c v u lv l =>
    have e1 : o ≠ 10 := h1
    have e2 : o ≠ 11 := h2
    have e3 : o ≠ 12 := h3
    rw [push_mk, if_neg e1, if_neg (by omega)]
theorem lfN_bare (o c : Int) (v w : Val) : (lfN o c v w).bare = lfN o c v w := by unfold lfN; rw [bare_mk]; rfl
theorem pushL_bare (o c : Int) (v w : Val) (b : Bool) : (pushL o c v w b).bare = pushL o c v w b := by
  unfold pushL
  split
  · exact lfN_bare _ _ _ _
  · split
    · split
      · rw [bare_mk]; simp [lfN_bare]
      · exact lfN_bare _ _ _ _
    · exact lfN_bare _ _ _ _

/-- It may be a table's, but for how many parts it has. -/
def Good (cols : List Bool) (p : PT) : Prop := okP (suitP cols) p = true
theorem Good.suit {cols : List Bool} {p : PT} (h : Good cols p) : suitP cols p = true := by unfold Good at h; rw [okP_mk, Bool.and_eq_true] at h; exact h.1
theorem Good.part {cols : List Bool} {p : PT} (h : Good cols p) : ∀ q ∈ p.l, Good cols q := by
  unfold Good at h
  rw [okP_mk, Bool.and_eq_true, List.all_eq_true] at h
  intro q hq
  have := h.2 (okP (suitP cols) q) (List.mem_map.2 ⟨q, hq, rfl⟩)
  exact this
theorem Good.mk {cols : List Bool} {p : PT} (h : suitP cols p = true) (hl : ∀ q ∈ p.l, Good cols q) : Good cols p := by
  unfold Good
  rw [okP_mk, h, Bool.true_and, List.all_eq_true]
  intro b hb
  obtain ⟨q, hq, rfl⟩ := List.mem_map.1 hb
  exact hl q hq
/-- What kinds there are. -/
theorem suit_cases {cols : List Bool} {p : PT} (h : suitP cols p = true) :
    ((p.op = 1 ∨ p.op = 2) ∧ p.l = []) ∨ ((3 ≤ p.op ∧ p.op ≤ 8) ∧ p.l = [] ∧ ofB cols p.col p.v = true) ∨ (p.op = 9 ∧ p.l = [] ∧ ofB cols p.col p.v = true ∧ ofB cols p.col p.w = true) ∨ (p.op = 10 ∧ ∃ q, p.l = [q]) ∨ ((p.op = 11 ∨ p.op = 12) ∧ p.l ≠ []) := by
  unfold suitP suitO at h
  split at h
  · exact .inl ⟨‹_›, List.eq_nil_of_length_eq_zero (by simpa using h)⟩
  split at h
  · rw [Bool.and_eq_true] at h
    exact .inr (.inl ⟨‹_›, List.eq_nil_of_length_eq_zero (by simpa using h.1), h.2⟩)
  split at h
  · rw [Bool.and_eq_true, Bool.and_eq_true] at h
    exact .inr (.inr (.inl ⟨‹_›, List.eq_nil_of_length_eq_zero (by simpa using h.1), h.2.1, h.2.2⟩))
  split at h
  · refine .inr (.inr (.inr (.inl ⟨‹_›, ?_⟩)))
    have hl : p.l.length = 1 := by simpa using h
    match p.l, hl with
    | [q], _ => exact ⟨q, rfl⟩
  split at h
  · refine .inr (.inr (.inr (.inr ⟨‹_›, fun e => ?_⟩)))
    rw [e] at h
    simp at h
  · cases h
theorem push_bare (p : PT) : ∀ b, (pushP p b).bare = pushP p b := by
  induction p using PT.ind with
  | h p ih =>
    intro b
    by_cases h10 : p.op = 10
    · cases p with | mk o c v u lv l =>
      obtain rfl : o = 10 := h10
      rw [push_mk, if_pos rfl]
      cases l with
      | nil => simp [PT.zero, bare_mk]
      | cons q l => exact ih q (List.mem_cons_self ..) (!b)
    · by_cases h11 : p.op = 11 ∨ p.op = 12
      · rw [push_list h11, bare_mk, List.map_map]
        congr 1
        exact List.map_congr_left fun q hq => ih q hq b
      · rw [push_leaf h10 (by omega) (by omega)]; exact pushL_bare _ _ _ _ _
/-- It has no PNot. -/
def noNot : PT → Bool
  | .mk o _ _ _ _ l => (l.map noNot).all id && o != 10
theorem noNot_mk (p : PT) : noNot p = ((p.l.map noNot).all id && p.op != 10) := by cases p; rw [noNot]
theorem push_noNot {cols : List Bool} (p : PT) : Good cols p → ∀ b, noNot (pushP p b) = true := by
  induction p using PT.ind with
  | h p ih =>
    intro hg b
    rcases suit_cases hg.suit with ⟨h, hl⟩ | ⟨h, hl, _⟩ | ⟨h, hl, _⟩ | ⟨h, q, hl⟩ | ⟨h, hl⟩
    · rw [push_leaf (by omega) (by omega) (by omega), pushL, if_pos h]
      rcases h with h | h <;> cases b <;> simp [lfN, noNot_mk, h]
    · rw [push_leaf (by omega) (by omega) (by omega), pushL, if_neg (by omega)]
      cases b
      · simp [lfN, noNot_mk]; omega
      · have : p.op = 3 ∨ p.op = 4 ∨ p.op = 5 ∨ p.op = 6 ∨ p.op = 7 ∨ p.op = 8 := by omega
        rcases this with h' | h' | h' | h' | h' | h' <;> simp [lfN, noNot_mk, h', oppO]
    · rw [push_leaf (by omega) (by omega) (by omega), pushL, if_neg (by omega)]
      cases b <;> simp [lfN, noNot_mk, h]
    · rw [push_10 h q hl]; exact ih q (by rw [hl]; simp) (hg.part q (by rw [hl]; simp)) _
    · rw [push_list h, noNot_mk, List.map_map]
      rw [Bool.and_eq_true, List.all_eq_true]
      refine ⟨fun x hx => ?_, ?_⟩
      · obtain ⟨q, hq, rfl⟩ := List.mem_map.1 hx
        exact ih q hq (hg.part q hq) b
      · cases b <;> simp <;> omega
theorem noNot_bare (p : PT) : noNot p.bare = noNot p := by
  induction p using PT.ind with
  | h p ih => cases p with | mk o c v w lv l => rw [bare_mk, noNot_mk, noNot_mk]; exact congrArg (fun x => x.all id && o != 10) (map_bare noNot l ih)
theorem noNot_of_bare {p q : PT} (h : p.bare = q.bare) : noNot p = noNot q := by rw [← noNot_bare p, h, noNot_bare]
/-- A column that there is. -/
theorem of_col {cols : List Bool} {col : Int} {x : Val} (h : ofB cols col x = true) : ∃ k : Nat, col = (k : Int) ∧ k < cols.length := by
  unfold ofB isCol at h
  simp only [Bool.and_eq_true, decide_eq_true_eq] at h
  exact ⟨col.toNat, by omega, by omega⟩
theorem stand_opp {o c d d' : Int} (h : 3 ≤ o ∧ o ≤ 8) : standB (oppO o) c d' = !standB o c d := by
  have : o = 3 ∨ o = 4 ∨ o = 5 ∨ o = 6 ∨ o = 7 ∨ o = 8 := by omega
  rcases this with rfl | rfl | rfl | rfl | rfl | rfl
  · simp [standB, oppO]; rw [Bool.eq_iff_iff]; simp
  · simp [standB, oppO]; rw [Bool.eq_iff_iff]; simp
  · simp [standB, oppO]; rw [Bool.eq_iff_iff]; simp
  · simp [standB, oppO]; rw [Bool.eq_iff_iff]; simp
  · simp [standB, oppO]; rw [Bool.eq_iff_iff]; simp
  · simp [standB, oppO]; rw [Bool.eq_iff_iff]; simp
theorem holds_lf {r : List Val} {o : Int} {k : Nat} {v w : Val} (hk : k < r.length) (h : 3 ≤ o ∧ o ≤ 9) : holdsP r (lfN o (k : Int) v w) = standB o (cmpX r[k] v) (cmpX r[k] w) := by
  rw [holds_leaf (p := lfN o (k : Int) v w) (by show o ≠ 1; omega) (by show o ≠ 10; omega) (by show o ≠ 11; omega) (by show o ≠ 12; omega)]
  exact leaf_at hk
theorem holds_one {r : List Val} {v w : Val} {c : Int} : holdsP r (lfN 1 c v w) = true := holds_1 rfl
theorem leaf_two {r : List Val} {c : Int} {v w : Val} : leafB r 2 c v w = false := by
  unfold leafB
  split
  · rfl
  · split
    · rfl
    · simp [standB]
theorem holds_two {r : List Val} {p : PT} (h : p.op = 2) : holdsP r p = false := by
  rw [holds_leaf (by omega) (by omega) (by omega) (by omega), h]; exact leaf_two
/-- Without PNot it says the same. -/
theorem push_holds {cols : List Bool} {r : List Val} (hr : r.length = cols.length) (p : PT) : Good cols p → ∀ b, holdsP r (pushP p b) = (holdsP r p != b) := by
  induction p using PT.ind with
  | h p ih =>
    intro hg b
    rcases suit_cases hg.suit with ⟨h, hl⟩ | ⟨h, hl, ho⟩ | ⟨h, hl, ho, ho'⟩ | ⟨h, q, hl⟩ | ⟨h, hl⟩
    · rw [push_leaf (by omega) (by omega) (by omega), pushL, if_pos h]
      rcases h with h | h
      · rw [holds_1 h, h]
        cases b
        · simpa using holds_one
        · simpa using holds_two (p := lfN 2 0 Val.zero Val.zero) rfl
      · rw [holds_two h, h]
        cases b
        · simpa using holds_two (p := lfN 2 0 Val.zero Val.zero) rfl
        · simpa using holds_one
    · obtain ⟨k, hk, hlt⟩ := of_col ho
      have e : holdsP r p = standB p.op (cmpX (r[k]'(by omega)) p.v) (cmpX (r[k]'(by omega)) p.w) := by
        rw [holds_leaf (by omega) (by omega) (by omega) (by omega), hk]; exact leaf_at _
      rw [push_leaf (by omega) (by omega) (by omega), pushL, if_neg (by omega), e, hk]
      cases b
      · rw [if_neg (by simp), holds_lf (by omega) ⟨h.1, by omega⟩]; simp
      · rw [if_pos rfl, if_neg (by omega), holds_lf (by omega) (by unfold oppO; omega), stand_opp h (d := cmpX (r[k]'(by omega)) p.w)]; simp
    · obtain ⟨k, hk, hlt⟩ := of_col ho
      have e : holdsP r p = standB p.op (cmpX (r[k]'(by omega)) p.v) (cmpX (r[k]'(by omega)) p.w) := by
        rw [holds_leaf (by omega) (by omega) (by omega) (by omega), hk]; exact leaf_at _
      rw [push_leaf (by omega) (by omega) (by omega), pushL, if_neg (by omega), e, hk]
      cases b
      · rw [if_neg (by simp), holds_lf (by omega) ⟨by omega, by omega⟩]; simp
      · rw [if_pos rfl, if_pos h, h]
        rw [holds_12 rfl]
        simp only [List.map_cons, List.map_nil, holds_lf (show k < r.length by omega) (show (3 : Int) ≤ 5 ∧ (5 : Int) ≤ 9 by omega), holds_lf (show k < r.length by omega) (show (3 : Int) ≤ 7 ∧ (7 : Int) ≤ 9 by omega)]
        generalize cmpX (r[k]'(by omega)) p.v = c
        generalize cmpX (r[k]'(by omega)) p.w = d
        rw [Bool.eq_iff_iff]
        simp [standB]
    · rw [push_10 h q hl, ih q (by rw [hl]; simp) (hg.part q (by rw [hl]; simp)), holds_10 h, hl]
      cases b <;> simp
    · rw [push_list h]
      have hm : (p.l.map fun q => pushP q b).map (holdsP r) = (p.l.map (holdsP r)).map (fun x => x != b) := by
        rw [List.map_map, List.map_map]
        exact List.map_congr_left fun q hq => ih q hq (hg.part q hq) b
      rcases h with h | h
      · cases b
        · rw [holds_11 (p := .mk _ _ _ _ _ _) (by simp [h]), holds_11 h]; simp only; rw [hm]; simp [Function.comp_def]
        · rw [holds_12 (p := .mk _ _ _ _ _ _) (by simp [h]), holds_11 h]; simp only; rw [hm]; simp [List.any_map, List.all_map, List.not_all_eq_any_not, Function.comp_def]
      · cases b
        · rw [holds_12 (p := .mk _ _ _ _ _ _) (by simp [h]), holds_12 h]; simp only; rw [hm]; simp [Function.comp_def]
        · rw [holds_11 (p := .mk _ _ _ _ _ _) (by simp [h]), holds_12 h]; simp only; rw [hm]; simp [List.any_map, List.all_map, List.not_any_eq_all_not, Function.comp_def]
end Go.Proofs.YtfkhfplibhnceaaDoor.Val
/- Plain: what spans say of values. No program. -/
namespace Go.Proofs.YtfkhfplibhnceaaDoor.Val
open Go Go.RowKit

theorem goesX (a b c : Val) : Goes (cmpX a b) (cmpX b c) (cmpX a c) := goesV _ _ _ _ _ _ _ _ _
theorem turnX (a b : Val) : cmpX b a = -cmpX a b := cmpV_turn _ _ _ _ _ _
theorem selfX (a : Val) : cmpX a a = 0 := cmpV_self _ _ _
/-- An end that there is not is the zero value. -/
def wfE (e : En) : Prop := e.has = true ∨ e = En.zero
theorem wf_low (s : Sp) : wfE (lowE s) := by unfold lowE; split; exact .inl rfl; exact .inr rfl
theorem wf_upp (s : Sp) : wfE (uppE s) := by unfold uppE; split; exact .inl rfl; exact .inr rfl
theorem wf_zero : wfE En.zero := .inr rfl
theorem isZ_has {e : En} (h : e.has = true) : isZ e = false := by cases e with | mk a b c => cases h; rfl
theorem isZ_zero : isZ En.zero = true := isZ_iff.2 rfl
theorem isZ_closed (v : Val) : isZ (closedE v) = false := isZ_has rfl
theorem wf_cases {e : En} (h : wfE e) : (isZ e = true ∧ e = En.zero) ∨ (isZ e = false ∧ e.has = true) := by
  rcases h with h | h
  · exact .inr ⟨isZ_has h, h⟩
  · exact .inl ⟨isZ_iff.2 h, h⟩
/-- Does a value lie on the right side of an end? -/
def loB (e : En) (v : Val) : Bool := !apartE e (closedE v)
def hiB (e : En) (v : Val) : Bool := !apartE (closedE v) e
theorem loB_eq (e : En) (v : Val) : loB e v = (isZ e || !sideB (cmpX e.x v) e.op) := by
  unfold loB apartE
  rw [isZ_closed]
  simp [closedE]
theorem hiB_eq (e : En) (v : Val) : hiB e v = (isZ e || !sideB (cmpX v e.x) e.op) := by
  unfold hiB apartE
  rw [isZ_closed]
  simp [closedE]
theorem loB_zero (v : Val) : loB En.zero v = true := by rw [loB_eq, isZ_zero]; rfl
theorem hiB_zero (v : Val) : hiB En.zero v = true := by rw [hiB_eq, isZ_zero]; rfl
theorem within_eq (s : Sp) (v : Val) : withinS s v = (!s.no && (loB (lowE s) v && hiB (uppE s) v)) := rfl
theorem side_iff (c : Int) (o : Bool) : sideB c o = true ↔ 0 < c ∨ (c = 0 ∧ o = true) := by simp [sideB]
theorem nside_iff (c : Int) (o : Bool) : sideB c o = false ↔ c < 0 ∨ (c = 0 ∧ o = false) := by
  have := side_iff c o
  cases h : sideB c o
  · simp only [h, Bool.false_eq_true, false_iff] at this
    simp only [true_iff]
    cases o <;> simp_all <;> omega
  · simp only [h, true_iff] at this
    simp only [Bool.true_eq_false, false_iff]
    cases o <;> simp_all <;> omega
theorem apart_none {lo hi : En} {v : Val} (h : apartE lo hi = true) (h1 : loB lo v = true) (h2 : hiB hi v = true) : False := by
  unfold apartE at h
  rw [Bool.and_eq_true, Bool.not_eq_true', Bool.or_eq_false_iff] at h
  obtain ⟨⟨z1, z2⟩, hs⟩ := h
  rw [loB_eq, z1, Bool.false_or, Bool.not_eq_true', nside_iff] at h1
  rw [hiB_eq, z2, Bool.false_or, Bool.not_eq_true', nside_iff] at h2
  rw [side_iff] at hs
  obtain ⟨g1, g2, g3, g4, g5, g6, g7, g8, g9, g10⟩ := goesX lo.x v hi.x
  generalize cmpX lo.x v = a at *
  generalize cmpX v hi.x = b at *
  generalize cmpX lo.x hi.x = c at *
  have hc : c ≤ 0 := g7 (by omega) (by omega)
  have hc0 : ¬ (a < 0 ∨ b < 0) := fun h => by have := g9 (by omega) (by omega) h; omega
  rcases hs with hs | ⟨_, hs⟩
  · omega
  · rcases h1 with h1 | ⟨_, h1⟩
    · omega
    · rcases h2 with h2 | ⟨_, h2⟩
      · omega
      · rw [h1, h2] at hs; cases hs
theorem low_btw {lo hi : En} (h : wfE lo) : lowE ⟨false, lo.has, lo.op, lo.x, hi.has, hi.op, hi.x⟩ = lo := by
  rcases h with h | rfl
  · unfold lowE; simp only [h, if_true]; cases lo; simp_all
  · rfl
theorem upp_btw {lo hi : En} (h : wfE hi) : uppE ⟨false, lo.has, lo.op, lo.x, hi.has, hi.op, hi.x⟩ = hi := by
  rcases h with h | rfl
  · unfold uppE; simp only [h, if_true]; cases hi; simp_all
  · rfl
theorem within_btw {lo hi : En} (hl : wfE lo) (hh : wfE hi) (v : Val) : withinS (btw lo hi) v = (loB lo v && hiB hi v) := by
  unfold btw
  cases h : apartE lo hi
  · rw [if_neg (by simp), within_eq, low_btw hl, upp_btw hh]; rfl
  · rw [if_pos rfl]
    cases h1 : loB lo v
    · rfl
    · cases h2 : hiB hi v
      · rfl
      · exact (apart_none h h1 h2).elim
theorem within_clean (s : Sp) (v : Val) : withinS (cleanS s) v = withinS s v := by
  unfold cleanS
  cases h : s.no
  · rw [if_neg (by simp), within_btw (wf_low s) (wf_upp s), within_eq, h]; rfl
  · rw [if_pos rfl, within_eq s, h]; rfl
theorem has_chosen {a b : En} {side : Int} {o : Bool} (ha : a.has = true) (hb : b.has = true) : (chosenE a b side o).has = true := by
  unfold chosenE
  split
  · exact ha
  · split
    · exact hb
    · exact ha
theorem wf_inner {a b : En} {side : Int} (ha : wfE a) (hb : wfE b) : wfE (innerE a b side) := by
  unfold innerE
  rcases wf_cases ha with ⟨z, _⟩ | ⟨z, ha'⟩
  · rw [if_pos z]; exact hb
  · rw [if_neg (by simp [z])]
    rcases wf_cases hb with ⟨z', _⟩ | ⟨z', hb'⟩
    · rw [if_pos z']; exact ha
    · rw [if_neg (by simp [z'])]; exact .inl (has_chosen ha' hb')
theorem wf_outer {a b : En} {side : Int} (ha : wfE a) (hb : wfE b) : wfE (outerE a b side) := by
  unfold outerE
  rcases wf_cases ha with ⟨z, _⟩ | ⟨z, ha'⟩
  · rw [if_pos (by simp [z])]; exact wf_zero
  · rcases wf_cases hb with ⟨z', _⟩ | ⟨z', hb'⟩
    · rw [if_pos (by simp [z'])]; exact wf_zero
    · rw [if_neg (by simp [z, z'])]; exact .inl (has_chosen ha' hb')
/-- Of two ends, the one that is chosen. -/
theorem chosen_cases (a b : En) (side : Int) (o : Bool) (hs : side = 1 ∨ side = -1) :
    (cmpX a.x b.x = side ∧ chosenE a b side o = a) ∨ (cmpX a.x b.x = -side ∧ chosenE a b side o = b) ∨ (cmpX a.x b.x = 0 ∧ chosenE a b side o = ⟨a.has, o, a.x⟩) := by
  unfold chosenE
  by_cases h1 : cmpX a.x b.x = side
  · exact .inl ⟨h1, if_pos h1⟩
  · by_cases h2 : cmpX a.x b.x = -side
    · exact .inr (.inl ⟨h2, by rw [if_neg h1, if_pos h2]⟩)
    · refine .inr (.inr ⟨?_, by rw [if_neg h1, if_neg h2]⟩)
      have g1 := (goesX a.x b.x b.x).lo
      have g2 := (goesX a.x b.x b.x).hi
      omega
/-- How three stand. -/
theorem three (a b v : Val) (x y z : Int) (hx : cmpX a b = x) (hy : cmpX a v = y) (hz : cmpX b v = z) : (-1 ≤ x ∧ x ≤ 1 ∧ -1 ≤ y ∧ y ≤ 1 ∧ -1 ≤ z ∧ z ≤ 1) ∧ (x = 0 → y = z) ∧ (x ≤ 0 → z ≤ 0 → y ≤ 0) ∧ (x < 0 → z ≤ 0 → y < 0) ∧ (x ≤ 0 → z < 0 → y < 0) ∧ (0 ≤ x → y ≤ 0 → z ≤ 0) ∧ (0 < x → y ≤ 0 → z < 0) ∧ (0 ≤ x → y < 0 → z < 0) := by
  have t := turnX a b
  obtain ⟨g1, g2, g3, g4, g5, g6, g7, g8, g9, g10⟩ := goesX a b v
  obtain ⟨k1, k2, k3, k4, k5, k6, k7, k8, k9, k10⟩ := goesX b a v
  rw [hx] at *
  rw [hy] at *
  rw [hz] at *
  rw [t] at *
  refine ⟨⟨g1, g2, g5, g6, g3, g4⟩, fun h => ?_, g7, fun h1 h2 => g9 (by omega) h2 (.inl h1), fun h1 h2 => g9 h1 (by omega) (.inr h2), fun h1 h2 => k7 (by omega) h2, fun h1 h2 => k9 (by omega) h2 (.inl (by omega)), fun h1 h2 => k9 (by omega) (by omega) (.inr h2)⟩
  subst h
  have e1 : z = 0 → y = 0 := g8 rfl
  have e2 : y = 0 → z = 0 := k8 (by omega)
  have e3 : z < 0 → y < 0 := fun h => g9 (by omega) (by omega) (.inr h)
  have e4 : y < 0 → z < 0 := fun h => k9 (by omega) (by omega) (.inr h)
  omega
theorem or_not (z p q : Bool) : (z || !p) = q ↔ (z = true ∧ q = true) ∨ (z = false ∧ p = !q) := by cases z <;> cases p <;> cases q <;> decide
theorem lo_inner {a b : En} (ha : wfE a) (hb : wfE b) (v : Val) : loB (innerE a b 1) v = (loB a v && loB b v) := by
  unfold innerE
  rcases wf_cases ha with ⟨z, rfl⟩ | ⟨z, ha'⟩
  · rw [if_pos z, loB_zero]; simp
  rcases wf_cases hb with ⟨z', rfl⟩ | ⟨z', hb'⟩
  · rw [if_neg (by simp [z]), if_pos z', loB_zero]; simp
  rw [if_neg (by simp [z]), if_neg (by simp [z'])]
  obtain ⟨⟨k1, k2, k3, k4, k5, k6⟩, h0, h1, h2, h3, h4, h5, h6⟩ := three a.x b.x v _ _ _ rfl rfl rfl
  have la := loB_eq a v
  have lb := loB_eq b v
  rw [z, Bool.false_or] at la
  rw [z', Bool.false_or] at lb
  rcases chosen_cases a b 1 (a.op || b.op) (.inl rfl) with ⟨hc, e⟩ | ⟨hc, e⟩ | ⟨hc, e⟩
  · rw [e]
    cases q : loB a v
    · rfl
    · rw [q] at la
      have la' := (nside_iff _ _).1 (by simpa using la.symm)
      have : sideB (cmpX b.x v) b.op = false := (nside_iff _ _).2 (.inl (h5 (by omega) (by omega)))
      rw [lb, this]; rfl
  · rw [e]
    cases q : loB b v
    · simp
    · rw [q] at lb
      have lb' := (nside_iff _ _).1 (by simpa using lb.symm)
      have : sideB (cmpX a.x v) a.op = false := (nside_iff _ _).2 (.inl (h2 (by omega) (by omega)))
      rw [la, this]; rfl
  · rw [e, la, lb, loB_eq, isZ_has (show (En.mk a.has (a.op || b.op) a.x).has = true from ha'), ← h0 hc]
    generalize cmpX a.x v = y
    cases a.op <;> cases b.op <;> simp [sideB] <;> intros <;> omega
theorem hi_inner {a b : En} (ha : wfE a) (hb : wfE b) (v : Val) : hiB (innerE a b (-1)) v = (hiB a v && hiB b v) := by
  unfold innerE
  rcases wf_cases ha with ⟨z, rfl⟩ | ⟨z, ha'⟩
  · rw [if_pos z, hiB_zero]; simp
  rcases wf_cases hb with ⟨z', rfl⟩ | ⟨z', hb'⟩
  · rw [if_neg (by simp [z]), if_pos z', hiB_zero]; simp
  rw [if_neg (by simp [z]), if_neg (by simp [z'])]
  obtain ⟨⟨k1, k2, k3, k4, k5, k6⟩, h0, h1, h2, h3, h4, h5, h6⟩ := three a.x b.x v _ _ _ rfl rfl rfl
  have la := hiB_eq a v
  have lb := hiB_eq b v
  have ta := turnX a.x v
  have tb := turnX b.x v
  rw [z, Bool.false_or] at la
  rw [z', Bool.false_or] at lb
  rcases chosen_cases a b (-1) (a.op || b.op) (.inr rfl) with ⟨hc, e⟩ | ⟨hc, e⟩ | ⟨hc, e⟩
  · rw [e]
    cases q : hiB a v
    · rfl
    · rw [q] at la
      have la' := (nside_iff _ _).1 (by simpa using la.symm)
      have : sideB (cmpX v b.x) b.op = false := (nside_iff _ _).2 (.inl (by omega))
      rw [lb, this]; rfl
  · rw [e]
    cases q : hiB b v
    · simp
    · rw [q] at lb
      have lb' := (nside_iff _ _).1 (by simpa using lb.symm)
      have : sideB (cmpX v a.x) a.op = false := (nside_iff _ _).2 (.inl (by omega))
      rw [la, this]; rfl
  · rw [e, la, lb, hiB_eq, isZ_has (show (En.mk a.has (a.op || b.op) a.x).has = true from ha'), tb, ta, ← h0 hc]
    generalize -cmpX a.x v = y
    cases a.op <;> cases b.op <;> simp [sideB] <;> intros <;> omega
theorem lo_outer {a b : En} (ha : wfE a) (hb : wfE b) (v : Val) : loB (outerE a b (-1)) v = (loB a v || loB b v) := by
  unfold outerE
  rcases wf_cases ha with ⟨z, rfl⟩ | ⟨z, ha'⟩
  · rw [if_pos (by simp [z]), loB_zero]; simp
  rcases wf_cases hb with ⟨z', rfl⟩ | ⟨z', hb'⟩
  · rw [if_pos (by simp [z']), loB_zero]; simp
  rw [if_neg (by simp [z, z'])]
  obtain ⟨⟨k1, k2, k3, k4, k5, k6⟩, h0, h1, h2, h3, h4, h5, h6⟩ := three a.x b.x v _ _ _ rfl rfl rfl
  have la := loB_eq a v
  have lb := loB_eq b v
  rw [z, Bool.false_or] at la
  rw [z', Bool.false_or] at lb
  rcases chosen_cases a b (-1) (a.op && b.op) (.inr rfl) with ⟨hc, e⟩ | ⟨hc, e⟩ | ⟨hc, e⟩
  · rw [e]
    cases q : loB b v
    · simp
    · rw [q] at lb
      have lb' := (nside_iff _ _).1 (by simpa using lb.symm)
      have : sideB (cmpX a.x v) a.op = false := (nside_iff _ _).2 (.inl (h2 (by omega) (by omega)))
      rw [la, this]; rfl
  · rw [e]
    cases q : loB a v
    · rfl
    · rw [q] at la
      have la' := (nside_iff _ _).1 (by simpa using la.symm)
      have : sideB (cmpX b.x v) b.op = false := (nside_iff _ _).2 (.inl (h5 (by omega) (by omega)))
      rw [lb, this]; rfl
  · rw [e, la, lb, loB_eq, isZ_has (show (En.mk a.has (a.op && b.op) a.x).has = true from ha'), ← h0 hc]
    generalize cmpX a.x v = y
    cases a.op <;> cases b.op <;> simp [sideB] <;> intros <;> omega
theorem hi_outer {a b : En} (ha : wfE a) (hb : wfE b) (v : Val) : hiB (outerE a b 1) v = (hiB a v || hiB b v) := by
  unfold outerE
  rcases wf_cases ha with ⟨z, rfl⟩ | ⟨z, ha'⟩
  · rw [if_pos (by simp [z]), hiB_zero]; simp
  rcases wf_cases hb with ⟨z', rfl⟩ | ⟨z', hb'⟩
  · rw [if_pos (by simp [z']), hiB_zero]; simp
  rw [if_neg (by simp [z, z'])]
  obtain ⟨⟨k1, k2, k3, k4, k5, k6⟩, h0, h1, h2, h3, h4, h5, h6⟩ := three a.x b.x v _ _ _ rfl rfl rfl
  have la := hiB_eq a v
  have lb := hiB_eq b v
  have ta := turnX a.x v
  have tb := turnX b.x v
  rw [z, Bool.false_or] at la
  rw [z', Bool.false_or] at lb
  rcases chosen_cases a b 1 (a.op && b.op) (.inl rfl) with ⟨hc, e⟩ | ⟨hc, e⟩ | ⟨hc, e⟩
  · rw [e]
    cases q : hiB b v
    · simp
    · rw [q] at lb
      have lb' := (nside_iff _ _).1 (by simpa using lb.symm)
      have : sideB (cmpX v a.x) a.op = false := (nside_iff _ _).2 (.inl (by omega))
      rw [la, this]; rfl
  · rw [e]
    cases q : hiB a v
    · rfl
    · rw [q] at la
      have la' := (nside_iff _ _).1 (by simpa using la.symm)
      have : sideB (cmpX v b.x) b.op = false := (nside_iff _ _).2 (.inl (by omega))
      rw [lb, this]; rfl
  · rw [e, la, lb, hiB_eq, isZ_has (show (En.mk a.has (a.op && b.op) a.x).has = true from ha'), tb, ta, ← h0 hc]
    generalize -cmpX a.x v = y
    cases a.op <;> cases b.op <;> simp [sideB] <;> intros <;> omega
/-- A clean span: nothing, or its ends. -/
theorem clean_cases (s : Sp) : cleanS s = Sp.none ∨ ((cleanS s).no = false ∧ apartE (lowE s) (uppE s) = false ∧ lowE (cleanS s) = lowE s ∧ uppE (cleanS s) = uppE s ∧ btw (lowE s) (uppE s) = cleanS s) := by
  unfold cleanS
  cases h : s.no
  · rw [if_neg (by simp)]
    cases h1 : apartE (lowE s) (uppE s)
    · have e : btw (lowE s) (uppE s) = ⟨false, (lowE s).has, (lowE s).op, (lowE s).x, (uppE s).has, (uppE s).op, (uppE s).x⟩ := by unfold btw; rw [h1]; rfl
      exact .inr ⟨by rw [e], rfl, by rw [e, low_btw (wf_low s)], by rw [e, upp_btw (wf_upp s)], rfl⟩
    · left; unfold btw; rw [h1]; rfl
  · left; rfl
theorem within_none (v : Val) : withinS Sp.none v = false := rfl
theorem within_meet (a b : Sp) (v : Val) : withinS (meetS a b) v = (withinS a v && withinS b v) := by
  rw [← within_clean a, ← within_clean b]
  unfold meetS meetC
  rcases clean_cases a with ha | ⟨na, _, ha, ha', _⟩
  · rw [ha]; rfl
  rcases clean_cases b with hb | ⟨nb, _, hb, hb', _⟩
  · rw [hb, if_pos (by simp [Sp.none])]; simp [within_none]
  rw [if_neg (by simp [na, nb]), within_btw (wf_inner (wf_low _) (wf_low _)) (wf_inner (wf_upp _) (wf_upp _)), lo_inner (wf_low _) (wf_low _), hi_inner (wf_upp _) (wf_upp _), within_eq, within_eq, na, nb]
  cases loB (lowE (cleanS a)) v <;> cases loB (lowE (cleanS b)) v <;> cases hiB (uppE (cleanS a)) v <;> cases hiB (uppE (cleanS b)) v <;> rfl
def hullB (a b : Sp) (v : Val) : Bool :=
  if (cleanS a).no then withinS b v else if (cleanS b).no then withinS a v else (loB (lowE (cleanS a)) v || loB (lowE (cleanS b)) v) && (hiB (uppE (cleanS a)) v || hiB (uppE (cleanS b)) v)
theorem within_hull (a b : Sp) (v : Val) : withinS (hullS a b) v = hullB a b v := by
  unfold hullS hullC hullB
  cases na : (cleanS a).no
  · cases nb : (cleanS b).no
    · simp only [Bool.false_eq_true, if_false]
      rw [within_btw (wf_outer (wf_low _) (wf_low _)) (wf_outer (wf_upp _) (wf_upp _)), lo_outer (wf_low _) (wf_low _), hi_outer (wf_upp _) (wf_upp _)]
    · simp only [Bool.false_eq_true, if_false, if_true, within_clean]
  · simp only [if_true, within_clean]
theorem no_within {s : Sp} {v : Val} (h : (cleanS s).no = true) : withinS s v = false := by rw [← within_clean, within_eq, h]; rfl
theorem hull_turn (a b : Sp) (v : Val) : hullB a b v = hullB b a v := by
  unfold hullB
  cases na : (cleanS a).no
  · cases nb : (cleanS b).no
    · simp only [Bool.false_eq_true, if_false]
      cases loB (lowE (cleanS a)) v <;> cases loB (lowE (cleanS b)) v <;> cases hiB (uppE (cleanS a)) v <;> cases hiB (uppE (cleanS b)) v <;> rfl
    · simp
  · cases nb : (cleanS b).no
    · simp
    · simp [no_within na, no_within nb]
theorem hull_has (a b : Sp) (v : Val) (h : (withinS a v || withinS b v) = true) : withinS (hullS a b) v = true := by
  rw [within_hull]
  unfold hullB
  cases na : (cleanS a).no
  · cases nb : (cleanS b).no
    · simp only [Bool.false_eq_true, if_false]
      rw [← within_clean a, ← within_clean b, within_eq, within_eq, na, nb] at h
      revert h
      cases loB (lowE (cleanS a)) v <;> cases loB (lowE (cleanS b)) v <;> cases hiB (uppE (cleanS a)) v <;> cases hiB (uppE (cleanS b)) v <;> simp
    · rw [no_within nb] at h; simpa using h
  · rw [no_within na] at h; simpa using h
theorem btw_no {lo hi : En} (h : (btw lo hi).no = true) : btw lo hi = Sp.none := by
  unfold btw at *
  cases h1 : apartE lo hi
  · rw [h1] at h; simp at h
  · rfl
theorem meet_no {a b : Sp} (h : (meetS a b).no = true) : meetS a b = Sp.none := by
  unfold meetS meetC at *
  cases h1 : ((cleanS a).no || (cleanS b).no)
  · rw [h1] at h; simp only [Bool.false_eq_true, if_false] at h ⊢; exact btw_no h
  · rfl
theorem cmp_self_chosen (a : En) (side : Int) (hs : side = 1 ∨ side = -1) (o : Bool) (h : o = a.op) : chosenE a a side o = a := by
  unfold chosenE
  rw [selfX, if_neg (by omega), if_neg (by omega), h]
theorem inner_self (a : En) (side : Int) (hs : side = 1 ∨ side = -1) : innerE a a side = a := by
  unfold innerE
  cases isZ a
  · simp only [Bool.false_eq_true, if_false]; exact cmp_self_chosen a side hs _ (by simp)
  · simp
theorem outer_self (a : En) (side : Int) (hs : side = 1 ∨ side = -1) : outerE a a side = a := by
  unfold outerE
  cases h : isZ a
  · simp only [Bool.or_self, Bool.false_eq_true, if_false]; exact cmp_self_chosen a side hs _ (by simp)
  · simp; exact (isZ_iff.1 h).symm
theorem clean_clean (s : Sp) : cleanS (cleanS s) = cleanS s := by
  rcases clean_cases s with h | ⟨n, ap, h1, h2, h3⟩
  · rw [h]; rfl
  · rw [cleanS, n, if_neg (by simp), h1, h2, h3]
theorem meet_self (s : Sp) : meetS s s = cleanS s := by
  unfold meetS meetC
  rw [inner_self _ 1 (.inl rfl), inner_self _ (-1) (.inr rfl)]
  rcases clean_cases s with h | ⟨n, ap, h1, h2, h3⟩
  · rw [h]; rfl
  · rw [n]; simp only [Bool.or_self, Bool.false_eq_true, if_false]; rw [h1, h2, h3]
theorem hull_self (s : Sp) : hullS s s = cleanS s := by
  unfold hullS hullC
  rw [outer_self _ (-1) (.inr rfl), outer_self _ 1 (.inl rfl)]
  rcases clean_cases s with h | ⟨n, ap, h1, h2, h3⟩
  · rw [h]; rfl
  · rw [n]; simp only [Bool.false_eq_true, if_false]; rw [h1, h2, h3]
theorem clean_none : cleanS Sp.none = Sp.none := rfl
theorem clean_all : cleanS Sp.all = Sp.all := by
  have : apartE En.zero En.zero = false := by unfold apartE; rw [isZ_zero]; rfl
  show (if Sp.all.no then Sp.none else btw En.zero En.zero) = Sp.all
  unfold btw
  rw [this]; rfl
theorem meet_none (s : Sp) : meetS s Sp.none = Sp.none := by unfold meetS meetC; rw [clean_none]; simp [Sp.none]
theorem hull_none (s : Sp) : hullS Sp.none s = cleanS s := rfl
theorem meet_all (s : Sp) : meetS Sp.all s = cleanS s := by
  unfold meetS meetC
  rw [clean_all]
  rcases clean_cases s with h | ⟨n, ap, h1, h2, h3⟩
  · rw [h]; rfl
  · rw [n, if_neg (by simp [Sp.all])]
    have e1 : lowE Sp.all = En.zero := rfl
    have e2 : uppE Sp.all = En.zero := rfl
    have e3 : ∀ b side, innerE En.zero b side = b := fun b side => by unfold innerE; rw [if_pos isZ_zero]
    rw [e1, e2, e3, e3, h1, h2, h3]
theorem hull_all (s : Sp) : hullS s Sp.all = Sp.all := by
  unfold hullS hullC
  rw [clean_all]
  rcases clean_cases s with h | ⟨n, ap, h1, h2, h3⟩
  · rw [h]; rfl
  · have e1 : lowE Sp.all = En.zero := rfl
    have e2 : uppE Sp.all = En.zero := rfl
    have e3 : ∀ a side, outerE a En.zero side = En.zero := fun a side => by unfold outerE; rw [if_pos (by simp [isZ_zero])]
    have e4 : btw En.zero En.zero = Sp.all := by have := clean_all; exact this
    rw [n, e1, e2, e3, e3, e4]
    rfl
theorem within_all (v : Val) : withinS Sp.all v = true := by
  rw [within_eq]
  show (!false && (loB En.zero v && hiB En.zero v)) = true
  rw [loB_zero, hiB_zero]; rfl
end Go.Proofs.YtfkhfplibhnceaaDoor.Val
/- Plain: the span of a predicate's keys; what is normal stays so. No program. -/
namespace Go.Proofs.YtfkhfplibhnceaaDoor.Val
open Go Go.RowKit

def leafS (o : Int) (v w : Val) : Sp := if o = 3 then btw (closedE v) (closedE v) else if o = 5 then btw En.zero (openE v) else if o = 6 then btw En.zero (closedE v) else if o = 7 then btw (openE v) En.zero else if o = 8 then btw (closedE v) En.zero else if o = 9 then btw (closedE v) (closedE w) else Sp.all
/-- The span of the keys of which it may hold. -/
def keysP : PT → Sp
  | .mk o c v w _ l => if o = 2 then Sp.none else if o = 11 then (l.map keysP).foldl meetS Sp.all else if o = 12 then (l.map keysP).foldl hullS Sp.none else if c ≠ 0 then Sp.all else leafS o v w
theorem keys_mk (p : PT) : keysP p = if p.op = 2 then Sp.none else if p.op = 11 then (p.l.map keysP).foldl meetS Sp.all else if p.op = 12 then (p.l.map keysP).foldl hullS Sp.none else if p.col ≠ 0 then Sp.all else leafS p.op p.v p.w := by cases p; rw [keysP]
theorem keys_bare (p : PT) : keysP p.bare = keysP p := by
  induction p using PT.ind with
  | h p ih => cases p with | mk o c v w lv l => rw [bare_mk, keys_mk, keys_mk]; simp only; rw [map_bare keysP l ih]
theorem keys_of_bare {p q : PT} (h : p.bare = q.bare) : keysP p = keysP q := by rw [← keys_bare p, h, keys_bare]
theorem clean_btw {lo hi : En} (hl : wfE lo) (hh : wfE hi) : cleanS (btw lo hi) = btw lo hi := by
  cases h : apartE lo hi
  · have e : btw lo hi = ⟨false, lo.has, lo.op, lo.x, hi.has, hi.op, hi.x⟩ := by unfold btw; rw [h]; rfl
    have e2 : cleanS ⟨false, lo.has, lo.op, lo.x, hi.has, hi.op, hi.x⟩ = btw (lowE ⟨false, lo.has, lo.op, lo.x, hi.has, hi.op, hi.x⟩) (uppE ⟨false, lo.has, lo.op, lo.x, hi.has, hi.op, hi.x⟩) := rfl
    rw [e, e2, low_btw hl, upp_btw hh, e]
  · have e : btw lo hi = Sp.none := by unfold btw; rw [h]; rfl
    rw [e]; rfl
theorem clean_meet (a b : Sp) : cleanS (meetS a b) = meetS a b := by
  unfold meetS meetC
  split
  · rfl
  · exact clean_btw (wf_inner (wf_low _) (wf_low _)) (wf_inner (wf_upp _) (wf_upp _))
theorem clean_hull (a b : Sp) : cleanS (hullS a b) = hullS a b := by
  unfold hullS hullC
  split
  · exact clean_clean b
  · split
    · exact clean_clean a
    · exact clean_btw (wf_outer (wf_low _) (wf_low _)) (wf_outer (wf_upp _) (wf_upp _))
theorem wf_closed (v : Val) : wfE (closedE v) := .inl rfl
theorem wf_open (v : Val) : wfE (openE v) := .inl rfl
theorem clean_leaf (o : Int) (v w : Val) : cleanS (leafS o v w) = leafS o v w := by
  unfold leafS
  repeat (split; · first | exact clean_btw (wf_closed _) (wf_closed _) | exact clean_btw wf_zero (wf_open _) | exact clean_btw wf_zero (wf_closed _) | exact clean_btw (wf_open _) wf_zero | exact clean_btw (wf_closed _) wf_zero)
  exact clean_all
theorem clean_foldM (ks : List Sp) : ∀ s, cleanS s = s → cleanS (ks.foldl meetS s) = ks.foldl meetS s := by
  induction ks with
  | nil => intro s h; exact h
  | cons k ks ih => intro s _; exact ih _ (clean_meet s k)
theorem clean_foldH (ks : List Sp) : ∀ s, cleanS s = s → cleanS (ks.foldl hullS s) = ks.foldl hullS s := by
  induction ks with
  | nil => intro s h; exact h
  | cons k ks ih => intro s _; exact ih _ (clean_hull s k)
theorem clean_keys (p : PT) : cleanS (keysP p) = keysP p := by
  rw [keys_mk]
  split
  · rfl
  split
  · exact clean_foldM _ _ clean_all
  split
  · exact clean_foldH _ _ clean_none
  split
  · exact clean_all
  · exact clean_leaf _ _ _
/-- From the first one on. -/
theorem foldM_cons {k : Sp} (h : cleanS k = k) (ks : List Sp) : (k :: ks).foldl meetS Sp.all = ks.foldl meetS k := by rw [List.foldl_cons, meet_all, h]
theorem foldH_cons {k : Sp} (h : cleanS k = k) (ks : List Sp) : (k :: ks).foldl hullS Sp.none = ks.foldl hullS k := by rw [List.foldl_cons, hull_none, h]
theorem within_foldM (ks : List Sp) (v : Val) : ∀ s, withinS (ks.foldl meetS s) v = (withinS s v && ks.all fun k => withinS k v) := by
  induction ks with
  | nil => intro s; simp
  | cons k ks ih => intro s; rw [List.foldl_cons, ih, within_meet, List.all_cons, Bool.and_assoc]
theorem within_foldH (ks : List Sp) (v : Val) : ∀ s, (withinS s v || ks.any fun k => withinS k v) = true → withinS (ks.foldl hullS s) v = true := by
  induction ks with
  | nil => intro s h; simpa using h
  | cons k ks ih =>
    intro s h
    rw [List.foldl_cons]
    refine ih _ ?_
    rw [List.any_cons, ← Bool.or_assoc, Bool.or_eq_true] at h
    rcases h with h | h
    · rw [hull_has s k v h]; rfl
    · rw [h, Bool.or_true]
theorem lo_closed (v x : Val) : loB (closedE v) x = !decide (cmpX x v < 0) := by
  rw [loB_eq, isZ_closed]
  have t := turnX x v
  show (false || !sideB (cmpX v x) false) = _
  rw [t]
  generalize cmpX x v = c
  rw [Bool.eq_iff_iff]; simp [sideB]; try omega
theorem hi_closed (v x : Val) : hiB (closedE v) x = decide (cmpX x v ≤ 0) := by
  rw [hiB_eq, isZ_closed]
  show (false || !sideB (cmpX x v) false) = _
  generalize cmpX x v = c
  rw [Bool.eq_iff_iff]; simp [sideB]; try omega
theorem lo_open (v x : Val) : loB (openE v) x = decide (0 < cmpX x v) := by
  rw [loB_eq, isZ_has (e := openE v) rfl]
  have t := turnX x v
  show (false || !sideB (cmpX v x) true) = _
  rw [t]
  generalize cmpX x v = c
  rw [Bool.eq_iff_iff]; simp [sideB]; try omega
theorem hi_open (v x : Val) : hiB (openE v) x = decide (cmpX x v < 0) := by
  rw [hiB_eq, isZ_has (e := openE v) rfl]
  show (false || !sideB (cmpX x v) true) = _
  generalize cmpX x v = c
  rw [Bool.eq_iff_iff]; simp [sideB]; try omega
theorem leaf_within {o : Int} {v w x : Val} (h : standB o (cmpX x v) (cmpX x w) = true) : withinS (leafS o v w) x = true := by
  unfold leafS
  by_cases h3 : o = 3
  · subst h3; rw [if_pos rfl, within_btw (wf_closed _) (wf_closed _), lo_closed, hi_closed]; simp [standB] at h; simp [h]
  rw [if_neg h3]
  by_cases h5 : o = 5
  · subst h5; rw [if_pos rfl, within_btw wf_zero (wf_open _), loB_zero, hi_open]; simp [standB] at h; simp [h]
  rw [if_neg h5]
  by_cases h6 : o = 6
  · subst h6; rw [if_pos rfl, within_btw wf_zero (wf_closed _), loB_zero, hi_closed]; simp [standB] at h; simp [h]
  rw [if_neg h6]
  by_cases h7 : o = 7
  · subst h7; rw [if_pos rfl, within_btw (wf_open _) wf_zero, hiB_zero, lo_open]; simp [standB] at h; simp [h]
  rw [if_neg h7]
  by_cases h8 : o = 8
  · subst h8; rw [if_pos rfl, within_btw (wf_closed _) wf_zero, hiB_zero, lo_closed]; simp [standB] at h; simp [h]
  rw [if_neg h8]
  by_cases h9 : o = 9
  · subst h9; rw [if_pos rfl, within_btw (wf_closed _) (wf_closed _), lo_closed, hi_closed]; simp [standB] at h; simp [h]
  rw [if_neg h9]
  exact within_all x
/-- What it holds of has its key within the span. -/
theorem keys_within {x : Val} {r : List Val} (p : PT) : holdsP (x :: r) p = true → withinS (keysP p) x = true := by
  induction p using PT.ind with
  | h p ih =>
    intro h
    rw [keys_mk]
    by_cases h2 : p.op = 2
    · rw [holds_two h2] at h; cases h
    rw [if_neg h2]
    by_cases h11 : p.op = 11
    · rw [if_pos h11, within_foldM, within_all, Bool.true_and, List.all_eq_true]
      rw [holds_11 h11, List.all_eq_true] at h
      intro k hk
      obtain ⟨q, hq, rfl⟩ := List.mem_map.1 hk
      exact ih q hq (h _ (List.mem_map.2 ⟨q, hq, rfl⟩))
    rw [if_neg h11]
    by_cases h12 : p.op = 12
    · rw [if_pos h12]
      refine within_foldH _ _ _ ?_
      rw [holds_12 h12, List.any_eq_true] at h
      obtain ⟨b, hb, hb'⟩ := h
      obtain ⟨q, hq, rfl⟩ := List.mem_map.1 hb
      rw [Bool.or_eq_true, List.any_eq_true]
      exact .inr ⟨keysP q, List.mem_map.2 ⟨q, hq, rfl⟩, ih q hq hb'⟩
    rw [if_neg h12]
    by_cases hc : p.col ≠ 0
    · rw [if_pos hc]; exact within_all x
    rw [if_neg hc]
    have hc' : p.col = ((0 : Nat) : Int) := by omega
    by_cases h1 : p.op = 1
    · rw [h1]; exact within_all x
    by_cases h10 : p.op = 10
    · rw [h10]; exact within_all x
    rw [holds_leaf h1 h10 h11 h12, hc', leaf_at (by simp)] at h
    exact leaf_within h
theorem push_one {b : Bool} {c : Int} {v w : Val} {o : Int} (h : o ≠ 10) (h1 : o ≠ 11) (h2 : o ≠ 12) : pushP (lfN o c v w) b = pushL o c v w b := push_leaf (p := lfN o c v w) h h1 h2
theorem opp_range {o : Int} (h : 3 ≤ o ∧ o ≤ 8) : 3 ≤ oppO o ∧ oppO o ≤ 8 := by unfold oppO; omega
/-- What is normal stays so. -/
theorem push_push {cols : List Bool} (p : PT) : Good cols p → ∀ b, pushP (pushP p b) false = pushP p b := by
  induction p using PT.ind with
  | h p ih =>
    intro hg b
    rcases suit_cases hg.suit with ⟨h, hl⟩ | ⟨h, hl, ho⟩ | ⟨h, hl, ho, ho'⟩ | ⟨h, q, hl⟩ | ⟨h, hl⟩
    · rw [push_leaf (p := p) (by omega) (by omega) (by omega), pushL, if_pos h]
      have : (if b = true then 3 - p.op else p.op) = 1 ∨ (if b = true then 3 - p.op else p.op) = 2 := by cases b <;> simp <;> omega
      generalize (if b = true then 3 - p.op else p.op) = o at this
      rw [push_one (by omega) (by omega) (by omega), pushL, if_pos this]; rfl
    · rw [push_leaf (p := p) (by omega) (by omega) (by omega), pushL, if_neg (by omega)]
      cases b
      · simp only [Bool.false_eq_true, if_false]
        rw [push_one (by omega) (by omega) (by omega), pushL, if_neg (by omega)]; rfl
      · have := opp_range h
        rw [if_pos rfl, if_neg (by omega), push_one (by omega) (by omega) (by omega), pushL, if_neg (by omega)]; rfl
    · rw [push_leaf (p := p) (by omega) (by omega) (by omega), pushL, if_neg (by omega)]
      cases b
      · simp only [Bool.false_eq_true, if_false]
        rw [push_one (by omega) (by omega) (by omega), pushL, if_neg (by omega)]; rfl
      · rw [if_pos rfl, if_pos h, push_list (.inr rfl)]
        simp only [List.map_cons, List.map_nil, Bool.false_eq_true, if_false]
        rw [push_one (by decide) (by decide) (by decide), push_one (by decide) (by decide) (by decide)]; rfl
    · rw [push_10 (p := p) h q hl]; exact ih q (by rw [hl]; simp) (hg.part q (by rw [hl]; simp)) _
    · rw [push_list (p := p) h]
      have : (if b = true then 23 - p.op else p.op) = 11 ∨ (if b = true then 23 - p.op else p.op) = 12 := by cases b <;> simp <;> omega
      generalize (if b = true then 23 - p.op else p.op) = o at this
      rw [push_list this]
      simp only [Bool.false_eq_true, if_false, List.map_map]
      congr 1
      exact List.map_congr_left fun q hq => ih q hq (hg.part q hq) b
theorem suit_lf {cols : List Bool} {o c : Int} {v w : Val} (h : 3 ≤ o ∧ o ≤ 8) (ho : ofB cols c v = true) : Good cols (lfN o c v w) := by
  refine .mk ?_ (by simp [lfN])
  show suitO cols o c v w 0 = true
  unfold suitO
  rw [if_neg (by omega), if_pos h, ho]; rfl
theorem push_good {cols : List Bool} (p : PT) : Good cols p → ∀ b, Good cols (pushP p b) := by
  induction p using PT.ind with
  | h p ih =>
    intro hg b
    rcases suit_cases hg.suit with ⟨h, hl⟩ | ⟨h, hl, ho⟩ | ⟨h, hl, ho, ho'⟩ | ⟨h, q, hl⟩ | ⟨h, hl⟩
    · rw [push_leaf (by omega) (by omega) (by omega), pushL, if_pos h]
      have : (if b = true then 3 - p.op else p.op) = 1 ∨ (if b = true then 3 - p.op else p.op) = 2 := by cases b <;> simp <;> omega
      generalize (if b = true then 3 - p.op else p.op) = o at this
      refine .mk ?_ (by simp [lfN])
      show suitO cols o 0 Val.zero Val.zero 0 = true
      unfold suitO
      rw [if_pos this]; rfl
    · rw [push_leaf (by omega) (by omega) (by omega), pushL, if_neg (by omega)]
      cases b
      · exact suit_lf h ho
      · rw [if_pos rfl, if_neg (by omega)]; exact suit_lf (opp_range h) ho
    · rw [push_leaf (by omega) (by omega) (by omega), pushL, if_neg (by omega)]
      cases b
      · refine .mk ?_ (by simp [lfN])
        show suitO cols p.op p.col p.v p.w 0 = true
        unfold suitO
        rw [if_neg (by omega), if_neg (by omega), if_pos h, ho, ho']; rfl
      · rw [if_pos rfl, if_pos h]
        refine .mk (show suitO cols 12 0 Val.zero Val.zero 2 = true by simp [suitO]) fun q hq => ?_
        simp only [List.mem_cons, List.not_mem_nil, or_false] at hq
        rcases hq with rfl | rfl
        · exact suit_lf (by omega) ho
        · exact suit_lf (by omega) ho'
    · rw [push_10 h q hl]; exact ih q (by rw [hl]; simp) (hg.part q (by rw [hl]; simp)) _
    · rw [push_list h]
      have : (if b = true then 23 - p.op else p.op) = 11 ∨ (if b = true then 23 - p.op else p.op) = 12 := by cases b <;> simp <;> omega
      generalize (if b = true then 23 - p.op else p.op) = o at this
      refine .mk ?_ fun x hx => ?_
      · show suitO cols o 0 Val.zero Val.zero (p.l.map fun q => pushP q b).length = true
        unfold suitO
        rw [if_neg (by omega), if_neg (by omega), if_neg (by omega), if_neg (by omega), if_pos this, List.length_map]
        have : p.l.length ≠ 0 := fun e => hl (List.eq_nil_of_length_eq_zero e)
        simp; omega
      · obtain ⟨q, hq, rfl⟩ := List.mem_map.1 hx
        exact ih q hq (hg.part q hq) b
theorem push_size (p : PT) : ∀ b, (pushP p b).size ≤ 3 * p.size := by
  induction p using PT.ind with
  | h p ih =>
    intro b
    have hp := size_pos p
    by_cases h10 : p.op = 10
    · cases p with | mk o c v u lv l =>
      obtain rfl : o = 10 := h10
      rw [push_mk, if_pos rfl]
      cases l with
      | nil => simp [PT.zero, size_mk]
      | cons q l =>
        have h1 := ih q (List.mem_cons_self ..) (!b)
        have h2 := size_part (p := .mk 10 c v u lv (q :: l)) (q := q) (List.mem_cons_self ..)
        show (pushP q (!b)).size ≤ _
        omega
    · by_cases h11 : p.op = 11 ∨ p.op = 12
      · rw [push_list h11, size_mk, size_l p]
        have : ∀ l : List PT, (∀ q ∈ l, (pushP q b).size ≤ 3 * q.size) → ((l.map fun q => pushP q b).map PT.size).sum ≤ 3 * sizeL l := by
          intro l
          induction l with
          | nil => simp [sizeL]
          | cons q l ihl =>
            intro hl
            have h1 := hl q (List.mem_cons_self ..)
            have h2 := ihl fun x hx => hl x (List.mem_cons_of_mem _ hx)
            rw [sizeL_cons]
            simp only [List.map_cons, List.sum_cons]
            omega
        have := this p.l fun q hq => ih q hq b
        omega
      · rw [push_leaf h10 (by omega) (by omega)]
        have e : ∀ o c v w, (lfN o c v w).size = 1 := fun o c v w => by simp [lfN, size_mk]
        have : (pushL p.op p.col p.v p.w b).size ≤ 3 := by
          unfold pushL
          split
          · rw [e]; omega
          · split
            · split
              · rw [size_mk]; simp [e]
              · rw [e]; omega
            · rw [e]; omega
        omega
/-- Normal's answer. -/
def normP (cols : List Bool) (p : PT) : PT := if checkN cols p = 0 then pushP p false else lfN 2 0 Val.zero Val.zero
theorem check_iff {cols : List Bool} {p : PT} : checkN cols p = 0 ↔ mayT cols = true ∧ p.size ≤ 15 ∧ Good cols p := by
  unfold checkN mayP Good
  cases mayT cols
  · simp
  · by_cases h : p.size ≤ 15
    · cases okP (suitP cols) p <;> simp [h]
    · simp [h]
theorem check_may {cols : List Bool} {p : PT} : (checkN cols p = 0) ↔ (mayT cols && mayP cols p) = true := by
  unfold checkN
  cases mayT cols <;> cases mayP cols p <;> simp
theorem norm_bare (cols : List Bool) (p : PT) : (normP cols p).bare = normP cols p := by
  unfold normP
  split
  · exact push_bare p false
  · exact lfN_bare _ _ _ _
theorem norm_size (cols : List Bool) (p : PT) : (normP cols p).size ≤ 3 * p.size := by
  unfold normP
  split
  · exact push_size p false
  · have := size_pos p
    have e : (lfN 2 0 Val.zero Val.zero).size = 1 := by simp [lfN, size_mk]
    omega
/-- Keys's answer. -/
def keysN (cols : List Bool) (p : PT) : Sp := keysP (normP cols p)
theorem keysN_no {cols : List Bool} {p : PT} (h : checkN cols p ≠ 0) : keysN cols p = Sp.none := by unfold keysN normP; rw [if_neg h, keys_mk]; rfl
end Go.Proofs.YtfkhfplibhnceaaDoor.Val
