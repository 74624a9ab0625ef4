/- Plain facts on rows of the call's own: what they hold, kept and stored into. No program. -/
import Derived.Test.YtkkbbpldeeajaaaDoorU1
import Derived.Deep.RegionHeld3
import Derived.BigRegion
import Derived.BigQuiet
import Derived.Deep.QuietTactic
import Derived.WalkSmall
import Derived.Laws.AppendOwnNone
namespace Go.Proofs.YtkkbbpldeeajaaaDoor.Val
open Go Go.RowKit

/-- A row of the call's own, of values. -/
def OwnRow (w : World) (base : Nat) (T : TypeId) (v : Value) (xs : List Val) : Prop := w.ownsRow base T 3 v xs.length (xs.flatMap Val.cells)
theorem OwnRow.isIn {w : World} {base : Nat} {T : TypeId} {v : Value} {xs : List Val} (h : OwnRow w base T v xs) : RowIn w v xs := by
  rcases h.2 with ⟨rfl, h0⟩ | ⟨g, cap, cur, rfl, hb, hg, hn, hm, hs, ht⟩
  · have : xs = [] := List.eq_nil_of_length_eq_zero h0
    subst this
    exact ⟨none, 0, rfl, Nat.le_refl _, Nat.zero_le _, fun _ => ⟨rfl, rfl⟩, .inl rfl⟩
  · refine ⟨some ⟨g, 0, none⟩, cap, rfl, hn, hm, fun h => (by cases h), .inr ⟨g, 0, rfl, fun j u hj => ?_⟩⟩
    have := World.ownsRow.cells h (g := g) rfl j u hj
    rw [Addr.add_lit] at this
    exact this
theorem OwnRow.below {w w' : World} {base : Nat} {T : TypeId} {v : Value} {xs : List Val} (h : OwnRow w base T v xs) (hb : Below w.heap.size w w') : OwnRow w' base T v xs := by
  refine ⟨h.1, ?_⟩
  rcases h.2 with hn | ⟨g, cap, cur, rfl, hb', hg, rest⟩
  · exact .inl hn
  · refine .inr ⟨g, cap, cur, rfl, hb', ?_, rest⟩
    rw [hb.block g (Array.getElem?_eq_some_iff.1 hg).1]; exact hg
theorem OwnRow.mono {w : World} {base base' : Nat} {T : TypeId} {v : Value} {xs : List Val} (h : OwnRow w base T v xs) (hb : base' ≤ base) : OwnRow w base' T v xs := by
  refine ⟨h.1, ?_⟩
  rcases h.2 with hn | ⟨g, cap, cur, rfl, hb', rest⟩
  · exact .inl hn
  · exact .inr ⟨g, cap, cur, rfl, Nat.le_trans hb hb', rest⟩
theorem OwnRow.nil (w : World) (base : Nat) (T : TypeId) : OwnRow w base T (.slice none 0 0) [] := World.ownsRow_nil w base T 3
theorem flat_set (xs : List Val) (c : Nat) (x : Val) (hc : c < xs.length) :
    (((xs.flatMap Val.cells).set (c * 3) (.bool x.t)).set (c * 3 + 1) (.int .i64 x.n)).set (c * 3 + 2) (.string x.s) = (xs.set c x).flatMap Val.cells := by
  induction xs generalizing c with
  | nil => simp at hc
  | cons y l ih =>
    cases c with
    | zero => simp [Val.cells]
    | succ c =>
      have := ih c (by simpa using hc)
      simp only [List.flatMap_cons, List.set_cons_succ, ← this, Val.cells]
      rw [show (c + 1) * 3 = c * 3 + 1 + 1 + 1 by omega, show c * 3 + 1 + 1 + 1 + 1 = (c * 3 + 1) + 1 + 1 + 1 by omega, show c * 3 + 1 + 1 + 1 + 2 = (c * 3 + 2) + 1 + 1 + 1 by omega]
      simp
/-- A value stored into a row of the call's own. -/
theorem OwnRow.store {w : World} {base : Nat} {T : TypeId} {g n cap : Nat} {xs : List Val} (h : OwnRow w base T (.slice (some ⟨g, 0, none⟩) n cap) xs) (c : Nat) (hc : c < xs.length) (x : Val) :
    OwnRow (((w.setCell ⟨g, c * 3, none⟩ (.bool x.t)).setCell ⟨g, c * 3 + 1, none⟩ (.int .i64 x.n)).setCell ⟨g, c * 3 + 2, none⟩ (.string x.s)) base T (.slice (some ⟨g, 0, none⟩) n cap) (xs.set c x) := by
  have e : n = xs.length := by
    rcases h.2 with ⟨e, _⟩ | ⟨g', cap', cur, e, _⟩ <;> cases e; rfl
  subst e
  have h1 := (World.ownsRow.stored h (c * 3) (.bool x.t)).1
  have h2 := (World.ownsRow.stored h1 (c * 3 + 1) (.int .i64 x.n)).1
  have h3 := (World.ownsRow.stored h2 (c * 3 + 2) (.string x.s)).1
  rw [flat_set xs c x hc] at h3
  unfold OwnRow
  rw [List.length_set]
  exact h3
/-- Its cells may be written. -/
theorem OwnRow.free {w : World} {base : Nat} {T : TypeId} {g n cap : Nat} {xs : List Val} (h : OwnRow w base T (.slice (some ⟨g, 0, none⟩) n cap) xs) (j : Nat) : w.frozen? ⟨g, j, none⟩ = false := by
  have e : n = xs.length := by
    rcases h.2 with ⟨e, _⟩ | ⟨g', cap', cur, e, _⟩ <;> cases e; rfl
  subst e
  exact World.ownsRow.frozenAt h j
/-- A row of the call's own that isn't empty has a place. -/
theorem OwnRow.place {w : World} {base : Nat} {T : TypeId} {v : Value} {xs : List Val} (h : OwnRow w base T v xs) (hn : 0 < xs.length) : ∃ g cap, v = .slice (some ⟨g, 0, none⟩) xs.length cap ∧ base ≤ g ∧ g < w.heap.size := by
  rcases h.2 with ⟨_, h0⟩ | ⟨g, cap, cur, rfl, hb, hg, _⟩
  · omega
  · exact ⟨g, cap, rfl, hb, (Array.getElem?_eq_some_iff.1 hg).1⟩
theorem cells_one (xs : List Val) : ∀ u ∈ xs.flatMap Val.cells, u.oneCell' = true := by
  intro u hu
  obtain ⟨x, _, hx⟩ := List.mem_flatMap.1 hu
  simp only [Val.cells, List.mem_cons, List.not_mem_nil, or_false] at hx
  rcases hx with rfl | rfl | rfl <;> rfl
end Go.Proofs.YtkkbbpldeeajaaaDoor.Val
/- What row.Check and the reference's May answer. -/
namespace Go.Proofs.YtkkbbpldeeajaaaDoor.Val
open Go.RowKit

/-- May a table be? -/
def mayT (cols : List Bool) : Bool := decide (1 ≤ cols.length) && decide (cols.length ≤ 4)
theorem mayT_few {cols : List Bool} (h : cols.length < 1) : mayT cols = false := by unfold mayT; rw [decide_eq_false (by omega)]; rfl
theorem mayT_many {cols : List Bool} (h : ¬ cols.length ≤ 4) : mayT cols = false := by unfold mayT; rw [decide_eq_false h, Bool.and_false]
theorem mayT_yes {cols : List Bool} (h1 : 1 ≤ cols.length) (h : cols.length ≤ 4) : mayT cols = true := by unfold mayT; rw [decide_eq_true h, decide_eq_true h1]; rfl
theorem mayT_iff {cols : List Bool} : mayT cols = true ↔ 1 ≤ cols.length ∧ cols.length ≤ 4 := by simp only [mayT, Bool.and_eq_true, decide_eq_true_eq]
def isCol (cols : List Bool) (i : Int) : Bool := decide (0 ≤ i) && decide (i < cols.length)
def colAt (cols : List Bool) (i : Int) : Bool := cols.getD i.toNat false
def isNum (cols : List Bool) (i : Int) : Bool := isCol cols i && !colAt cols i
theorem colAt_of {cols : List Bool} {i : Int} (h : i.toNat < cols.length) : colAt cols i = cols[i.toNat] := by simp [colAt, h]
theorem ret_int' {k : IntKind} {a b : Int} (h : a = b) : Ending.returned (.int k a) = Ending.returned (.int k b) := by subst h; rfl
theorem ret_bool' {a b : Bool} (h : a = b) : Ending.returned (.bool a) = Ending.returned (.bool b) := by subst h; rfl
/-- An error's number. -/
def errIf (b : Bool) (n : Int) : Int := if b then n else 0

set_option maxHeartbeats 400000 in
theorem check_any (vc : Value) (cols : List Bool) (w : World) (h : BoolsIn w vc cols) :
    Calls Tryd.prog 57 #[.agg #[vc]] w fun e w' => e = .returned (.int .i64 (errIf (!mayT cols) 1)) ∧ Below w.heap.size w w' := by
  obtain ⟨ac, cc, rfl, lc⟩ := h.slice
  clear h
  by_cases h1 : cols.length < 1
  · go_enter Tryd.func57, Tryd.ntmps57
    go_wp2
    go_ret
    exact ⟨ret_int' (by rw [mayT_few h1]; rfl), (Below.refl _ _).alloc (Nat.le_refl _) _⟩
  · by_cases h2 : cols.length ≤ 4
    · go_enter Tryd.func57, Tryd.ntmps57
      go_wp2
      go_ret
      exact ⟨ret_int' (by rw [mayT_yes (by omega) h2]; rfl), (Below.refl _ _).alloc (Nat.le_refl _) _⟩
    · go_enter Tryd.func57, Tryd.ntmps57
      go_wp2
      go_ret
      exact ⟨ret_int' (by rw [mayT_many h2]; rfl), (Below.refl _ _).alloc (Nat.le_refl _) _⟩
set_option maxHeartbeats 400000 in
theorem rmay_any (vc : Value) (cols : List Bool) (w : World) (h : BoolsIn w vc cols) :
    Calls Tryd.prog 28 #[.agg #[vc]] w fun e w' => e = .returned (.bool (mayT cols)) ∧ Below w.heap.size w w' := by
  obtain ⟨ac, cc, rfl, lc⟩ := h.slice
  have HS : Hid (mayT cols = (decide (1 ≤ cols.length) && decide (cols.length ≤ 4))) := rfl
  clear h
  by_cases h1 : 1 ≤ cols.length
  · go_enter Tryd.func28, Tryd.ntmps28
    go_wp2
    go_ret
    exact ⟨ret_bool' (by rw [HS.out]; simp [h1]; omega), (Below.refl _ _).alloc (Nat.le_refl _) _⟩
  · go_enter Tryd.func28, Tryd.ntmps28
    go_wp2
    go_ret
    exact ⟨ret_bool' (by rw [HS.out]; simp [h1]), (Below.refl _ _).alloc (Nat.le_refl _) _⟩
end Go.Proofs.YtkkbbpldeeajaaaDoor.Val
/- What Right of package value answers, for any value. -/
namespace Go.Proofs.YtkkbbpldeeajaaaDoor.Val
open Go.RowKit

set_option maxHeartbeats 400000 in
theorem right_text_yes (s : ByteArray) (w : World) (hs : s.size ≤ maxLen) :
    Calls Tryd.prog 59 #[V true 0 s] w fun e w' => e = .returned (.bool (decide (s.size ≤ 12))) ∧ Below w.heap.size w w' := by
  unfold maxLen at hs
  go_enter Tryd.func59, Tryd.ntmps59
  go_wp2
  go_region_held3 (fun w' => w'.cell? ⟨w.heap.size, 0, none⟩ = some (.bool true) ∧ w'.cell? ⟨w.heap.size, 1, none⟩ = some (.int .i64 0) ∧ w'.cell? ⟨w.heap.size, 2, none⟩ = some (.string s)) (go_keep)
    ((go_at_call 72; refine (bare_text _ _ _).mono ?_; rintro e w1 ⟨rfl, hb1⟩; obtain ⟨⟨c0, c1, c2⟩, hz, hb⟩ := kept1d hb1))
  go_wp2
  go_ret
  exact ⟨by simp; omega, hb⟩
set_option maxHeartbeats 400000 in
theorem right_text_no (n : Int) (s : ByteArray) (w : World) (h : (n == 0) = false) :
    Calls Tryd.prog 59 #[V true n s] w fun e w' => e = .returned (.bool false) ∧ Below w.heap.size w w' := by
  go_enter Tryd.func59, Tryd.ntmps59
  go_wp2
  first | go_region_with (go_at_call 72; refine (bare_text _ _ _).mono ?_; rintro e w1 ⟨rfl, hb1⟩; obtain ⟨⟨c0, c1, c2⟩, hz, hb⟩ := kept1d hb1) | fail
  all_goals
    go_wp2
    go_ret
    exact ⟨rfl, hb⟩
set_option maxHeartbeats 400000 in
theorem right_number_yes (n : Int) (w : World) :
    Calls Tryd.prog 59 #[V false n ⟨#[]⟩] w fun e w' => e = .returned (.bool true) ∧ Below w.heap.size w w' := by
  go_enter Tryd.func59, Tryd.ntmps59
  go_wp2
  go_region_held3 (fun w' => w'.cell? ⟨w.heap.size, 0, none⟩ = some (.bool false) ∧ w'.cell? ⟨w.heap.size, 1, none⟩ = some (.int .i64 n) ∧ w'.cell? ⟨w.heap.size, 2, none⟩ = some (.string ⟨#[]⟩)) (go_keep)
    ((go_at_call 72; refine (bare_number _ _ _).mono ?_; rintro e w1 ⟨rfl, hb1⟩; obtain ⟨⟨c0, c1, c2⟩, hz, hb⟩ := kept1d hb1))
  go_wp2
  go_ret
  exact ⟨rfl, hb⟩
set_option maxHeartbeats 400000 in
theorem right_number_no (n : Int) (s : ByteArray) (w : World) (h : s.toList.isEmpty = false) :
    Calls Tryd.prog 59 #[V false n s] w fun e w' => e = .returned (.bool false) ∧ Below w.heap.size w w' := by
  go_enter Tryd.func59, Tryd.ntmps59
  go_wp2
  first | go_region_with (go_at_call 72; refine (bare_number _ _ _).mono ?_; rintro e w1 ⟨rfl, hb1⟩; obtain ⟨⟨c0, c1, c2⟩, hz, hb⟩ := kept1d hb1) | fail
  all_goals
    go_wp2
    go_ret
    exact ⟨rfl, hb⟩
end Go.Proofs.YtkkbbpldeeajaaaDoor.Val
/- What Right of package value answers, for any value. -/
namespace Go.Proofs.YtkkbbpldeeajaaaDoor.Val
open Go.RowKit

/-- May it be? -/
def rightV (t : Bool) (n : Int) (s : ByteArray) : Bool := if t then n == 0 && decide (s.size ≤ 12) else s.toList.isEmpty
theorem empty_of {s : ByteArray} (h : s.toList.isEmpty = true) : s = ⟨#[]⟩ := by
  rw [ByteArray.toList_eq] at h
  cases s with | mk d => cases d with | mk l => cases l <;> simp_all
theorem right_any (t : Bool) (n : Int) (s : ByteArray) (w : World) (hs : s.size ≤ maxLen) :
    Calls Tryd.prog 59 #[V t n s] w fun e w' => e = .returned (.bool (rightV t n s)) ∧ Below w.heap.size w w' := by
  cases t
  · cases h : s.toList.isEmpty
    · simp only [rightV, h]; exact right_number_no n s w h
    · simp only [rightV, h]; obtain rfl := empty_of h; exact right_number_yes n w
  · cases h : (n == 0)
    · simp only [rightV, h]; exact right_text_no n s w h
    · obtain rfl : n = 0 := by simpa using h
      exact right_text_yes s w hs
end Go.Proofs.YtkkbbpldeeajaaaDoor.Val
/- What the reference's Right answers, for any value. -/
namespace Go.Proofs.YtkkbbpldeeajaaaDoor.Val
open Go.RowKit

set_option maxHeartbeats 400000 in
theorem rright_text (n : Int) (s : ByteArray) (w : World) (hs : s.size ≤ maxLen) (b : Bool) (h : (n == 0) = b) :
    Calls Tryd.prog 29 #[V true n s] w fun e w' => e = .returned (.bool (b && decide (s.size ≤ 12))) ∧ Below w.heap.size w w' := by
  unfold maxLen at hs
  cases b
  · go_enter Tryd.func29, Tryd.ntmps29
    go_wp2
    go_ret
    exact ⟨rfl, (Below.refl _ _).alloc (Nat.le_refl _) _⟩
  · go_enter Tryd.func29, Tryd.ntmps29
    go_wp2
    go_ret
    exact ⟨by simp; omega, (Below.refl _ _).alloc (Nat.le_refl _) _⟩
set_option maxHeartbeats 400000 in
theorem rright_number (n : Int) (s : ByteArray) (w : World) :
    Calls Tryd.prog 29 #[V false n s] w fun e w' => e = .returned (.bool s.toList.isEmpty) ∧ Below w.heap.size w w' := by
  go_enter Tryd.func29, Tryd.ntmps29
  go_wp2
  go_ret
  exact ⟨rfl, (Below.refl _ _).alloc (Nat.le_refl _) _⟩
theorem rright_any (t : Bool) (n : Int) (s : ByteArray) (w : World) (hs : s.size ≤ maxLen) :
    Calls Tryd.prog 29 #[V t n s] w fun e w' => e = .returned (.bool (rightV t n s)) ∧ Below w.heap.size w w' := by
  cases t
  · exact rright_number n s w
  · exact rright_text n s w hs _ rfl
end Go.Proofs.YtkkbbpldeeajaaaDoor.Val
/- Plain: when a row fits a table. -/
namespace Go.Proofs.YtkkbbpldeeajaaaDoor.Val
open Go.RowKit

/-- May a value stand in a column? -/
def suitV (c : Bool) (x : Val) : Bool := rightV x.t x.n x.s && x.t == c
def fitsL (cols : List Bool) (xs : List Val) : Bool := (cols.zip xs).all fun p => suitV p.1 p.2
/-- Does a row fit a table that may be? -/
def fitsRow (cols : List Bool) (xs : List Val) : Bool := mayT cols && decide (xs.length = cols.length) && fitsL cols xs
theorem fitsL_iff {cols : List Bool} {xs : List Val} : fitsL cols xs = true ↔ ∀ k (h1 : k < cols.length) (h2 : k < xs.length), suitV cols[k] xs[k] = true := by
  unfold fitsL
  rw [List.all_eq_true]
  refine ⟨fun h k h1 h2 => ?_, fun h p hp => ?_⟩
  · exact h (cols[k], xs[k]) (List.mem_iff_getElem.2 ⟨k, by simp; omega, by simp⟩)
  · obtain ⟨k, hk, rfl⟩ := List.mem_iff_getElem.1 hp
    rw [List.length_zip] at hk
    simpa using h k (by omega) (by omega)
theorem fitsL_no {cols : List Bool} {xs : List Val} {k : Nat} (h1 : k < cols.length) (h2 : k < xs.length) (h : suitV cols[k] xs[k] = false) : fitsL cols xs = false := by
  cases e : fitsL cols xs
  · rfl
  · rw [fitsL_iff.1 e k h1 h2] at h; cases h
/-- So far all suit. -/
def FitsTo (cols : List Bool) (xs : List Val) (k : Nat) : Prop := ∀ j (h1 : j < cols.length) (h2 : j < xs.length), j < k → suitV cols[j] xs[j] = true
theorem FitsTo.zero (cols : List Bool) (xs : List Val) : FitsTo cols xs 0 := fun j _ _ h => by omega
theorem FitsTo.next {cols : List Bool} {xs : List Val} {k : Nat} (h : FitsTo cols xs k) (h1 : k < cols.length) (h2 : k < xs.length) (hs : suitV cols[k] xs[k] = true) : FitsTo cols xs (k + 1) := fun j g1 g2 hj => by
  by_cases e : j = k
  · subst e; exact hs
  · exact h j g1 g2 (by omega)
theorem FitsTo.all {cols : List Bool} {xs : List Val} {k : Nat} (h : FitsTo cols xs k) (hk : xs.length ≤ k) : fitsL cols xs = true := fitsL_iff.2 fun j h1 h2 => h j h1 h2 (by omega)
theorem fitsRow_may {cols : List Bool} {xs : List Val} (h : mayT cols = false) : fitsRow cols xs = false := by unfold fitsRow; rw [h]; rfl
theorem fitsRow_len {cols : List Bool} {xs : List Val} (h : ¬ xs.length = cols.length) : fitsRow cols xs = false := by unfold fitsRow; rw [decide_eq_false h]; simp
theorem fitsRow_of {cols : List Bool} {xs : List Val} (h : mayT cols = true) (hl : xs.length = cols.length) : fitsRow cols xs = fitsL cols xs := by unfold fitsRow; rw [h, decide_eq_true hl]; rfl
end Go.Proofs.YtkkbbpldeeajaaaDoor.Val
/- What slices.Equal of rows, row.Same and the reference's Same answer, for any two rows. -/
namespace Go.Proofs.YtkkbbpldeeajaaaDoor.Val
open Go.RowKit

/-- Are two rows the same? -/
def eqRow : List Val → List Val → Bool
  | [], [] => true
  | x :: l, y :: m => eqV x y && eqRow l m
  | _, _ => false
theorem eqRow_iff {xs ys : List Val} : eqRow xs ys = true ↔ xs = ys := by
  induction xs generalizing ys with
  | nil => cases ys <;> simp [eqRow]
  | cons x l ih => cases ys <;> simp [eqRow, eqV_iff, ih]
theorem eqRow_self (xs : List Val) : eqRow xs xs = true := eqRow_iff.2 rfl
theorem eqRow_no {xs ys : List Val} (h : xs ≠ ys) : eqRow xs ys = false := by
  cases e : eqRow xs ys
  · rfl
  · exact absurd (eqRow_iff.1 e) h
theorem eqRow_part {xs ys : List Val} {k : Nat} (h1 : k < xs.length) (h2 : k < ys.length) (h : (!eqV xs[k] ys[k]) = true) : eqRow xs ys = false := by
  refine eqRow_no fun e => ?_
  subst e
  rw [eqV_iff.2 rfl] at h
  cases h
theorem take_next {xs ys : List Val} {k : Nat} (h1 : k < xs.length) (h2 : k < ys.length) (h : (!eqV xs[k] ys[k]) = false) (ht : xs.take k = ys.take k) : xs.take (k + 1) = ys.take (k + 1) := by
  have e : xs[k] = ys[k] := eqV_iff.1 (by simpa using h)
  rw [List.take_succ_eq_append_getElem h1, List.take_succ_eq_append_getElem h2, ht, e]
theorem eqRow_take {xs ys : List Val} {k : Nat} (h1 : xs.length ≤ k) (hl : xs.length = ys.length) (ht : xs.take k = ys.take k) : eqRow xs ys = true := by
  rw [List.take_of_length_le h1, List.take_of_length_le (by omega)] at ht
  exact eqRow_iff.2 ht
theorem ret_bool {a b : Bool} (h : a = b) : Ending.returned (.bool a) = Ending.returned (.bool b) := by subst h; rfl
theorem drewN_refl (w : World) (q r : Nat) : Below w.heap.size w ((w.drewN q).drewN r) := below_drewN (below_drewN (Below.refl _ _) _) _
set_option maxHeartbeats 400000 in
theorem equal_no (va vb : Value) (xs ys : List Val) (w : World) (ha : RowIn w va xs) (hb : RowIn w vb ys) (hl : ¬ xs.length = ys.length) :
    Calls Tryd.prog 83 #[va, vb] w fun e w' => e = .returned (.bool false) ∧ Below w.heap.size w w' := by
  obtain ⟨aa, ca, rfl, la⟩ := ha.slice
  obtain ⟨ab, cb, rfl, lb⟩ := hb.slice
  have h : ((xs.length : Int) != (ys.length : Int)) = true := by simp; omega
  clear ha hb hl
  go_enter Tryd.func83, Tryd.ntmps83
  go_wp2
  go_ret
  exact ⟨rfl, Below.refl _ _⟩
set_option maxHeartbeats 400000 in
theorem equal_yes (va vb : Value) (xs ys : List Val) (w : World) (ha : RowIn w va xs) (hb : RowIn w vb ys) (hl : xs.length = ys.length) :
    Calls Tryd.prog 83 #[va, vb] w fun e w' => e = .returned (.bool (eqRow xs ys)) ∧ Below w.heap.size w w' := by
  obtain ⟨aa, ca, rfl, la⟩ := ha.slice
  obtain ⟨ab, cb, rfl, lb⟩ := hb.slice
  have HA : Hid (RowIn w (.slice aa xs.length ca) xs) := ha
  have HB : Hid (RowIn w (.slice ab ys.length cb) ys) := hb
  have HL : Hid (xs.length = ys.length) := hl
  clear ha hb
  go_enter Tryd.func83, Tryd.ntmps83
  go_wp2
  go_loopw [13] (fun i wr => ∃ k : Nat, k ≤ xs.length ∧ i = .int .i64 k ∧ Hid (xs.take k = ys.take k) ∧ Hid (∃ q, wr = w.drewN q)) (fun i _ => xs.length - (intOf i).toNat)
  case atStart => exact ⟨0, Nat.zero_le _, rfl, rfl, 0, rfl⟩
  case round =>
    obtain ⟨k, hk, rfl, HT, HW⟩ := hrel
    obtain ⟨q, hq⟩ := HW.out
    subst hq
    clear HW
    by_cases hlt : k < xs.length
    · have hlt2 : k < ys.length := by rw [← HL.out]; exact hlt
      obtain ⟨ba, oa, rfl, c0, c1, c2⟩ := HA.out.at k hlt
      obtain ⟨bb, ob, rfl, d0, d1, d2⟩ := HB.out.at k hlt2
      have hne := neq_V xs[k] ys[k]
      go_wp2
      go_quiet (fail)
      go_wp2
      · go_ret
        exact ⟨ret_bool (eqRow_part hlt hlt2 ‹_›).symm, drewN_refl _ _ _⟩
      · have HN : Hid (xs.take (k + 1) = ys.take (k + 1)) := take_next hlt hlt2 ‹_› HT.out
        go_roundw
        case rel => exact ⟨k + 1, by omega, by go_num, HN, _, rfl⟩
        case measure => simp [intOf]; omega
    · have HE : Hid (eqRow xs ys = true) := eqRow_take (by omega) HL.out HT.out
      clear HT
      go_wp2
      go_ret
      exact ⟨ret_bool HE.out.symm, below_drewN (Below.refl _ _) _⟩
theorem equal_any (va vb : Value) (xs ys : List Val) (w : World) (ha : RowIn w va xs) (hb : RowIn w vb ys) :
    Calls Tryd.prog 83 #[va, vb] w fun e w' => e = .returned (.bool (eqRow xs ys)) ∧ Below w.heap.size w w' := by
  by_cases hl : xs.length = ys.length
  · exact equal_yes va vb xs ys w ha hb hl
  · rw [eqRow_no (fun e => hl (congrArg List.length e))]; exact equal_no va vb xs ys w ha hb hl
set_option maxHeartbeats 400000 in
theorem rsame_no (va vb : Value) (xs ys : List Val) (w : World) (ha : RowIn w va xs) (hb : RowIn w vb ys) (hl : ¬ xs.length = ys.length) :
    Calls Tryd.prog 69 #[va, vb] w fun e w' => e = .returned (.bool false) ∧ Below w.heap.size w w' := by
  obtain ⟨aa, ca, rfl, la⟩ := ha.slice
  obtain ⟨ab, cb, rfl, lb⟩ := hb.slice
  have h : ((xs.length : Int) != (ys.length : Int)) = true := by simp; omega
  clear ha hb hl
  go_enter Tryd.func69, Tryd.ntmps69
  go_wp2
  go_ret
  exact ⟨rfl, Below.refl _ _⟩
set_option maxHeartbeats 400000 in
theorem rsame_yes (va vb : Value) (xs ys : List Val) (w : World) (ha : RowIn w va xs) (hb : RowIn w vb ys) (hl : xs.length = ys.length) :
    Calls Tryd.prog 69 #[va, vb] w fun e w' => e = .returned (.bool (eqRow xs ys)) ∧ Below w.heap.size w w' := by
  obtain ⟨aa, ca, rfl, la⟩ := ha.slice
  obtain ⟨ab, cb, rfl, lb⟩ := hb.slice
  have HA : Hid (RowIn w (.slice aa xs.length ca) xs) := ha
  have HB : Hid (RowIn w (.slice ab ys.length cb) ys) := hb
  have HL : Hid (xs.length = ys.length) := hl
  clear ha hb
  go_enter Tryd.func69, Tryd.ntmps69
  go_wp2
  go_loopw [5] (fun i wr => ∃ k : Nat, k ≤ xs.length ∧ i = .int .i64 k ∧ Hid (xs.take k = ys.take k) ∧ Hid (∃ q, wr = w.drewN q)) (fun i _ => xs.length - (intOf i).toNat)
  case atStart => exact ⟨0, Nat.zero_le _, rfl, rfl, 0, rfl⟩
  case round =>
    obtain ⟨k, hk, rfl, HT, HW⟩ := hrel
    obtain ⟨q, hq⟩ := HW.out
    subst hq
    clear HW
    by_cases hlt : k < xs.length
    · have hlt2 : k < ys.length := by rw [← HL.out]; exact hlt
      obtain ⟨ba, oa, rfl, c0, c1, c2⟩ := HA.out.at k hlt
      obtain ⟨bb, ob, rfl, d0, d1, d2⟩ := HB.out.at k hlt2
      have hne := neq_V xs[k] ys[k]
      go_wp2
      go_quiet (fail)
      go_wp2
      · go_ret
        exact ⟨ret_bool (eqRow_part hlt hlt2 ‹_›).symm, drewN_refl _ _ _⟩
      · have HN : Hid (xs.take (k + 1) = ys.take (k + 1)) := take_next hlt hlt2 ‹_› HT.out
        go_roundw
        case rel => exact ⟨k + 1, by omega, by go_num, HN, _, rfl⟩
        case measure => simp [intOf]; omega
    · have HE : Hid (eqRow xs ys = true) := eqRow_take (by omega) HL.out HT.out
      clear HT
      go_wp2
      go_ret
      exact ⟨ret_bool HE.out.symm, below_drewN (Below.refl _ _) _⟩
theorem rsame_any (va vb : Value) (xs ys : List Val) (w : World) (ha : RowIn w va xs) (hb : RowIn w vb ys) :
    Calls Tryd.prog 69 #[va, vb] w fun e w' => e = .returned (.bool (eqRow xs ys)) ∧ Below w.heap.size w w' := by
  by_cases hl : xs.length = ys.length
  · exact rsame_yes va vb xs ys w ha hb hl
  · rw [eqRow_no (fun e => hl (congrArg List.length e))]; exact rsame_no va vb xs ys w ha hb hl
set_option maxHeartbeats 400000 in
theorem same_any (va vb : Value) (xs ys : List Val) (w : World) (ha : RowIn w va xs) (hb : RowIn w vb ys) :
    Calls Tryd.prog 68 #[va, vb] w fun e w' => e = .returned (.bool (eqRow xs ys)) ∧ Below w.heap.size w w' := by
  have H : Hid _ := equal_any va vb xs ys w ha hb
  clear ha hb
  go_enter Tryd.func68, Tryd.ntmps68
  go_wp2_with fail
  refine Calls.mono H.out ?_
  rintro e w1 ⟨rfl, hb1⟩
  go_wp2
  go_ret
  exact ⟨rfl, hb1⟩
end Go.Proofs.YtkkbbpldeeajaaaDoor.Val
/- What row.Clone answers: the same values, in a row of its own. -/
namespace Go.Proofs.YtkkbbpldeeajaaaDoor.Val
open Go.RowKit

theorem info_V : (Tryd.prog.info? 25).map (fun i => (i.zero, i.size, i.bytes)) = some (some (V false 0 ⟨#[]⟩), 3, 32) := by kernel_rfl
set_option maxHeartbeats 400000 in
theorem clone_big (vr : Value) (xs : List Val) (w : World) (hr : RowIn w vr xs) (hl : xs.length * 32 ≤ 140737488355328) :
    Calls Tryd.prog 49 #[vr] w fun e w' => ∃ v', e = .returned v' ∧ OwnRow w' w.heap.size 25 v' xs ∧ Below w.heap.size w w' := by
  obtain ⟨i0, hi, hz0, hz1, hz2⟩ := info_parts info_V
  obtain ⟨ao, c, rfl, h1, h2, h0, h3⟩ := hr
  cases ao with
  | none =>
    obtain ⟨hn, rfl⟩ := h0 rfl
    have hx : xs = [] := List.eq_nil_of_length_eq_zero hn
    subst hx
    go_enter Tryd.func49, Tryd.ntmps49
    go_wp2_with (at_builtin; refine wpList_append_own_none rfl _ _ _ rfl w.heap.size 25 i0 3 Tryd.underlying43 hi _ 0 [] rfl (World.ownsRow_nil w w.heap.size _ 3) rfl ?_)
    go_ret
    exact ⟨_, rfl, OwnRow.nil _ _ _, Below.refl _ _⟩
  | some a =>
    have hcell : ∀ j u, (xs.flatMap Val.cells)[j]? = some u → w.cell? (a.add j) = some u := by
      rcases h3 with h3 | ⟨b, o, e, h3⟩
      · rw [h3]; intro j u hj; simp at hj
      · cases e; intro j u hj; rw [Addr.add_lit]; exact h3 j u hj
    have hlen : (xs.flatMap Val.cells).length = xs.length * 3 := flat_length Val.cells 3 (fun _ => rfl) xs
    have hone := cells_one xs
    clear h3
    go_enter Tryd.func49, Tryd.ntmps49
    go_wp2_with (at_builtin; refine wpList_append_own _ rfl _ _ _ rfl w.heap.size 25 i0 _ 3 32 Tryd.underlying43 hi hz0 hz1 hz2 rfl (by decide) _ 0 [] rfl (World.ownsRow_nil w w.heap.size _ 3) a xs.length c (xs.flatMap Val.cells) rfl hlen hcell hone ?_ ?_ (Nat.le_refl _) ?_)
    · unfold maxLen; omega
    · omega
    · intro v' w' hown hgrow _
      go_wp2
      go_ret
      exact ⟨_, rfl, hown, (Below.refl _ _).grown hgrow (Nat.le_refl _) (fun k hk => by cases hk)⟩
theorem clone_any (vr : Value) (xs : List Val) (w : World) (hr : RowIn w vr xs) (hl : xs.length ≤ 1000) :
    Calls Tryd.prog 49 #[vr] w fun e w' => ∃ v', e = .returned v' ∧ OwnRow w' w.heap.size 25 v' xs ∧ Below w.heap.size w w' := clone_big vr xs w hr (by omega)
end Go.Proofs.YtkkbbpldeeajaaaDoor.Val
/- What row.isColumn answers, and the law's long. -/
namespace Go.Proofs.YtkkbbpldeeajaaaDoor.Val
open Go.RowKit

end Go.Proofs.YtkkbbpldeeajaaaDoor.Val
/- What row.suits and row.Fits answer, and the reference's Fits. -/
namespace Go.Proofs.YtkkbbpldeeajaaaDoor.Val
open Go.RowKit

theorem back2d {w w1 : World} {o1 o2 : Obj} (h : Below ((w.alloc o1).alloc o2).drew.heap.size ((w.alloc o1).alloc o2).drew w1) : Below w.heap.size w w1 :=
  (((((Below.refl _ _).alloc (Nat.le_refl _) _).alloc (by simp) _).drew).trans (h.mono (by simp; omega)))
set_option maxHeartbeats 400000 in
theorem suits_no (vc : Value) (k : Int) (t : Bool) (n : Int) (s : ByteArray) (w : World) (hr : rightV t n s = false) (hs : s.size ≤ maxLen) :
    Calls Tryd.prog 84 #[.agg #[vc], .int .i64 k, V t n s] w fun e w' => e = .returned (.bool false) ∧ Below w.heap.size w w' := by
  have H : Hid (∀ w1, Calls Tryd.prog 59 #[V t n s] w1 fun e w' => e = .returned (.bool false) ∧ Below w1.heap.size w1 w') := fun w1 => by
    have := right_any t n s w1 hs; rw [hr] at this; exact this
  clear hr hs
  go_enter Tryd.func84, Tryd.ntmps84
  go_wp2
  refine wp_region_held_drew (S := fun w' => w'.cell? ⟨w.heap.size + 1, 0, none⟩ = some (.bool t) ∧ w'.cell? ⟨w.heap.size + 1, 1, none⟩ = some (.int .i64 n) ∧ w'.cell? ⟨w.heap.size + 1, 2, none⟩ = some (.string s)) (by kernel_rfl) ?_ (fun hHeld => ?_)
  · simp [go_sem]
  (try clear hK K)
  refine wpAnyH_take (i := 0) (v := ?_) rfl (by kernel_rfl) (by kernel_rfl) (by kernel_rfl) (fun _ _ _ h => h) (Or.inl ⟨by rfl, ?_⟩) (by assumption) ?_
  rotate_left
  · intro w hSw; (try dsimp only at hSw); go_simp; (try with_reducible rfl)
  (try simp only [Act.put, List.getElem_toArray, List.getElem_cons_zero, List.setIfInBounds_toArray, List.set_cons_zero, List.set_cons_succ])
  (try clear hK K)
  refine wpAnyH_ready (rs := [1]) (by kernel_rfl) (by simp) ?_
  refine AllReadyH.cons rfl (fun K hK => ?_) AllReadyH.nil
  go_simp
  (refine Calls.mono (H.out _) ?_; rintro e w1 ⟨rfl, hb1⟩)
  refine hK.out _ _ ?_ (fun hHeld => ?_)
  · refine ⟨?_, ?_, ?_⟩ <;> rw [hb1.cell (by simp)] <;> simp [go_sem]
  (try clear hK K)
  refine wpAnyH_take (i := 2) (v := ?_) rfl (by kernel_rfl) (by kernel_rfl) (by kernel_rfl) (fun _ _ _ h => h) (Or.inl ⟨by rfl, ?_⟩) (by assumption) ?_
  rotate_left
  · intro w hSw; (try dsimp only at hSw); go_simp; (try with_reducible rfl)
  (try simp only [Act.put, List.getElem_toArray, List.getElem_cons_succ, List.getElem_cons_zero, List.setIfInBounds_toArray, List.set_cons_zero, List.set_cons_succ])
  (try clear hK K)
  refine wpAnyH_take (i := 3) (v := undef) rfl (by kernel_rfl) (by kernel_rfl) (by kernel_rfl) (fun _ _ _ h => h) (Or.inr ⟨by rfl, rfl⟩) (by assumption) ?_
  (try simp only [Act.put, List.getElem_toArray, List.getElem_cons_succ, List.getElem_cons_zero, List.setIfInBounds_toArray, List.set_cons_zero, List.set_cons_succ])
  refine wpAnyH_take (i := 4) (v := undef) rfl (by kernel_rfl) (by kernel_rfl) (by kernel_rfl) (fun _ _ _ h => h) (Or.inr ⟨by rfl, rfl⟩) (by assumption) ?_
  (try simp only [Act.put, List.getElem_toArray, List.getElem_cons_succ, List.getElem_cons_zero, List.setIfInBounds_toArray, List.set_cons_zero, List.set_cons_succ])
  refine wpAnyH_take (i := 5) (v := undef) rfl (by kernel_rfl) (by kernel_rfl) (by kernel_rfl) (fun _ _ _ h => h) (Or.inr ⟨by rfl, rfl⟩) (by assumption) ?_
  (try simp only [Act.put, List.getElem_toArray, List.getElem_cons_succ, List.getElem_cons_zero, List.setIfInBounds_toArray, List.set_cons_zero, List.set_cons_succ])
  refine wpAnyH_take (i := 6) (v := undef) rfl (by kernel_rfl) (by kernel_rfl) (by kernel_rfl) (fun _ _ _ h => h) (Or.inr ⟨by rfl, rfl⟩) (by assumption) ?_
  (try simp only [Act.put, List.getElem_toArray, List.getElem_cons_succ, List.getElem_cons_zero, List.setIfInBounds_toArray, List.set_cons_zero, List.set_cons_succ])
  refine wpAnyH_take (i := 7) (v := undef) rfl (by kernel_rfl) (by kernel_rfl) (by kernel_rfl) (fun _ _ _ h => h) (Or.inr ⟨by rfl, rfl⟩) (by assumption) ?_
  (try simp only [Act.put, List.getElem_toArray, List.getElem_cons_succ, List.getElem_cons_zero, List.setIfInBounds_toArray, List.set_cons_zero, List.set_cons_succ])
  refine wpAnyH_take (i := 8) (v := undef) rfl (by kernel_rfl) (by kernel_rfl) (by kernel_rfl) (fun _ _ _ h => h) (Or.inr ⟨by rfl, rfl⟩) (by assumption) ?_
  (try simp only [Act.put, List.getElem_toArray, List.getElem_cons_succ, List.getElem_cons_zero, List.setIfInBounds_toArray, List.set_cons_zero, List.set_cons_succ])
  refine wpAnyH_take (i := 9) (v := undef) rfl (by kernel_rfl) (by kernel_rfl) (by kernel_rfl) (fun _ _ _ h => h) (Or.inr ⟨by rfl, rfl⟩) (by assumption) ?_
  (try simp only [Act.put, List.getElem_toArray, List.getElem_cons_succ, List.getElem_cons_zero, List.setIfInBounds_toArray, List.set_cons_zero, List.set_cons_succ])
  refine wpAnyH_take (i := 10) (v := undef) rfl (by kernel_rfl) (by kernel_rfl) (by kernel_rfl) (fun _ _ _ h => h) (Or.inr ⟨by rfl, rfl⟩) (by assumption) ?_
  (try simp only [Act.put, List.getElem_toArray, List.getElem_cons_succ, List.getElem_cons_zero, List.setIfInBounds_toArray, List.set_cons_zero, List.set_cons_succ])
  (try clear hK K)
  refine wpAnyH_take (i := 11) (v := ?_) rfl (by kernel_rfl) (by kernel_rfl) (by kernel_rfl) (fun _ _ _ h => h) (Or.inl ⟨by rfl, ?_⟩) (by assumption) ?_
  rotate_left
  · intro w hSw; (try dsimp only at hSw); go_simp; (try with_reducible rfl)
  (try simp only [Act.put, List.getElem_toArray, List.getElem_cons_succ, List.getElem_cons_zero, List.setIfInBounds_toArray, List.set_cons_zero, List.set_cons_succ])
  refine wpAnyH_take (i := 12) (v := ?_) rfl (by kernel_rfl) (by kernel_rfl) (by kernel_rfl) (fun _ _ _ h => h) (Or.inl ⟨by rfl, ?_⟩) (by assumption) ?_
  rotate_left
  · intro w hSw; (try dsimp only at hSw); go_simp; (try with_reducible rfl)
  (try simp only [Act.put, List.getElem_toArray, List.getElem_cons_succ, List.getElem_cons_zero, List.setIfInBounds_toArray, List.set_cons_zero, List.set_cons_succ])
  (try clear hK K)
  refine wpAnyH_done (by kernel_rfl) ?_ _
  go_wp2
  go_ret
  exact ⟨rfl, back2d hb1⟩
set_option maxHeartbeats 400000 in
theorem suits_yes (ac : Option Addr) (cc : Nat) (cols : List Bool) (k : Nat) (t : Bool) (n : Int) (s : ByteArray) (w : World) (h : BoolsIn w (.slice ac cols.length cc) cols) (hr : rightV t n s = true) (hs : s.size ≤ maxLen) (hk : k < cols.length) :
    Calls Tryd.prog 84 #[.agg #[.slice ac cols.length cc], .int .i64 k, V t n s] w fun e w' => e = .returned (.bool (t == cols[k])) ∧ Below w.heap.size w w' := by
  have H : Hid (∀ w1, Calls Tryd.prog 59 #[V t n s] w1 fun e w' => e = .returned (.bool true) ∧ Below w1.heap.size w1 w') := fun w1 => by
    have := right_any t n s w1 hs; rw [hr] at this; exact this
  obtain ⟨b, o, rfl, hc⟩ := h.at k hk
  have hlt : b < w.heap.size := World.block_lt_of_cell? w _ hc
  have k0 : (0 : Int) ≤ (k : Int) := by omega
  have k1 : (k : Int) < (cols.length : Int) := by omega
  clear hr hs h
  generalize cols[k] = c at *
  go_enter Tryd.func84, Tryd.ntmps84
  go_wp2
  refine wp_region_held_drew (S := fun w' => w'.cell? ⟨w.heap.size + 1, 0, none⟩ = some (.bool t) ∧ w'.cell? ⟨w.heap.size + 1, 1, none⟩ = some (.int .i64 n) ∧ w'.cell? ⟨w.heap.size + 1, 2, none⟩ = some (.string s) ∧ w'.cell? ⟨w.heap.size, 0, none⟩ = some (.slice (some ⟨b, o, none⟩) cols.length cc) ∧ w'.cell? ⟨b, o + k, none⟩ = some (.bool c)) (by kernel_rfl) ?_ (fun hHeld => ?_)
  · simp [go_sem, hc, World.cell?_alloc_some]
  (try clear hK K)
  refine wpAnyH_take (i := 0) (v := ?_) rfl (by kernel_rfl) (by kernel_rfl) (by kernel_rfl) (fun _ _ _ h => h) (Or.inl ⟨by rfl, ?_⟩) (by assumption) ?_
  rotate_left
  · intro w hSw; (try dsimp only at hSw); go_simp; (try with_reducible rfl)
  (try simp only [Act.put, List.getElem_toArray, List.getElem_cons_zero, List.setIfInBounds_toArray, List.set_cons_zero, List.set_cons_succ])
  (try clear hK K)
  refine wpAnyH_ready (rs := [1]) (by kernel_rfl) (by simp) ?_
  refine AllReadyH.cons rfl (fun K hK => ?_) AllReadyH.nil
  go_simp
  (refine Calls.mono (H.out _) ?_; rintro e w1 ⟨rfl, hb1⟩)
  refine hK.out _ _ ?_ (fun hHeld => ?_)
  · refine ⟨?_, ?_, ?_, ?_, ?_⟩ <;> rw [hb1.cell (by simp; try omega)] <;> simp [go_sem, hc, World.cell?_alloc_some]
  (try clear hK K)
  refine wpAnyH_take (i := 2) (v := ?_) rfl (by kernel_rfl) (by kernel_rfl) (by kernel_rfl) (fun _ _ _ h => h) (Or.inl ⟨by rfl, ?_⟩) (by assumption) ?_
  rotate_left
  · intro w hSw; (try dsimp only at hSw); go_simp; (try with_reducible rfl)
  (try simp only [Act.put, List.getElem_toArray, List.getElem_cons_succ, List.getElem_cons_zero, List.setIfInBounds_toArray, List.set_cons_zero, List.set_cons_succ])
  refine wpAnyH_take (i := 3) (v := ?_) rfl (by kernel_rfl) (by kernel_rfl) (by kernel_rfl) (fun _ _ _ h => h) (Or.inl ⟨by rfl, ?_⟩) (by assumption) ?_
  rotate_left
  · intro w hSw; (try dsimp only at hSw); go_simp; (try with_reducible rfl)
  (try simp only [Act.put, List.getElem_toArray, List.getElem_cons_succ, List.getElem_cons_zero, List.setIfInBounds_toArray, List.set_cons_zero, List.set_cons_succ])
  refine wpAnyH_take (i := 4) (v := ?_) rfl (by kernel_rfl) (by kernel_rfl) (by kernel_rfl) (fun _ _ _ h => h) (Or.inl ⟨by rfl, ?_⟩) (by assumption) ?_
  rotate_left
  · intro w hSw; (try dsimp only at hSw); go_simp; (try with_reducible rfl)
  (try simp only [Act.put, List.getElem_toArray, List.getElem_cons_succ, List.getElem_cons_zero, List.setIfInBounds_toArray, List.set_cons_zero, List.set_cons_succ])
  refine wpAnyH_take (i := 5) (v := ?_) rfl (by kernel_rfl) (by kernel_rfl) (by kernel_rfl) (fun _ _ _ h => h) (Or.inl ⟨by rfl, ?_⟩) (by assumption) ?_
  rotate_left
  · intro w hSw; (try dsimp only at hSw); go_simp; (try with_reducible rfl)
  (try simp only [Act.put, List.getElem_toArray, List.getElem_cons_succ, List.getElem_cons_zero, List.setIfInBounds_toArray, List.set_cons_zero, List.set_cons_succ])
  refine wpAnyH_take (i := 6) (v := ?_) rfl (by kernel_rfl) (by kernel_rfl) (by kernel_rfl) (fun _ _ _ h => h) (Or.inl ⟨by rfl, ?_⟩) (by assumption) ?_
  rotate_left
  · intro w hSw; (try dsimp only at hSw); go_simp; (try with_reducible rfl)
  (try simp only [Act.put, List.getElem_toArray, List.getElem_cons_succ, List.getElem_cons_zero, List.setIfInBounds_toArray, List.set_cons_zero, List.set_cons_succ])
  refine wpAnyH_take (i := 7) (v := ?_) rfl (by kernel_rfl) (by kernel_rfl) (by kernel_rfl) (fun _ _ _ h => h) (Or.inl ⟨by rfl, ?_⟩) (by assumption) ?_
  rotate_left
  · intro w hSw; (try dsimp only at hSw); go_simp; (try with_reducible rfl)
  (try simp only [Act.put, List.getElem_toArray, List.getElem_cons_succ, List.getElem_cons_zero, List.setIfInBounds_toArray, List.set_cons_zero, List.set_cons_succ])
  refine wpAnyH_take (i := 8) (v := ?_) rfl (by kernel_rfl) (by kernel_rfl) (by kernel_rfl) (fun _ _ _ h => h) (Or.inl ⟨by rfl, ?_⟩) (by assumption) ?_
  rotate_left
  · intro w hSw; (try dsimp only at hSw); go_simp; (try with_reducible rfl)
  (try simp only [Act.put, List.getElem_toArray, List.getElem_cons_succ, List.getElem_cons_zero, List.setIfInBounds_toArray, List.set_cons_zero, List.set_cons_succ])
  refine wpAnyH_take (i := 9) (v := ?_) rfl (by kernel_rfl) (by kernel_rfl) (by kernel_rfl) (fun _ _ _ h => h) (Or.inl ⟨by rfl, ?_⟩) (by assumption) ?_
  rotate_left
  · intro w hSw; (try dsimp only at hSw); go_simp; (try with_reducible rfl)
  (try simp only [Act.put, List.getElem_toArray, List.getElem_cons_succ, List.getElem_cons_zero, List.setIfInBounds_toArray, List.set_cons_zero, List.set_cons_succ])
  refine wpAnyH_take (i := 10) (v := ?_) rfl (by kernel_rfl) (by kernel_rfl) (by kernel_rfl) (fun _ _ _ h => h) (Or.inl ⟨by rfl, ?_⟩) (by assumption) ?_
  rotate_left
  · intro w hSw; (try dsimp only at hSw); go_simp; (try with_reducible rfl)
  (try simp only [Act.put, List.getElem_toArray, List.getElem_cons_succ, List.getElem_cons_zero, List.setIfInBounds_toArray, List.set_cons_zero, List.set_cons_succ])
  refine wpAnyH_take (i := 11) (v := ?_) rfl (by kernel_rfl) (by kernel_rfl) (by kernel_rfl) (fun _ _ _ h => h) (Or.inl ⟨by rfl, ?_⟩) (by assumption) ?_
  rotate_left
  · intro w hSw; (try dsimp only at hSw); go_simp; (try with_reducible rfl)
  (try simp only [Act.put, List.getElem_toArray, List.getElem_cons_succ, List.getElem_cons_zero, List.setIfInBounds_toArray, List.set_cons_zero, List.set_cons_succ])
  refine wpAnyH_take (i := 12) (v := ?_) rfl (by kernel_rfl) (by kernel_rfl) (by kernel_rfl) (fun _ _ _ h => h) (Or.inl ⟨by rfl, ?_⟩) (by assumption) ?_
  rotate_left
  · intro w hSw; (try dsimp only at hSw); go_simp; (try with_reducible rfl)
  (try simp only [Act.put, List.getElem_toArray, List.getElem_cons_succ, List.getElem_cons_zero, List.setIfInBounds_toArray, List.set_cons_zero, List.set_cons_succ])
  (try clear hK K)
  refine wpAnyH_done (by kernel_rfl) ?_ _
  go_wp2
  go_ret
  exact ⟨rfl, back2d hb1⟩
theorem suits_any (vc : Value) (cols : List Bool) (k : Nat) (x : Val) (w : World) (h : BoolsIn w vc cols) (hs : x.s.size ≤ maxLen) (hk : k < cols.length) :
    Calls Tryd.prog 84 #[.agg #[vc], .int .i64 k, V x.t x.n x.s] w fun e w' => e = .returned (.bool (suitV cols[k] x)) ∧ Below w.heap.size w w' := by
  obtain ⟨ac, cc, rfl, lc⟩ := h.slice
  cases hr : rightV x.t x.n x.s
  · have e : suitV cols[k] x = false := by unfold suitV; rw [hr]; rfl
    rw [e]; exact suits_no _ k x.t x.n x.s w hr hs
  · have e : suitV cols[k] x = (x.t == cols[k]) := by unfold suitV; rw [hr]; rfl
    rw [e]; exact suits_yes ac cc cols k x.t x.n x.s w h hr hs hk
end Go.Proofs.YtkkbbpldeeajaaaDoor.Val
/- What row.Fits answers, and the reference's. -/
namespace Go.Proofs.YtkkbbpldeeajaaaDoor.Val
open Go.RowKit

set_option maxHeartbeats 400000 in
theorem fits_no (vc vr : Value) (cols : List Bool) (xs : List Val) (w : World) (hc : BoolsIn w vc cols) (_hr : RowIn w vr xs) (h : mayT cols = false) :
    Calls Tryd.prog 74 #[.agg #[vc], vr] w fun e w' => e = .returned (.bool false) ∧ Below w.heap.size w w' := by
  have H : Hid (∀ w1, Below w.heap.size w w1 → Calls Tryd.prog 57 #[.agg #[vc]] w1 fun e w' => e = .returned (.int .i64 1) ∧ Below w1.heap.size w1 w') := fun w1 hb => by
    have := check_any vc cols w1 (hc.below hb); rw [h] at this; exact this
  clear h hc
  go_enter Tryd.func74, Tryd.ntmps74
  go_wp2_with fail
  refine Calls.mono (H.out _ ((Below.refl _ _).alloc (Nat.le_refl _) _)) ?_
  rintro e w1 ⟨rfl, hb1⟩
  go_wp2
  go_ret
  exact ⟨rfl, back1 hb1⟩
set_option maxHeartbeats 400000 in
theorem fits_len (vc vr : Value) (cols : List Bool) (xs : List Val) (w : World) (hc : BoolsIn w vc cols) (hr : RowIn w vr xs) (h : mayT cols = true) (hl : ¬ xs.length = cols.length) :
    Calls Tryd.prog 74 #[.agg #[vc], vr] w fun e w' => e = .returned (.bool false) ∧ Below w.heap.size w w' := by
  have H : Hid (∀ w1, Below w.heap.size w w1 → Calls Tryd.prog 57 #[.agg #[vc]] w1 fun e w' => e = .returned (.int .i64 0) ∧ Below w1.heap.size w1 w') := fun w1 hb => by
    have := check_any vc cols w1 (hc.below hb); rw [h] at this; exact this
  obtain ⟨ac, cc, rfl, lc⟩ := hc.slice
  obtain ⟨ar, cr, rfl, lr⟩ := hr.slice
  have hd : ((xs.length : Int) != (cols.length : Int)) = true := by simp; omega
  clear h hc hr hl
  go_enter Tryd.func74, Tryd.ntmps74
  go_wp2_with fail
  refine Calls.mono (H.out _ ((Below.refl _ _).alloc (Nat.le_refl _) _)) ?_
  rintro e w1 ⟨rfl, hb1⟩
  have c0 := in1 hb1
  go_wp2
  go_ret
  exact ⟨rfl, back1 hb1⟩
set_option maxHeartbeats 1000000 in
theorem fits_yes (vc vr : Value) (cols : List Bool) (xs : List Val) (w : World) (hc : BoolsIn w vc cols) (hr : RowIn w vr xs) (ho : RowOk xs) (h : mayT cols = true) (hl : xs.length = cols.length) :
    Calls Tryd.prog 74 #[.agg #[vc], vr] w fun e w' => e = .returned (.bool (fitsL cols xs)) ∧ Below w.heap.size w w' := by
  have H : Hid (∀ w1, Below w.heap.size w w1 → Calls Tryd.prog 57 #[.agg #[vc]] w1 fun e w' => e = .returned (.int .i64 0) ∧ Below w1.heap.size w1 w') := fun w1 hb => by
    have := check_any vc cols w1 (hc.below hb); rw [h] at this; exact this
  have HS : Hid (∀ w1 (k : Nat) (h1 : k < cols.length) (h2 : k < xs.length), Below w.heap.size w w1 → Calls Tryd.prog 84 #[.agg #[vc], .int .i64 k, V xs[k].t xs[k].n xs[k].s] w1 fun e w' => e = .returned (.bool (suitV cols[k] xs[k])) ∧ Below w1.heap.size w1 w') :=
    fun w1 k h1 h2 hb => suits_any vc cols k xs[k] w1 (hc.below hb) (ho _ (List.getElem_mem _)).2 h1
  obtain ⟨ac, cc, rfl, lc⟩ := hc.slice
  obtain ⟨ar, cr, rfl, lr⟩ := hr.slice
  have HR : Hid (RowIn w (.slice ar xs.length cr) xs) := hr
  have hd : ((xs.length : Int) != (cols.length : Int)) = false := by simp; omega
  clear h hc hr ho
  have HL : Hid (xs.length = cols.length) := hl
  clear hl
  go_enter Tryd.func74, Tryd.ntmps74
  go_wp2_with fail
  refine Calls.mono (H.out _ ((Below.refl _ _).alloc (Nat.le_refl _) _)) ?_
  rintro e w1 ⟨rfl, hb1⟩
  have c0 := in1 hb1
  have HB : Hid (Below (w.heap.size + 1) (w.alloc (.cells #[.slice ac cols.length cc] 50)) w1) := hb1.mono (by simp)
  clear hb1 H
  go_wp2_with fail
  go_loopw [20] (fun i wr => ∃ k : Nat, k ≤ xs.length ∧ i = .int .i64 k ∧ Hid (FitsTo cols xs k) ∧ Hid (Below (w.heap.size + 1) (w.alloc (.cells #[.slice ac cols.length cc] 50)) wr)) (fun i _ => xs.length - (intOf i).toNat)
  case atStart => exact ⟨0, Nat.zero_le _, rfl, FitsTo.zero _ _, HB⟩
  case round =>
    obtain ⟨k, hk, rfl, HT, HW⟩ := hrel
    clear HB c0
    have hBr : Below w.heap.size w wr := back1 (HW.out.mono (by simp))
    have c0 : wr.cell? ⟨w.heap.size, 0, none⟩ = some (.slice ac cols.length cc) := in1 (HW.out.mono (by simp))
    have hz : w.heap.size < wr.heap.size := World.block_lt_of_cell? wr _ c0
    by_cases hlt : k < xs.length
    · have hlt2 : k < cols.length := by rw [← HL.out]; exact hlt
      obtain ⟨b, o, rfl, d0, d1, d2⟩ := (HR.out.below hBr).at k hlt
      have HBr : Hid (Below w.heap.size w wr) := hBr
      clear hBr
      go_wp2_with fail
      refine Calls.mono (HS.out _ k hlt2 hlt (HBr.out.alloc (by omega) _)) ?_
      rintro e w2 ⟨rfl, hb2⟩
      have HB2 : Hid (Below (w.heap.size + 1) (w.alloc (.cells #[.slice ac cols.length cc] 50)) w2) := next1 HW.out (by omega) hb2
      clear hb2
      cases hs : suitV cols[k] xs[k]
      · have HN : Hid (fitsL cols xs = false) := fitsL_no hlt2 hlt hs
        go_wp2_with fail
        go_ret
        exact ⟨ret_bool' HN.out.symm, back1 (HB2.out.mono (by simp))⟩
      · have HN : Hid (FitsTo cols xs (k + 1)) := HT.out.next hlt2 hlt hs
        go_wp2_with fail
        go_roundw
        case rel => exact ⟨k + 1, by omega, by go_num, HN, HB2⟩
        case measure => simp [intOf]; omega
    · have HN : Hid (fitsL cols xs = true) := HT.out.all (by omega)
      go_wp2_with fail
      go_ret
      exact ⟨ret_bool' HN.out.symm, hBr⟩
theorem fits_any (vc vr : Value) (cols : List Bool) (xs : List Val) (w : World) (hc : BoolsIn w vc cols) (hr : RowIn w vr xs) (ho : RowOk xs) :
    Calls Tryd.prog 74 #[.agg #[vc], vr] w fun e w' => e = .returned (.bool (fitsRow cols xs)) ∧ Below w.heap.size w w' := by
  cases h : mayT cols
  · rw [fitsRow_may h]; exact fits_no vc vr cols xs w hc hr h
  · by_cases hl : xs.length = cols.length
    · rw [fitsRow_of h hl]; exact fits_yes vc vr cols xs w hc hr ho h hl
    · rw [fitsRow_len hl]; exact fits_len vc vr cols xs w hc hr h hl
end Go.Proofs.YtkkbbpldeeajaaaDoor.Val
