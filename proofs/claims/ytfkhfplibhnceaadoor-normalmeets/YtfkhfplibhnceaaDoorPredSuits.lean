/- What pred.suits answers. -/
import Derived.Test.YtfkhfplibhnceaaDoorPredOf
namespace Go.Proofs.YtfkhfplibhnceaaDoor.Val
open Go.RowKit

theorem ret_b2 {a b : Bool} (h : a = b) : Ending.returned (.bool a) = Ending.returned (.bool b) := by subst h; rfl
/-- May a part be a table's, whatever its own parts are? -/
def suitO (cols : List Bool) (op col : Int) (v u : Val) (n : Nat) : Bool :=
  if op = 1 ∨ op = 2 then decide (n = 0) else if 3 ≤ op ∧ op ≤ 8 then decide (n = 0) && ofB cols col v else if op = 9 then decide (n = 0) && (ofB cols col v && ofB cols col u) else if op = 10 then decide (n = 1) else if op = 11 ∨ op = 12 then decide (0 < n) else false
def suitP (cols : List Bool) (p : PT) : Bool := suitO cols p.op p.col p.v p.w p.l.length
set_option maxHeartbeats 1000000 in
/-- PTrue, PFalse. -/
theorem suits_12 (vc lv : Value) (op col : Int) (v u : Val) (ao : Option Addr) (n c : Nat) (w : World) (hl : lv = .slice ao n c) (ho : op = 1 ∨ op = 2) (_hn : n ≤ 9223372036854775807) :
    Calls Tryd.prog 61 #[.agg #[vc], PV op col v.t v.n v.s u.t u.n u.s lv] w fun e w' => e = .returned (.bool (decide (n = 0))) ∧ Below w.heap.size w w' := by
  subst hl
  rcases ho with rfl | rfl
  · go_enter Tryd.func61, Tryd.ntmps61
    go_wp2_with fail
    go_ret
    exact ⟨ret_b2 (by rw [Bool.eq_iff_iff]; simp), back1 (alloc1 _ _)⟩
  · go_enter Tryd.func61, Tryd.ntmps61
    go_wp2_with fail
    go_ret
    exact ⟨ret_b2 (by rw [Bool.eq_iff_iff]; simp), back1 (alloc1 _ _)⟩
set_option maxHeartbeats 2000000 in
/-- PEq to PGe. -/
theorem suits_38 (vc : Value) (op col : Int) (v u : Val) (ao : Option Addr) (n c : Nat) (w : World) (a : Bool) (ho : op = 3 ∨ op = 4 ∨ op = 5 ∨ op = 6 ∨ op = 7 ∨ op = 8) (hn : n ≤ 9223372036854775807)
    (h : ∀ w1, Below w.heap.size w w1 → Calls Tryd.prog 68 #[.agg #[vc], .int .i64 col, V v.t v.n v.s] w1 fun e w' => e = .returned (.bool a) ∧ Below w1.heap.size w1 w') :
    Calls Tryd.prog 61 #[.agg #[vc], PV op col v.t v.n v.s u.t u.n u.s (.slice ao n c)] w fun e w' => e = .returned (.bool (decide (n = 0) && a)) ∧ Below w.heap.size w w' := by
  have H : Hid _ := h
  clear h
  by_cases h0 : n = 0
  · subst h0
    rcases ho with rfl | rfl | rfl | rfl | rfl | rfl <;>
    · go_enter Tryd.func61, Tryd.ntmps61
      go_wp2_with fail
      refine Calls.mono (H.out _ (back1 (alloc1 _ _))) ?_
      rintro e w1 ⟨rfl, hb⟩
      go_wp2_with fail
      go_ret
      exact ⟨rfl, back2 hb⟩
  · have h1 : ((n : Int) == 0) = false := by rw [beq_eq_false_iff_ne]; omega
    have HD : Hid (decide (n = 0) = false) := by rw [Hid]; simpa using h0
    clear H h0
    rcases ho with rfl | rfl | rfl | rfl | rfl | rfl <;>
    · go_enter Tryd.func61, Tryd.ntmps61
      go_wp2_with fail
      go_ret
      exact ⟨ret_b2 (by rw [HD.out]; rfl), back1 (alloc1 _ _)⟩
set_option maxHeartbeats 2000000 in
/-- PIn. -/
theorem suits_9 (vc : Value) (col : Int) (v u : Val) (ao : Option Addr) (n c : Nat) (w : World) (a a' : Bool) (hn : n ≤ 9223372036854775807)
    (h : ∀ w1, Below w.heap.size w w1 → Calls Tryd.prog 68 #[.agg #[vc], .int .i64 col, V v.t v.n v.s] w1 fun e w' => e = .returned (.bool a) ∧ Below w1.heap.size w1 w')
    (h' : ∀ w1, Below w.heap.size w w1 → Calls Tryd.prog 68 #[.agg #[vc], .int .i64 col, V u.t u.n u.s] w1 fun e w' => e = .returned (.bool a') ∧ Below w1.heap.size w1 w') :
    Calls Tryd.prog 61 #[.agg #[vc], PV 9 col v.t v.n v.s u.t u.n u.s (.slice ao n c)] w fun e w' => e = .returned (.bool (decide (n = 0) && (a && a'))) ∧ Below w.heap.size w w' := by
  have H : Hid _ := h
  have H' : Hid _ := h'
  clear h h'
  by_cases h0 : n = 0
  · subst h0
    go_enter Tryd.func61, Tryd.ntmps61
    go_wp2_with fail
    refine Calls.mono (H.out _ (back1 (alloc1 _ _))) ?_
    rintro e w1 ⟨rfl, hb⟩
    have HB : Hid (Below w.heap.size w w1) := back2 hb
    have t0 : w1.cell? ⟨w.heap.size, 0, none⟩ = some vc := by rw [hb.cell (by simp; omega)]; simp [go_sem]
    have d1 : w1.cell? ⟨w.heap.size + 1, 1, none⟩ = some (.int .i64 col) := by rw [hb.cell (by simp)]; simp [go_sem]
    have d5 : w1.cell? ⟨w.heap.size + 1, 5, none⟩ = some (.bool u.t) := by rw [hb.cell (by simp)]; simp [go_sem]
    have d6 : w1.cell? ⟨w.heap.size + 1, 6, none⟩ = some (.int .i64 u.n) := by rw [hb.cell (by simp)]; simp [go_sem]
    have d7 : w1.cell? ⟨w.heap.size + 1, 7, none⟩ = some (.string u.s) := by rw [hb.cell (by simp)]; simp [go_sem]
    clear hb H
    cases a
    · clear H'
      go_wp2_with fail
      go_ret
      exact ⟨rfl, HB.out⟩
    · go_wp2_with fail
      refine Calls.mono (H'.out _ HB.out) ?_
      rintro e w2 ⟨rfl, hb2⟩
      have HB2 : Hid (Below w.heap.size w w2) := on HB.out hb2
      clear hb2 HB H'
      go_wp2_with fail
      go_ret
      exact ⟨rfl, HB2.out⟩
  · have h1 : ((n : Int) == 0) = false := by rw [beq_eq_false_iff_ne]; omega
    have HD : Hid (decide (n = 0) = false) := by rw [Hid]; simpa using h0
    clear H H' h0
    go_enter Tryd.func61, Tryd.ntmps61
    go_wp2_with fail
    go_ret
    exact ⟨ret_b2 (by rw [HD.out]; rfl), back1 (alloc1 _ _)⟩
set_option maxHeartbeats 1000000 in
/-- PNot, PAnd, POr, and what is none. -/
theorem suits_10 (vc : Value) (col : Int) (v u : Val) (ao : Option Addr) (n c : Nat) (w : World) (_hn : n ≤ 9223372036854775807) :
    Calls Tryd.prog 61 #[.agg #[vc], PV 10 col v.t v.n v.s u.t u.n u.s (.slice ao n c)] w fun e w' => e = .returned (.bool (decide (n = 1))) ∧ Below w.heap.size w w' := by
  go_enter Tryd.func61, Tryd.ntmps61
  go_wp2_with fail
  go_ret
  exact ⟨ret_b2 (by rw [Bool.eq_iff_iff]; simp; omega), back1 (alloc1 _ _)⟩
set_option maxHeartbeats 1000000 in
theorem suits_11 (vc : Value) (op col : Int) (v u : Val) (ao : Option Addr) (n c : Nat) (w : World) (ho : op = 11 ∨ op = 12) (_hn : n ≤ 9223372036854775807) :
    Calls Tryd.prog 61 #[.agg #[vc], PV op col v.t v.n v.s u.t u.n u.s (.slice ao n c)] w fun e w' => e = .returned (.bool (decide (0 < n))) ∧ Below w.heap.size w w' := by
  rcases ho with rfl | rfl
  · go_enter Tryd.func61, Tryd.ntmps61
    go_wp2_with fail
    go_ret
    exact ⟨ret_b2 (by rw [Bool.eq_iff_iff]), back1 (alloc1 _ _)⟩
  · go_enter Tryd.func61, Tryd.ntmps61
    go_wp2_with fail
    go_ret
    exact ⟨ret_b2 (by rw [Bool.eq_iff_iff]), back1 (alloc1 _ _)⟩
set_option maxHeartbeats 1000000 in
theorem suits_none (vc lv : Value) (op col : Int) (v u : Val) (w : World) (e1 : (op == 1) = false) (e2 : (op == 2) = false) (e3 : (op == 3) = false) (e4 : (op == 4) = false) (e5 : (op == 5) = false) (e6 : (op == 6) = false) (e7 : (op == 7) = false) (e8 : (op == 8) = false) (e9 : (op == 9) = false) (e10 : (op == 10) = false) (e11 : (op == 11) = false) (e12 : (op == 12) = false) :
    Calls Tryd.prog 61 #[.agg #[vc], PV op col v.t v.n v.s u.t u.n u.s lv] w fun e w' => e = .returned (.bool false) ∧ Below w.heap.size w w' := by
  go_enter Tryd.func61, Tryd.ntmps61
  go_wp2_with fail
  go_ret
  exact ⟨rfl, back1 (alloc1 _ _)⟩
theorem suits_any (vc : Value) (cols : List Bool) (p : PT) (w : World) (h : BoolsIn w vc cols) (hi : In w p) :
    Calls Tryd.prog 61 #[.agg #[vc], p.val] w fun e w' => e = .returned (.bool (suitP cols p)) ∧ Below w.heap.size w w' := by
  obtain ⟨ao, c, hlv, hn⟩ := hi.lies.slice
  have hv := fun w1 (hb : Below w.heap.size w w1) => isOf_any vc cols p.col p.v w1 (h.below hb) hi.sv
  have hu := fun w1 (hb : Below w.heap.size w w1) => isOf_any vc cols p.col p.w w1 (h.below hb) hi.sw
  unfold PT.val suitP suitO
  rw [hlv]
  by_cases h12 : p.op = 1 ∨ p.op = 2
  · rw [if_pos h12]; exact suits_12 vc _ _ _ _ _ _ _ _ w rfl h12 hn
  rw [if_neg h12]
  by_cases h38 : 3 ≤ p.op ∧ p.op ≤ 8
  · rw [if_pos h38]; exact suits_38 vc _ _ _ _ _ _ _ w _ (by omega) hn hv
  rw [if_neg h38]
  by_cases h9 : p.op = 9
  · rw [if_pos h9, h9]; exact suits_9 vc _ _ _ _ _ _ w _ _ hn hv hu
  rw [if_neg h9]
  by_cases h10 : p.op = 10
  · rw [if_pos h10, h10]; exact suits_10 vc _ _ _ _ _ _ w hn
  rw [if_neg h10]
  by_cases h11 : p.op = 11 ∨ p.op = 12
  · rw [if_pos h11]; exact suits_11 vc _ _ _ _ _ _ _ w h11 hn
  rw [if_neg h11]
  have hne : ∀ k : Int, p.op ≠ k → (p.op == k) = false := fun k hk => by simpa using hk
  exact suits_none vc _ _ _ _ _ w (hne _ (by omega)) (hne _ (by omega)) (hne _ (by omega)) (hne _ (by omega)) (hne _ (by omega)) (hne _ (by omega)) (hne _ (by omega)) (hne _ (by omega)) (hne _ (by omega)) (hne _ (by omega)) (hne _ (by omega)) (hne _ (by omega))
end Go.Proofs.YtfkhfplibhnceaaDoor.Val
