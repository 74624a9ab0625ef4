/- What pred.stands answers. -/
import Derived.Test.YtnfageikacfdoaaPredBox
import Derived.Test.YtnfageikacfdoaaCmp
namespace Go.Proofs.Ytnfageikacfdoaa.Val
open Go.RowKit

theorem ret_b {a b : Bool} (h : a = b) : Ending.returned (.bool a) = Ending.returned (.bool b) := by subst h; rfl
theorem cmp_any' (x y : Val) (w : World) :
    Calls Try.prog 43 #[V x.t x.n x.s, V y.t y.n y.s] w fun e w' => e = .returned (.int .i64 (cmpX x y)) ∧ Below w.heap.size w w' := cmp_any _ _ _ _ _ _ _
set_option maxHeartbeats 1000000 in
theorem stands_any (x : Val) (p : PT) (w : World) :
    Calls Try.prog 31 #[V x.t x.n x.s, p.val] w fun e w' => e = .returned (.bool (standB p.op (cmpX x p.v) (cmpX x p.w))) ∧ Below w.heap.size w w' := by
  obtain ⟨c, hc⟩ : ∃ c, cmpX x p.v = c := ⟨_, rfl⟩
  obtain ⟨d, hd⟩ : ∃ d, cmpX x p.w = d := ⟨_, rfl⟩
  have H : Hid (∀ w1, Calls Try.prog 43 #[V x.t x.n x.s, V p.v.t p.v.n p.v.s] w1 fun e w' => e = .returned (.int .i64 c) ∧ Below w1.heap.size w1 w') := fun w1 => by have := cmp_any' x p.v w1; rw [hc] at this; exact this
  have H2 : Hid (∀ w1, Calls Try.prog 43 #[V x.t x.n x.s, V p.w.t p.w.n p.w.s] w1 fun e w' => e = .returned (.int .i64 d) ∧ Below w1.heap.size w1 w') := fun w1 => by have := cmp_any' x p.w w1; rw [hd] at this; exact this
  rw [hc, hd]
  clear hc hd
  unfold PT.val
  obtain ⟨op, hop⟩ : ∃ op, p.op = op := ⟨_, rfl⟩
  rw [hop]
  go_enter Try.func31, Try.ntmps31
  go_wp2_with fail
  refine Calls.mono (H.out _) ?_
  rintro e w1 ⟨rfl, hb⟩
  have HB : Hid (Below w.heap.size w w1) := back2 hb
  obtain ⟨a0, a1, a2⟩ := ((VBox.new w x 23).alloc _).below hb
  rw [← hop] at hb
  obtain ⟨b0, b1, b2, b3, b4, b5, b6, b7, b8⟩ := (Box.new (w.alloc (vobj x 23)) p 26).below hb
  have z : (w.alloc (vobj x 23)).heap.size = w.heap.size + 1 := by simp
  rw [z] at b0 b1 b2 b3 b4 b5 b6 b7 b8
  clear hb z H
  rw [hop] at b0
  clear hop
  by_cases h3 : op = 3
  · subst h3
    clear H2
    go_wp2_with fail
    go_ret
    exact ⟨ret_b (by simp [standB]), HB.out⟩
  by_cases h4 : op = 4
  · subst h4
    clear H2
    go_wp2_with fail
    go_ret
    exact ⟨ret_b (by simp [standB]), HB.out⟩
  by_cases h5 : op = 5
  · subst h5
    clear H2
    go_wp2_with fail
    go_ret
    exact ⟨ret_b (by simp [standB]), HB.out⟩
  by_cases h6 : op = 6
  · subst h6
    clear H2
    go_wp2_with fail
    go_ret
    exact ⟨ret_b (by simp [standB]), HB.out⟩
  by_cases h7 : op = 7
  · subst h7
    clear H2
    go_wp2_with fail
    go_ret
    exact ⟨ret_b (by simp [standB]), HB.out⟩
  by_cases h8 : op = 8
  · subst h8
    clear H2
    go_wp2_with fail
    go_ret
    exact ⟨ret_b (by simp [standB]), HB.out⟩
  by_cases h9 : op = 9
  · subst h9
    by_cases hz : 0 ≤ c
    · go_wp2_with fail
      refine Calls.mono (H2.out _) ?_
      rintro e w2 ⟨rfl, hb2⟩
      go_wp2_with fail
      go_ret
      exact ⟨ret_b (by simp [standB, hz]), on HB.out hb2⟩
    · have hz' : decide (0 ≤ c) = false := by simp; omega
      clear H2
      go_wp2_with fail
      go_ret
      exact ⟨ret_b (by simp [standB]; omega), HB.out⟩
  have HN : Hid (standB op c d = false) := by simp [Hid, standB, h3, h4, h5, h6, h7, h8, h9]
  have e3 : (op == 3) = false := by simpa using h3
  have e4 : (op == 4) = false := by simpa using h4
  have e5 : (op == 5) = false := by simpa using h5
  have e6 : (op == 6) = false := by simpa using h6
  have e7 : (op == 7) = false := by simpa using h7
  have e8 : (op == 8) = false := by simpa using h8
  have e9 : (op == 9) = false := by simpa using h9
  clear H2 h3 h4 h5 h6 h7 h8 h9
  go_wp2_with fail
  go_ret
  exact ⟨ret_b HN.out.symm, HB.out⟩
end Go.Proofs.Ytnfageikacfdoaa.Val
