/- The walk of the law on what stands below, above and at a value: one case. -/
import Derived.Test.YtnfageikacfdoaaPredOrd
import Derived.BigQuiet
namespace Go.Proofs.Ytnfageikacfdoaa.Val
open Go.RowKit

set_option maxRecDepth 100000 in
set_option maxHeartbeats 8000000 in
theorem orders_lt0 (b o n cr m k : Nat) (col : Int) (x z : Val) (w : World) (n0 : 0 < n) (n1 : n ≤ 1000) (hm : bits .and .i64 col 1023 = (m : Int)) (hk : Int.tmod (m : Int) (n : Int) = (k : Int)) (_hm1 : m < 1024) (_hk1 : k < n)
    (d0 : w.cell? ⟨b, o, none⟩ = some (.bool z.t)) (d1 : w.cell? ⟨b, o + 1, none⟩ = some (.int .i64 z.n)) (d2 : w.cell? ⟨b, o + 2, none⟩ = some (.string z.s))
    (H : ∀ op w1, 1 ≤ op ∧ op ≤ 9 → Below w.heap.size w w1 → Calls Try.prog 26 #[.int .i64 op, .int .i64 (k : Int), V x.t x.n x.s, .slice (some ⟨b, o, none⟩) n cr] w1 fun e w' => e = .returned (.bool (ordB true false false false op)) ∧ Below w1.heap.size w1 w')
    (HL : ∀ w1, Below w.heap.size w w1 → Calls Try.prog 13 #[PV 6 (k : Int) z.t z.n z.s false 0 ⟨#[]⟩ (.slice none 0 0), .slice (some ⟨b, o, none⟩) n cr] w1 fun e w' => e = .returned (.bool false) ∧ Below w1.heap.size w1 w') :
    Calls Try.prog 7 #[.slice (some ⟨b, o, none⟩) n cr, .int .i64 col, V x.t x.n x.s] w fun e w' => e = .returned (.bool true) ∧ Below w.heap.size w w' := by
  have H0 : Hid (∀ w1, Calls Try.prog 11 #[] w1 fun e w' => e = .returned (.bool true) ∧ Below w1.heap.size w1 w') := awake_any
  have K1 : Hid (∀ w1, Below w.heap.size w w1 → Calls Try.prog 26 #[.int .i64 1, .int .i64 (k : Int), V x.t x.n x.s, .slice (some ⟨b, o, none⟩) n cr] w1 fun e w' => e = .returned (.bool true) ∧ Below w1.heap.size w1 w') := fun w1 hb => by
    have := H 1 w1 (by decide) hb; rw [show ordB true false false false 1 = true from by decide] at this; exact this
  have K2 : Hid (∀ w1, Below w.heap.size w w1 → Calls Try.prog 26 #[.int .i64 2, .int .i64 (k : Int), V x.t x.n x.s, .slice (some ⟨b, o, none⟩) n cr] w1 fun e w' => e = .returned (.bool false) ∧ Below w1.heap.size w1 w') := fun w1 hb => by
    have := H 2 w1 (by decide) hb; rw [show ordB true false false false 2 = false from by decide] at this; exact this
  have K3 : Hid (∀ w1, Below w.heap.size w w1 → Calls Try.prog 26 #[.int .i64 3, .int .i64 (k : Int), V x.t x.n x.s, .slice (some ⟨b, o, none⟩) n cr] w1 fun e w' => e = .returned (.bool false) ∧ Below w1.heap.size w1 w') := fun w1 hb => by
    have := H 3 w1 (by decide) hb; rw [show ordB true false false false 3 = false from by decide] at this; exact this
  have K4 : Hid (∀ w1, Below w.heap.size w w1 → Calls Try.prog 26 #[.int .i64 4, .int .i64 (k : Int), V x.t x.n x.s, .slice (some ⟨b, o, none⟩) n cr] w1 fun e w' => e = .returned (.bool true) ∧ Below w1.heap.size w1 w') := fun w1 hb => by
    have := H 4 w1 (by decide) hb; rw [show ordB true false false false 4 = true from by decide] at this; exact this
  have K5 : Hid (∀ w1, Below w.heap.size w w1 → Calls Try.prog 26 #[.int .i64 5, .int .i64 (k : Int), V x.t x.n x.s, .slice (some ⟨b, o, none⟩) n cr] w1 fun e w' => e = .returned (.bool true) ∧ Below w1.heap.size w1 w') := fun w1 hb => by
    have := H 5 w1 (by decide) hb; rw [show ordB true false false false 5 = true from by decide] at this; exact this
  have K6 : Hid (∀ w1, Below w.heap.size w w1 → Calls Try.prog 26 #[.int .i64 6, .int .i64 (k : Int), V x.t x.n x.s, .slice (some ⟨b, o, none⟩) n cr] w1 fun e w' => e = .returned (.bool true) ∧ Below w1.heap.size w1 w') := fun w1 hb => by
    have := H 6 w1 (by decide) hb; rw [show ordB true false false false 6 = true from by decide] at this; exact this
  have K7 : Hid (∀ w1, Below w.heap.size w w1 → Calls Try.prog 26 #[.int .i64 7, .int .i64 (k : Int), V x.t x.n x.s, .slice (some ⟨b, o, none⟩) n cr] w1 fun e w' => e = .returned (.bool false) ∧ Below w1.heap.size w1 w') := fun w1 hb => by
    have := H 7 w1 (by decide) hb; rw [show ordB true false false false 7 = false from by decide] at this; exact this
  have K8 : Hid (∀ w1, Below w.heap.size w w1 → Calls Try.prog 26 #[.int .i64 8, .int .i64 (k : Int), V x.t x.n x.s, .slice (some ⟨b, o, none⟩) n cr] w1 fun e w' => e = .returned (.bool false) ∧ Below w1.heap.size w1 w') := fun w1 hb => by
    have := H 8 w1 (by decide) hb; rw [show ordB true false false false 8 = false from by decide] at this; exact this
  have K9 : Hid (∀ w1, Below w.heap.size w w1 → Calls Try.prog 26 #[.int .i64 9, .int .i64 (k : Int), V x.t x.n x.s, .slice (some ⟨b, o, none⟩) n cr] w1 fun e w' => e = .returned (.bool false) ∧ Below w1.heap.size w1 w') := fun w1 hb => by
    have := H 9 w1 (by decide) hb; rw [show ordB true false false false 9 = false from by decide] at this; exact this
  have KH : Hid _ := HL
  have HD : Hid (w.cell? ⟨b, o, none⟩ = some (.bool z.t) ∧ w.cell? ⟨b, o + 1, none⟩ = some (.int .i64 z.n) ∧ w.cell? ⟨b, o + 2, none⟩ = some (.string z.s)) := ⟨d0, d1, d2⟩
  clear H HL d0 d1 d2
  have j1 : ((n : Int) == 0) = false := by rw [beq_eq_false_iff_ne]; omega
  have j2 : decide ((1000 : Int) < (n : Int)) = false := by simp; omega
  go_enter Try.func7, Try.ntmps7
  go_wp2_with fail
  refine Calls.mono (H0.out _) ?_
  rintro e w1 ⟨rfl, hb⟩
  have HB1 : Hid (Below w.heap.size w w1) := back1 hb
  have X1 : Hid (VBox w1 w.heap.size x) := (VBox.new w x 23).below hb
  clear hb H0
  obtain ⟨a0, a1, a2⟩ := X1.out
  go_wp2_with fail
  refine Calls.mono (K5.out _ HB1.out) ?_
  rintro e w2 ⟨rfl, hb⟩
  clear a0 a1 a2
  have X2 : Hid (VBox w2 w.heap.size x) := X1.out.below hb
  have HB2 : Hid (Below w.heap.size w w2) := on HB1.out hb
  clear hb HB1 X1
  obtain ⟨a0, a1, a2⟩ := X2.out
  go_wp2_with fail
  refine Calls.mono (K3.out _ HB2.out) ?_
  rintro e w3 ⟨rfl, hb⟩
  clear a0 a1 a2
  have X3 : Hid (VBox w3 w.heap.size x) := X2.out.below hb
  have HB3 : Hid (Below w.heap.size w w3) := on HB2.out hb
  clear hb HB2 X2
  obtain ⟨a0, a1, a2⟩ := X3.out
  go_wp2_with fail
  refine Calls.mono (K7.out _ HB3.out) ?_
  rintro e w4 ⟨rfl, hb⟩
  clear a0 a1 a2
  have X4 : Hid (VBox w4 w.heap.size x) := X3.out.below hb
  have HB4 : Hid (Below w.heap.size w w4) := on HB3.out hb
  clear hb HB3 X3
  obtain ⟨a0, a1, a2⟩ := X4.out
  have c0 : w4.cell? ⟨b, o, none⟩ = some (.bool z.t) := by rw [HB4.out.cell (World.block_lt_of_cell? w _ HD.out.1)]; exact HD.out.1
  have c1 : w4.cell? ⟨b, o + 1, none⟩ = some (.int .i64 z.n) := by rw [HB4.out.cell (World.block_lt_of_cell? w _ HD.out.2.1)]; exact HD.out.2.1
  have c2 : w4.cell? ⟨b, o + 2, none⟩ = some (.string z.s) := by rw [HB4.out.cell (World.block_lt_of_cell? w _ HD.out.2.2)]; exact HD.out.2.2
  go_wp2_with fail
  refine Calls.mono (KH.out _ HB4.out) ?_
  rintro e w5 ⟨rfl, hb⟩
  clear c0 c1 c2
  clear a0 a1 a2
  have X5 : Hid (VBox w5 w.heap.size x) := X4.out.below hb
  have HB5 : Hid (Below w.heap.size w w5) := on HB4.out hb
  clear hb HB4 X4
  obtain ⟨a0, a1, a2⟩ := X5.out
  go_wp2_with fail
  clear a0 a1 a2 HD
  simp only [List.append]
  refine region_cls (C := fun w' => Below w.heap.size w w' ∧ VBox w' w.heap.size x) (by kernel_rfl) (by kernel_rfl) ⟨HB5.out.drew, X5.out.below (Below.refl _ _).drew⟩ ?_
  clear HB5 X5
  go_big_quiet_want
  go_big_quiet_op
  go_big_quiet_on
  go_big_quiet_want
  refine ⟨.bool true, fun w' hw' => ?_, ?_⟩
  · go_simp
  simp only [Act.put, List.setIfInBounds_toArray, List.set_cons_zero, List.set_cons_succ]
  go_big_quiet_on
  go_big_quiet_want
  go_big_quiet_op
  go_big_quiet_on
  go_big_quiet_want
  go_big_quiet_op
  go_big_quiet_on
  go_big_quiet_want
  refine ⟨V x.t x.n x.s, fun w' hw' => ?_, ?_⟩
  · obtain ⟨_, c0, c1, c2⟩ := hw'
    go_simp
  simp only [Act.put, List.setIfInBounds_toArray, List.set_cons_zero, List.set_cons_succ]
  go_big_quiet_on
  go_big_quiet_want
  go_big_quiet_op
  go_big_quiet_on
  go_big_quiet_want
  refine ⟨.bool true, fun w' hw' => ?_, ?_⟩
  · go_simp
    exact (K6.out w' hw'.1).mono fun e w'' h => ⟨h.1, on hw'.1 h.2, hw'.2.below h.2⟩
  simp only [Act.put, List.setIfInBounds_toArray, List.set_cons_zero, List.set_cons_succ]
  go_big_quiet_on
  go_big_quiet_want
  go_big_quiet_op
  go_big_quiet_on
  go_big_quiet_want
  refine ⟨V x.t x.n x.s, fun w' hw' => ?_, ?_⟩
  · obtain ⟨_, c0, c1, c2⟩ := hw'
    go_simp
  simp only [Act.put, List.setIfInBounds_toArray, List.set_cons_zero, List.set_cons_succ]
  go_big_quiet_on
  go_big_quiet_want
  go_big_quiet_op
  go_big_quiet_on
  go_big_quiet_want
  refine ⟨.bool true, fun w' hw' => ?_, ?_⟩
  · go_simp
    exact (K5.out w' hw'.1).mono fun e w'' h => ⟨h.1, on hw'.1 h.2, hw'.2.below h.2⟩
  simp only [Act.put, List.setIfInBounds_toArray, List.set_cons_zero, List.set_cons_succ]
  go_big_quiet_on
  go_big_quiet_want
  go_big_quiet_op
  go_big_quiet_on
  go_big_quiet_skip
  go_big_quiet_skip
  go_big_quiet_skip
  go_big_quiet_skip
  go_big_quiet_want
  refine ⟨.bool true, fun w' hw' => ?_, ?_⟩
  · go_simp
  simp only [Act.put, List.setIfInBounds_toArray, List.set_cons_zero, List.set_cons_succ]
  go_big_quiet_on
  go_big_quiet_want
  refine ⟨.bool true, fun w' hw' => ?_, ?_⟩
  · go_simp
  simp only [Act.put, List.setIfInBounds_toArray, List.set_cons_zero, List.set_cons_succ]
  go_big_quiet_on
  go_big_quiet_want
  refine ⟨.bool true, fun w' hw' => ?_, ?_⟩
  · go_simp
  simp only [Act.put, List.setIfInBounds_toArray, List.set_cons_zero, List.set_cons_succ]
  go_big_quiet_on
  go_big_quiet_want
  go_big_quiet_op
  go_big_quiet_on
  go_big_quiet_want
  go_big_quiet_op
  go_big_quiet_on
  go_big_quiet_want
  refine ⟨V x.t x.n x.s, fun w' hw' => ?_, ?_⟩
  · obtain ⟨_, c0, c1, c2⟩ := hw'
    go_simp
  simp only [Act.put, List.setIfInBounds_toArray, List.set_cons_zero, List.set_cons_succ]
  go_big_quiet_on
  go_big_quiet_want
  go_big_quiet_op
  go_big_quiet_on
  go_big_quiet_want
  refine ⟨.bool false, fun w' hw' => ?_, ?_⟩
  · go_simp
    exact (K8.out w' hw'.1).mono fun e w'' h => ⟨h.1, on hw'.1 h.2, hw'.2.below h.2⟩
  simp only [Act.put, List.setIfInBounds_toArray, List.set_cons_zero, List.set_cons_succ]
  go_big_quiet_on
  go_big_quiet_want
  go_big_quiet_op
  go_big_quiet_on
  go_big_quiet_want
  refine ⟨V x.t x.n x.s, fun w' hw' => ?_, ?_⟩
  · obtain ⟨_, c0, c1, c2⟩ := hw'
    go_simp
  simp only [Act.put, List.setIfInBounds_toArray, List.set_cons_zero, List.set_cons_succ]
  go_big_quiet_on
  go_big_quiet_want
  go_big_quiet_op
  go_big_quiet_on
  go_big_quiet_want
  refine ⟨.bool false, fun w' hw' => ?_, ?_⟩
  · go_simp
    exact (K7.out w' hw'.1).mono fun e w'' h => ⟨h.1, on hw'.1 h.2, hw'.2.below h.2⟩
  simp only [Act.put, List.setIfInBounds_toArray, List.set_cons_zero, List.set_cons_succ]
  go_big_quiet_on
  go_big_quiet_want
  go_big_quiet_op
  go_big_quiet_on
  go_big_quiet_want
  go_big_quiet_op
  go_big_quiet_on
  go_big_quiet_want
  refine ⟨V x.t x.n x.s, fun w' hw' => ?_, ?_⟩
  · obtain ⟨_, c0, c1, c2⟩ := hw'
    go_simp
  simp only [Act.put, List.setIfInBounds_toArray, List.set_cons_zero, List.set_cons_succ]
  go_big_quiet_on
  go_big_quiet_want
  go_big_quiet_op
  go_big_quiet_on
  go_big_quiet_want
  refine ⟨.bool false, fun w' hw' => ?_, ?_⟩
  · go_simp
    exact (K3.out w' hw'.1).mono fun e w'' h => ⟨h.1, on hw'.1 h.2, hw'.2.below h.2⟩
  simp only [Act.put, List.setIfInBounds_toArray, List.set_cons_zero, List.set_cons_succ]
  go_big_quiet_on
  go_big_quiet_want
  refine ⟨.bool false, fun w' hw' => ?_, ?_⟩
  · go_simp
  simp only [Act.put, List.setIfInBounds_toArray, List.set_cons_zero, List.set_cons_succ]
  go_big_quiet_on
  go_big_quiet_want
  refine ⟨.bool true, fun w' hw' => ?_, ?_⟩
  · go_simp
  simp only [Act.put, List.setIfInBounds_toArray, List.set_cons_zero, List.set_cons_succ]
  go_big_quiet_on
  go_big_quiet_want
  refine ⟨.bool true, fun w' hw' => ?_, ?_⟩
  · go_simp
  simp only [Act.put, List.setIfInBounds_toArray, List.set_cons_zero, List.set_cons_succ]
  go_big_quiet_on
  go_big_quiet_want
  go_big_quiet_op
  go_big_quiet_on
  go_big_quiet_want
  go_big_quiet_op
  go_big_quiet_on
  go_big_quiet_want
  refine ⟨V x.t x.n x.s, fun w' hw' => ?_, ?_⟩
  · obtain ⟨_, c0, c1, c2⟩ := hw'
    go_simp
  simp only [Act.put, List.setIfInBounds_toArray, List.set_cons_zero, List.set_cons_succ]
  go_big_quiet_on
  go_big_quiet_want
  go_big_quiet_op
  go_big_quiet_on
  go_big_quiet_want
  refine ⟨.bool true, fun w' hw' => ?_, ?_⟩
  · go_simp
    exact (K4.out w' hw'.1).mono fun e w'' h => ⟨h.1, on hw'.1 h.2, hw'.2.below h.2⟩
  simp only [Act.put, List.setIfInBounds_toArray, List.set_cons_zero, List.set_cons_succ]
  go_big_quiet_on
  go_big_quiet_want
  go_big_quiet_op
  go_big_quiet_on
  go_big_quiet_want
  refine ⟨V x.t x.n x.s, fun w' hw' => ?_, ?_⟩
  · obtain ⟨_, c0, c1, c2⟩ := hw'
    go_simp
  simp only [Act.put, List.setIfInBounds_toArray, List.set_cons_zero, List.set_cons_succ]
  go_big_quiet_on
  go_big_quiet_want
  go_big_quiet_op
  go_big_quiet_on
  go_big_quiet_want
  refine ⟨.bool false, fun w' hw' => ?_, ?_⟩
  · go_simp
    exact (K3.out w' hw'.1).mono fun e w'' h => ⟨h.1, on hw'.1 h.2, hw'.2.below h.2⟩
  simp only [Act.put, List.setIfInBounds_toArray, List.set_cons_zero, List.set_cons_succ]
  go_big_quiet_on
  go_big_quiet_want
  refine ⟨.bool true, fun w' hw' => ?_, ?_⟩
  · go_simp
  simp only [Act.put, List.setIfInBounds_toArray, List.set_cons_zero, List.set_cons_succ]
  go_big_quiet_on
  go_big_quiet_want
  refine ⟨.bool true, fun w' hw' => ?_, ?_⟩
  · go_simp
  simp only [Act.put, List.setIfInBounds_toArray, List.set_cons_zero, List.set_cons_succ]
  go_big_quiet_on
  go_big_quiet_want
  refine ⟨.bool true, fun w' hw' => ?_, ?_⟩
  · go_simp
  simp only [Act.put, List.setIfInBounds_toArray, List.set_cons_zero, List.set_cons_succ]
  go_big_quiet_on
  go_big_quiet_want
  go_big_quiet_op
  go_big_quiet_on
  go_big_quiet_want
  go_big_quiet_op
  go_big_quiet_on
  go_big_quiet_want
  refine ⟨V x.t x.n x.s, fun w' hw' => ?_, ?_⟩
  · obtain ⟨_, c0, c1, c2⟩ := hw'
    go_simp
  simp only [Act.put, List.setIfInBounds_toArray, List.set_cons_zero, List.set_cons_succ]
  go_big_quiet_on
  go_big_quiet_want
  go_big_quiet_op
  go_big_quiet_on
  go_big_quiet_want
  refine ⟨.bool false, fun w' hw' => ?_, ?_⟩
  · go_simp
    exact (K9.out w' hw'.1).mono fun e w'' h => ⟨h.1, on hw'.1 h.2, hw'.2.below h.2⟩
  simp only [Act.put, List.setIfInBounds_toArray, List.set_cons_zero, List.set_cons_succ]
  go_big_quiet_on
  go_big_quiet_want
  go_big_quiet_op
  go_big_quiet_on
  go_big_quiet_want
  refine ⟨V x.t x.n x.s, fun w' hw' => ?_, ?_⟩
  · obtain ⟨_, c0, c1, c2⟩ := hw'
    go_simp
  simp only [Act.put, List.setIfInBounds_toArray, List.set_cons_zero, List.set_cons_succ]
  go_big_quiet_on
  go_big_quiet_want
  go_big_quiet_op
  go_big_quiet_on
  go_big_quiet_want
  refine ⟨.bool false, fun w' hw' => ?_, ?_⟩
  · go_simp
    exact (K8.out w' hw'.1).mono fun e w'' h => ⟨h.1, on hw'.1 h.2, hw'.2.below h.2⟩
  simp only [Act.put, List.setIfInBounds_toArray, List.set_cons_zero, List.set_cons_succ]
  go_big_quiet_on
  go_big_quiet_want
  go_big_quiet_op
  go_big_quiet_on
  go_big_quiet_skip
  go_big_quiet_want
  refine ⟨.bool false, fun w' hw' => ?_, ?_⟩
  · go_simp
  simp only [Act.put, List.setIfInBounds_toArray, List.set_cons_zero, List.set_cons_succ]
  go_big_quiet_on
  go_big_quiet_want
  refine ⟨.bool true, fun w' hw' => ?_, ?_⟩
  · go_simp
  simp only [Act.put, List.setIfInBounds_toArray, List.set_cons_zero, List.set_cons_succ]
  go_big_quiet_on
  go_big_quiet_want
  refine ⟨.bool true, fun w' hw' => ?_, ?_⟩
  · go_simp
  simp only [Act.put, List.setIfInBounds_toArray, List.set_cons_zero, List.set_cons_succ]
  go_big_quiet_on
  go_big_quiet_want
  go_big_quiet_op
  go_big_quiet_on
  go_big_quiet_want
  go_big_quiet_op
  go_big_quiet_on
  go_big_quiet_want
  refine ⟨V x.t x.n x.s, fun w' hw' => ?_, ?_⟩
  · obtain ⟨_, c0, c1, c2⟩ := hw'
    go_simp
  simp only [Act.put, List.setIfInBounds_toArray, List.set_cons_zero, List.set_cons_succ]
  go_big_quiet_on
  go_big_quiet_want
  go_big_quiet_op
  go_big_quiet_on
  go_big_quiet_want
  refine ⟨.bool true, fun w' hw' => ?_, ?_⟩
  · go_simp
    exact (K1.out w' hw'.1).mono fun e w'' h => ⟨h.1, on hw'.1 h.2, hw'.2.below h.2⟩
  simp only [Act.put, List.setIfInBounds_toArray, List.set_cons_zero, List.set_cons_succ]
  go_big_quiet_on
  go_big_quiet_want
  refine ⟨.bool true, fun w' hw' => ?_, ?_⟩
  · go_simp
  simp only [Act.put, List.setIfInBounds_toArray, List.set_cons_zero, List.set_cons_succ]
  go_big_quiet_on
  go_big_quiet_want
  go_big_quiet_op
  go_big_quiet_on
  go_big_quiet_want
  go_big_quiet_op
  go_big_quiet_on
  go_big_quiet_want
  refine ⟨V x.t x.n x.s, fun w' hw' => ?_, ?_⟩
  · obtain ⟨_, c0, c1, c2⟩ := hw'
    go_simp
  simp only [Act.put, List.setIfInBounds_toArray, List.set_cons_zero, List.set_cons_succ]
  go_big_quiet_on
  go_big_quiet_want
  go_big_quiet_op
  go_big_quiet_on
  go_big_quiet_want
  refine ⟨.bool false, fun w' hw' => ?_, ?_⟩
  · go_simp
    exact (K2.out w' hw'.1).mono fun e w'' h => ⟨h.1, on hw'.1 h.2, hw'.2.below h.2⟩
  simp only [Act.put, List.setIfInBounds_toArray, List.set_cons_zero, List.set_cons_succ]
  go_big_quiet_on
  go_big_quiet_want
  refine ⟨.bool true, fun w' hw' => ?_, ?_⟩
  · go_simp
  simp only [Act.put, List.setIfInBounds_toArray, List.set_cons_zero, List.set_cons_succ]
  go_big_quiet_on
  go_big_quiet_want
  refine ⟨.bool true, fun w' hw' => ?_, ?_⟩
  · go_simp
  simp only [Act.put, List.setIfInBounds_toArray, List.set_cons_zero, List.set_cons_succ]
  go_big_quiet_on
  go_big_quiet_want
  go_big_quiet_op
  go_big_quiet_on
  refine wpQuiet_nil ?_
  intro w' hw'
  have HBz : Hid (Below w.heap.size w w') := hw'.1
  clear hw'
  go_wp2_with fail
  go_ret
  exact ⟨rfl, HBz.out⟩
set_option maxRecDepth 100000 in
set_option maxHeartbeats 8000000 in
theorem orders_lt1 (b o n cr m k : Nat) (col : Int) (x z : Val) (w : World) (n0 : 0 < n) (n1 : n ≤ 1000) (hm : bits .and .i64 col 1023 = (m : Int)) (hk : Int.tmod (m : Int) (n : Int) = (k : Int)) (_hm1 : m < 1024) (_hk1 : k < n)
    (d0 : w.cell? ⟨b, o, none⟩ = some (.bool z.t)) (d1 : w.cell? ⟨b, o + 1, none⟩ = some (.int .i64 z.n)) (d2 : w.cell? ⟨b, o + 2, none⟩ = some (.string z.s))
    (H : ∀ op w1, 1 ≤ op ∧ op ≤ 9 → Below w.heap.size w w1 → Calls Try.prog 26 #[.int .i64 op, .int .i64 (k : Int), V x.t x.n x.s, .slice (some ⟨b, o, none⟩) n cr] w1 fun e w' => e = .returned (.bool (ordB true false false true op)) ∧ Below w1.heap.size w1 w')
    (HL : ∀ w1, Below w.heap.size w w1 → Calls Try.prog 13 #[PV 6 (k : Int) z.t z.n z.s false 0 ⟨#[]⟩ (.slice none 0 0), .slice (some ⟨b, o, none⟩) n cr] w1 fun e w' => e = .returned (.bool true) ∧ Below w1.heap.size w1 w') :
    Calls Try.prog 7 #[.slice (some ⟨b, o, none⟩) n cr, .int .i64 col, V x.t x.n x.s] w fun e w' => e = .returned (.bool true) ∧ Below w.heap.size w w' := by
  have H0 : Hid (∀ w1, Calls Try.prog 11 #[] w1 fun e w' => e = .returned (.bool true) ∧ Below w1.heap.size w1 w') := awake_any
  have K1 : Hid (∀ w1, Below w.heap.size w w1 → Calls Try.prog 26 #[.int .i64 1, .int .i64 (k : Int), V x.t x.n x.s, .slice (some ⟨b, o, none⟩) n cr] w1 fun e w' => e = .returned (.bool true) ∧ Below w1.heap.size w1 w') := fun w1 hb => by
    have := H 1 w1 (by decide) hb; rw [show ordB true false false true 1 = true from by decide] at this; exact this
  have K2 : Hid (∀ w1, Below w.heap.size w w1 → Calls Try.prog 26 #[.int .i64 2, .int .i64 (k : Int), V x.t x.n x.s, .slice (some ⟨b, o, none⟩) n cr] w1 fun e w' => e = .returned (.bool false) ∧ Below w1.heap.size w1 w') := fun w1 hb => by
    have := H 2 w1 (by decide) hb; rw [show ordB true false false true 2 = false from by decide] at this; exact this
  have K3 : Hid (∀ w1, Below w.heap.size w w1 → Calls Try.prog 26 #[.int .i64 3, .int .i64 (k : Int), V x.t x.n x.s, .slice (some ⟨b, o, none⟩) n cr] w1 fun e w' => e = .returned (.bool false) ∧ Below w1.heap.size w1 w') := fun w1 hb => by
    have := H 3 w1 (by decide) hb; rw [show ordB true false false true 3 = false from by decide] at this; exact this
  have K4 : Hid (∀ w1, Below w.heap.size w w1 → Calls Try.prog 26 #[.int .i64 4, .int .i64 (k : Int), V x.t x.n x.s, .slice (some ⟨b, o, none⟩) n cr] w1 fun e w' => e = .returned (.bool true) ∧ Below w1.heap.size w1 w') := fun w1 hb => by
    have := H 4 w1 (by decide) hb; rw [show ordB true false false true 4 = true from by decide] at this; exact this
  have K5 : Hid (∀ w1, Below w.heap.size w w1 → Calls Try.prog 26 #[.int .i64 5, .int .i64 (k : Int), V x.t x.n x.s, .slice (some ⟨b, o, none⟩) n cr] w1 fun e w' => e = .returned (.bool true) ∧ Below w1.heap.size w1 w') := fun w1 hb => by
    have := H 5 w1 (by decide) hb; rw [show ordB true false false true 5 = true from by decide] at this; exact this
  have K6 : Hid (∀ w1, Below w.heap.size w w1 → Calls Try.prog 26 #[.int .i64 6, .int .i64 (k : Int), V x.t x.n x.s, .slice (some ⟨b, o, none⟩) n cr] w1 fun e w' => e = .returned (.bool true) ∧ Below w1.heap.size w1 w') := fun w1 hb => by
    have := H 6 w1 (by decide) hb; rw [show ordB true false false true 6 = true from by decide] at this; exact this
  have K7 : Hid (∀ w1, Below w.heap.size w w1 → Calls Try.prog 26 #[.int .i64 7, .int .i64 (k : Int), V x.t x.n x.s, .slice (some ⟨b, o, none⟩) n cr] w1 fun e w' => e = .returned (.bool false) ∧ Below w1.heap.size w1 w') := fun w1 hb => by
    have := H 7 w1 (by decide) hb; rw [show ordB true false false true 7 = false from by decide] at this; exact this
  have K8 : Hid (∀ w1, Below w.heap.size w w1 → Calls Try.prog 26 #[.int .i64 8, .int .i64 (k : Int), V x.t x.n x.s, .slice (some ⟨b, o, none⟩) n cr] w1 fun e w' => e = .returned (.bool false) ∧ Below w1.heap.size w1 w') := fun w1 hb => by
    have := H 8 w1 (by decide) hb; rw [show ordB true false false true 8 = false from by decide] at this; exact this
  have K9 : Hid (∀ w1, Below w.heap.size w w1 → Calls Try.prog 26 #[.int .i64 9, .int .i64 (k : Int), V x.t x.n x.s, .slice (some ⟨b, o, none⟩) n cr] w1 fun e w' => e = .returned (.bool false) ∧ Below w1.heap.size w1 w') := fun w1 hb => by
    have := H 9 w1 (by decide) hb; rw [show ordB true false false true 9 = false from by decide] at this; exact this
  have KH : Hid _ := HL
  have HD : Hid (w.cell? ⟨b, o, none⟩ = some (.bool z.t) ∧ w.cell? ⟨b, o + 1, none⟩ = some (.int .i64 z.n) ∧ w.cell? ⟨b, o + 2, none⟩ = some (.string z.s)) := ⟨d0, d1, d2⟩
  clear H HL d0 d1 d2
  have j1 : ((n : Int) == 0) = false := by rw [beq_eq_false_iff_ne]; omega
  have j2 : decide ((1000 : Int) < (n : Int)) = false := by simp; omega
  go_enter Try.func7, Try.ntmps7
  go_wp2_with fail
  refine Calls.mono (H0.out _) ?_
  rintro e w1 ⟨rfl, hb⟩
  have HB1 : Hid (Below w.heap.size w w1) := back1 hb
  have X1 : Hid (VBox w1 w.heap.size x) := (VBox.new w x 23).below hb
  clear hb H0
  obtain ⟨a0, a1, a2⟩ := X1.out
  go_wp2_with fail
  refine Calls.mono (K5.out _ HB1.out) ?_
  rintro e w2 ⟨rfl, hb⟩
  clear a0 a1 a2
  have X2 : Hid (VBox w2 w.heap.size x) := X1.out.below hb
  have HB2 : Hid (Below w.heap.size w w2) := on HB1.out hb
  clear hb HB1 X1
  obtain ⟨a0, a1, a2⟩ := X2.out
  go_wp2_with fail
  refine Calls.mono (K3.out _ HB2.out) ?_
  rintro e w3 ⟨rfl, hb⟩
  clear a0 a1 a2
  have X3 : Hid (VBox w3 w.heap.size x) := X2.out.below hb
  have HB3 : Hid (Below w.heap.size w w3) := on HB2.out hb
  clear hb HB2 X2
  obtain ⟨a0, a1, a2⟩ := X3.out
  go_wp2_with fail
  refine Calls.mono (K7.out _ HB3.out) ?_
  rintro e w4 ⟨rfl, hb⟩
  clear a0 a1 a2
  have X4 : Hid (VBox w4 w.heap.size x) := X3.out.below hb
  have HB4 : Hid (Below w.heap.size w w4) := on HB3.out hb
  clear hb HB3 X3
  obtain ⟨a0, a1, a2⟩ := X4.out
  have c0 : w4.cell? ⟨b, o, none⟩ = some (.bool z.t) := by rw [HB4.out.cell (World.block_lt_of_cell? w _ HD.out.1)]; exact HD.out.1
  have c1 : w4.cell? ⟨b, o + 1, none⟩ = some (.int .i64 z.n) := by rw [HB4.out.cell (World.block_lt_of_cell? w _ HD.out.2.1)]; exact HD.out.2.1
  have c2 : w4.cell? ⟨b, o + 2, none⟩ = some (.string z.s) := by rw [HB4.out.cell (World.block_lt_of_cell? w _ HD.out.2.2)]; exact HD.out.2.2
  go_wp2_with fail
  refine Calls.mono (KH.out _ HB4.out) ?_
  rintro e w5 ⟨rfl, hb⟩
  clear c0 c1 c2
  clear a0 a1 a2
  have X5 : Hid (VBox w5 w.heap.size x) := X4.out.below hb
  have HB5 : Hid (Below w.heap.size w w5) := on HB4.out hb
  clear hb HB4 X4
  obtain ⟨a0, a1, a2⟩ := X5.out
  go_wp2_with fail
  clear a0 a1 a2 HD
  simp only [List.append]
  refine region_cls (C := fun w' => Below w.heap.size w w' ∧ VBox w' w.heap.size x) (by kernel_rfl) (by kernel_rfl) ⟨HB5.out.drew, X5.out.below (Below.refl _ _).drew⟩ ?_
  clear HB5 X5
  go_big_quiet_want
  go_big_quiet_op
  go_big_quiet_on
  go_big_quiet_want
  refine ⟨.bool true, fun w' hw' => ?_, ?_⟩
  · go_simp
  simp only [Act.put, List.setIfInBounds_toArray, List.set_cons_zero, List.set_cons_succ]
  go_big_quiet_on
  go_big_quiet_want
  go_big_quiet_op
  go_big_quiet_on
  go_big_quiet_want
  go_big_quiet_op
  go_big_quiet_on
  go_big_quiet_want
  refine ⟨V x.t x.n x.s, fun w' hw' => ?_, ?_⟩
  · obtain ⟨_, c0, c1, c2⟩ := hw'
    go_simp
  simp only [Act.put, List.setIfInBounds_toArray, List.set_cons_zero, List.set_cons_succ]
  go_big_quiet_on
  go_big_quiet_want
  go_big_quiet_op
  go_big_quiet_on
  go_big_quiet_want
  refine ⟨.bool true, fun w' hw' => ?_, ?_⟩
  · go_simp
    exact (K6.out w' hw'.1).mono fun e w'' h => ⟨h.1, on hw'.1 h.2, hw'.2.below h.2⟩
  simp only [Act.put, List.setIfInBounds_toArray, List.set_cons_zero, List.set_cons_succ]
  go_big_quiet_on
  go_big_quiet_want
  go_big_quiet_op
  go_big_quiet_on
  go_big_quiet_want
  refine ⟨V x.t x.n x.s, fun w' hw' => ?_, ?_⟩
  · obtain ⟨_, c0, c1, c2⟩ := hw'
    go_simp
  simp only [Act.put, List.setIfInBounds_toArray, List.set_cons_zero, List.set_cons_succ]
  go_big_quiet_on
  go_big_quiet_want
  go_big_quiet_op
  go_big_quiet_on
  go_big_quiet_want
  refine ⟨.bool true, fun w' hw' => ?_, ?_⟩
  · go_simp
    exact (K5.out w' hw'.1).mono fun e w'' h => ⟨h.1, on hw'.1 h.2, hw'.2.below h.2⟩
  simp only [Act.put, List.setIfInBounds_toArray, List.set_cons_zero, List.set_cons_succ]
  go_big_quiet_on
  go_big_quiet_want
  go_big_quiet_op
  go_big_quiet_on
  go_big_quiet_skip
  go_big_quiet_skip
  go_big_quiet_skip
  go_big_quiet_skip
  go_big_quiet_want
  refine ⟨.bool true, fun w' hw' => ?_, ?_⟩
  · go_simp
  simp only [Act.put, List.setIfInBounds_toArray, List.set_cons_zero, List.set_cons_succ]
  go_big_quiet_on
  go_big_quiet_want
  refine ⟨.bool true, fun w' hw' => ?_, ?_⟩
  · go_simp
  simp only [Act.put, List.setIfInBounds_toArray, List.set_cons_zero, List.set_cons_succ]
  go_big_quiet_on
  go_big_quiet_want
  refine ⟨.bool true, fun w' hw' => ?_, ?_⟩
  · go_simp
  simp only [Act.put, List.setIfInBounds_toArray, List.set_cons_zero, List.set_cons_succ]
  go_big_quiet_on
  go_big_quiet_want
  go_big_quiet_op
  go_big_quiet_on
  go_big_quiet_want
  go_big_quiet_op
  go_big_quiet_on
  go_big_quiet_want
  refine ⟨V x.t x.n x.s, fun w' hw' => ?_, ?_⟩
  · obtain ⟨_, c0, c1, c2⟩ := hw'
    go_simp
  simp only [Act.put, List.setIfInBounds_toArray, List.set_cons_zero, List.set_cons_succ]
  go_big_quiet_on
  go_big_quiet_want
  go_big_quiet_op
  go_big_quiet_on
  go_big_quiet_want
  refine ⟨.bool false, fun w' hw' => ?_, ?_⟩
  · go_simp
    exact (K8.out w' hw'.1).mono fun e w'' h => ⟨h.1, on hw'.1 h.2, hw'.2.below h.2⟩
  simp only [Act.put, List.setIfInBounds_toArray, List.set_cons_zero, List.set_cons_succ]
  go_big_quiet_on
  go_big_quiet_want
  go_big_quiet_op
  go_big_quiet_on
  go_big_quiet_want
  refine ⟨V x.t x.n x.s, fun w' hw' => ?_, ?_⟩
  · obtain ⟨_, c0, c1, c2⟩ := hw'
    go_simp
  simp only [Act.put, List.setIfInBounds_toArray, List.set_cons_zero, List.set_cons_succ]
  go_big_quiet_on
  go_big_quiet_want
  go_big_quiet_op
  go_big_quiet_on
  go_big_quiet_want
  refine ⟨.bool false, fun w' hw' => ?_, ?_⟩
  · go_simp
    exact (K7.out w' hw'.1).mono fun e w'' h => ⟨h.1, on hw'.1 h.2, hw'.2.below h.2⟩
  simp only [Act.put, List.setIfInBounds_toArray, List.set_cons_zero, List.set_cons_succ]
  go_big_quiet_on
  go_big_quiet_want
  go_big_quiet_op
  go_big_quiet_on
  go_big_quiet_want
  go_big_quiet_op
  go_big_quiet_on
  go_big_quiet_want
  refine ⟨V x.t x.n x.s, fun w' hw' => ?_, ?_⟩
  · obtain ⟨_, c0, c1, c2⟩ := hw'
    go_simp
  simp only [Act.put, List.setIfInBounds_toArray, List.set_cons_zero, List.set_cons_succ]
  go_big_quiet_on
  go_big_quiet_want
  go_big_quiet_op
  go_big_quiet_on
  go_big_quiet_want
  refine ⟨.bool false, fun w' hw' => ?_, ?_⟩
  · go_simp
    exact (K3.out w' hw'.1).mono fun e w'' h => ⟨h.1, on hw'.1 h.2, hw'.2.below h.2⟩
  simp only [Act.put, List.setIfInBounds_toArray, List.set_cons_zero, List.set_cons_succ]
  go_big_quiet_on
  go_big_quiet_want
  refine ⟨.bool false, fun w' hw' => ?_, ?_⟩
  · go_simp
  simp only [Act.put, List.setIfInBounds_toArray, List.set_cons_zero, List.set_cons_succ]
  go_big_quiet_on
  go_big_quiet_want
  refine ⟨.bool true, fun w' hw' => ?_, ?_⟩
  · go_simp
  simp only [Act.put, List.setIfInBounds_toArray, List.set_cons_zero, List.set_cons_succ]
  go_big_quiet_on
  go_big_quiet_want
  refine ⟨.bool true, fun w' hw' => ?_, ?_⟩
  · go_simp
  simp only [Act.put, List.setIfInBounds_toArray, List.set_cons_zero, List.set_cons_succ]
  go_big_quiet_on
  go_big_quiet_want
  go_big_quiet_op
  go_big_quiet_on
  go_big_quiet_want
  go_big_quiet_op
  go_big_quiet_on
  go_big_quiet_want
  refine ⟨V x.t x.n x.s, fun w' hw' => ?_, ?_⟩
  · obtain ⟨_, c0, c1, c2⟩ := hw'
    go_simp
  simp only [Act.put, List.setIfInBounds_toArray, List.set_cons_zero, List.set_cons_succ]
  go_big_quiet_on
  go_big_quiet_want
  go_big_quiet_op
  go_big_quiet_on
  go_big_quiet_want
  refine ⟨.bool true, fun w' hw' => ?_, ?_⟩
  · go_simp
    exact (K4.out w' hw'.1).mono fun e w'' h => ⟨h.1, on hw'.1 h.2, hw'.2.below h.2⟩
  simp only [Act.put, List.setIfInBounds_toArray, List.set_cons_zero, List.set_cons_succ]
  go_big_quiet_on
  go_big_quiet_want
  go_big_quiet_op
  go_big_quiet_on
  go_big_quiet_want
  refine ⟨V x.t x.n x.s, fun w' hw' => ?_, ?_⟩
  · obtain ⟨_, c0, c1, c2⟩ := hw'
    go_simp
  simp only [Act.put, List.setIfInBounds_toArray, List.set_cons_zero, List.set_cons_succ]
  go_big_quiet_on
  go_big_quiet_want
  go_big_quiet_op
  go_big_quiet_on
  go_big_quiet_want
  refine ⟨.bool false, fun w' hw' => ?_, ?_⟩
  · go_simp
    exact (K3.out w' hw'.1).mono fun e w'' h => ⟨h.1, on hw'.1 h.2, hw'.2.below h.2⟩
  simp only [Act.put, List.setIfInBounds_toArray, List.set_cons_zero, List.set_cons_succ]
  go_big_quiet_on
  go_big_quiet_want
  refine ⟨.bool true, fun w' hw' => ?_, ?_⟩
  · go_simp
  simp only [Act.put, List.setIfInBounds_toArray, List.set_cons_zero, List.set_cons_succ]
  go_big_quiet_on
  go_big_quiet_want
  refine ⟨.bool true, fun w' hw' => ?_, ?_⟩
  · go_simp
  simp only [Act.put, List.setIfInBounds_toArray, List.set_cons_zero, List.set_cons_succ]
  go_big_quiet_on
  go_big_quiet_want
  refine ⟨.bool true, fun w' hw' => ?_, ?_⟩
  · go_simp
  simp only [Act.put, List.setIfInBounds_toArray, List.set_cons_zero, List.set_cons_succ]
  go_big_quiet_on
  go_big_quiet_want
  go_big_quiet_op
  go_big_quiet_on
  go_big_quiet_want
  go_big_quiet_op
  go_big_quiet_on
  go_big_quiet_want
  refine ⟨V x.t x.n x.s, fun w' hw' => ?_, ?_⟩
  · obtain ⟨_, c0, c1, c2⟩ := hw'
    go_simp
  simp only [Act.put, List.setIfInBounds_toArray, List.set_cons_zero, List.set_cons_succ]
  go_big_quiet_on
  go_big_quiet_want
  go_big_quiet_op
  go_big_quiet_on
  go_big_quiet_want
  refine ⟨.bool false, fun w' hw' => ?_, ?_⟩
  · go_simp
    exact (K9.out w' hw'.1).mono fun e w'' h => ⟨h.1, on hw'.1 h.2, hw'.2.below h.2⟩
  simp only [Act.put, List.setIfInBounds_toArray, List.set_cons_zero, List.set_cons_succ]
  go_big_quiet_on
  go_big_quiet_want
  go_big_quiet_op
  go_big_quiet_on
  go_big_quiet_want
  refine ⟨V x.t x.n x.s, fun w' hw' => ?_, ?_⟩
  · obtain ⟨_, c0, c1, c2⟩ := hw'
    go_simp
  simp only [Act.put, List.setIfInBounds_toArray, List.set_cons_zero, List.set_cons_succ]
  go_big_quiet_on
  go_big_quiet_want
  go_big_quiet_op
  go_big_quiet_on
  go_big_quiet_want
  refine ⟨.bool false, fun w' hw' => ?_, ?_⟩
  · go_simp
    exact (K8.out w' hw'.1).mono fun e w'' h => ⟨h.1, on hw'.1 h.2, hw'.2.below h.2⟩
  simp only [Act.put, List.setIfInBounds_toArray, List.set_cons_zero, List.set_cons_succ]
  go_big_quiet_on
  go_big_quiet_want
  go_big_quiet_op
  go_big_quiet_on
  go_big_quiet_skip
  go_big_quiet_want
  refine ⟨.bool false, fun w' hw' => ?_, ?_⟩
  · go_simp
  simp only [Act.put, List.setIfInBounds_toArray, List.set_cons_zero, List.set_cons_succ]
  go_big_quiet_on
  go_big_quiet_want
  refine ⟨.bool true, fun w' hw' => ?_, ?_⟩
  · go_simp
  simp only [Act.put, List.setIfInBounds_toArray, List.set_cons_zero, List.set_cons_succ]
  go_big_quiet_on
  go_big_quiet_want
  refine ⟨.bool true, fun w' hw' => ?_, ?_⟩
  · go_simp
  simp only [Act.put, List.setIfInBounds_toArray, List.set_cons_zero, List.set_cons_succ]
  go_big_quiet_on
  go_big_quiet_want
  go_big_quiet_op
  go_big_quiet_on
  go_big_quiet_want
  go_big_quiet_op
  go_big_quiet_on
  go_big_quiet_want
  refine ⟨V x.t x.n x.s, fun w' hw' => ?_, ?_⟩
  · obtain ⟨_, c0, c1, c2⟩ := hw'
    go_simp
  simp only [Act.put, List.setIfInBounds_toArray, List.set_cons_zero, List.set_cons_succ]
  go_big_quiet_on
  go_big_quiet_want
  go_big_quiet_op
  go_big_quiet_on
  go_big_quiet_want
  refine ⟨.bool true, fun w' hw' => ?_, ?_⟩
  · go_simp
    exact (K1.out w' hw'.1).mono fun e w'' h => ⟨h.1, on hw'.1 h.2, hw'.2.below h.2⟩
  simp only [Act.put, List.setIfInBounds_toArray, List.set_cons_zero, List.set_cons_succ]
  go_big_quiet_on
  go_big_quiet_want
  refine ⟨.bool true, fun w' hw' => ?_, ?_⟩
  · go_simp
  simp only [Act.put, List.setIfInBounds_toArray, List.set_cons_zero, List.set_cons_succ]
  go_big_quiet_on
  go_big_quiet_want
  go_big_quiet_op
  go_big_quiet_on
  go_big_quiet_want
  go_big_quiet_op
  go_big_quiet_on
  go_big_quiet_want
  refine ⟨V x.t x.n x.s, fun w' hw' => ?_, ?_⟩
  · obtain ⟨_, c0, c1, c2⟩ := hw'
    go_simp
  simp only [Act.put, List.setIfInBounds_toArray, List.set_cons_zero, List.set_cons_succ]
  go_big_quiet_on
  go_big_quiet_want
  go_big_quiet_op
  go_big_quiet_on
  go_big_quiet_want
  refine ⟨.bool false, fun w' hw' => ?_, ?_⟩
  · go_simp
    exact (K2.out w' hw'.1).mono fun e w'' h => ⟨h.1, on hw'.1 h.2, hw'.2.below h.2⟩
  simp only [Act.put, List.setIfInBounds_toArray, List.set_cons_zero, List.set_cons_succ]
  go_big_quiet_on
  go_big_quiet_want
  refine ⟨.bool true, fun w' hw' => ?_, ?_⟩
  · go_simp
  simp only [Act.put, List.setIfInBounds_toArray, List.set_cons_zero, List.set_cons_succ]
  go_big_quiet_on
  go_big_quiet_want
  refine ⟨.bool true, fun w' hw' => ?_, ?_⟩
  · go_simp
  simp only [Act.put, List.setIfInBounds_toArray, List.set_cons_zero, List.set_cons_succ]
  go_big_quiet_on
  go_big_quiet_want
  go_big_quiet_op
  go_big_quiet_on
  refine wpQuiet_nil ?_
  intro w' hw'
  have HBz : Hid (Below w.heap.size w w') := hw'.1
  clear hw'
  go_wp2_with fail
  go_ret
  exact ⟨rfl, HBz.out⟩
end Go.Proofs.Ytnfageikacfdoaa.Val
