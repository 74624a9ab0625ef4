/- The walk of the law on ranges. -/
import Derived.Test.YtnfageikacfdoaaPredMk
namespace Go.Proofs.Ytnfageikacfdoaa.Val
open Go.RowKit

theorem range_in (z : Val) (r : List Val) (x y : Val) : holdsP (z :: r) (.mk 9 0 x y (.slice none 0 0) []) = (decide (0 ≤ cmpX z x) && decide (cmpX z y ≤ 0)) := by simp [holds_mk, leafB, standB]
theorem range_both (z : Val) (r : List Val) (x y : Val) (lv : Value) : holdsP (z :: r) (.mk 11 0 Val.zero Val.zero lv [lf 8 x, lf 6 y]) = (decide (0 ≤ cmpX z x) && decide (cmpX z y ≤ 0)) := by simp [holds_mk, leafB, standB, lf]
theorem range_out (z : Val) (r : List Val) (x y : Val) (lv : Value) : holdsP (z :: r) (.mk 12 0 Val.zero Val.zero lv [lf 5 x, lf 7 y]) = !(decide (0 ≤ cmpX z x) && decide (cmpX z y ≤ 0)) := by
  simp [holds_mk, leafB, standB, lf, ← Int.not_le]
set_option maxHeartbeats 4000000 in
theorem range_long (vr : Value) (r : List Val) (x y : Val) (w : World) (hr : RowIn w vr r) (hl : r.length = 0 ∨ 1000 < r.length) :
    Calls Try.prog 10 #[vr, V x.t x.n x.s, V y.t y.n y.s] w fun e w' => e = .returned (.bool true) ∧ Below w.heap.size w w' := by
  have H0 : Hid (∀ w1, Calls Try.prog 11 #[] w1 fun e w' => e = .returned (.bool true) ∧ Below w1.heap.size w1 w') := awake_any
  obtain ⟨ar, cr, rfl, hn⟩ := hr.slice
  clear hr
  generalize r.length = n at *
  rcases hl with rfl | hl
  · go_enter Try.func10, Try.ntmps10
    go_wp2_with fail
    refine Calls.mono (H0.out _) ?_
    rintro e w1 ⟨rfl, hb⟩
    go_wp2_with fail
    go_ret
    exact ⟨rfl, back2 hb⟩
  · have h1 : ((n : Int) == 0) = false := by rw [beq_eq_false_iff_ne]; omega
    have h2 : (1000 : Int) < (n : Int) := by omega
    go_enter Try.func10, Try.ntmps10
    go_wp2_with fail
    refine Calls.mono (H0.out _) ?_
    rintro e w1 ⟨rfl, hb⟩
    go_wp2_with fail
    go_ret
    exact ⟨rfl, back2 hb⟩
set_option maxHeartbeats 4000000 in
theorem range_short (vr : Value) (r : List Val) (x y : Val) (w : World) (hr : RowIn w vr r) (h0 : r.length ≠ 0) (hl : r.length ≤ 1000) (hx : x.s.size ≤ maxLen) (hy : y.s.size ≤ maxLen) :
    Calls Try.prog 10 #[vr, V x.t x.n x.s, V y.t y.n y.s] w fun e w' => e = .returned (.bool true) ∧ Below w.heap.size w w' := by
  have H0 : Hid (∀ w1, Calls Try.prog 11 #[] w1 fun e w' => e = .returned (.bool true) ∧ Below w1.heap.size w1 w') := awake_any
  obtain ⟨ar, cr, rfl, hn⟩ := hr.slice
  obtain ⟨a, H1, H3, H4⟩ : ∃ a, (∀ w1, Below w.heap.size w w1 → Calls Try.prog 13 #[(PT.mk 9 0 x y (.slice none 0 0) []).val, .slice ar r.length cr] w1 fun e w' => e = .returned (.bool a) ∧ Below w1.heap.size w1 w') ∧
      (∀ w1 q, q.bare = (PT.mk 11 0 Val.zero Val.zero (.slice none 0 0) [lf 8 x, lf 6 y]).bare → In w1 q → Below w.heap.size w w1 → Calls Try.prog 13 #[q.val, .slice ar r.length cr] w1 fun e w' => e = .returned (.bool a) ∧ Below w1.heap.size w1 w') ∧
      (∀ w1 lv, Lies w1 lv 2 (([lf 5 x, lf 7 y] : List PT).flatMap PT.cells) → Below w.heap.size w w1 → Calls Try.prog 13 #[(PT.mk 12 0 Val.zero Val.zero lv [lf 5 x, lf 7 y]).val, .slice ar r.length cr] w1 fun e w' => e = .returned (.bool (!a)) ∧ Below w1.heap.size w1 w') := by
    cases r with
    | nil => simp at h0
    | cons z r' =>
      refine ⟨decide (0 ≤ cmpX z x) && decide (cmpX z y ≤ 0), fun w1 hb => ?_, fun w1 q hq hi hb => ?_, fun w1 lv hlv hb => ?_⟩
      · rw [← range_in z r' x y]; exact holds_any _ _ (z :: r') w1 (in_leaf w1 _ _ _ _ hx hy) (hr.below hb)
      · rw [← range_both z r' x y (.slice none 0 0), ← holds_of_bare hq]; exact holds_any q _ (z :: r') w1 hi (hr.below hb)
      · rw [← range_out z r' x y lv]
        exact holds_any _ _ (z :: r') w1 (In.mk (v := Val.zero) (u := Val.zero) (by decide) (by decide) hlv (two_in (in_lf _ _ _ hx) (in_lf _ _ _ hy))) (hr.below hb)
  have H2 : Hid (∀ w1 lv, Lies w1 lv 2 (([lf 8 x, lf 6 y] : List PT).flatMap PT.cells) → Calls Try.prog 25 #[lv] w1 fun e w' => ∃ q : PT, e = .returned q.val ∧ (q.bare = (PT.mk 11 0 Val.zero Val.zero (.slice none 0 0) [lf 8 x, lf 6 y]).bare ∧ In w' q) ∧ Below w1.heap.size w1 w') := by
    intro w1 lv hlv
    refine Calls.mono (and_any lv [lf 8 x, lf 6 y] w1 ⟨hlv, two_in (in_lf _ _ _ hx) (in_lf _ _ _ hy)⟩ (by simp [sizeL, size_lf])) ?_
    rintro e w' ⟨q, e1, e2, e3, e4⟩
    exact ⟨q, e1, ⟨e2.trans (bare_list ..), e3.isIn⟩, e4⟩
  have HH : Hid _ := And.intro H1 (And.intro H3 H4)
  have j1 : ((r.length : Int) == 0) = false := by rw [beq_eq_false_iff_ne]; omega
  have j2 : decide ((1000 : Int) < (r.length : Int)) = false := by simp; omega
  clear hr hx hy h0 hl H1 H3 H4
  generalize r.length = n at *
  go_enter Try.func10, Try.ntmps10
  go_wp2_with fail
  refine Calls.mono (H0.out _) ?_
  rintro e w1 ⟨rfl, hb1⟩
  have HB1 : Hid (Below w.heap.size w w1) := back2 hb1
  have X1 := ((VBox.new w x 23).alloc (vobj y 23)).below hb1
  have Y1 := (VBox.new (w.alloc (vobj x 23)) y 23).below hb1
  have z : (w.alloc (vobj x 23)).heap.size = w.heap.size + 1 := by simp
  rw [z] at Y1
  have XY1 : Hid (VBox w1 w.heap.size x ∧ VBox w1 (w.heap.size + 1) y) := ⟨X1, Y1⟩
  have z1 := Y1.lt
  have z0 := X1.lt
  obtain ⟨a0, a1, a2⟩ := X1
  obtain ⟨b0, b1, b2⟩ := Y1
  clear hb1 z H0
  go_wp2_with fail
  refine Calls.mono (H2.out _ _ ?hl) ?_
  case hl => exact lies_new _ _ (by simp) (([lf 8 x, lf 6 y] : List PT).flatMap PT.cells) 2 26 (by decide)
  rintro e w2 ⟨q, rfl, hq, hb2⟩
  have HB2 : Hid (Below w.heap.size w w2) := on HB1.out (back2 hb2)
  obtain ⟨aq, cq, hlq, _⟩ := hq.2.lies.slice
  have HQ : Hid (q.bare = (PT.mk 11 0 Val.zero Val.zero (.slice none 0 0) [lf 8 x, lf 6 y]).bare ∧ In w2 q ∧ q.lv = .slice aq q.l.length cq) := ⟨hq.1, hq.2, hlq⟩
  have I2 : Hid (Box w2 w1.heap.size (PT.mk 9 0 x y (.slice none 0 0) [])) := ((Box.new w1 (PT.mk 9 0 x y (.slice none 0 0) []) 26).alloc _).below hb2
  have X2 : Hid (VBox w2 w.heap.size x ∧ VBox w2 (w.heap.size + 1) y) := ⟨XY1.out.1.below (back2 hb2), XY1.out.2.below (back2 hb2)⟩
  clear a0 a1 a2 b0 b1 b2 XY1 HB1 hb2 hq z0 z1
  have z0 := X2.out.1.lt
  have z1 := X2.out.2.lt
  have z2 := I2.out.lt
  obtain ⟨a0, a1, a2⟩ := X2.out.1
  obtain ⟨b0, b1, b2⟩ := X2.out.2
  have p0 := fun o1 o2 o3 => (((I2.out.alloc o1).alloc o2).alloc o3).c0
  have p1 := fun o1 o2 o3 => (((I2.out.alloc o1).alloc o2).alloc o3).c1
  have p2 := fun o1 o2 o3 => (((I2.out.alloc o1).alloc o2).alloc o3).c2
  have p3 := fun o1 o2 o3 => (((I2.out.alloc o1).alloc o2).alloc o3).c3
  have p4 := fun o1 o2 o3 => (((I2.out.alloc o1).alloc o2).alloc o3).c4
  have p5 := fun o1 o2 o3 => (((I2.out.alloc o1).alloc o2).alloc o3).c5
  have p6 := fun o1 o2 o3 => (((I2.out.alloc o1).alloc o2).alloc o3).c6
  have p7 := fun o1 o2 o3 => (((I2.out.alloc o1).alloc o2).alloc o3).c7
  have p8 := fun o1 o2 o3 => (((I2.out.alloc o1).alloc o2).alloc o3).c8
  dsimp only at p0 p1 p2 p3 p4 p5 p6 p7 p8
  unfold PT.val
  rw [hlq]
  clear hlq H2
  go_wp2_with fail
  refine Calls.mono (HH.out.1 _ ?hb) ?_
  case hb => exact on HB2.out (back2 (alloc1 _ _))
  rintro e w3 ⟨rfl, hb3⟩
  rw [← HQ.out.2.2] at hb3
  have HB3 : Hid (Below w.heap.size w w3 ∧ In w3 q) := ⟨on HB2.out (back3 hb3), HQ.out.2.1.keep (back3 hb3)⟩
  have O0 := (Box.new ((w2.alloc (pobj q 26)).alloc (.cells (([lf 5 x, lf 7 y] : List PT).flatMap PT.cells).toArray 26)) (PT.mk 12 0 Val.zero Val.zero (.slice (some ⟨w2.heap.size + 1, 0, none⟩) 2 2) [lf 5 x, lf 7 y]) 26).below hb3
  have L0 := ((lies_new (w2.alloc (pobj q 26)) (w2.heap.size + 1) (by simp) (([lf 5 x, lf 7 y] : List PT).flatMap PT.cells) 2 26 (by decide)).alloc (pobj (PT.mk 12 0 Val.zero Val.zero (.slice (some ⟨w2.heap.size + 1, 0, none⟩) 2 2) [lf 5 x, lf 7 y]) 26)).below hb3
  have Q0 := (((Box.new w2 q 26).alloc (.cells (([lf 5 x, lf 7 y] : List PT).flatMap PT.cells).toArray 26)).alloc (pobj (PT.mk 12 0 Val.zero Val.zero (.slice (some ⟨w2.heap.size + 1, 0, none⟩) 2 2) [lf 5 x, lf 7 y]) 26)).below hb3
  have z : ((w2.alloc (pobj q 26)).alloc (.cells (([lf 5 x, lf 7 y] : List PT).flatMap PT.cells).toArray 26)).heap.size = w2.heap.size + 1 + 1 := by simp
  rw [z] at O0
  have OL : Hid (Box w3 (w2.heap.size + 1 + 1) (PT.mk 12 0 Val.zero Val.zero (.slice (some ⟨w2.heap.size + 1, 0, none⟩) 2 2) [lf 5 x, lf 7 y]) ∧ Lies w3 (.slice (some ⟨w2.heap.size + 1, 0, none⟩) 2 2) 2 (([lf 5 x, lf 7 y] : List PT).flatMap PT.cells)) := ⟨O0, L0⟩
  clear z O0 L0 hb3 a0 a1 a2 b0 b1 b2 p0 p1 p2 p3 p4 p5 p6 p7 p8 X2 I2 HB2 z0 z1 z2
  obtain ⟨q0, q1, q2, q3, q4, q5, q6, q7, q8⟩ := Q0
  go_wp2_with fail
  refine Calls.mono (HH.out.2.1 w3 q HQ.out.1 HB3.out.2 HB3.out.1) ?_
  rintro e w4 ⟨rfl, hb4⟩
  have HB4 : Hid (Below w.heap.size w w4) := on HB3.out.1 hb4
  have L4 : Hid (Lies w4 (.slice (some ⟨w2.heap.size + 1, 0, none⟩) 2 2) 2 (([lf 5 x, lf 7 y] : List PT).flatMap PT.cells)) := OL.out.2.below hb4
  obtain ⟨o0, o1, o2, o3, o4, o5, o6, o7, o8⟩ := OL.out.1.below hb4
  dsimp only at o0 o1 o2 o3 o4 o5 o6 o7 o8
  clear q0 q1 q2 q3 q4 q5 q6 q7 q8 hb4 OL HB3 HQ
  cases a
  · go_wp2_with fail
    refine Calls.mono (HH.out.2.2 w4 _ L4.out HB4.out) ?_
    rintro e w5 ⟨rfl, hb5⟩
    have HB5 : Hid (Below w.heap.size w w5) := on HB4.out hb5
    clear hb5 L4 HB4 o0 o1 o2 o3 o4 o5 o6 o7 o8 HH
    go_wp2_with fail
    go_ret
    exact ⟨rfl, HB5.out⟩
  · go_wp2_with fail
    refine Calls.mono (HH.out.2.2 w4 _ L4.out HB4.out) ?_
    rintro e w5 ⟨rfl, hb5⟩
    have HB5 : Hid (Below w.heap.size w w5) := on HB4.out hb5
    clear hb5 L4 HB4 o0 o1 o2 o3 o4 o5 o6 o7 o8 HH
    go_wp2_with fail
    go_ret
    exact ⟨rfl, HB5.out⟩
theorem range_walk (vr : Value) (r : List Val) (x y : Val) (w : World) (hr : RowIn w vr r) (hx : x.s.size ≤ maxLen) (hy : y.s.size ≤ maxLen) :
    Calls Try.prog 10 #[vr, V x.t x.n x.s, V y.t y.n y.s] w fun e w' => e = .returned (.bool true) ∧ Below w.heap.size w w' := by
  by_cases h : r.length = 0 ∨ 1000 < r.length
  · exact range_long vr r x y w hr h
  · exact range_short vr r x y w hr (by omega) (by omega) hx hy
end Go.Proofs.Ytnfageikacfdoaa.Val
