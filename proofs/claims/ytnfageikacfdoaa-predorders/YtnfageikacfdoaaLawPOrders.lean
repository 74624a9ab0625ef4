/- The walk of the law on what stands below, above and at a value. -/
import Derived.Test.YtnfageikacfdoaaLawPOrdLt
import Derived.Test.YtnfageikacfdoaaLawPOrdEq
import Derived.Test.YtnfageikacfdoaaLawPOrdGt
import Derived.Test.YtnfageikacfdoaaRowOk
namespace Go.Proofs.Ytnfageikacfdoaa.Val
open Go.RowKit

set_option maxHeartbeats 4000000 in
theorem orders_long (vr : Value) (r : List Val) (col : Int) (x : Val) (w : World) (hr : RowIn w vr r) (hl : r.length = 0 ∨ 1000 < r.length) :
    Calls Try.prog 7 #[vr, .int .i64 col, V x.t x.n x.s] w fun e w' => e = .returned (.bool true) ∧ Below w.heap.size w w' := by
  have H0 : Hid (∀ w1, Calls Try.prog 11 #[] w1 fun e w' => e = .returned (.bool true) ∧ Below w1.heap.size w1 w') := awake_any
  obtain ⟨ar, cr, rfl, hn⟩ := hr.slice
  clear hr
  generalize r.length = n at *
  rcases hl with rfl | hl
  · go_enter Try.func7, Try.ntmps7
    go_wp2_with fail
    refine Calls.mono (H0.out _) ?_
    rintro e w1 ⟨rfl, hb⟩
    go_wp2_with fail
    go_ret
    exact ⟨rfl, back1 hb⟩
  · have h1 : ((n : Int) == 0) = false := by rw [beq_eq_false_iff_ne]; omega
    have h2 : (1000 : Int) < (n : Int) := by omega
    go_enter Try.func7, Try.ntmps7
    go_wp2_with fail
    refine Calls.mono (H0.out _) ?_
    rintro e w1 ⟨rfl, hb⟩
    go_wp2_with fail
    go_ret
    exact ⟨rfl, back1 hb⟩
theorem orders_walk (vr : Value) (r : List Val) (col : Int) (x : Val) (w : World) (hr : RowIn w vr r) (hok : RowOk r) (hx : x.s.size ≤ maxLen) :
    Calls Try.prog 7 #[vr, .int .i64 col, V x.t x.n x.s] w fun e w' => e = .returned (.bool true) ∧ Below w.heap.size w w' := by
  by_cases hl : r.length = 0 ∨ 1000 < r.length
  · exact orders_long vr r col x w hr hl
  cases r with
  | nil => simp at hl
  | cons z r =>
    obtain ⟨ar, cr, rfl, hn⟩ := hr.slice
    obtain ⟨m, hm1, hm⟩ := and1023 col
    have n0 : 0 < (z :: r).length := by simp
    have hk1 : m % (z :: r).length < (z :: r).length := Nat.mod_lt _ n0
    have hk : Int.tmod (m : Int) ((z :: r).length : Int) = ((m % (z :: r).length : Nat) : Int) := by rw [Int.tmod_eq_emod_of_nonneg (by omega)]; omega
    have hz : z.s.size ≤ maxLen := (hok z (List.mem_cons_self ..)).2
    obtain ⟨b, o, rfl, d0, d1, d2⟩ := hr.at 0 n0
    simp only [Nat.zero_mul, Nat.add_zero, List.getElem_cons_zero] at d0 d1 d2
    generalize m % (z :: r).length = k at *
    have H : ∀ op w1, 1 ≤ op ∧ op ≤ 9 → Below w.heap.size w w1 → Calls Try.prog 26 #[.int .i64 op, .int .i64 (k : Int), V x.t x.n x.s, .slice (some ⟨b, o, none⟩) (z :: r).length cr] w1 fun e w' => e = .returned (.bool (ordB (decide (cmpX (z :: r)[k] x < 0)) (cmpX (z :: r)[k] x == 0) (decide (0 < cmpX (z :: r)[k] x)) (decide (cmpX (z :: r)[k] z ≤ 0)) op)) ∧ Below w1.heap.size w1 w' := fun op w1 ho hb => by
      rw [← ord_holds z r x k hk1 op ho]
      exact is_any op k x z _ r w1 (hr.below hb) hx hz
    have HL : ∀ w1, Below w.heap.size w w1 → Calls Try.prog 13 #[PV 6 (k : Int) z.t z.n z.s false 0 ⟨#[]⟩ (.slice none 0 0), .slice (some ⟨b, o, none⟩) (z :: r).length cr] w1 fun e w' => e = .returned (.bool (decide (cmpX (z :: r)[k] z ≤ 0))) ∧ Below w1.heap.size w1 w' := fun w1 hb => by
      have hh : holdsP (z :: r) (PT.mk 6 (k : Int) z Val.zero (.slice none 0 0) []) = decide (cmpX (z :: r)[k] z ≤ 0) := by
        rw [holds_leaf (by simp) (by simp) (by simp) (by simp), leaf_at hk1]; rfl
      rw [← hh]
      exact holds_any (PT.mk 6 (k : Int) z Val.zero (.slice none 0 0) []) _ (z :: r) w1 (in_leaf w1 _ _ _ _ hz (by decide)) (hr.below hb)
    have n1 : (z :: r).length ≤ 1000 := by omega
    generalize cmpX (z :: r)[k] x = c at *
    cases hd : decide (cmpX (z :: r)[k] z ≤ 0)
    · rw [hd] at H HL
      rcases Int.lt_trichotomy c 0 with h | h | h
      · rw [decide_eq_true h, beq_eq_false_iff_ne.2 (by omega), decide_eq_false (show ¬ 0 < c by omega)] at H
        exact orders_lt0 b o _ cr m k col x z w n0 n1 hm hk hm1 hk1 d0 d1 d2 H HL
      · subst h
        exact orders_eq0 b o _ cr m k col x z w n0 n1 hm hk hm1 hk1 d0 d1 d2 H HL
      · rw [decide_eq_false (show ¬ c < 0 by omega), beq_eq_false_iff_ne.2 (by omega), decide_eq_true h] at H
        exact orders_gt0 b o _ cr m k col x z w n0 n1 hm hk hm1 hk1 d0 d1 d2 H HL
    · rw [hd] at H HL
      rcases Int.lt_trichotomy c 0 with h | h | h
      · rw [decide_eq_true h, beq_eq_false_iff_ne.2 (by omega), decide_eq_false (show ¬ 0 < c by omega)] at H
        exact orders_lt1 b o _ cr m k col x z w n0 n1 hm hk hm1 hk1 d0 d1 d2 H HL
      · subst h
        exact orders_eq1 b o _ cr m k col x z w n0 n1 hm hk hm1 hk1 d0 d1 d2 H HL
      · rw [decide_eq_false (show ¬ c < 0 by omega), beq_eq_false_iff_ne.2 (by omega), decide_eq_true h] at H
        exact orders_gt1 b o _ cr m k col x z w n0 n1 hm hk hm1 hk1 d0 d1 d2 H HL
end Go.Proofs.Ytnfageikacfdoaa.Val
