/- The walk of the law ModeTables. -/
import Derived.Test.YtcobgjgabfdmpaaDoorModeJoin
import Derived.Test.YtcobgjgabfdmpaaDoorModeAll
import Derived.Test.YtcobgjgabfdmpaaDoorModeRefN
import Derived.Test.YtcobgjgabfdmpaaDoorModeAwake
namespace Go.Proofs.YtcobgjgabfdmpaaDoor.Val
open Go Go.RowKit

theorem fits_turn (a b : Int) : fitsM a b = fitsM b a := by
  by_cases ha : rightM a = true
  · by_cases hb : rightM b = true
    · exact eq_of_beq (all_right (p := fun a b _ => fitsM a b == fitsM b a) (by decide +kernel) ha hb hb)
    · simp [fitsM, hb]
  · simp [fitsM, ha]
set_option maxHeartbeats 8000000 in
theorem mtables_walk (a b : Int) (w : World) (hC : TabC w) (hN : TabN w) (hI : TabI w) : Tells 7 #[.int .i64 a, .int .i64 b] w (.bool true) := by
  have HF : Hid (∀ (a b : Int) (v : Bool) w1, fitsM a b = v → Below w.heap.size w w1 → Tells 11 #[.int .i64 a, .int .i64 b] w1 (.bool v)) := fun a b v w1 h hb => by rw [← h]; exact (fits_any a b w1 (hC.below hb)).tells
  have HC : Hid (∀ (a b : Int) (v : Bool) w1, coversM a b = v → Below w.heap.size w w1 → Tells 13 #[.int .i64 a, .int .i64 b] w1 (.bool v)) := fun a b v w1 h hb => by rw [← h]; exact (covers_any a b w1 (hC.below hb)).tells
  have HI : Hid (∀ (a : Int) (v : Int) w1, intentM a = v → Below w.heap.size w w1 → Tells 20 #[.int .i64 a] w1 (.int .i64 v)) := fun a v w1 h hb => by rw [← h]; exact (intent_any a w1 (hI.below hb)).tells
  have HA : Hid (∀ w1, Below w.heap.size w w1 → Tells 10 #[] w1 (.bool true)) := fun w1 hb => awake_any w1 (hC.below hb) (hN.below hb)
  have HB : Hid (Below w.heap.size w w) := Below.refl _ _
  clear hC hN hI
  obtain ⟨p, hp⟩ : ∃ v, fitsM a b = v := ⟨_, rfl⟩
  have hq : fitsM b a = p := by rw [← hp]; exact fits_turn b a
  by_cases ra : a = 3 ∨ a = 5 ∨ a = 6
  · by_cases rb : b = 3 ∨ b = 5 ∨ b = 6
    · rcases ra with rfl | rfl | rfl <;> rcases rb with rfl | rfl | rfl
      · have i1 : intentM 3 = 1 := by decide +kernel
        have g0 : coversM 6 1 = true := by decide +kernel
        have g1 : fitsM 3 1 = true := by decide +kernel
        have g2 : intentM 1 = 1 := by decide +kernel
        have g4 : fitsM 1 1 = true := by decide +kernel
        obtain rfl : p = true := by rw [← hp]; decide +kernel
        go_enter Tryd.func7, Tryd.ntmps7
        repeat (go_wp2_with fail; (first
              | (go_at_call 10; refine Calls.mono (HA.out _ HB.out) ?_)
              | (go_at_call 11; refine Calls.mono (HF.out _ _ _ _ (by assumption) HB.out) ?_)
              | (go_at_call 13; refine Calls.mono (HC.out _ _ _ _ (by assumption) HB.out) ?_)
              | (go_at_call 20; refine Calls.mono (HI.out _ _ _ (by assumption) HB.out) ?_)
              | fail); rintro e w1 ⟨rfl, hb⟩; replace HB : Hid (Below w.heap.size w w1) := show Below w.heap.size w w1 from HB.out.trans (hb.mono HB.out.size); clear hb)
        go_wp2_with fail
        go_ret
        exact ⟨rfl, HB.out⟩
      · have i1 : intentM 3 = 1 := by decide +kernel
        have i2 : intentM 5 = 2 := by decide +kernel
        have g0 : coversM 6 1 = true := by decide +kernel
        have g1 : fitsM 3 1 = true := by decide +kernel
        have g2 : intentM 1 = 1 := by decide +kernel
        have g4 : fitsM 1 2 = true := by decide +kernel
        obtain rfl : p = true := by rw [← hp]; decide +kernel
        go_enter Tryd.func7, Tryd.ntmps7
        repeat (go_wp2_with fail; (first
              | (go_at_call 10; refine Calls.mono (HA.out _ HB.out) ?_)
              | (go_at_call 11; refine Calls.mono (HF.out _ _ _ _ (by assumption) HB.out) ?_)
              | (go_at_call 13; refine Calls.mono (HC.out _ _ _ _ (by assumption) HB.out) ?_)
              | (go_at_call 20; refine Calls.mono (HI.out _ _ _ (by assumption) HB.out) ?_)
              | fail); rintro e w1 ⟨rfl, hb⟩; replace HB : Hid (Below w.heap.size w w1) := show Below w.heap.size w w1 from HB.out.trans (hb.mono HB.out.size); clear hb)
        go_wp2_with fail
        go_ret
        exact ⟨rfl, HB.out⟩
      · have i1 : intentM 3 = 1 := by decide +kernel
        have i2 : intentM 6 = 2 := by decide +kernel
        have g0 : coversM 6 1 = true := by decide +kernel
        have g1 : fitsM 3 1 = true := by decide +kernel
        have g2 : intentM 1 = 1 := by decide +kernel
        have g4 : fitsM 1 2 = true := by decide +kernel
        obtain rfl : p = false := by rw [← hp]; decide +kernel
        go_enter Tryd.func7, Tryd.ntmps7
        repeat (go_wp2_with fail; (first
              | (go_at_call 10; refine Calls.mono (HA.out _ HB.out) ?_)
              | (go_at_call 11; refine Calls.mono (HF.out _ _ _ _ (by assumption) HB.out) ?_)
              | (go_at_call 13; refine Calls.mono (HC.out _ _ _ _ (by assumption) HB.out) ?_)
              | (go_at_call 20; refine Calls.mono (HI.out _ _ _ (by assumption) HB.out) ?_)
              | fail); rintro e w1 ⟨rfl, hb⟩; replace HB : Hid (Below w.heap.size w w1) := show Below w.heap.size w w1 from HB.out.trans (hb.mono HB.out.size); clear hb)
        go_wp2_with fail
        go_ret
        exact ⟨rfl, HB.out⟩
      · have i1 : intentM 5 = 2 := by decide +kernel
        have i2 : intentM 3 = 1 := by decide +kernel
        have g0 : coversM 6 2 = true := by decide +kernel
        have g1 : fitsM 3 2 = false := by decide +kernel
        have g2 : intentM 2 = 2 := by decide +kernel
        have g4 : fitsM 2 1 = true := by decide +kernel
        obtain rfl : p = true := by rw [← hp]; decide +kernel
        go_enter Tryd.func7, Tryd.ntmps7
        repeat (go_wp2_with fail; (first
              | (go_at_call 10; refine Calls.mono (HA.out _ HB.out) ?_)
              | (go_at_call 11; refine Calls.mono (HF.out _ _ _ _ (by assumption) HB.out) ?_)
              | (go_at_call 13; refine Calls.mono (HC.out _ _ _ _ (by assumption) HB.out) ?_)
              | (go_at_call 20; refine Calls.mono (HI.out _ _ _ (by assumption) HB.out) ?_)
              | fail); rintro e w1 ⟨rfl, hb⟩; replace HB : Hid (Below w.heap.size w w1) := show Below w.heap.size w w1 from HB.out.trans (hb.mono HB.out.size); clear hb)
        go_wp2_with fail
        go_ret
        exact ⟨rfl, HB.out⟩
      · have i1 : intentM 5 = 2 := by decide +kernel
        have g0 : coversM 6 2 = true := by decide +kernel
        have g1 : fitsM 3 2 = false := by decide +kernel
        have g2 : intentM 2 = 2 := by decide +kernel
        have g4 : fitsM 2 2 = true := by decide +kernel
        obtain rfl : p = false := by rw [← hp]; decide +kernel
        go_enter Tryd.func7, Tryd.ntmps7
        repeat (go_wp2_with fail; (first
              | (go_at_call 10; refine Calls.mono (HA.out _ HB.out) ?_)
              | (go_at_call 11; refine Calls.mono (HF.out _ _ _ _ (by assumption) HB.out) ?_)
              | (go_at_call 13; refine Calls.mono (HC.out _ _ _ _ (by assumption) HB.out) ?_)
              | (go_at_call 20; refine Calls.mono (HI.out _ _ _ (by assumption) HB.out) ?_)
              | fail); rintro e w1 ⟨rfl, hb⟩; replace HB : Hid (Below w.heap.size w w1) := show Below w.heap.size w w1 from HB.out.trans (hb.mono HB.out.size); clear hb)
        go_wp2_with fail
        go_ret
        exact ⟨rfl, HB.out⟩
      · have i1 : intentM 5 = 2 := by decide +kernel
        have i2 : intentM 6 = 2 := by decide +kernel
        have g0 : coversM 6 2 = true := by decide +kernel
        have g1 : fitsM 3 2 = false := by decide +kernel
        have g2 : intentM 2 = 2 := by decide +kernel
        have g4 : fitsM 2 2 = true := by decide +kernel
        obtain rfl : p = false := by rw [← hp]; decide +kernel
        go_enter Tryd.func7, Tryd.ntmps7
        repeat (go_wp2_with fail; (first
              | (go_at_call 10; refine Calls.mono (HA.out _ HB.out) ?_)
              | (go_at_call 11; refine Calls.mono (HF.out _ _ _ _ (by assumption) HB.out) ?_)
              | (go_at_call 13; refine Calls.mono (HC.out _ _ _ _ (by assumption) HB.out) ?_)
              | (go_at_call 20; refine Calls.mono (HI.out _ _ _ (by assumption) HB.out) ?_)
              | fail); rintro e w1 ⟨rfl, hb⟩; replace HB : Hid (Below w.heap.size w w1) := show Below w.heap.size w w1 from HB.out.trans (hb.mono HB.out.size); clear hb)
        go_wp2_with fail
        go_ret
        exact ⟨rfl, HB.out⟩
      · have i1 : intentM 6 = 2 := by decide +kernel
        have i2 : intentM 3 = 1 := by decide +kernel
        have g0 : coversM 6 2 = true := by decide +kernel
        have g1 : fitsM 3 2 = false := by decide +kernel
        have g2 : intentM 2 = 2 := by decide +kernel
        have g4 : fitsM 2 1 = true := by decide +kernel
        obtain rfl : p = false := by rw [← hp]; decide +kernel
        go_enter Tryd.func7, Tryd.ntmps7
        repeat (go_wp2_with fail; (first
              | (go_at_call 10; refine Calls.mono (HA.out _ HB.out) ?_)
              | (go_at_call 11; refine Calls.mono (HF.out _ _ _ _ (by assumption) HB.out) ?_)
              | (go_at_call 13; refine Calls.mono (HC.out _ _ _ _ (by assumption) HB.out) ?_)
              | (go_at_call 20; refine Calls.mono (HI.out _ _ _ (by assumption) HB.out) ?_)
              | fail); rintro e w1 ⟨rfl, hb⟩; replace HB : Hid (Below w.heap.size w w1) := show Below w.heap.size w w1 from HB.out.trans (hb.mono HB.out.size); clear hb)
        go_wp2_with fail
        go_ret
        exact ⟨rfl, HB.out⟩
      · have i1 : intentM 6 = 2 := by decide +kernel
        have i2 : intentM 5 = 2 := by decide +kernel
        have g0 : coversM 6 2 = true := by decide +kernel
        have g1 : fitsM 3 2 = false := by decide +kernel
        have g2 : intentM 2 = 2 := by decide +kernel
        have g4 : fitsM 2 2 = true := by decide +kernel
        obtain rfl : p = false := by rw [← hp]; decide +kernel
        go_enter Tryd.func7, Tryd.ntmps7
        repeat (go_wp2_with fail; (first
              | (go_at_call 10; refine Calls.mono (HA.out _ HB.out) ?_)
              | (go_at_call 11; refine Calls.mono (HF.out _ _ _ _ (by assumption) HB.out) ?_)
              | (go_at_call 13; refine Calls.mono (HC.out _ _ _ _ (by assumption) HB.out) ?_)
              | (go_at_call 20; refine Calls.mono (HI.out _ _ _ (by assumption) HB.out) ?_)
              | fail); rintro e w1 ⟨rfl, hb⟩; replace HB : Hid (Below w.heap.size w w1) := show Below w.heap.size w w1 from HB.out.trans (hb.mono HB.out.size); clear hb)
        go_wp2_with fail
        go_ret
        exact ⟨rfl, HB.out⟩
      · have i1 : intentM 6 = 2 := by decide +kernel
        have g0 : coversM 6 2 = true := by decide +kernel
        have g1 : fitsM 3 2 = false := by decide +kernel
        have g2 : intentM 2 = 2 := by decide +kernel
        have g4 : fitsM 2 2 = true := by decide +kernel
        obtain rfl : p = false := by rw [← hp]; decide +kernel
        go_enter Tryd.func7, Tryd.ntmps7
        repeat (go_wp2_with fail; (first
              | (go_at_call 10; refine Calls.mono (HA.out _ HB.out) ?_)
              | (go_at_call 11; refine Calls.mono (HF.out _ _ _ _ (by assumption) HB.out) ?_)
              | (go_at_call 13; refine Calls.mono (HC.out _ _ _ _ (by assumption) HB.out) ?_)
              | (go_at_call 20; refine Calls.mono (HI.out _ _ _ (by assumption) HB.out) ?_)
              | fail); rintro e w1 ⟨rfl, hb⟩; replace HB : Hid (Below w.heap.size w w1) := show Below w.heap.size w w1 from HB.out.trans (hb.mono HB.out.size); clear hb)
        go_wp2_with fail
        go_ret
        exact ⟨rfl, HB.out⟩
    · have b3 : (b == 3) = false := by rw [beq_eq_false_iff_ne]; omega
      have b5 : (b == 5) = false := by rw [beq_eq_false_iff_ne]; omega
      have b6 : (b == 6) = false := by rw [beq_eq_false_iff_ne]; omega
      obtain ⟨y, i2⟩ : ∃ v, intentM b = v := ⟨_, rfl⟩
      clear rb
      rcases ra with rfl | rfl | rfl
      · have i1 : intentM 3 = 1 := by decide +kernel
        have g0 : coversM 6 1 = true := by decide +kernel
        have g1 : fitsM 3 1 = true := by decide +kernel
        have g2 : intentM 1 = 1 := by decide +kernel
        cases p
        all_goals
          go_enter Tryd.func7, Tryd.ntmps7
          repeat (go_wp2_with fail; (first
                | (go_at_call 10; refine Calls.mono (HA.out _ HB.out) ?_)
                | (go_at_call 11; refine Calls.mono (HF.out _ _ _ _ (by assumption) HB.out) ?_)
                | (go_at_call 13; refine Calls.mono (HC.out _ _ _ _ (by assumption) HB.out) ?_)
                | (go_at_call 20; refine Calls.mono (HI.out _ _ _ (by assumption) HB.out) ?_)
                | fail); rintro e w1 ⟨rfl, hb⟩; replace HB : Hid (Below w.heap.size w w1) := show Below w.heap.size w w1 from HB.out.trans (hb.mono HB.out.size); clear hb)
          go_wp2_with fail
          go_ret
          exact ⟨rfl, HB.out⟩
      · have i1 : intentM 5 = 2 := by decide +kernel
        have g0 : coversM 6 2 = true := by decide +kernel
        have g1 : fitsM 3 2 = false := by decide +kernel
        have g2 : intentM 2 = 2 := by decide +kernel
        cases p
        all_goals
          go_enter Tryd.func7, Tryd.ntmps7
          repeat (go_wp2_with fail; (first
                | (go_at_call 10; refine Calls.mono (HA.out _ HB.out) ?_)
                | (go_at_call 11; refine Calls.mono (HF.out _ _ _ _ (by assumption) HB.out) ?_)
                | (go_at_call 13; refine Calls.mono (HC.out _ _ _ _ (by assumption) HB.out) ?_)
                | (go_at_call 20; refine Calls.mono (HI.out _ _ _ (by assumption) HB.out) ?_)
                | fail); rintro e w1 ⟨rfl, hb⟩; replace HB : Hid (Below w.heap.size w w1) := show Below w.heap.size w w1 from HB.out.trans (hb.mono HB.out.size); clear hb)
          go_wp2_with fail
          go_ret
          exact ⟨rfl, HB.out⟩
      · have i1 : intentM 6 = 2 := by decide +kernel
        have g0 : coversM 6 2 = true := by decide +kernel
        have g1 : fitsM 3 2 = false := by decide +kernel
        have g2 : intentM 2 = 2 := by decide +kernel
        cases p
        all_goals
          go_enter Tryd.func7, Tryd.ntmps7
          repeat (go_wp2_with fail; (first
                | (go_at_call 10; refine Calls.mono (HA.out _ HB.out) ?_)
                | (go_at_call 11; refine Calls.mono (HF.out _ _ _ _ (by assumption) HB.out) ?_)
                | (go_at_call 13; refine Calls.mono (HC.out _ _ _ _ (by assumption) HB.out) ?_)
                | (go_at_call 20; refine Calls.mono (HI.out _ _ _ (by assumption) HB.out) ?_)
                | fail); rintro e w1 ⟨rfl, hb⟩; replace HB : Hid (Below w.heap.size w w1) := show Below w.heap.size w w1 from HB.out.trans (hb.mono HB.out.size); clear hb)
          go_wp2_with fail
          go_ret
          exact ⟨rfl, HB.out⟩
  · have a3 : (a == 3) = false := by rw [beq_eq_false_iff_ne]; omega
    have a5 : (a == 5) = false := by rw [beq_eq_false_iff_ne]; omega
    have a6 : (a == 6) = false := by rw [beq_eq_false_iff_ne]; omega
    obtain ⟨y, i2⟩ : ∃ v, intentM b = v := ⟨_, rfl⟩
    clear ra
    obtain ⟨x, i1⟩ : ∃ v, intentM a = v := ⟨_, rfl⟩
    have hx : x = 0 ∨ x = 1 ∨ x = 2 ∨ x = 4 := by rw [← i1, intent_if]; split <;> (try split) <;> (try split) <;> omega
    rcases hx with rfl | rfl | rfl | rfl
    · have g0 : coversM 6 0 = true := by decide +kernel
      have g1 : fitsM 3 0 = true := by decide +kernel
      have g2 : intentM 0 = 0 := by decide +kernel
      cases p
      all_goals
        go_enter Tryd.func7, Tryd.ntmps7
        repeat (go_wp2_with fail; (first
              | (go_at_call 10; refine Calls.mono (HA.out _ HB.out) ?_)
              | (go_at_call 11; refine Calls.mono (HF.out _ _ _ _ (by assumption) HB.out) ?_)
              | (go_at_call 13; refine Calls.mono (HC.out _ _ _ _ (by assumption) HB.out) ?_)
              | (go_at_call 20; refine Calls.mono (HI.out _ _ _ (by assumption) HB.out) ?_)
              | fail); rintro e w1 ⟨rfl, hb⟩; replace HB : Hid (Below w.heap.size w w1) := show Below w.heap.size w w1 from HB.out.trans (hb.mono HB.out.size); clear hb)
        go_wp2_with fail
        go_ret
        exact ⟨rfl, HB.out⟩
    · have g0 : coversM 6 1 = true := by decide +kernel
      have g1 : fitsM 3 1 = true := by decide +kernel
      have g2 : intentM 1 = 1 := by decide +kernel
      cases p
      all_goals
        go_enter Tryd.func7, Tryd.ntmps7
        repeat (go_wp2_with fail; (first
              | (go_at_call 10; refine Calls.mono (HA.out _ HB.out) ?_)
              | (go_at_call 11; refine Calls.mono (HF.out _ _ _ _ (by assumption) HB.out) ?_)
              | (go_at_call 13; refine Calls.mono (HC.out _ _ _ _ (by assumption) HB.out) ?_)
              | (go_at_call 20; refine Calls.mono (HI.out _ _ _ (by assumption) HB.out) ?_)
              | fail); rintro e w1 ⟨rfl, hb⟩; replace HB : Hid (Below w.heap.size w w1) := show Below w.heap.size w w1 from HB.out.trans (hb.mono HB.out.size); clear hb)
        go_wp2_with fail
        go_ret
        exact ⟨rfl, HB.out⟩
    · have g0 : coversM 6 2 = true := by decide +kernel
      have g1 : fitsM 3 2 = false := by decide +kernel
      have g2 : intentM 2 = 2 := by decide +kernel
      cases p
      all_goals
        go_enter Tryd.func7, Tryd.ntmps7
        repeat (go_wp2_with fail; (first
              | (go_at_call 10; refine Calls.mono (HA.out _ HB.out) ?_)
              | (go_at_call 11; refine Calls.mono (HF.out _ _ _ _ (by assumption) HB.out) ?_)
              | (go_at_call 13; refine Calls.mono (HC.out _ _ _ _ (by assumption) HB.out) ?_)
              | (go_at_call 20; refine Calls.mono (HI.out _ _ _ (by assumption) HB.out) ?_)
              | fail); rintro e w1 ⟨rfl, hb⟩; replace HB : Hid (Below w.heap.size w w1) := show Below w.heap.size w w1 from HB.out.trans (hb.mono HB.out.size); clear hb)
        go_wp2_with fail
        go_ret
        exact ⟨rfl, HB.out⟩
    · have g0 : coversM 6 4 = true := by decide +kernel
      have g1 : fitsM 3 4 = false := by decide +kernel
      have g2 : intentM 4 = 4 := by decide +kernel
      cases p
      all_goals
        go_enter Tryd.func7, Tryd.ntmps7
        repeat (go_wp2_with fail; (first
              | (go_at_call 10; refine Calls.mono (HA.out _ HB.out) ?_)
              | (go_at_call 11; refine Calls.mono (HF.out _ _ _ _ (by assumption) HB.out) ?_)
              | (go_at_call 13; refine Calls.mono (HC.out _ _ _ _ (by assumption) HB.out) ?_)
              | (go_at_call 20; refine Calls.mono (HI.out _ _ _ (by assumption) HB.out) ?_)
              | fail); rintro e w1 ⟨rfl, hb⟩; replace HB : Hid (Below w.heap.size w w1) := show Below w.heap.size w w1 from HB.out.trans (hb.mono HB.out.size); clear hb)
        go_wp2_with fail
        go_ret
        exact ⟨rfl, HB.out⟩
end Go.Proofs.YtcobgjgabfdmpaaDoor.Val
