/- The walk of the law ModeJoins. -/
import Derived.Test.YtcobgjgabfdmpaaDoorModeJoin
import Derived.Test.YtcobgjgabfdmpaaDoorModeAll
import Derived.Test.YtcobgjgabfdmpaaDoorModeAwake
namespace Go.Proofs.YtcobgjgabfdmpaaDoor.Val
open Go Go.RowKit

set_option maxHeartbeats 8000000 in
theorem mjoins_walk (a b c : Int) (w : World) (hC : TabC w) (hN : TabN w) : Tells 5 #[.int .i64 a, .int .i64 b, .int .i64 c] w (.bool true) := by
  have HF : Hid (∀ (a b : Int) (v : Bool) w1, fitsM a b = v → Below w.heap.size w w1 → Tells 11 #[.int .i64 a, .int .i64 b] w1 (.bool v)) := fun a b v w1 h hb => by rw [← h]; exact (fits_any a b w1 (hC.below hb)).tells
  have HC : Hid (∀ (a b : Int) (v : Bool) w1, coversM a b = v → Below w.heap.size w w1 → Tells 13 #[.int .i64 a, .int .i64 b] w1 (.bool v)) := fun a b v w1 h hb => by rw [← h]; exact (covers_any a b w1 (hC.below hb)).tells
  have HJ : Hid (∀ (a b : Int) (v : Int) w1, joinM a b = v → Below w.heap.size w w1 → Tells 15 #[.int .i64 a, .int .i64 b] w1 (.int .i64 v)) := fun a b v w1 h hb => by rw [← h]; exact (join_any a b w1 (hC.below hb)).tells
  have HR : Hid (∀ (a : Int) (v : Bool) w1, rightM a = v → Below w.heap.size w w1 → Tells 17 #[.int .i64 a] w1 (.bool v)) := fun a v w1 h hb => by rw [← h]; exact (right_any a w1).tells
  have HA : Hid (∀ w1, Below w.heap.size w w1 → Tells 10 #[] w1 (.bool true)) := fun w1 hb => awake_any w1 (hC.below hb) (hN.below hb)
  have HB : Hid (Below w.heap.size w w) := Below.refl _ _
  clear hC hN
  obtain ⟨ra, ha⟩ : ∃ v, rightM a = v := ⟨_, rfl⟩
  obtain ⟨rb, hb⟩ : ∃ v, rightM b = v := ⟨_, rfl⟩
  obtain ⟨rc, hc⟩ : ∃ v, rightM c = v := ⟨_, rfl⟩
  by_cases hr : ra = true ∧ rb = true ∧ rc = true
  · obtain ⟨rfl, rfl, rfl⟩ := hr
    have e1 := joins_fits ha hb hc
    have e2 := joins_left ha hb hc
    have e3 := joins_right ha hb hc
    have e4 := joins_least ha hb hc
    obtain ⟨j, hj⟩ : ∃ v, joinM a b = v := ⟨_, rfl⟩
    rw [hj] at e1 e2 e3 e4
    obtain ⟨p, hp⟩ : ∃ v, fitsM a c = v := ⟨_, rfl⟩
    obtain ⟨q, hq⟩ : ∃ v, fitsM b c = v := ⟨_, rfl⟩
    obtain ⟨r, hr⟩ : ∃ v, coversM c a = v := ⟨_, rfl⟩
    obtain ⟨s, hs⟩ : ∃ v, coversM c b = v := ⟨_, rfl⟩
    rw [hp, hq] at e1
    rw [hr, hs] at e4
    cases p <;> cases q <;> cases r <;> cases s <;> simp only [Bool.and_self, Bool.and_false, Bool.and_true, Bool.not_true, Bool.not_false, Bool.true_or, Bool.false_or] at e1 e4
    all_goals
      go_enter Tryd.func5, Tryd.ntmps5
      repeat (go_wp2_with fail; (first
            | (go_at_call 10; refine Calls.mono (HA.out _ HB.out) ?_)
            | (go_at_call 11; refine Calls.mono (HF.out _ _ _ _ (by assumption) HB.out) ?_)
            | (go_at_call 13; refine Calls.mono (HC.out _ _ _ _ (by assumption) HB.out) ?_)
            | (go_at_call 15; refine Calls.mono (HJ.out _ _ _ _ (by assumption) HB.out) ?_)
            | (go_at_call 17; refine Calls.mono (HR.out _ _ _ (by assumption) HB.out) ?_)
            | fail); rintro e w1 ⟨rfl, hb⟩; replace HB : Hid (Below w.heap.size w w1) := show Below w.heap.size w w1 from HB.out.trans (hb.mono HB.out.size); clear hb)
      go_wp2_with fail
      go_ret
      exact ⟨rfl, HB.out⟩
  · obtain ⟨j, hj⟩ : ∃ v, joinM a b = v := ⟨_, rfl⟩
    by_cases hab : ra = true ∧ rb = true
    · obtain ⟨rfl, rfl⟩ := hab
      obtain rfl : rc = false := by simpa using hr
      clear hr
      go_enter Tryd.func5, Tryd.ntmps5
      repeat (go_wp2_with fail; (first
            | (go_at_call 10; refine Calls.mono (HA.out _ HB.out) ?_)
            | (go_at_call 11; refine Calls.mono (HF.out _ _ _ _ (by assumption) HB.out) ?_)
            | (go_at_call 13; refine Calls.mono (HC.out _ _ _ _ (by assumption) HB.out) ?_)
            | (go_at_call 15; refine Calls.mono (HJ.out _ _ _ _ (by assumption) HB.out) ?_)
            | (go_at_call 17; refine Calls.mono (HR.out _ _ _ (by assumption) HB.out) ?_)
            | fail); rintro e w1 ⟨rfl, hb⟩; replace HB : Hid (Below w.heap.size w w1) := show Below w.heap.size w w1 from HB.out.trans (hb.mono HB.out.size); clear hb)
      go_wp2_with fail
      go_ret
      exact ⟨rfl, HB.out⟩
    · obtain rfl : j = 0 := by rw [← hj]; exact join_wrong (by rw [ha, hb]; simpa using hab)
      clear hr
      cases ra <;> cases rb <;> cases rc <;> simp at hab
      all_goals
        go_enter Tryd.func5, Tryd.ntmps5
        repeat (go_wp2_with fail; (first
              | (go_at_call 10; refine Calls.mono (HA.out _ HB.out) ?_)
              | (go_at_call 11; refine Calls.mono (HF.out _ _ _ _ (by assumption) HB.out) ?_)
              | (go_at_call 13; refine Calls.mono (HC.out _ _ _ _ (by assumption) HB.out) ?_)
              | (go_at_call 15; refine Calls.mono (HJ.out _ _ _ _ (by assumption) HB.out) ?_)
              | (go_at_call 17; refine Calls.mono (HR.out _ _ _ (by assumption) HB.out) ?_)
              | fail); rintro e w1 ⟨rfl, hb⟩; replace HB : Hid (Below w.heap.size w w1) := show Below w.heap.size w w1 from HB.out.trans (hb.mono HB.out.size); clear hb)
        go_wp2_with fail
        go_ret
        exact ⟨rfl, HB.out⟩
end Go.Proofs.YtcobgjgabfdmpaaDoor.Val
