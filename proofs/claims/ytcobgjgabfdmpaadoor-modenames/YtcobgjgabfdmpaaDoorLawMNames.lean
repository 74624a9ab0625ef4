/- The walk of the law ModeNames. -/
import Derived.Test.YtcobgjgabfdmpaaDoorModeJoin
import Derived.Test.YtcobgjgabfdmpaaDoorModeRefN
import Derived.Test.YtcobgjgabfdmpaaDoorModeAwake
namespace Go.Proofs.YtcobgjgabfdmpaaDoor.Val
open Go Go.RowKit

set_option maxHeartbeats 8000000 in
theorem mnames_walk (m : Int) (w : World) (hC : TabC w) (hN : TabN w) (hI : TabI w) : Tells 4 #[.int .i64 m] w (.bool true) := by
  have HR : Hid (∀ (a : Int) (v : Bool) w1, rightM a = v → Below w.heap.size w w1 → Tells 17 #[.int .i64 a] w1 (.bool v)) := fun a v w1 h hb => by rw [← h]; exact (right_any a w1).tells
  have HN : Hid (∀ (a : Int) (v : ByteArray) w1, nameM a = v → Below w.heap.size w w1 → Tells 18 #[.int .i64 a] w1 (.string v)) := fun a v w1 h hb => by rw [← h]; exact (name_any a w1 (hN.below hb)).tells
  have HI : Hid (∀ (a : Int) (v : Int) w1, intentM a = v → Below w.heap.size w w1 → Tells 20 #[.int .i64 a] w1 (.int .i64 v)) := fun a v w1 h hb => by rw [← h]; exact (intent_any a w1 (hI.below hb)).tells
  have HrN : Hid (∀ (a : Int) (v : ByteArray) w1, nameM a = v → Below w.heap.size w w1 → Tells 19 #[.int .i64 a] w1 (.string v)) := fun a v w1 h hb => by rw [← h]; exact rname_any a w1
  have HrI : Hid (∀ (a : Int) (v : Int) w1, intentM a = v → Below w.heap.size w w1 → Tells 21 #[.int .i64 a] w1 (.int .i64 v)) := fun a v w1 h hb => by rw [← h]; exact rintent_any a w1
  have HA : Hid (∀ w1, Below w.heap.size w w1 → Tells 10 #[] w1 (.bool true)) := fun w1 hb => awake_any w1 (hC.below hb) (hN.below hb)
  have HB : Hid (Below w.heap.size w w) := Below.refl _ _
  clear hC hN hI
  obtain ⟨s, hs⟩ : ∃ v, nameM m = v := ⟨_, rfl⟩
  obtain ⟨j, hj⟩ : ∃ v, intentM m = v := ⟨_, rfl⟩
  by_cases h0 : 0 ≤ m
  · by_cases h6 : m ≤ 6
    · have hr : rightM m = true := right_iff.2 ⟨h0, h6⟩
      go_enter Tryd.func4, Tryd.ntmps4
      repeat (go_wp2_with fail; (first
            | (go_at_call 10; refine Calls.mono (HA.out _ HB.out) ?_)
            | (go_at_call 17; refine Calls.mono (HR.out _ _ _ (by assumption) HB.out) ?_)
            | (go_at_call 18; refine Calls.mono (HN.out _ _ _ (by assumption) HB.out) ?_)
            | (go_at_call 20; refine Calls.mono (HI.out _ _ _ (by assumption) HB.out) ?_)
            | (go_at_call 19; refine Calls.mono (HrN.out _ _ _ (by assumption) HB.out) ?_)
            | (go_at_call 21; refine Calls.mono (HrI.out _ _ _ (by assumption) HB.out) ?_)
            | fail); rintro e w1 ⟨rfl, hb⟩; replace HB : Hid (Below w.heap.size w w1) := show Below w.heap.size w w1 from HB.out.trans (hb.mono HB.out.size); clear hb)
      go_wp2_with fail
      go_ret
      exact ⟨rfl, HB.out⟩
    · have hr : rightM m = false := by rw [Bool.eq_false_iff, Ne, right_iff]; omega
      have h7 : decide (m ≤ 6) = false := decide_eq_false h6
      clear h6
      go_enter Tryd.func4, Tryd.ntmps4
      repeat (go_wp2_with fail; (first
            | (go_at_call 10; refine Calls.mono (HA.out _ HB.out) ?_)
            | (go_at_call 17; refine Calls.mono (HR.out _ _ _ (by assumption) HB.out) ?_)
            | (go_at_call 18; refine Calls.mono (HN.out _ _ _ (by assumption) HB.out) ?_)
            | (go_at_call 20; refine Calls.mono (HI.out _ _ _ (by assumption) HB.out) ?_)
            | (go_at_call 19; refine Calls.mono (HrN.out _ _ _ (by assumption) HB.out) ?_)
            | (go_at_call 21; refine Calls.mono (HrI.out _ _ _ (by assumption) HB.out) ?_)
            | fail); rintro e w1 ⟨rfl, hb⟩; replace HB : Hid (Below w.heap.size w w1) := show Below w.heap.size w w1 from HB.out.trans (hb.mono HB.out.size); clear hb)
      go_wp2_with fail
      go_ret
      exact ⟨rfl, HB.out⟩
  · have hr : rightM m = false := by rw [Bool.eq_false_iff, Ne, right_iff]; omega
    go_enter Tryd.func4, Tryd.ntmps4
    repeat (go_wp2_with fail; (first
          | (go_at_call 10; refine Calls.mono (HA.out _ HB.out) ?_)
          | (go_at_call 17; refine Calls.mono (HR.out _ _ _ (by assumption) HB.out) ?_)
          | (go_at_call 18; refine Calls.mono (HN.out _ _ _ (by assumption) HB.out) ?_)
          | (go_at_call 20; refine Calls.mono (HI.out _ _ _ (by assumption) HB.out) ?_)
          | (go_at_call 19; refine Calls.mono (HrN.out _ _ _ (by assumption) HB.out) ?_)
          | (go_at_call 21; refine Calls.mono (HrI.out _ _ _ (by assumption) HB.out) ?_)
          | fail); rintro e w1 ⟨rfl, hb⟩; replace HB : Hid (Below w.heap.size w w1) := show Below w.heap.size w w1 from HB.out.trans (hb.mono HB.out.size); clear hb)
    go_wp2_with fail
    go_ret
    exact ⟨rfl, HB.out⟩
end Go.Proofs.YtcobgjgabfdmpaaDoor.Val
