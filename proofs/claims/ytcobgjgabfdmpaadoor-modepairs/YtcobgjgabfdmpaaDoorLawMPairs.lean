/- The walk of the law ModePairs. -/
import Derived.Test.YtcobgjgabfdmpaaDoorModeJoin
import Derived.Test.YtcobgjgabfdmpaaDoorModeRefC
import Derived.Test.YtcobgjgabfdmpaaDoorModeAwake
namespace Go.Proofs.YtcobgjgabfdmpaaDoor.Val
open Go Go.RowKit

set_option maxHeartbeats 8000000 in
theorem mpairs_walk (a b : Int) (w : World) (hC : TabC w) (hN : TabN w) : Tells 3 #[.int .i64 a, .int .i64 b] w (.bool true) := by
  have HF : Hid (∀ (a b : Int) (v : Bool) w1, fitsM a b = v → Below w.heap.size w w1 → Tells 11 #[.int .i64 a, .int .i64 b] w1 (.bool v)) := fun a b v w1 h hb => by rw [← h]; exact (fits_any a b w1 (hC.below hb)).tells
  have HC : Hid (∀ (a b : Int) (v : Bool) w1, coversM a b = v → Below w.heap.size w w1 → Tells 13 #[.int .i64 a, .int .i64 b] w1 (.bool v)) := fun a b v w1 h hb => by rw [← h]; exact (covers_any a b w1 (hC.below hb)).tells
  have HJ : Hid (∀ (a b : Int) (v : Int) w1, joinM a b = v → Below w.heap.size w w1 → Tells 15 #[.int .i64 a, .int .i64 b] w1 (.int .i64 v)) := fun a b v w1 h hb => by rw [← h]; exact (join_any a b w1 (hC.below hb)).tells
  have HrF : Hid (∀ (a b : Int) (v : Bool) w1, fitsM a b = v → Below w.heap.size w w1 → Tells 12 #[.int .i64 a, .int .i64 b] w1 (.bool v)) := fun a b v w1 h hb => by rw [← h]; exact rfits_any a b w1
  have HrC : Hid (∀ (a b : Int) (v : Bool) w1, coversM a b = v → Below w.heap.size w w1 → Tells 14 #[.int .i64 a, .int .i64 b] w1 (.bool v)) := fun a b v w1 h hb => by rw [← h]; exact rcovers_any a b w1
  have HrJ : Hid (∀ (a b : Int) (v : Int) w1, joinM a b = v → Below w.heap.size w w1 → Tells 16 #[.int .i64 a, .int .i64 b] w1 (.int .i64 v)) := fun a b v w1 h hb => by rw [← h]; exact rjoin_any a b w1
  have HA : Hid (∀ w1, Below w.heap.size w w1 → Tells 10 #[] w1 (.bool true)) := fun w1 hb => awake_any w1 (hC.below hb) (hN.below hb)
  have HB : Hid (Below w.heap.size w w) := Below.refl _ _
  clear hC hN
  obtain ⟨p, hp⟩ : ∃ v, fitsM a b = v := ⟨_, rfl⟩
  obtain ⟨q, hq⟩ : ∃ v, coversM a b = v := ⟨_, rfl⟩
  obtain ⟨j, hj⟩ : ∃ v, joinM a b = v := ⟨_, rfl⟩
  cases p <;> cases q
  · go_enter Tryd.func3, Tryd.ntmps3
    repeat (go_wp2_with fail; (first
          | (go_at_call 10; refine Calls.mono (HA.out _ HB.out) ?_)
          | (go_at_call 11; refine Calls.mono (HF.out _ _ _ _ (by assumption) HB.out) ?_)
          | (go_at_call 13; refine Calls.mono (HC.out _ _ _ _ (by assumption) HB.out) ?_)
          | (go_at_call 15; refine Calls.mono (HJ.out _ _ _ _ (by assumption) HB.out) ?_)
          | (go_at_call 12; refine Calls.mono (HrF.out _ _ _ _ (by assumption) HB.out) ?_)
          | (go_at_call 14; refine Calls.mono (HrC.out _ _ _ _ (by assumption) HB.out) ?_)
          | (go_at_call 16; refine Calls.mono (HrJ.out _ _ _ _ (by assumption) HB.out) ?_)
          | fail); rintro e w1 ⟨rfl, hb⟩; replace HB : Hid (Below w.heap.size w w1) := show Below w.heap.size w w1 from HB.out.trans (hb.mono HB.out.size); clear hb)
    go_wp2_with fail
    go_ret
    exact ⟨rfl, HB.out⟩
  · go_enter Tryd.func3, Tryd.ntmps3
    repeat (go_wp2_with fail; (first
          | (go_at_call 10; refine Calls.mono (HA.out _ HB.out) ?_)
          | (go_at_call 11; refine Calls.mono (HF.out _ _ _ _ (by assumption) HB.out) ?_)
          | (go_at_call 13; refine Calls.mono (HC.out _ _ _ _ (by assumption) HB.out) ?_)
          | (go_at_call 15; refine Calls.mono (HJ.out _ _ _ _ (by assumption) HB.out) ?_)
          | (go_at_call 12; refine Calls.mono (HrF.out _ _ _ _ (by assumption) HB.out) ?_)
          | (go_at_call 14; refine Calls.mono (HrC.out _ _ _ _ (by assumption) HB.out) ?_)
          | (go_at_call 16; refine Calls.mono (HrJ.out _ _ _ _ (by assumption) HB.out) ?_)
          | fail); rintro e w1 ⟨rfl, hb⟩; replace HB : Hid (Below w.heap.size w w1) := show Below w.heap.size w w1 from HB.out.trans (hb.mono HB.out.size); clear hb)
    go_wp2_with fail
    go_ret
    exact ⟨rfl, HB.out⟩
  · go_enter Tryd.func3, Tryd.ntmps3
    repeat (go_wp2_with fail; (first
          | (go_at_call 10; refine Calls.mono (HA.out _ HB.out) ?_)
          | (go_at_call 11; refine Calls.mono (HF.out _ _ _ _ (by assumption) HB.out) ?_)
          | (go_at_call 13; refine Calls.mono (HC.out _ _ _ _ (by assumption) HB.out) ?_)
          | (go_at_call 15; refine Calls.mono (HJ.out _ _ _ _ (by assumption) HB.out) ?_)
          | (go_at_call 12; refine Calls.mono (HrF.out _ _ _ _ (by assumption) HB.out) ?_)
          | (go_at_call 14; refine Calls.mono (HrC.out _ _ _ _ (by assumption) HB.out) ?_)
          | (go_at_call 16; refine Calls.mono (HrJ.out _ _ _ _ (by assumption) HB.out) ?_)
          | fail); rintro e w1 ⟨rfl, hb⟩; replace HB : Hid (Below w.heap.size w w1) := show Below w.heap.size w w1 from HB.out.trans (hb.mono HB.out.size); clear hb)
    go_wp2_with fail
    go_ret
    exact ⟨rfl, HB.out⟩
  · go_enter Tryd.func3, Tryd.ntmps3
    repeat (go_wp2_with fail; (first
          | (go_at_call 10; refine Calls.mono (HA.out _ HB.out) ?_)
          | (go_at_call 11; refine Calls.mono (HF.out _ _ _ _ (by assumption) HB.out) ?_)
          | (go_at_call 13; refine Calls.mono (HC.out _ _ _ _ (by assumption) HB.out) ?_)
          | (go_at_call 15; refine Calls.mono (HJ.out _ _ _ _ (by assumption) HB.out) ?_)
          | (go_at_call 12; refine Calls.mono (HrF.out _ _ _ _ (by assumption) HB.out) ?_)
          | (go_at_call 14; refine Calls.mono (HrC.out _ _ _ _ (by assumption) HB.out) ?_)
          | (go_at_call 16; refine Calls.mono (HrJ.out _ _ _ _ (by assumption) HB.out) ?_)
          | fail); rintro e w1 ⟨rfl, hb⟩; replace HB : Hid (Below w.heap.size w w1) := show Below w.heap.size w w1 from HB.out.trans (hb.mono HB.out.size); clear hb)
    go_wp2_with fail
    go_ret
    exact ⟨rfl, HB.out⟩
end Go.Proofs.YtcobgjgabfdmpaaDoor.Val
