/- The walk of the law ModeLadder. -/
import Derived.Test.YtcobgjgabfdmpaaDoorModeJoin
import Derived.Test.YtcobgjgabfdmpaaDoorModeAwake
namespace Go.Proofs.YtcobgjgabfdmpaaDoor.Val
open Go Go.RowKit

set_option maxHeartbeats 8000000 in
theorem mladder_walk (m : Int) (w : World) (hC : TabC w) (hN : TabN w) : Tells 9 #[.int .i64 m] w (.bool true) := by
  have HF : Hid (∀ (a b : Int) (v : Bool) w1, fitsM a b = v → Below w.heap.size w w1 → Tells 11 #[.int .i64 a, .int .i64 b] w1 (.bool v)) := fun a b v w1 h hb => by rw [← h]; exact (fits_any a b w1 (hC.below hb)).tells
  have HC : Hid (∀ (a b : Int) (v : Bool) w1, coversM a b = v → Below w.heap.size w w1 → Tells 13 #[.int .i64 a, .int .i64 b] w1 (.bool v)) := fun a b v w1 h hb => by rw [← h]; exact (covers_any a b w1 (hC.below hb)).tells
  have HJ : Hid (∀ (a b : Int) (v : Int) w1, joinM a b = v → Below w.heap.size w w1 → Tells 15 #[.int .i64 a, .int .i64 b] w1 (.int .i64 v)) := fun a b v w1 h hb => by rw [← h]; exact (join_any a b w1 (hC.below hb)).tells
  have HR : Hid (∀ (a : Int) (v : Bool) w1, rightM a = v → Below w.heap.size w w1 → Tells 17 #[.int .i64 a] w1 (.bool v)) := fun a v w1 h hb => by rw [← h]; exact (right_any a w1).tells
  have HA : Hid (∀ w1, Below w.heap.size w w1 → Tells 10 #[] w1 (.bool true)) := fun w1 hb => awake_any w1 (hC.below hb) (hN.below hb)
  have HB : Hid (Below w.heap.size w w) := Below.refl _ _
  clear hC hN
  by_cases hm : rightM m = true
  · obtain ⟨k, hk, rfl⟩ := mode_of hm
    obtain rfl | rfl | rfl | rfl | rfl | rfl | rfl : k = 0 ∨ k = 1 ∨ k = 2 ∨ k = 3 ∨ k = 4 ∨ k = 5 ∨ k = 6 := by omega
    all_goals (clear hk; simp only [Int.cast_ofNat_Int] at hm ⊢)
    · have f0 : fitsM 6 0 = true := by decide +kernel
      have f1 : fitsM 1 0 = true := by decide +kernel
      have f2 : fitsM 4 0 = true := by decide +kernel
      have f3 : fitsM 5 0 = true := by decide +kernel
      have f4 : fitsM 3 0 = true := by decide +kernel
      have f5 : joinM 0 6 = 6 := by decide +kernel
      have f6 : joinM 0 0 = 0 := by decide +kernel
      go_enter Tryd.func9, Tryd.ntmps9
      repeat (go_wp2_with fail; (first
            | (go_at_call 10; refine Calls.mono (HA.out _ HB.out) ?_)
            | (go_at_call 11; refine Calls.mono (HF.out _ _ _ _ (by assumption) HB.out) ?_)
            | (go_at_call 13; refine Calls.mono (HC.out _ _ _ _ (by assumption) HB.out) ?_)
            | (go_at_call 15; refine Calls.mono (HJ.out _ _ _ _ (by assumption) HB.out) ?_)
            | (go_at_call 17; refine Calls.mono (HR.out _ _ _ (by assumption) HB.out) ?_)
            | fail); rintro e w1 ⟨rfl, hb⟩; replace HB : Hid (Below w.heap.size w w1) := show Below w.heap.size w w1 from HB.out.trans (hb.mono HB.out.size); clear hb)
      go_wp2_with fail
      go_ret
      exact ⟨rfl, HB.out⟩
    · have f0 : fitsM 6 1 = false := by decide +kernel
      have f1 : fitsM 1 1 = true := by decide +kernel
      have f2 : fitsM 4 1 = true := by decide +kernel
      have f3 : fitsM 5 1 = true := by decide +kernel
      have f4 : fitsM 3 1 = true := by decide +kernel
      have f5 : joinM 1 6 = 6 := by decide +kernel
      have f6 : joinM 1 0 = 1 := by decide +kernel
      go_enter Tryd.func9, Tryd.ntmps9
      repeat (go_wp2_with fail; (first
            | (go_at_call 10; refine Calls.mono (HA.out _ HB.out) ?_)
            | (go_at_call 11; refine Calls.mono (HF.out _ _ _ _ (by assumption) HB.out) ?_)
            | (go_at_call 13; refine Calls.mono (HC.out _ _ _ _ (by assumption) HB.out) ?_)
            | (go_at_call 15; refine Calls.mono (HJ.out _ _ _ _ (by assumption) HB.out) ?_)
            | (go_at_call 17; refine Calls.mono (HR.out _ _ _ (by assumption) HB.out) ?_)
            | fail); rintro e w1 ⟨rfl, hb⟩; replace HB : Hid (Below w.heap.size w w1) := show Below w.heap.size w w1 from HB.out.trans (hb.mono HB.out.size); clear hb)
      go_wp2_with fail
      go_ret
      exact ⟨rfl, HB.out⟩
    · have f0 : fitsM 6 2 = false := by decide +kernel
      have f1 : fitsM 1 2 = true := by decide +kernel
      have f2 : fitsM 4 2 = false := by decide +kernel
      have f3 : fitsM 5 2 = false := by decide +kernel
      have f4 : fitsM 3 2 = false := by decide +kernel
      have f5 : joinM 2 6 = 6 := by decide +kernel
      have f6 : joinM 2 0 = 2 := by decide +kernel
      go_enter Tryd.func9, Tryd.ntmps9
      repeat (go_wp2_with fail; (first
            | (go_at_call 10; refine Calls.mono (HA.out _ HB.out) ?_)
            | (go_at_call 11; refine Calls.mono (HF.out _ _ _ _ (by assumption) HB.out) ?_)
            | (go_at_call 13; refine Calls.mono (HC.out _ _ _ _ (by assumption) HB.out) ?_)
            | (go_at_call 15; refine Calls.mono (HJ.out _ _ _ _ (by assumption) HB.out) ?_)
            | (go_at_call 17; refine Calls.mono (HR.out _ _ _ (by assumption) HB.out) ?_)
            | fail); rintro e w1 ⟨rfl, hb⟩; replace HB : Hid (Below w.heap.size w w1) := show Below w.heap.size w w1 from HB.out.trans (hb.mono HB.out.size); clear hb)
      go_wp2_with fail
      go_ret
      exact ⟨rfl, HB.out⟩
    · have f0 : fitsM 6 3 = false := by decide +kernel
      have f1 : fitsM 1 3 = true := by decide +kernel
      have f2 : fitsM 4 3 = false := by decide +kernel
      have f3 : fitsM 5 3 = true := by decide +kernel
      have f4 : fitsM 3 3 = true := by decide +kernel
      have f5 : joinM 3 6 = 6 := by decide +kernel
      have f6 : joinM 3 0 = 3 := by decide +kernel
      go_enter Tryd.func9, Tryd.ntmps9
      repeat (go_wp2_with fail; (first
            | (go_at_call 10; refine Calls.mono (HA.out _ HB.out) ?_)
            | (go_at_call 11; refine Calls.mono (HF.out _ _ _ _ (by assumption) HB.out) ?_)
            | (go_at_call 13; refine Calls.mono (HC.out _ _ _ _ (by assumption) HB.out) ?_)
            | (go_at_call 15; refine Calls.mono (HJ.out _ _ _ _ (by assumption) HB.out) ?_)
            | (go_at_call 17; refine Calls.mono (HR.out _ _ _ (by assumption) HB.out) ?_)
            | fail); rintro e w1 ⟨rfl, hb⟩; replace HB : Hid (Below w.heap.size w w1) := show Below w.heap.size w w1 from HB.out.trans (hb.mono HB.out.size); clear hb)
      go_wp2_with fail
      go_ret
      exact ⟨rfl, HB.out⟩
    · have f0 : fitsM 6 4 = false := by decide +kernel
      have f1 : fitsM 1 4 = true := by decide +kernel
      have f2 : fitsM 4 4 = false := by decide +kernel
      have f3 : fitsM 5 4 = false := by decide +kernel
      have f4 : fitsM 3 4 = false := by decide +kernel
      have f5 : joinM 4 6 = 6 := by decide +kernel
      have f6 : joinM 4 0 = 4 := by decide +kernel
      go_enter Tryd.func9, Tryd.ntmps9
      repeat (go_wp2_with fail; (first
            | (go_at_call 10; refine Calls.mono (HA.out _ HB.out) ?_)
            | (go_at_call 11; refine Calls.mono (HF.out _ _ _ _ (by assumption) HB.out) ?_)
            | (go_at_call 13; refine Calls.mono (HC.out _ _ _ _ (by assumption) HB.out) ?_)
            | (go_at_call 15; refine Calls.mono (HJ.out _ _ _ _ (by assumption) HB.out) ?_)
            | (go_at_call 17; refine Calls.mono (HR.out _ _ _ (by assumption) HB.out) ?_)
            | fail); rintro e w1 ⟨rfl, hb⟩; replace HB : Hid (Below w.heap.size w w1) := show Below w.heap.size w w1 from HB.out.trans (hb.mono HB.out.size); clear hb)
      go_wp2_with fail
      go_ret
      exact ⟨rfl, HB.out⟩
    · have f0 : fitsM 6 5 = false := by decide +kernel
      have f1 : fitsM 1 5 = true := by decide +kernel
      have f2 : fitsM 4 5 = false := by decide +kernel
      have f3 : fitsM 5 5 = false := by decide +kernel
      have f4 : fitsM 3 5 = true := by decide +kernel
      have f5 : joinM 5 6 = 6 := by decide +kernel
      have f6 : joinM 5 0 = 5 := by decide +kernel
      go_enter Tryd.func9, Tryd.ntmps9
      repeat (go_wp2_with fail; (first
            | (go_at_call 10; refine Calls.mono (HA.out _ HB.out) ?_)
            | (go_at_call 11; refine Calls.mono (HF.out _ _ _ _ (by assumption) HB.out) ?_)
            | (go_at_call 13; refine Calls.mono (HC.out _ _ _ _ (by assumption) HB.out) ?_)
            | (go_at_call 15; refine Calls.mono (HJ.out _ _ _ _ (by assumption) HB.out) ?_)
            | (go_at_call 17; refine Calls.mono (HR.out _ _ _ (by assumption) HB.out) ?_)
            | fail); rintro e w1 ⟨rfl, hb⟩; replace HB : Hid (Below w.heap.size w w1) := show Below w.heap.size w w1 from HB.out.trans (hb.mono HB.out.size); clear hb)
      go_wp2_with fail
      go_ret
      exact ⟨rfl, HB.out⟩
    · have f0 : fitsM 6 6 = false := by decide +kernel
      have f1 : fitsM 1 6 = false := by decide +kernel
      have f2 : fitsM 4 6 = false := by decide +kernel
      have f3 : fitsM 5 6 = false := by decide +kernel
      have f4 : fitsM 3 6 = false := by decide +kernel
      have f5 : joinM 6 6 = 6 := by decide +kernel
      have f6 : joinM 6 0 = 6 := by decide +kernel
      go_enter Tryd.func9, Tryd.ntmps9
      repeat (go_wp2_with fail; (first
            | (go_at_call 10; refine Calls.mono (HA.out _ HB.out) ?_)
            | (go_at_call 11; refine Calls.mono (HF.out _ _ _ _ (by assumption) HB.out) ?_)
            | (go_at_call 13; refine Calls.mono (HC.out _ _ _ _ (by assumption) HB.out) ?_)
            | (go_at_call 15; refine Calls.mono (HJ.out _ _ _ _ (by assumption) HB.out) ?_)
            | (go_at_call 17; refine Calls.mono (HR.out _ _ _ (by assumption) HB.out) ?_)
            | fail); rintro e w1 ⟨rfl, hb⟩; replace HB : Hid (Below w.heap.size w w1) := show Below w.heap.size w w1 from HB.out.trans (hb.mono HB.out.size); clear hb)
      go_wp2_with fail
      go_ret
      exact ⟨rfl, HB.out⟩
  · have hr : rightM m = false := Bool.eq_false_iff.2 hm
    have e1 : fitsM m 0 = false := by simp [fitsM, hr]
    have e2 : coversM 6 m = false := by simp [coversM, hr]
    have e3 : joinM m 3 = 0 := by simp [joinM, hr]
    clear hm
    go_enter Tryd.func9, Tryd.ntmps9
    repeat (go_wp2_with fail; (first
          | (go_at_call 10; refine Calls.mono (HA.out _ HB.out) ?_)
          | (go_at_call 11; refine Calls.mono (HF.out _ _ _ _ (by assumption) HB.out) ?_)
          | (go_at_call 13; refine Calls.mono (HC.out _ _ _ _ (by assumption) HB.out) ?_)
          | (go_at_call 15; refine Calls.mono (HJ.out _ _ _ _ (by assumption) HB.out) ?_)
          | (go_at_call 17; refine Calls.mono (HR.out _ _ _ (by assumption) HB.out) ?_)
          | fail); rintro e w1 ⟨rfl, hb⟩; replace HB : Hid (Below w.heap.size w w1) := show Below w.heap.size w w1 from HB.out.trans (hb.mono HB.out.size); clear hb)
    go_wp2_with fail
    go_ret
    exact ⟨rfl, HB.out⟩
end Go.Proofs.YtcobgjgabfdmpaaDoor.Val
