/- What Fits of package mode answers, for any two numbers. -/
import Derived.Test.YtcobgjgabfdmpaaDoorModeRight
namespace Go.Proofs.YtcobgjgabfdmpaaDoor.Val
open Go Go.RowKit

set_option maxHeartbeats 1000000 in
theorem fits_any (a b : Int) (w : World) (hT : TabC w) : Reads 11 #[.int .i64 a, .int .i64 b] w (.bool (fitsM a b)) := by
  by_cases ha : rightM a = true
  · by_cases hb : rightM b = true
    · obtain ⟨k, hk, rfl⟩ := mode_of ha
      obtain ⟨j, hj, rfl⟩ := mode_of hb
      rw [fits_nat hk hj]
      exact fits_in k j hk hj w hT
    · have e : fitsM a b = false := by simp [fitsM, hb]
      have HR1 : Hid (∀ w1, Reads 17 #[.int .i64 a] w1 (.bool true)) := fun w1 => by have := right_any a w1; rwa [ha] at this
      have HR2 : Hid (∀ w1, Reads 17 #[.int .i64 b] w1 (.bool false)) := fun w1 => by have := right_any b w1; rwa [Bool.eq_false_iff.2 hb] at this
      rw [e]
      clear hT ha hb e
      go_enter Tryd.func11, Tryd.ntmps11
      go_wp2_with fail
      go_quiet (first | (go_at_call_of 17 a; exact Calls.quiet_of (HR1.out _)) | (go_at_call_of 17 b; exact Calls.quiet_of (HR2.out _)))
      go_wp2_with fail
      go_ret
      exact ⟨rfl, _, rfl⟩
  · have e : fitsM a b = false := by simp [fitsM, ha]
    have HR1 : Hid (∀ w1, Reads 17 #[.int .i64 a] w1 (.bool false)) := fun w1 => by have := right_any a w1; rwa [Bool.eq_false_iff.2 ha] at this
    rw [e]
    clear hT ha e
    go_enter Tryd.func11, Tryd.ntmps11
    go_wp2_with fail
    go_quiet ((go_at_call_of 17 a; exact Calls.quiet_of (HR1.out _)))
    go_wp2_with fail
    go_ret
    exact ⟨rfl, _, rfl⟩
end Go.Proofs.YtcobgjgabfdmpaaDoor.Val
