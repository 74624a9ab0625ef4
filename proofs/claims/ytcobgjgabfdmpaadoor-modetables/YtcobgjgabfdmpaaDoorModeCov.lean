/- What Covers of package mode answers, for any two numbers. -/
import Derived.Test.YtcobgjgabfdmpaaDoorModeRight
namespace Go.Proofs.YtcobgjgabfdmpaaDoor.Val
open Go Go.RowKit

set_option maxHeartbeats 1000000 in
theorem covers_in (k j : Nat) (hk : k < 7) (hj : j < 7) (w : World) (hT : TabC w) : Reads 13 #[.int .i64 (k : Int), .int .i64 (j : Int)] w (.bool (coversN k j)) := by
  rw [← covers_bits hk hj]
  have hc := hT k hk
  have hd := hT j hj
  generalize clashT.getD k 0 = c at *
  generalize clashT.getD j 0 = d at *
  have hk0 : (0 : Int) ≤ (k : Int) := by omega
  have hk1 : (k : Int) < 7 := by omega
  have hj0 : (0 : Int) ≤ (j : Int) := by omega
  have hj1 : (j : Int) < 7 := by omega
  have HR1 : Hid (∀ w1, Reads 17 #[.int .i64 (k : Int)] w1 (.bool true)) := fun w1 => right_yes hk w1
  have HR2 : Hid (∀ w1, Reads 17 #[.int .i64 (j : Int)] w1 (.bool true)) := fun w1 => right_yes hj w1
  clear hT hk hj
  go_enter Tryd.func13, Tryd.ntmps13
  go_wp2_with fail
  go_quiet (first | (go_at_call_of 17 (k : Int); exact Calls.quiet_of (HR1.out _)) | (go_at_call_of 17 (j : Int); exact Calls.quiet_of (HR2.out _)))
  go_wp2_with fail
  go_ret
  exact ⟨rfl, _, rfl⟩
set_option maxHeartbeats 1000000 in
theorem covers_any (a b : Int) (w : World) (hT : TabC w) : Reads 13 #[.int .i64 a, .int .i64 b] w (.bool (coversM a b)) := by
  by_cases ha : rightM a = true
  · by_cases hb : rightM b = true
    · obtain ⟨k, hk, rfl⟩ := mode_of ha
      obtain ⟨j, hj, rfl⟩ := mode_of hb
      rw [covers_nat hk hj]
      exact covers_in k j hk hj w hT
    · have e : coversM a b = false := by simp [coversM, hb]
      have HR1 : Hid (∀ w1, Reads 17 #[.int .i64 a] w1 (.bool true)) := fun w1 => by have := right_any a w1; rwa [ha] at this
      have HR2 : Hid (∀ w1, Reads 17 #[.int .i64 b] w1 (.bool false)) := fun w1 => by have := right_any b w1; rwa [Bool.eq_false_iff.2 hb] at this
      rw [e]
      clear hT ha hb e
      go_enter Tryd.func13, Tryd.ntmps13
      go_wp2_with fail
      go_quiet (first | (go_at_call_of 17 a; exact Calls.quiet_of (HR1.out _)) | (go_at_call_of 17 b; exact Calls.quiet_of (HR2.out _)))
      go_wp2_with fail
      go_ret
      exact ⟨rfl, _, rfl⟩
  · have e : coversM a b = false := by simp [coversM, ha]
    have HR1 : Hid (∀ w1, Reads 17 #[.int .i64 a] w1 (.bool false)) := fun w1 => by have := right_any a w1; rwa [Bool.eq_false_iff.2 ha] at this
    rw [e]
    clear hT ha e
    go_enter Tryd.func13, Tryd.ntmps13
    go_wp2_with fail
    go_quiet ((go_at_call_of 17 a; exact Calls.quiet_of (HR1.out _)))
    go_wp2_with fail
    go_ret
    exact ⟨rfl, _, rfl⟩
end Go.Proofs.YtcobgjgabfdmpaaDoor.Val
