/- What Right, Fits and Covers of package mode answer, for any numbers. -/
import Derived.Test.YtcobgjgabfdmpaaDoorModePlain
namespace Go.Proofs.YtcobgjgabfdmpaaDoor.Val
open Go Go.RowKit

set_option maxHeartbeats 1000000 in
theorem right_any (a : Int) (w : World) : Reads 17 #[.int .i64 a] w (.bool (rightM a)) := by
  by_cases h0 : 0 ≤ a
  · by_cases h1 : a ≤ 6
    · go_enter Tryd.func17, Tryd.ntmps17
      go_wp2_with fail
      go_ret
      exact ⟨by simp [rightM, h0, h1], 0, rfl⟩
    · go_enter Tryd.func17, Tryd.ntmps17
      go_wp2_with fail
      go_ret
      exact ⟨by simp [rightM, h0, h1], 0, rfl⟩
  · go_enter Tryd.func17, Tryd.ntmps17
    go_wp2_with fail
    go_ret
    exact ⟨by simp [rightM]; omega, 0, rfl⟩

theorem right_yes {k : Nat} (hk : k < 7) (w : World) : Reads 17 #[.int .i64 (k : Int)] w (.bool true) := by
  have := right_any (k : Int) w; rwa [right_nat hk] at this
theorem shl_pow {j : Nat} (hj : j < 7) : (2 : Int) ^ min j 8 % 256 = ((2 ^ j : Nat) : Int) := by
  obtain rfl | rfl | rfl | rfl | rfl | rfl | rfl : j = 0 ∨ j = 1 ∨ j = 2 ∨ j = 3 ∨ j = 4 ∨ j = 5 ∨ j = 6 := by omega
  all_goals rfl
def le7 (p : Nat → Nat → Bool) : Bool := (List.range 7).all fun k => (List.range 7).all fun j => p k j
theorem of_le7 {p : Nat → Nat → Bool} (h : le7 p = true) {k j : Nat} (hk : k < 7) (hj : j < 7) : p k j = true := by
  simp only [le7, List.all_eq_true, List.mem_range] at h
  exact h k hk j hj
theorem fits_bits {k j : Nat} (hk : k < 7) (hj : j < 7) : (bits .and .u8 (clashT.getD k 0) ((2 ^ j : Nat) : Int) == 0) = fitsN k j := by
  have := of_le7 (p := fun k j => (bits .and .u8 (clashT.getD k 0) ((2 ^ j : Nat) : Int) == 0) == fitsN k j) (by decide +kernel) hk hj
  exact eq_of_beq this
theorem covers_bits {k j : Nat} (hk : k < 7) (hj : j < 7) : (bits .andNot .u8 (clashT.getD j 0) (clashT.getD k 0) == 0) = coversN k j := by
  have := of_le7 (p := fun k j => (bits .andNot .u8 (clashT.getD j 0) (clashT.getD k 0) == 0) == coversN k j) (by decide +kernel) hk hj
  exact eq_of_beq this
set_option maxHeartbeats 1000000 in
theorem fits_in (k j : Nat) (hk : k < 7) (hj : j < 7) (w : World) (hT : TabC w) : Reads 11 #[.int .i64 (k : Int), .int .i64 (j : Int)] w (.bool (fitsN k j)) := by
  rw [← fits_bits hk hj, ← shl_pow hj]
  have hc := hT k hk
  generalize clashT.getD k 0 = c at *
  have hk0 : (0 : Int) ≤ (k : Int) := by omega
  have hk1 : (k : Int) < 7 := by omega
  have HR1 : Hid (∀ w1, Reads 17 #[.int .i64 (k : Int)] w1 (.bool true)) := fun w1 => right_yes hk w1
  have HR2 : Hid (∀ w1, Reads 17 #[.int .i64 (j : Int)] w1 (.bool true)) := fun w1 => right_yes hj w1
  clear hT hk hj
  go_enter Tryd.func11, Tryd.ntmps11
  go_wp2_with fail
  go_quiet (first | (go_at_call_of 17 (k : Int); exact Calls.quiet_of (HR1.out _)) | (go_at_call_of 17 (j : Int); exact Calls.quiet_of (HR2.out _)))
  go_wp2_with fail
  go_ret
  exact ⟨rfl, _, rfl⟩
end Go.Proofs.YtcobgjgabfdmpaaDoor.Val
