/- What the reference's Add, Sub and Times answer: the same as the program's. -/
import Derived.Test.YtncefhjegkhamaaSums
namespace Go.Proofs.Ytncefhjegkhamaa.Val
open Go.RowKit

set_option maxHeartbeats 400000 in
theorem radd_walk (a b s : Int) (w : World) (hs : wrap64 (a + b) = s) :
    Calls Try.prog 38 #[.int .i64 a, .int .i64 b] w fun e w' => e = .returned (.tuple #[.int .i64 (if over (decide (a < 0)) (decide (b < 0)) (decide (s < 0)) = true then 0 else s), .bool (!over (decide (a < 0)) (decide (b < 0)) (decide (s < 0)))]) ∧ w' = w := by
  by_cases ha : a < 0 <;> by_cases hb : b < 0 <;> by_cases hc : s < 0
  all_goals
    simp only [ha, hb, hc, over]
    go_enter Try.func38, Try.ntmps38
    go_wp2
    go_ret2
    exact ⟨rfl, rfl⟩
set_option maxHeartbeats 400000 in
theorem rsub_walk (a b s : Int) (w : World) (hs : wrap64 (a - b) = s) :
    Calls Try.prog 39 #[.int .i64 a, .int .i64 b] w fun e w' => e = .returned (.tuple #[.int .i64 (if under (decide (a < 0)) (decide (b < 0)) (decide (s < 0)) = true then 0 else s), .bool (!under (decide (a < 0)) (decide (b < 0)) (decide (s < 0)))]) ∧ w' = w := by
  by_cases ha : a < 0 <;> by_cases hb : b < 0 <;> by_cases hc : s < 0
  all_goals
    simp only [ha, hb, hc, under]
    go_enter Try.func39, Try.ntmps39
    go_wp2
    go_ret2
    exact ⟨rfl, rfl⟩
theorem radd_any (a b : Int) (w : World) (ha : fits a = true) (hb : fits b = true) :
    Calls Try.prog 38 #[.int .i64 a, .int .i64 b] w fun e w' => e = .returned (.tuple #[.int .i64 (val (a + b)), .bool (fits (a + b))]) ∧ w' = w := by
  refine (radd_walk a b _ w rfl).mono ?_
  rintro e w' ⟨rfl, rfl⟩
  refine ⟨ret_pair ?_ ?_, rfl⟩
  · rw [over_fits ha hb]; exact val_if _ _ wrap_of
  · rw [over_fits ha hb, Bool.not_not]
theorem rsub_any (a b : Int) (w : World) (ha : fits a = true) (hb : fits b = true) :
    Calls Try.prog 39 #[.int .i64 a, .int .i64 b] w fun e w' => e = .returned (.tuple #[.int .i64 (val (a - b)), .bool (fits (a - b))]) ∧ w' = w := by
  refine (rsub_walk a b _ w rfl).mono ?_
  rintro e w' ⟨rfl, rfl⟩
  refine ⟨ret_pair ?_ ?_, rfl⟩
  · rw [under_fits ha hb]; exact val_if _ _ wrap_of
  · rw [under_fits ha hb, Bool.not_not]
theorem ret_u64 {a b : Int} (h : a = b) : Ending.returned (.int .u64 a) = .returned (.int .u64 b) := by rw [h]
set_option maxHeartbeats 400000 in
theorem size_any (a : Int) (w : World) (h1 : -9223372036854775808 ≤ a) (h2 : a ≤ 9223372036854775807) :
    Calls Try.prog 43 #[.int .i64 a] w fun e w' => e = .returned (.int .u64 (size a)) ∧ w' = w := by
  by_cases ha : 0 ≤ a
  · go_enter Try.func43, Try.ntmps43
    go_wp2
    go_ret
    exact ⟨ret_u64 (by unfold size; rw [if_neg (by omega)]), rfl⟩
  · go_enter Try.func43, Try.ntmps43
    go_wp2
    go_ret
    exact ⟨ret_u64 (by unfold size; rw [if_pos (by omega)]; omega), rfl⟩
end Go.Proofs.Ytncefhjegkhamaa.Val
