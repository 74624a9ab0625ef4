/- What the reference's Times answers: the same as the program's. -/
import Derived.Test.YtncefhjegkhamaaRefSums
namespace Go.Proofs.Ytncefhjegkhamaa.Val
open Go.RowKit

set_option maxHeartbeats 1000000 in
theorem rtimes_zero (a x : Int) (w : World) (Hx : Hid (∀ w : World, Calls Try.prog 43 #[.int .i64 a] w fun e w' => e = .returned (.int .u64 x) ∧ w' = w)) (Hy : Hid (∀ w : World, Calls Try.prog 43 #[.int .i64 0] w fun e w' => e = .returned (.int .u64 0) ∧ w' = w)) :
    Calls Try.prog 40 #[.int .i64 a, .int .i64 0] w fun e w' => e = .returned (.tuple #[.int .i64 0, .bool true]) ∧ w' = w := by
  by_cases ha : a < 0
  all_goals
    go_enter Try.func40, Try.ntmps40
    go_wp2_with fail
    refine Calls.mono (Hx.out _) ?_
    rintro e w1 ⟨rfl, rfl⟩
    go_wp2_with fail
    refine Calls.mono (Hy.out _) ?_
    rintro e w2 ⟨rfl, rfl⟩
    go_wp2
    go_ret2
    exact ⟨rfl, rfl⟩
set_option maxHeartbeats 1000000 in
theorem rtimes_walk (a b x y p : Int) (w : World) (hp : wrap64 (a * b) = p) (hy0 : 0 < y) (hy1 : y ≤ 9223372036854775808) (Hx : Hid (∀ w : World, Calls Try.prog 43 #[.int .i64 a] w fun e w' => e = .returned (.int .u64 x) ∧ w' = w)) (Hy : Hid (∀ w : World, Calls Try.prog 43 #[.int .i64 b] w fun e w' => e = .returned (.int .u64 y) ∧ w' = w)) :
    Calls Try.prog 40 #[.int .i64 a, .int .i64 b] w fun e w' => e = .returned (.tuple #[.int .i64 (if most a b / y < x then 0 else p), .bool (!decide (most a b / y < x))]) ∧ w' = w := by
  have em : most a b = if (!(decide (a < 0) == decide (b < 0))) = true then 9223372036854775808 else 9223372036854775807 := by unfold most; simp [bne]
  rw [em]
  clear em
  cases hm : (!(decide (a < 0) == decide (b < 0))) <;> simp only [if_true, Bool.false_eq_true, if_false]
  · by_cases hc : 9223372036854775807 / y < x
    all_goals
      simp only [hc]
      (try rw [Int.not_lt] at hc)
      go_enter Try.func40, Try.ntmps40
      go_wp2_with fail
      refine Calls.mono (Hx.out _) ?_
      rintro e w1 ⟨rfl, rfl⟩
      go_wp2_with fail
      refine Calls.mono (Hy.out _) ?_
      rintro e w2 ⟨rfl, rfl⟩
      go_wp2
      go_ret2
      exact ⟨rfl, rfl⟩
  · by_cases hc : 9223372036854775808 / y < x
    all_goals
      simp only [hc]
      (try rw [Int.not_lt] at hc)
      go_enter Try.func40, Try.ntmps40
      go_wp2_with fail
      refine Calls.mono (Hx.out _) ?_
      rintro e w1 ⟨rfl, rfl⟩
      go_wp2_with fail
      refine Calls.mono (Hy.out _) ?_
      rintro e w2 ⟨rfl, rfl⟩
      go_wp2
      go_ret2
      exact ⟨rfl, rfl⟩
theorem size_bounds {a : Int} (h1 : -9223372036854775808 ≤ a) (h2 : a ≤ 9223372036854775807) : 0 ≤ size a ∧ size a ≤ 9223372036854775808 := by
  unfold size; split <;> omega
theorem rtimes_any (a b : Int) (w : World) (ha : fits a = true) (hb : fits b = true) :
    Calls Try.prog 40 #[.int .i64 a, .int .i64 b] w fun e w' => e = .returned (.tuple #[.int .i64 (val (a * b)), .bool (fits (a * b))]) ∧ w' = w := by
  have ha' := (fits_iff a).1 ha
  have hb' := (fits_iff b).1 hb
  by_cases b0 : b = 0
  · subst b0
    rw [Int.mul_zero, show val 0 = 0 from rfl, show fits 0 = true from rfl]
    exact rtimes_zero a _ w (fun w => size_any a w ha'.1 ha'.2) (fun w => size_any 0 w (by decide) (by decide))
  · have hs := size_bounds hb'.1 hb'.2
    have hp : 0 < size b := by unfold size; split <;> omega
    have key := size_fits (a := a) b0
    refine (rtimes_walk a b _ _ _ w rfl hp hs.2 (fun w => size_any a w ha'.1 ha'.2) (fun w => size_any b w hb'.1 hb'.2)).mono ?_
    rintro e w' ⟨rfl, rfl⟩
    refine ⟨ret_pair ?_ ?_, rfl⟩
    · have e : (if most a b / size b < size a then (0 : Int) else wrap64 (a * b)) = (if (!fits (a * b)) = true then 0 else wrap64 (a * b)) := by
        rw [← key]; simp
      rw [e]; exact val_if _ _ wrap_of
    · rw [key, Bool.not_not]
end Go.Proofs.Ytncefhjegkhamaa.Val
