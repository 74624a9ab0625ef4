/- What Add, Sub and Times of package value answer, and those of the reference, over this seat's translation. Numbers of 64 bits. -/
import Derived.Test.YtncefhjegkhamaaRows
import Derived.Test.YtncefhjegkhamaaSumsPlain
import Derived.WalkKit
import Derived.WalkSpells
import Derived.WalkLawsBesides
import Derived.Below
import Derived.Outline
namespace Go.Proofs.Ytncefhjegkhamaa.Val
open Go.RowKit

theorem ret_pair {a b : Int} {x y : Bool} (h : a = b) (k : x = y) : Ending.returned (.tuple #[.int .i64 a, .bool x]) = .returned (.tuple #[.int .i64 b, .bool y]) := by rw [h, k]
set_option maxHeartbeats 400000 in
theorem add_walk (a b s : Int) (w : World) (hs : wrap64 (a + b) = s) :
    Calls Try.prog 35 #[.int .i64 a, .int .i64 b] w fun e w' => e = .returned (.tuple #[.int .i64 (if over (decide (a < 0)) (decide (b < 0)) (decide (s < 0)) = true then 0 else s), .bool (!over (decide (a < 0)) (decide (b < 0)) (decide (s < 0)))]) ∧ w' = w := by
  by_cases ha : a < 0 <;> by_cases hb : b < 0 <;> by_cases hc : s < 0
  all_goals
    simp only [ha, hb, hc, over]
    go_enter Try.func35, Try.ntmps35
    go_wp2
    go_ret2
    exact ⟨rfl, rfl⟩
set_option maxHeartbeats 400000 in
theorem sub_walk (a b s : Int) (w : World) (hs : wrap64 (a - b) = s) :
    Calls Try.prog 36 #[.int .i64 a, .int .i64 b] w fun e w' => e = .returned (.tuple #[.int .i64 (if under (decide (a < 0)) (decide (b < 0)) (decide (s < 0)) = true then 0 else s), .bool (!under (decide (a < 0)) (decide (b < 0)) (decide (s < 0)))]) ∧ w' = w := by
  by_cases ha : a < 0 <;> by_cases hb : b < 0 <;> by_cases hc : s < 0
  all_goals
    simp only [ha, hb, hc, under]
    go_enter Try.func36, Try.ntmps36
    go_wp2
    go_ret2
    exact ⟨rfl, rfl⟩
set_option maxHeartbeats 400000 in
theorem times_zero_left (b : Int) (w : World) :
    Calls Try.prog 37 #[.int .i64 0, .int .i64 b] w fun e w' => e = .returned (.tuple #[.int .i64 0, .bool true]) ∧ w' = w := by
  go_enter Try.func37, Try.ntmps37
  go_wp2
  go_ret2
  exact ⟨rfl, rfl⟩
set_option maxHeartbeats 400000 in
theorem times_zero_right (a : Int) (w : World) (h : (a == 0) = false) :
    Calls Try.prog 37 #[.int .i64 a, .int .i64 0] w fun e w' => e = .returned (.tuple #[.int .i64 0, .bool true]) ∧ w' = w := by
  go_enter Try.func37, Try.ntmps37
  go_wp2
  go_ret2
  exact ⟨rfl, rfl⟩
set_option maxHeartbeats 1000000 in
theorem times_walk_neg (a b p q : Int) (w : World) (h0 : (a == 0) = false) (h1 : (b == 0) = false) (hb : b < 0) (hp : wrap64 (a * b) = p) (hq : wrap64 (p.tdiv b) = q) :
    Calls Try.prog 37 #[.int .i64 a, .int .i64 b] w fun e w' => e = .returned (.tuple #[.int .i64 (if wrong (!(q != a)) (decide (p < 0)) (decide (a < 0)) true = true then 0 else p), .bool (!wrong (!(q != a)) (decide (p < 0)) (decide (a < 0)) true)]) ∧ w' = w := by
  by_cases ha : a < 0 <;> by_cases hc : p < 0 <;> cases hd : (q != a)
  all_goals
    simp only [ha, hc, wrong]
    go_enter Try.func37, Try.ntmps37
    go_wp2
    go_ret2
    exact ⟨rfl, rfl⟩
set_option maxHeartbeats 1000000 in
theorem times_walk_pos (a b p q : Int) (w : World) (h0 : (a == 0) = false) (h1 : (b == 0) = false) (hb : 0 < b) (hb2 : decide (b < 0) = false) (hp : wrap64 (a * b) = p) (hq : wrap64 (p.tdiv b) = q) :
    Calls Try.prog 37 #[.int .i64 a, .int .i64 b] w fun e w' => e = .returned (.tuple #[.int .i64 (if wrong (!(q != a)) (decide (p < 0)) (decide (a < 0)) false = true then 0 else p), .bool (!wrong (!(q != a)) (decide (p < 0)) (decide (a < 0)) false)]) ∧ w' = w := by
  by_cases ha : a < 0 <;> by_cases hc : p < 0 <;> cases hd : (q != a)
  all_goals
    simp only [ha, hc, wrong]
    go_enter Try.func37, Try.ntmps37
    go_wp2
    go_ret2
    exact ⟨rfl, rfl⟩

theorem bnn (x y : Int) : (!(x != y)) = (x == y) := by simp [bne]
theorem val_if (n s : Int) (h : fits n = true → s = n) : (if (!fits n) = true then 0 else s) = val n := by
  unfold val
  cases hf : fits n
  · simp
  · simp [h hf]

/-- Add, Sub, Times of any two numbers of 64 bits. -/
theorem add_any (a b : Int) (w : World) (ha : fits a = true) (hb : fits b = true) :
    Calls Try.prog 35 #[.int .i64 a, .int .i64 b] w fun e w' => e = .returned (.tuple #[.int .i64 (val (a + b)), .bool (fits (a + b))]) ∧ w' = w := by
  refine (add_walk a b _ w rfl).mono ?_
  rintro e w' ⟨rfl, rfl⟩
  refine ⟨ret_pair ?_ ?_, rfl⟩
  · rw [over_fits ha hb]; exact val_if _ _ wrap_of
  · rw [over_fits ha hb, Bool.not_not]
theorem sub_any (a b : Int) (w : World) (ha : fits a = true) (hb : fits b = true) :
    Calls Try.prog 36 #[.int .i64 a, .int .i64 b] w fun e w' => e = .returned (.tuple #[.int .i64 (val (a - b)), .bool (fits (a - b))]) ∧ w' = w := by
  refine (sub_walk a b _ w rfl).mono ?_
  rintro e w' ⟨rfl, rfl⟩
  refine ⟨ret_pair ?_ ?_, rfl⟩
  · rw [under_fits ha hb]; exact val_if _ _ wrap_of
  · rw [under_fits ha hb, Bool.not_not]
theorem times_any (a b : Int) (w : World) (ha : fits a = true) (hb : fits b = true) :
    Calls Try.prog 37 #[.int .i64 a, .int .i64 b] w fun e w' => e = .returned (.tuple #[.int .i64 (val (a * b)), .bool (fits (a * b))]) ∧ w' = w := by
  by_cases a0 : a = 0
  · subst a0
    rw [Int.zero_mul, show val 0 = 0 from rfl, show fits 0 = true from rfl]
    exact times_zero_left b w
  · by_cases b0 : b = 0
    · subst b0
      rw [Int.mul_zero, show val 0 = 0 from rfl, show fits 0 = true from rfl]
      exact times_zero_right a w (by simpa using a0)
    · have key := wrong_fits ha hb a0 b0
      by_cases h : b < 0
      · refine (times_walk_neg a b _ _ w (by simpa using a0) (by simpa using b0) h rfl rfl).mono ?_
        rintro e w' ⟨rfl, rfl⟩
        simp only [h, decide_true] at key
        refine ⟨ret_pair ?_ ?_, rfl⟩
        · rw [bnn, key]; exact val_if _ _ wrap_of
        · rw [bnn, key, Bool.not_not]
      · refine (times_walk_pos a b _ _ w (by simpa using a0) (by simpa using b0) (by omega) (by simpa using h) rfl rfl).mono ?_
        rintro e w' ⟨rfl, rfl⟩
        simp only [h, decide_false] at key
        refine ⟨ret_pair ?_ ?_, rfl⟩
        · rw [bnn, key]; exact val_if _ _ wrap_of
        · rw [bnn, key, Bool.not_not]
end Go.Proofs.Ytncefhjegkhamaa.Val
