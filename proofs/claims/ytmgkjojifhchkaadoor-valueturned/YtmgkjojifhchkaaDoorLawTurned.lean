/- The law ValueTurned answers true for any two numbers of 64 bits, in a world that holds the table of digits. -/
import Derived.Test.YtmgkjojifhchkaaDoorSums
import Derived.Test.YtmgkjojifhchkaaDoorAwake
namespace Go.Proofs.YtmgkjojifhchkaaDoor.Val
open Go.RowKit

theorem val_fits {n : Int} (h : fits n = true) : fits (val n) = true := by rw [val_of h]; exact h
set_option maxHeartbeats 1000000 in
theorem turned_yes (a b : Int) (w : World) (ha : fits a = true) (hb : fits b = true) (hab : fits (a + b) = true) (hT : HasTab w) (hg : 0 < w.heap.size) :
    Calls Tryd.prog 8 #[.int .i64 a, .int .i64 b] w fun e w' => e = .returned (.bool true) ∧ Below w.heap.size w w' := by
  have H0 : Hid _ := awake_any w hT hg
  have H1 : Hid (∀ w : World, Calls Tryd.prog 15 #[.int .i64 a, .int .i64 b] w fun e w' => e = .returned (.tuple #[.int .i64 (a + b), .bool true]) ∧ w' = w) := fun w => by
    have := add_any a b w ha hb; rw [val_of hab, hab] at this; exact this
  have H2 : Hid (∀ w : World, Calls Tryd.prog 15 #[.int .i64 b, .int .i64 a] w fun e w' => e = .returned (.tuple #[.int .i64 (a + b), .bool true]) ∧ w' = w) := fun w => by
    have := add_any b a w hb ha; rw [Int.add_comm b a, val_of hab, hab] at this; exact this
  have H3 : Hid (∀ w : World, Calls Tryd.prog 16 #[.int .i64 (a + b), .int .i64 b] w fun e w' => e = .returned (.tuple #[.int .i64 a, .bool true]) ∧ w' = w) := fun w => by
    have := sub_any (a + b) b w hab hb; rw [Int.add_sub_cancel, val_of ha, ha] at this; exact this
  have H4 : Hid (∀ w : World, Calls Tryd.prog 17 #[.int .i64 b, .int .i64 a] w fun e w' => e = .returned (.tuple #[.int .i64 (val (a * b)), .bool (fits (a * b))]) ∧ w' = w) := fun w => by
    have := times_any b a w hb ha; rw [Int.mul_comm b a] at this; exact this
  have H5 : Hid (∀ w : World, Calls Tryd.prog 17 #[.int .i64 a, .int .i64 1] w fun e w' => e = .returned (.tuple #[.int .i64 a, .bool true]) ∧ w' = w) := fun w => by
    have := times_any a 1 w ha (by decide); rw [Int.mul_one, val_of ha, ha] at this; exact this
  have H6 : Hid (∀ w : World, Calls Tryd.prog 17 #[.int .i64 a, .int .i64 0] w fun e w' => e = .returned (.tuple #[.int .i64 0, .bool true]) ∧ w' = w) := fun w => by
    have := times_any a 0 w ha (by decide); rw [Int.mul_zero] at this; exact this
  have HM : Hid (∀ w : World, Calls Tryd.prog 17 #[.int .i64 a, .int .i64 b] w fun e w' => e = .returned (.tuple #[.int .i64 (val (a * b)), .bool (fits (a * b))]) ∧ w' = w) := fun w => times_any a b w ha hb
  clear ha hb hab hT
  generalize val (a * b) = p at *
  generalize fits (a * b) = k at *
  generalize a + b = c at *
  go_enter Tryd.func8, Tryd.ntmps8
  go_wp2_with fail
  refine Calls.mono H0.out ?_
  rintro e w1 ⟨rfl, hb1⟩
  go_wp2_with fail
  refine Calls.mono (H1.out _) ?_
  rintro e w' ⟨rfl, hw⟩
  obtain rfl := hw.symm
  go_wp2_with fail
  refine Calls.mono (H2.out _) ?_
  rintro e w' ⟨rfl, hw⟩
  obtain rfl := hw.symm
  go_wp2_with fail
  refine Calls.mono (H3.out _) ?_
  rintro e w' ⟨rfl, hw⟩
  obtain rfl := hw.symm
  go_wp2_with fail
  refine Calls.mono (HM.out _) ?_
  rintro e w' ⟨rfl, hw⟩
  obtain rfl := hw.symm
  go_wp2_with fail
  refine Calls.mono (H4.out _) ?_
  rintro e w' ⟨rfl, hw⟩
  obtain rfl := hw.symm
  go_wp2_with fail
  refine Calls.mono (H5.out _) ?_
  rintro e w' ⟨rfl, hw⟩
  obtain rfl := hw.symm
  go_wp2_with fail
  refine Calls.mono (H6.out _) ?_
  rintro e w' ⟨rfl, hw⟩
  obtain rfl := hw.symm
  go_wp2
  go_ret
  exact ⟨rfl, hb1⟩
set_option maxHeartbeats 1000000 in
theorem turned_no (a b : Int) (w : World) (ha : fits a = true) (hb : fits b = true) (hab : fits (a + b) = false) (hT : HasTab w) (hg : 0 < w.heap.size) :
    Calls Tryd.prog 8 #[.int .i64 a, .int .i64 b] w fun e w' => e = .returned (.bool true) ∧ Below w.heap.size w w' := by
  have hv : val (a + b) = 0 := by unfold val; rw [hab]; rfl
  have H0 : Hid _ := awake_any w hT hg
  have H1 : Hid (∀ w : World, Calls Tryd.prog 15 #[.int .i64 a, .int .i64 b] w fun e w' => e = .returned (.tuple #[.int .i64 0, .bool false]) ∧ w' = w) := fun w => by
    have := add_any a b w ha hb; rw [hv, hab] at this; exact this
  have H2 : Hid (∀ w : World, Calls Tryd.prog 15 #[.int .i64 b, .int .i64 a] w fun e w' => e = .returned (.tuple #[.int .i64 0, .bool false]) ∧ w' = w) := fun w => by
    have := add_any b a w hb ha; rw [Int.add_comm b a, hv, hab] at this; exact this
  have H4 : Hid (∀ w : World, Calls Tryd.prog 17 #[.int .i64 b, .int .i64 a] w fun e w' => e = .returned (.tuple #[.int .i64 (val (a * b)), .bool (fits (a * b))]) ∧ w' = w) := fun w => by
    have := times_any b a w hb ha; rw [Int.mul_comm b a] at this; exact this
  have H5 : Hid (∀ w : World, Calls Tryd.prog 17 #[.int .i64 a, .int .i64 1] w fun e w' => e = .returned (.tuple #[.int .i64 a, .bool true]) ∧ w' = w) := fun w => by
    have := times_any a 1 w ha (by decide); rw [Int.mul_one, val_of ha, ha] at this; exact this
  have H6 : Hid (∀ w : World, Calls Tryd.prog 17 #[.int .i64 a, .int .i64 0] w fun e w' => e = .returned (.tuple #[.int .i64 0, .bool true]) ∧ w' = w) := fun w => by
    have := times_any a 0 w ha (by decide); rw [Int.mul_zero] at this; exact this
  have HM : Hid (∀ w : World, Calls Tryd.prog 17 #[.int .i64 a, .int .i64 b] w fun e w' => e = .returned (.tuple #[.int .i64 (val (a * b)), .bool (fits (a * b))]) ∧ w' = w) := fun w => times_any a b w ha hb
  clear ha hb hab hT hv
  generalize val (a * b) = p at *
  generalize fits (a * b) = k at *
  go_enter Tryd.func8, Tryd.ntmps8
  go_wp2_with fail
  refine Calls.mono H0.out ?_
  rintro e w1 ⟨rfl, hb1⟩
  go_wp2_with fail
  refine Calls.mono (H1.out _) ?_
  rintro e w' ⟨rfl, hw⟩
  obtain rfl := hw.symm
  go_wp2_with fail
  refine Calls.mono (H2.out _) ?_
  rintro e w' ⟨rfl, hw⟩
  obtain rfl := hw.symm
  go_wp2_with fail
  refine Calls.mono (HM.out _) ?_
  rintro e w' ⟨rfl, hw⟩
  obtain rfl := hw.symm
  go_wp2_with fail
  refine Calls.mono (H4.out _) ?_
  rintro e w' ⟨rfl, hw⟩
  obtain rfl := hw.symm
  go_wp2_with fail
  refine Calls.mono (H5.out _) ?_
  rintro e w' ⟨rfl, hw⟩
  obtain rfl := hw.symm
  go_wp2_with fail
  refine Calls.mono (H6.out _) ?_
  rintro e w' ⟨rfl, hw⟩
  obtain rfl := hw.symm
  go_wp2
  go_ret
  exact ⟨rfl, hb1⟩
theorem turned_walk (a b : Int) (w : World) (ha : fits a = true) (hb : fits b = true) (hT : HasTab w) (hg : 0 < w.heap.size) :
    Calls Tryd.prog 8 #[.int .i64 a, .int .i64 b] w fun e w' => e = .returned (.bool true) ∧ Below w.heap.size w w' := by
  cases hab : fits (a + b)
  · exact turned_no a b w ha hb hab hT hg
  · exact turned_yes a b w ha hb hab hT hg
end Go.Proofs.YtmgkjojifhchkaaDoor.Val
