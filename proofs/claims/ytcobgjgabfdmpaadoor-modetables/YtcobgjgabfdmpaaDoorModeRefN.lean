/- What the document's Fits, Intent and Name of modes answer, for any numbers. -/
import Derived.Test.YtcobgjgabfdmpaaDoorModeRefF
namespace Go.Proofs.YtcobgjgabfdmpaaDoor.Val
open Go Go.RowKit

set_option maxHeartbeats 1000000 in
theorem rfits_any (a b : Int) (w : World) : Tells 12 #[.int .i64 a, .int .i64 b] w (.bool (fitsM a b)) := by
  by_cases ha : rightM a = true
  · by_cases hb : rightM b = true
    · obtain ⟨k, hk, rfl⟩ := mode_of ha
      obtain ⟨j, hj, rfl⟩ := mode_of hb
      rw [fits_nat hk hj]
      exact rfits_in k j hk hj w
    · have e : fitsM a b = false := by simp [fitsM, hb]
      rw [e]
      obtain ⟨a0, a1⟩ := right_iff.1 ha
      rw [right_iff] at hb
      clear e ha
      by_cases b0 : b < 0
      · go_enter Tryd.func12, Tryd.ntmps12
        go_wp2_with fail
        go_ret
        exact ⟨rfl, Below.refl _ _⟩
      · have b1 : 6 < b := by omega
        go_enter Tryd.func12, Tryd.ntmps12
        go_wp2_with fail
        go_ret
        exact ⟨rfl, Below.refl _ _⟩
  · have e : fitsM a b = false := by simp [fitsM, ha]
    rw [e]
    rw [right_iff] at ha
    clear e
    by_cases a0 : a < 0
    · go_enter Tryd.func12, Tryd.ntmps12
      go_wp2_with fail
      go_ret
      exact ⟨rfl, Below.refl _ _⟩
    · have a1 : 6 < a := by omega
      go_enter Tryd.func12, Tryd.ntmps12
      go_wp2_with fail
      go_ret
      exact ⟨rfl, Below.refl _ _⟩
set_option maxHeartbeats 1000000 in
theorem rname_any (a : Int) (w : World) : Tells 19 #[.int .i64 a] w (.string (nameM a)) := by
  by_cases ha : rightM a = true
  · obtain ⟨k, hk, rfl⟩ := mode_of ha
    have e : nameM (k : Int) = nameT.getD k ⟨#[]⟩ := by rw [nameM, if_pos ha]; rfl
    rw [e]
    clear e ha
    obtain rfl | rfl | rfl | rfl | rfl | rfl | rfl : k = 0 ∨ k = 1 ∨ k = 2 ∨ k = 3 ∨ k = 4 ∨ k = 5 ∨ k = 6 := by omega
    all_goals
      go_enter Tryd.func19, Tryd.ntmps19
      go_wp2_with fail
      go_ret
      exact ⟨rfl, (Below.refl _ _).alloc (Nat.le_refl _) _⟩
  · have e : nameM a = ⟨#[]⟩ := by simp [nameM, ha]
    rw [e]
    rw [right_iff] at ha
    clear e
    by_cases a0 : a < 0
    · go_enter Tryd.func19, Tryd.ntmps19
      go_wp2_with fail
      go_ret
      exact ⟨rfl, Below.refl _ _⟩
    · have a1 : 6 < a := by omega
      go_enter Tryd.func19, Tryd.ntmps19
      go_wp2_with fail
      go_ret
      exact ⟨rfl, Below.refl _ _⟩
theorem intent_if (a : Int) : intentM a = if a = 1 ∨ a = 3 then 1 else if a = 2 ∨ a = 5 ∨ a = 6 then 2 else if a = 4 then 4 else 0 := by
  by_cases ha : rightM a = true
  · obtain ⟨k, hk, rfl⟩ := mode_of ha
    obtain rfl | rfl | rfl | rfl | rfl | rfl | rfl : k = 0 ∨ k = 1 ∨ k = 2 ∨ k = 3 ∨ k = 4 ∨ k = 5 ∨ k = 6 := by omega
    all_goals rfl
  · have e : intentM a = 0 := by simp [intentM, ha]
    rw [right_iff] at ha
    rw [e, if_neg (by omega), if_neg (by omega), if_neg (by omega)]
set_option maxHeartbeats 1000000 in
theorem rintent_any (a : Int) (w : World) : Tells 21 #[.int .i64 a] w (.int .i64 (intentM a)) := by
  rw [intent_if]
  by_cases ha : 1 ≤ a ∧ a ≤ 6
  · obtain rfl | rfl | rfl | rfl | rfl | rfl : a = 1 ∨ a = 2 ∨ a = 3 ∨ a = 4 ∨ a = 5 ∨ a = 6 := by omega
    all_goals
      go_enter Tryd.func21, Tryd.ntmps21
      go_wp2_with fail
      go_ret
      exact ⟨rfl, Below.refl _ _⟩
  · rw [if_neg (by omega), if_neg (by omega), if_neg (by omega)]
    have e1 : (a == 1) = false := by rw [beq_eq_false_iff_ne]; omega
    have e2 : (a == 2) = false := by rw [beq_eq_false_iff_ne]; omega
    have e3 : (a == 3) = false := by rw [beq_eq_false_iff_ne]; omega
    have e4 : (a == 4) = false := by rw [beq_eq_false_iff_ne]; omega
    have e5 : (a == 5) = false := by rw [beq_eq_false_iff_ne]; omega
    have e6 : (a == 6) = false := by rw [beq_eq_false_iff_ne]; omega
    clear ha
    go_enter Tryd.func21, Tryd.ntmps21
    go_wp2_with fail
    go_ret
    exact ⟨rfl, Below.refl _ _⟩
end Go.Proofs.YtcobgjgabfdmpaaDoor.Val
