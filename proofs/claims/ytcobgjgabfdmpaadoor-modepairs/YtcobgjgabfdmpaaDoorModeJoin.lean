/- What Join, Intent and Name of package mode answer, for any numbers. -/
import Derived.Test.YtcobgjgabfdmpaaDoorModeFits
import Derived.Test.YtcobgjgabfdmpaaDoorModeCov
namespace Go.Proofs.YtcobgjgabfdmpaaDoor.Val
open Go Go.RowKit

theorem joinTo_lt (k j n : Nat) (hn : n ≤ 7) : joinTo k j n < 7 := by
  induction n with
  | zero => show 6 < 7; omega
  | succ n ih => rw [joinTo]; split <;> have := ih (by omega) <;> omega
set_option maxHeartbeats 4000000 in
theorem join_in (k j : Nat) (hk : k < 7) (hj : j < 7) (w : World) (hT : TabC w) : Reads 15 #[.int .i64 (k : Int), .int .i64 (j : Int)] w (.int .i64 (joinN k j : Nat)) := by
  have HR : Hid (∀ (i : Nat) w1, i < 7 → Reads 17 #[.int .i64 (i : Int)] w1 (.bool true)) := fun i w1 hi => right_yes hi w1
  have HC : Hid (∀ (a b : Nat) v q, a < 7 → b < 7 → coversN a b = v → Reads 13 #[.int .i64 (a : Int), .int .i64 (b : Int)] (w.drewN q) (.bool v)) := fun a b v q ha hb h => by rw [← h]; exact covers_in a b ha hb _ (hT.drewN q)
  have HKJ : Hid (k < 7 ∧ j < 7) := ⟨hk, hj⟩
  clear hT hk hj
  go_enter Tryd.func15, Tryd.ntmps15
  go_wp2_with fail
  refine Calls.mono (HR.out k _ HKJ.out.1) ?_
  rintro e w1 ⟨rfl, q1, rfl⟩
  go_wp2_with fail
  refine Calls.mono (HR.out j _ HKJ.out.2) ?_
  rintro e w1 ⟨rfl, q2, rfl⟩
  rw [World.drewN_drewN]
  go_wp2_with fail
  go_loopw [5, 6] (fun l i wr => ∃ n : Nat, n ≤ 7 ∧ i = .int .i64 (n : Int) ∧ l = .int .i64 (joinTo k j n : Nat) ∧ Hid (∃ q, wr = w.drewN q)) (fun _ i _ => 7 - (intOf i).toNat)
  case atStart => exact ⟨0, by omega, rfl, rfl, _, rfl⟩
  case round =>
    obtain ⟨n, hn, rfl, rfl, HW⟩ := hrel
    obtain ⟨q, rfl⟩ := HW.out
    clear HW
    by_cases h7 : n < 7
    · have hl := joinTo_lt k j n hn
      have HJ : Hid (joinTo k j (n + 1) = if coversN n k && coversN n j && coversN (joinTo k j n) n then n else joinTo k j n) := rfl
      generalize joinTo k j n = l at *
      have h6 : (n : Int) ≤ 6 := by omega
      have HL : Hid (l < 7 ∧ n < 7) := ⟨hl, h7⟩
      clear hl h7 hn
      by_cases x1 : coversN n k = true
      · go_wp2_with fail
        refine Calls.mono (HC.out n k _ _ HL.out.2 HKJ.out.1 x1) ?_
        rintro e w1 ⟨rfl, q3, rfl⟩
        rw [World.drewN_drewN]
        by_cases x2 : coversN n j = true
        · go_wp2_with fail
          refine Calls.mono (HC.out n j _ _ HL.out.2 HKJ.out.2 x2) ?_
          rintro e w1 ⟨rfl, q4, rfl⟩
          rw [World.drewN_drewN]
          by_cases x3 : coversN l n = true
          · go_wp2_with fail
            refine Calls.mono (HC.out l n _ _ HL.out.1 HL.out.2 x3) ?_
            rintro e w1 ⟨rfl, q5, rfl⟩
            rw [World.drewN_drewN]
            have HJ2 : Hid (joinTo k j (n + 1) = n) := by show _ = _; rw [HJ.out]; simp [x1, x2, x3]
            clear HJ
            go_wp2_with fail
            go_roundw
            case rel => exact ⟨n + 1, by have := HL.out.2; omega, by go_num, by rw [HJ2.out], _, rfl⟩
            case measure => have := HL.out.2; simp [intOf]; omega
          · go_wp2_with fail
            refine Calls.mono (HC.out l n _ _ HL.out.1 HL.out.2 (Bool.eq_false_iff.2 x3)) ?_
            rintro e w1 ⟨rfl, q5, rfl⟩
            rw [World.drewN_drewN]
            have HJ2 : Hid (joinTo k j (n + 1) = l) := by show _ = _; rw [HJ.out]; simp [x3]
            clear HJ
            go_wp2_with fail
            go_roundw
            case rel => exact ⟨n + 1, by have := HL.out.2; omega, by go_num, by rw [HJ2.out], _, rfl⟩
            case measure => have := HL.out.2; simp [intOf]; omega
        · go_wp2_with fail
          refine Calls.mono (HC.out n j _ _ HL.out.2 HKJ.out.2 (Bool.eq_false_iff.2 x2)) ?_
          rintro e w1 ⟨rfl, q4, rfl⟩
          rw [World.drewN_drewN]
          have HJ2 : Hid (joinTo k j (n + 1) = l) := by show _ = _; rw [HJ.out]; simp [x2]
          clear HJ
          go_wp2_with fail
          go_roundw
          case rel => exact ⟨n + 1, by have := HL.out.2; omega, by go_num, by rw [HJ2.out], _, rfl⟩
          case measure => have := HL.out.2; simp [intOf]; omega
      · go_wp2_with fail
        refine Calls.mono (HC.out n k _ _ HL.out.2 HKJ.out.1 (Bool.eq_false_iff.2 x1)) ?_
        rintro e w1 ⟨rfl, q3, rfl⟩
        rw [World.drewN_drewN]
        have HJ2 : Hid (joinTo k j (n + 1) = l) := by show _ = _; rw [HJ.out]; simp [x1]
        clear HJ
        go_wp2_with fail
        go_roundw
        case rel => exact ⟨n + 1, by have := HL.out.2; omega, by go_num, by rw [HJ2.out], _, rfl⟩
        case measure => have := HL.out.2; simp [intOf]; omega
    · obtain rfl : n = 7 := by omega
      have HJ : Hid (joinTo k j 7 = joinN k j) := rfl
      generalize joinTo k j 7 = l at *
      go_wp2_with fail
      go_ret
      exact ⟨by rw [HJ.out]; rfl, _, rfl⟩
set_option maxHeartbeats 1000000 in
theorem join_any (a b : Int) (w : World) (hT : TabC w) : Reads 15 #[.int .i64 a, .int .i64 b] w (.int .i64 (joinM a b)) := by
  by_cases ha : rightM a = true
  · by_cases hb : rightM b = true
    · obtain ⟨k, hk, rfl⟩ := mode_of ha
      obtain ⟨j, hj, rfl⟩ := mode_of hb
      rw [join_nat hk hj]
      exact join_in k j hk hj w hT
    · have e : joinM a b = 0 := by simp [joinM, hb]
      have HR1 : Hid (∀ w1, Reads 17 #[.int .i64 a] w1 (.bool true)) := fun w1 => by have := right_any a w1; rwa [ha] at this
      have HR2 : Hid (∀ w1, Reads 17 #[.int .i64 b] w1 (.bool false)) := fun w1 => by have := right_any b w1; rwa [Bool.eq_false_iff.2 hb] at this
      rw [e]
      clear hT ha hb e
      go_enter Tryd.func15, Tryd.ntmps15
      go_wp2_with fail
      refine Calls.mono (HR1.out _) ?_
      rintro e w1 ⟨rfl, q1, rfl⟩
      go_wp2_with fail
      refine Calls.mono (HR2.out _) ?_
      rintro e w1 ⟨rfl, q2, rfl⟩
      rw [World.drewN_drewN]
      go_wp2_with fail
      go_ret
      exact ⟨rfl, _, rfl⟩
  · have e : joinM a b = 0 := by simp [joinM, ha]
    have HR1 : Hid (∀ w1, Reads 17 #[.int .i64 a] w1 (.bool false)) := fun w1 => by have := right_any a w1; rwa [Bool.eq_false_iff.2 ha] at this
    rw [e]
    clear hT ha e
    go_enter Tryd.func15, Tryd.ntmps15
    go_wp2_with fail
    refine Calls.mono (HR1.out _) ?_
    rintro e w1 ⟨rfl, q1, rfl⟩
    go_wp2_with fail
    go_ret
    exact ⟨rfl, _, rfl⟩
set_option maxHeartbeats 1000000 in
theorem intent_any (a : Int) (w : World) (hT : TabI w) : Reads 20 #[.int .i64 a] w (.int .i64 (intentM a)) := by
  by_cases ha : rightM a = true
  · obtain ⟨k, hk, rfl⟩ := mode_of ha
    have e : intentM (k : Int) = intentT.getD k 0 := by rw [intentM, if_pos ha]; rfl
    have HR1 : Hid (∀ w1, Reads 17 #[.int .i64 (k : Int)] w1 (.bool true)) := fun w1 => right_yes hk w1
    rw [e]
    have hc := fun q => (hT.drewN q) k hk
    generalize intentT.getD k 0 = c at *
    have h0 : (0 : Int) ≤ (k : Int) := by omega
    have h1 : (k : Int) < 7 := by omega
    clear hT ha e hk
    go_enter Tryd.func20, Tryd.ntmps20
    go_wp2_with fail
    refine Calls.mono (HR1.out _) ?_
    rintro e w1 ⟨rfl, q1, rfl⟩
    go_wp2_with fail
    go_ret
    exact ⟨rfl, _, rfl⟩
  · have e : intentM a = 0 := by simp [intentM, ha]
    have HR1 : Hid (∀ w1, Reads 17 #[.int .i64 a] w1 (.bool false)) := fun w1 => by have := right_any a w1; rwa [Bool.eq_false_iff.2 ha] at this
    rw [e]
    clear hT ha e
    go_enter Tryd.func20, Tryd.ntmps20
    go_wp2_with fail
    refine Calls.mono (HR1.out _) ?_
    rintro e w1 ⟨rfl, q1, rfl⟩
    go_wp2_with fail
    go_ret
    exact ⟨rfl, _, rfl⟩
set_option maxHeartbeats 1000000 in
theorem name_any (a : Int) (w : World) (hT : TabN w) : Reads 18 #[.int .i64 a] w (.string (nameM a)) := by
  by_cases ha : rightM a = true
  · obtain ⟨k, hk, rfl⟩ := mode_of ha
    have e : nameM (k : Int) = nameT.getD k ⟨#[]⟩ := by rw [nameM, if_pos ha]; rfl
    have HR1 : Hid (∀ w1, Reads 17 #[.int .i64 (k : Int)] w1 (.bool true)) := fun w1 => right_yes hk w1
    rw [e]
    have hc := fun q => (hT.drewN q) k hk
    generalize nameT.getD k ⟨#[]⟩ = c at *
    have h0 : (0 : Int) ≤ (k : Int) := by omega
    have h1 : (k : Int) < 7 := by omega
    clear hT ha e hk
    go_enter Tryd.func18, Tryd.ntmps18
    go_wp2_with fail
    refine Calls.mono (HR1.out _) ?_
    rintro e w1 ⟨rfl, q1, rfl⟩
    go_wp2_with fail
    go_ret
    exact ⟨rfl, _, rfl⟩
  · have e : nameM a = ⟨#[]⟩ := by simp [nameM, ha]
    have HR1 : Hid (∀ w1, Reads 17 #[.int .i64 a] w1 (.bool false)) := fun w1 => by have := right_any a w1; rwa [Bool.eq_false_iff.2 ha] at this
    rw [e]
    clear hT ha e
    go_enter Tryd.func18, Tryd.ntmps18
    go_wp2_with fail
    refine Calls.mono (HR1.out _) ?_
    rintro e w1 ⟨rfl, q1, rfl⟩
    go_wp2_with fail
    go_ret
    exact ⟨rfl, _, rfl⟩
end Go.Proofs.YtcobgjgabfdmpaaDoor.Val
