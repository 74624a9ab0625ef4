/- What the reference's digit, part and Show answer. -/
import Derived.Test.YtmgkjojifhchkaaDoorRefDigits
import Derived.Test.YtmgkjojifhchkaaDoorRefReadPlain
import Derived.Test.YtmgkjojifhchkaaDoorRefCmp
import Derived.Test.YtmgkjojifhchkaaDoorRightAny
import Derived.Test.YtmgkjojifhchkaaDoorShowText
namespace Go.Proofs.YtmgkjojifhchkaaDoor.Val
open Go.RowKit

theorem ret_u8 {a b : Int} (h : a = b) : Ending.returned (.int .u8 a) = .returned (.int .u8 b) := by rw [h]
theorem hexd_low {n : Nat} (h : n < 10) : ((hexd n).toNat : Int) = 48 + n := by
  unfold hexd; rw [if_pos h, UInt8.toNat_ofNat_of_lt' (by show _ < 256; omega)]; omega
theorem hexd_high {n : Nat} (h : ¬ n < 10) (h2 : n < 16) : ((hexd n).toNat : Int) = 87 + n := by
  unfold hexd; rw [if_neg h, UInt8.toNat_ofNat_of_lt' (by show _ < 256; omega)]; omega
set_option maxHeartbeats 400000 in
theorem rdigit_any (n : Nat) (h : n < 16) (w : World) :
    Calls Tryd.prog 34 #[.int .u8 (n : Int)] w fun e w' => e = .returned (.int .u8 ((hexd n).toNat : Int)) ∧ w' = w := by
  by_cases h1 : n < 10
  · go_enter Tryd.func34, Tryd.ntmps34
    go_wp2
    go_ret
    exact ⟨ret_u8 (hexd_low h1).symm, rfl⟩
  · go_enter Tryd.func34, Tryd.ntmps34
    go_wp2
    go_ret
    exact ⟨ret_u8 (by rw [hexd_high h1 h]; omega), rfl⟩
set_option maxHeartbeats 400000 in
theorem part_any (c : UInt8) (w : World) :
    Calls Tryd.prog 30 #[.int .u8 (c.toNat : Int)] w fun e w' => e = .returned (.int .u8 (partOf c : Int)) ∧ w' = w := by
  have hc := c.toNat_lt
  by_cases h1 : 48 ≤ c.toNat ∧ c.toNat ≤ 57
  · have e : partOf c = c.toNat - 48 := by unfold partOf hexOf; rw [if_pos h1]; rfl
    have g1 : (48 : Int) ≤ (c.toNat : Int) := by omega
    have g2 : (c.toNat : Int) ≤ 57 := by omega
    rw [e]
    clear e
    go_enter Tryd.func30, Tryd.ntmps30
    go_wp2
    go_ret
    exact ⟨ret_u8 (by omega), rfl⟩
  · by_cases h2 : 97 ≤ c.toNat ∧ c.toNat ≤ 102
    · have e : partOf c = c.toNat - 87 := by unfold partOf hexOf; rw [if_neg h1, if_pos h2]; rfl
      have g1 : (97 : Int) ≤ (c.toNat : Int) := by omega
      have g2 : (c.toNat : Int) ≤ 102 := by omega
      have g3 : decide ((c.toNat : Int) ≤ 57) = false := by simp; omega
      rw [e]
      clear e
      go_enter Tryd.func30, Tryd.ntmps30
      go_wp2
      go_ret
      exact ⟨ret_u8 (by omega), rfl⟩
    · have e : partOf c = 16 := by unfold partOf hexOf; rw [if_neg h1, if_neg h2]; rfl
      rw [e]
      clear e
      by_cases g1 : 48 ≤ c.toNat
      · have g2 : decide ((c.toNat : Int) ≤ 57) = false := by simp; omega
        by_cases g3 : 97 ≤ c.toNat
        · have g4 : decide ((c.toNat : Int) ≤ 102) = false := by simp; omega
          go_enter Tryd.func30, Tryd.ntmps30
          go_wp2
          go_ret
          exact ⟨rfl, rfl⟩
        · have g4 : decide ((97 : Int) ≤ (c.toNat : Int)) = false := by simp; omega
          go_enter Tryd.func30, Tryd.ntmps30
          go_wp2
          go_ret
          exact ⟨rfl, rfl⟩
      · have g2 : decide ((48 : Int) ≤ (c.toNat : Int)) = false := by simp; omega
        have g4 : decide ((97 : Int) ≤ (c.toNat : Int)) = false := by simp; omega
        go_enter Tryd.func30, Tryd.ntmps30
        go_wp2
        go_ret
        exact ⟨rfl, rfl⟩
end Go.Proofs.YtmgkjojifhchkaaDoor.Val
