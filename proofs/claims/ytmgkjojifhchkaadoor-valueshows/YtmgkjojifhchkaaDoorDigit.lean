/- What digit of package value answers, in a world that holds its table. -/
import Derived.Test.YtmgkjojifhchkaaDoorRows
import Derived.WalkKit
import Derived.WalkSpells
import Derived.WalkLawsBesides
import Derived.Below
import Derived.Outline
namespace Go.Proofs.YtmgkjojifhchkaaDoor.Val
open Go.RowKit

/-- The table's numbers. -/
def hexTab : List Int := [48, 49, 50, 51, 52, 53, 54, 55, 56, 57, 97, 98, 99, 100, 101, 102]
/-- The world holds the table. -/
def HasTab (w : World) : Prop := ∀ i, i < 16 → w.cell? ⟨0, i, none⟩ = some (.int .u8 (hexTab.getD i 0))
theorem HasTab.below {w w' : World} {B : Nat} (h : HasTab w) (hb : Below B w w') (hB : 0 < B) : HasTab w' := fun i hi => (hb.cell (by exact hB)).trans (h i hi)

set_option maxHeartbeats 400000 in
theorem digit_yes (c : Int) (k : Nat) (hk : k < 16) (hc : hexTab.getD k 0 = c) (hn : ∀ j, j < k → hexTab.getD j 0 ≠ c) (w : World) (hT : HasTab w) :
    Calls Tryd.prog 35 #[.int .u8 c] w fun e w' => e = .returned (.tuple #[.int .u8 k, .bool true]) ∧ w' = w := by
  have HC : Hid (hexTab.getD k 0 = c) := hc
  have HN : Hid (∀ j, j < k → hexTab.getD j 0 ≠ c) := hn
  have HT : Hid (HasTab w) := hT
  clear hc hn hT
  go_enter Tryd.func35, Tryd.ntmps35
  go_wp2
  go_loop [5] (fun i => ∃ j : Nat, j ≤ k ∧ i = .int .i64 j) (fun i => 16 - (intOf i).toNat)
  case atStart => exact ⟨0, Nat.zero_le _, rfl⟩
  case round =>
    obtain ⟨j, hj, rfl⟩ := hrel
    have hcell := HT.out j (by omega)
    have hlt : (j : Int) < 16 := by omega
    generalize ht : hexTab.getD j 0 = t at *
    have Ht : Hid (hexTab.getD j 0 = t) := ht
    clear ht
    by_cases he : j = k
    · have hq : (t == c) = true := by rw [beq_iff_eq, ← Ht.out, he, HC.out]
      subst he
      go_wp2
      go_ret2
      exact ⟨rfl, rfl⟩
    · have hq : (t == c) = false := by rw [beq_eq_false_iff_ne, ← Ht.out]; exact HN.out j (by omega)
      go_wp2
      go_round
      case rel => exact ⟨j + 1, by omega, by go_num⟩
      case measure => simp [intOf]; omega
set_option maxHeartbeats 400000 in
theorem digit_no (c : Int) (hn : ∀ j, j < 16 → hexTab.getD j 0 ≠ c) (w : World) (hT : HasTab w) :
    Calls Tryd.prog 35 #[.int .u8 c] w fun e w' => e = .returned (.tuple #[.int .u8 0, .bool false]) ∧ w' = w := by
  have HN : Hid (∀ j, j < 16 → hexTab.getD j 0 ≠ c) := hn
  have HT : Hid (HasTab w) := hT
  clear hn hT
  go_enter Tryd.func35, Tryd.ntmps35
  go_wp2
  go_loop [5] (fun i => ∃ j : Nat, j ≤ 16 ∧ i = .int .i64 j) (fun i => 16 - (intOf i).toNat)
  case atStart => exact ⟨0, Nat.zero_le _, rfl⟩
  case round =>
    obtain ⟨j, hj, rfl⟩ := hrel
    by_cases hlt : j < 16
    · have hcell := HT.out j (by omega)
      generalize ht : hexTab.getD j 0 = t at *
      have Ht : Hid (hexTab.getD j 0 = t) := ht
      clear ht
      have hq : (t == c) = false := by rw [beq_eq_false_iff_ne, ← Ht.out]; exact HN.out j (by omega)
      go_wp2
      go_round
      case rel => exact ⟨j + 1, by omega, by go_num⟩
      case measure => simp [intOf]; omega
    · go_wp2
      go_ret2
      exact ⟨rfl, rfl⟩
end Go.Proofs.YtmgkjojifhchkaaDoor.Val
