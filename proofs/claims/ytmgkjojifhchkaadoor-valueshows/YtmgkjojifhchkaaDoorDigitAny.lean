/- digit of package value at every byte, in a world that holds the table. -/
import Derived.Test.YtmgkjojifhchkaaDoorDigit
import Derived.Test.YtmgkjojifhchkaaDoorHexPlain
namespace Go.Proofs.YtmgkjojifhchkaaDoor.Val
open Go.RowKit

theorem hexTab_low : ∀ k, k < 10 → hexTab.getD k 0 = 48 + (k : Int) := by decide
theorem hexTab_high : ∀ k, 10 ≤ k → k < 16 → hexTab.getD k 0 = 87 + (k : Int) := by
  intro k h1 h2
  have : k = 10 ∨ k = 11 ∨ k = 12 ∨ k = 13 ∨ k = 14 ∨ k = 15 := by omega
  rcases this with rfl | rfl | rfl | rfl | rfl | rfl <;> rfl
theorem hexTab_rises (j k : Nat) (h : j < k) (hk : k < 16) : hexTab.getD j 0 < hexTab.getD k 0 := by
  by_cases h1 : j < 10 <;> by_cases h2 : k < 10
  · rw [hexTab_low j h1, hexTab_low k h2]; omega
  · rw [hexTab_low j h1, hexTab_high k (by omega) hk]; omega
  · omega
  · rw [hexTab_high j (by omega) (by omega), hexTab_high k (by omega) hk]; omega
theorem hexTab_of {c : UInt8} {k : Nat} (h : hexOf c = some k) : k < 16 ∧ hexTab.getD k 0 = (c.toNat : Int) := by
  refine ⟨hexOf_lt h, ?_⟩
  unfold hexOf at h
  split at h
  · simp only [Option.some.injEq] at h; rw [hexTab_low k (by omega)]; omega
  · split at h
    · simp only [Option.some.injEq] at h; rw [hexTab_high k (by omega) (by omega)]; omega
    · simp at h
theorem hexTab_not {c : UInt8} (h : hexOf c = none) : ∀ j, j < 16 → hexTab.getD j 0 ≠ (c.toNat : Int) := by
  intro j hj e
  unfold hexOf at h
  split at h
  · simp at h
  · split at h
    · simp at h
    · by_cases h1 : j < 10
      · rw [hexTab_low j h1] at e; omega
      · rw [hexTab_high j (by omega) hj] at e; omega

theorem hexd_tab : ∀ n, n < 16 → hexTab.getD n 0 = ((hexd n).toNat : Int) := by decide
theorem tab_hexd {w : World} (hT : HasTab w) (n : Nat) (h : n < 16) : w.cell? ⟨0, n, none⟩ = some (.int .u8 ((hexd n).toNat : Int)) := by
  rw [← hexd_tab n h]; exact hT n h
theorem digit_some (c : UInt8) (k : Nat) (h : hexOf c = some k) (w : World) (hT : HasTab w) :
    Calls Tryd.prog 35 #[.int .u8 (c.toNat : Int)] w fun e w' => e = .returned (.tuple #[.int .u8 k, .bool true]) ∧ w' = w :=
  digit_yes _ k (hexTab_of h).1 (hexTab_of h).2 (fun j hj => by have := hexTab_rises j k hj (hexTab_of h).1; have := (hexTab_of h).2; omega) w hT
theorem digit_none (c : UInt8) (h : hexOf c = none) (w : World) (hT : HasTab w) :
    Calls Tryd.prog 35 #[.int .u8 (c.toNat : Int)] w fun e w' => e = .returned (.tuple #[.int .u8 0, .bool false]) ∧ w' = w :=
  digit_no _ (hexTab_not h) w hT
end Go.Proofs.YtmgkjojifhchkaaDoor.Val
