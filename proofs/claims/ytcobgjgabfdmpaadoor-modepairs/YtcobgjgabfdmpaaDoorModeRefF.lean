/- What the document's Fits of modes answers, of modes. -/
import Derived.Test.YtcobgjgabfdmpaaDoorModeRef
namespace Go.Proofs.YtcobgjgabfdmpaaDoor.Val
open Go Go.RowKit

set_option maxHeartbeats 4000000 in
theorem rfits_in (k j : Nat) (hk : k < 7) (hj : j < 7) (w : World) : Tells 12 #[.int .i64 (k : Int), .int .i64 (j : Int)] w (.bool (fitsN k j)) := by
  obtain rfl | rfl | rfl | rfl | rfl | rfl | rfl : k = 0 ∨ k = 1 ∨ k = 2 ∨ k = 3 ∨ k = 4 ∨ k = 5 ∨ k = 6 := by omega
  all_goals obtain rfl | rfl | rfl | rfl | rfl | rfl | rfl : j = 0 ∨ j = 1 ∨ j = 2 ∨ j = 3 ∨ j = 4 ∨ j = 5 ∨ j = 6 := by omega
  all_goals
    go_enter Tryd.func12, Tryd.ntmps12
    go_wp2_with fail
    go_ret
    first
      | exact ⟨rfl, Below.refl _ _⟩
      | exact ⟨rfl, (Below.refl _ _).alloc (Nat.le_refl _) _⟩
      | fail
end Go.Proofs.YtcobgjgabfdmpaaDoor.Val
