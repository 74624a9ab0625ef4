/- What Right of package value answers, for any value. -/
import Derived.Test.YtfkhfplibhnceaaDoorBare
import Derived.Test.YtfkhfplibhnceaaDoorKept
import Derived.Deep.RegionHeld3
namespace Go.Proofs.YtfkhfplibhnceaaDoor.Val
open Go.RowKit

set_option maxHeartbeats 400000 in
theorem right_text_yes (s : ByteArray) (w : World) (hs : s.size ≤ maxLen) :
    Calls Tryd.prog 71 #[V true 0 s] w fun e w' => e = .returned (.bool (decide (s.size ≤ 12))) ∧ Below w.heap.size w w' := by
  unfold maxLen at hs
  go_enter Tryd.func71, Tryd.ntmps71
  go_wp2
  go_region_held3 (fun w' => w'.cell? ⟨w.heap.size, 0, none⟩ = some (.bool true) ∧ w'.cell? ⟨w.heap.size, 1, none⟩ = some (.int .i64 0) ∧ w'.cell? ⟨w.heap.size, 2, none⟩ = some (.string s)) (go_keep)
    ((go_at_call 63; refine (bare_text _ _ _).mono ?_; rintro e w1 ⟨rfl, hb1⟩; obtain ⟨⟨c0, c1, c2⟩, hz, hb⟩ := kept1d hb1))
  go_wp2
  go_ret
  exact ⟨by simp; omega, hb⟩
set_option maxHeartbeats 400000 in
theorem right_text_no (n : Int) (s : ByteArray) (w : World) (h : (n == 0) = false) :
    Calls Tryd.prog 71 #[V true n s] w fun e w' => e = .returned (.bool false) ∧ Below w.heap.size w w' := by
  go_enter Tryd.func71, Tryd.ntmps71
  go_wp2
  first | go_region_with (go_at_call 63; refine (bare_text _ _ _).mono ?_; rintro e w1 ⟨rfl, hb1⟩; obtain ⟨⟨c0, c1, c2⟩, hz, hb⟩ := kept1d hb1) | fail
  all_goals
    go_wp2
    go_ret
    exact ⟨rfl, hb⟩
set_option maxHeartbeats 400000 in
theorem right_number_yes (n : Int) (w : World) :
    Calls Tryd.prog 71 #[V false n ⟨#[]⟩] w fun e w' => e = .returned (.bool true) ∧ Below w.heap.size w w' := by
  go_enter Tryd.func71, Tryd.ntmps71
  go_wp2
  go_region_held3 (fun w' => w'.cell? ⟨w.heap.size, 0, none⟩ = some (.bool false) ∧ w'.cell? ⟨w.heap.size, 1, none⟩ = some (.int .i64 n) ∧ w'.cell? ⟨w.heap.size, 2, none⟩ = some (.string ⟨#[]⟩)) (go_keep)
    ((go_at_call 63; refine (bare_number _ _ _).mono ?_; rintro e w1 ⟨rfl, hb1⟩; obtain ⟨⟨c0, c1, c2⟩, hz, hb⟩ := kept1d hb1))
  go_wp2
  go_ret
  exact ⟨rfl, hb⟩
set_option maxHeartbeats 400000 in
theorem right_number_no (n : Int) (s : ByteArray) (w : World) (h : s.toList.isEmpty = false) :
    Calls Tryd.prog 71 #[V false n s] w fun e w' => e = .returned (.bool false) ∧ Below w.heap.size w w' := by
  go_enter Tryd.func71, Tryd.ntmps71
  go_wp2
  first | go_region_with (go_at_call 63; refine (bare_number _ _ _).mono ?_; rintro e w1 ⟨rfl, hb1⟩; obtain ⟨⟨c0, c1, c2⟩, hz, hb⟩ := kept1d hb1) | fail
  all_goals
    go_wp2
    go_ret
    exact ⟨rfl, hb⟩
end Go.Proofs.YtfkhfplibhnceaaDoor.Val
