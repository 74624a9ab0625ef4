/- The law ValueSums answers true for any two numbers of 64 bits, in a world that holds the table of digits. -/
import Derived.Test.YtmgkjojifhchkaaDoorRefTimes
import Derived.Test.YtmgkjojifhchkaaDoorAwake
namespace Go.Proofs.YtmgkjojifhchkaaDoor.Val
open Go.RowKit

set_option maxHeartbeats 1000000 in
theorem sums_walk (a b : Int) (w : World) (ha : fits a = true) (hb : fits b = true) (hT : HasTab w) (hg : 0 < w.heap.size) :
    Calls Tryd.prog 4 #[.int .i64 a, .int .i64 b] w fun e w' => e = .returned (.bool true) ∧ Below w.heap.size w w' := by
  have HA : Hid (fits a = true) := ha
  have HB : Hid (fits b = true) := hb
  have H0 : Hid _ := awake_any w hT hg
  clear ha hb hT
  go_enter Tryd.func4, Tryd.ntmps4
  go_wp2_with fail
  refine Calls.mono H0.out ?_
  rintro e w1 ⟨rfl, hb1⟩
  go_wp2_with fail
  refine (add_any _ _ _ HA.out HB.out).mono ?_
  rintro e w' ⟨rfl, hw⟩
  obtain rfl := hw.symm
  go_wp2_with fail
  refine (sub_any _ _ _ HA.out HB.out).mono ?_
  rintro e w' ⟨rfl, hw⟩
  obtain rfl := hw.symm
  go_wp2_with fail
  refine (times_any _ _ _ HA.out HB.out).mono ?_
  rintro e w' ⟨rfl, hw⟩
  obtain rfl := hw.symm
  go_wp2_with fail
  refine (radd_any _ _ _ HA.out HB.out).mono ?_
  rintro e w' ⟨rfl, hw⟩
  obtain rfl := hw.symm
  go_wp2_with fail
  refine (rsub_any _ _ _ HA.out HB.out).mono ?_
  rintro e w' ⟨rfl, hw⟩
  obtain rfl := hw.symm
  go_wp2_with fail
  refine (rtimes_any _ _ _ HA.out HB.out).mono ?_
  rintro e w' ⟨rfl, hw⟩
  obtain rfl := hw.symm
  go_wp2
  go_ret
  exact ⟨rfl, hb1⟩
end Go.Proofs.YtmgkjojifhchkaaDoor.Val
