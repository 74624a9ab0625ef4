/- The law's awake answers true. -/
import Derived.Test.YtcobgjgabfdmpaaDoorModeJoin
import Derived.Test.YtcobgjgabfdmpaaDoorModeRef
namespace Go.Proofs.YtcobgjgabfdmpaaDoor.Val
open Go Go.RowKit

theorem awake_any (w : World) (hC : TabC w) (hN : TabN w) : Tells 10 #[] w (.bool true) := by
  have HF : Hid (∀ (a b : Int) (v : Bool) w1, fitsM a b = v → Below w.heap.size w w1 → Tells 11 #[.int .i64 a, .int .i64 b] w1 (.bool v)) := fun a b v w1 h hb => by rw [← h]; exact (fits_any a b w1 (hC.below hb)).tells
  have HC : Hid (∀ (a b : Int) (v : Bool) w1, coversM a b = v → Below w.heap.size w w1 → Tells 13 #[.int .i64 a, .int .i64 b] w1 (.bool v)) := fun a b v w1 h hb => by rw [← h]; exact (covers_any a b w1 (hC.below hb)).tells
  have HJ : Hid (∀ (a b : Int) (v : Int) w1, joinM a b = v → Below w.heap.size w w1 → Tells 15 #[.int .i64 a, .int .i64 b] w1 (.int .i64 v)) := fun a b v w1 h hb => by rw [← h]; exact (join_any a b w1 (hC.below hb)).tells
  have HN : Hid (∀ (a : Int) (v : ByteArray) w1, nameM a = v → Below w.heap.size w w1 → Tells 18 #[.int .i64 a] w1 (.string v)) := fun a v w1 h hb => by rw [← h]; exact (name_any a w1 (hN.below hb)).tells
  have e1 : joinM 3 2 = 4 := by decide +kernel
  have e2 : joinM 5 2 = 4 := by decide +kernel
  have e3 : coversM 4 5 = true := by decide +kernel
  have e4 : coversM 5 2 = false := by decide +kernel
  have e5 : fitsM 5 3 = true := by decide +kernel
  have e6 : nameM 4 = ⟨#[83, 73, 88]⟩ := by rfl
  have HB : Hid (Below w.heap.size w w) := Below.refl _ _
  clear hC hN
  go_enter Tryd.func10, Tryd.ntmps10
  repeat (go_wp2_with fail; (first
        | (go_at_call 11; refine Calls.mono (HF.out _ _ _ _ (by assumption) HB.out) ?_)
        | (go_at_call 13; refine Calls.mono (HC.out _ _ _ _ (by assumption) HB.out) ?_)
        | (go_at_call 15; refine Calls.mono (HJ.out _ _ _ _ (by assumption) HB.out) ?_)
        | (go_at_call 18; refine Calls.mono (HN.out _ _ _ (by assumption) HB.out) ?_)
        | fail); rintro e w1 ⟨rfl, hb⟩; replace HB : Hid (Below w.heap.size w w1) := show Below w.heap.size w w1 from HB.out.trans (hb.mono HB.out.size); clear hb)
  go_wp2_with fail
  go_ret
  exact ⟨rfl, HB.out⟩
end Go.Proofs.YtcobgjgabfdmpaaDoor.Val
