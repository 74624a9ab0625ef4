/- The laws' live example: awake answers true in a world that holds the table of digits. -/
import Derived.Test.YtmgkjojifhchkaaDoorSums
import Derived.Test.YtmgkjojifhchkaaDoorCmp
import Derived.Test.YtmgkjojifhchkaaDoorShowRead
namespace Go.Proofs.YtmgkjojifhchkaaDoor.Val
open Go.RowKit

theorem az_text : textOf ⟨#[120, 54, 49, 55, 97]⟩ = some [97, 122] := by decide +kernel
theorem az_shown : (⟨(120 :: shex (⟨#[97, 122]⟩ : ByteArray).data.toList).toArray⟩ : ByteArray) = ⟨#[120, 54, 49, 55, 97]⟩ := by decide +kernel
theorem ex_times (w : World) : Calls Tryd.prog 17 #[.int .i64 4611686018427387904, .int .i64 (-2)] w fun e w' => e = .returned (.tuple #[.int .i64 (-9223372036854775808), .bool true]) ∧ w' = w := by
  have t1 := times_any 4611686018427387904 (-2) w (by decide) (by decide)
  rw [show val (4611686018427387904 * -2) = -9223372036854775808 by decide, show fits (4611686018427387904 * -2) = true by decide] at t1
  exact t1
theorem ex_read (w : World) (hT : HasTab w) (hg : 0 < w.heap.size) : Calls Tryd.prog 21 #[.string ⟨#[120, 54, 49, 55, 97]⟩] w fun e w' => e = .returned (.tuple #[V true 0 ⟨#[97, 122]⟩, .int .i64 0]) ∧ Below w.heap.size w w' := by
  have r1 := read_text ⟨#[120, 54, 49, 55, 97]⟩ w hT hg (by decide) (by decide) rfl
  rw [az_text] at r1
  exact r1
theorem ex_show (w : World) (hT : HasTab w) (hg : 0 < w.heap.size) : Calls Tryd.prog 23 #[V true 0 ⟨#[97, 122]⟩] w fun e w' => e = .returned (.string ⟨#[120, 54, 49, 55, 97]⟩) ∧ Below w.heap.size w w' := by
  have r1 := show_text ⟨#[97, 122]⟩ w hT hg (by decide)
  rw [az_shown] at r1
  exact r1
theorem ex_right (w : World) : Calls Tryd.prog 13 #[V true 0 ⟨#[97, 122]⟩] w fun e w' => e = .returned (.bool true) ∧ Below w.heap.size w w' :=
  right_text_yes ⟨#[97, 122]⟩ w (by decide)

theorem kept_more {B : Nat} {w w1 w2 : World} {o : Obj} (h : Below B w w1) (hB : B ≤ w1.heap.size) (h2 : Below (w1.alloc o).heap.size (w1.alloc o) w2) : Below B w w2 :=
  (h.alloc hB _).trans (h2.mono (by simp; omega))

set_option maxHeartbeats 1000000 in
theorem awake_any (w : World) (hT : HasTab w) (hg : 0 < w.heap.size) :
    Calls Tryd.prog 10 #[] w fun e w' => e = .returned (.bool true) ∧ Below w.heap.size w w' := by
  have HT : Hid (HasTab w) := hT
  clear hT
  go_enter Tryd.func10, Tryd.ntmps10
  go_wp2_with fail
  refine (ex_times _).mono ?_
  rintro e w' ⟨rfl, hw⟩
  obtain rfl := hw.symm
  go_wp2_with fail
  refine (ex_read _ HT.out hg).mono ?_
  rintro e w1 ⟨rfl, hb1⟩
  have HB1 : Hid (Below w.heap.size w w1) := hb1
  have hz1 := hb1.size
  clear hb1
  go_wp2_with fail
  refine (ex_show _ (HT.out.below (HB1.out.alloc hz1 _) hg) (Nat.lt_of_lt_of_le hg (by simp; omega))).mono ?_
  rintro e w2 ⟨rfl, hb2⟩
  have HB2 : Hid (Below (w1.heap.size + 1) _ w2) := kept_end hb2
  obtain ⟨⟨c0, c1, c2⟩, -, hz2⟩ := kept1 HB2.out
  clear hb2
  go_wp2_with fail
  refine (cmp_nt _ _ _ _ _).mono ?_
  rintro e w3 ⟨rfl, hb3⟩
  have HB3 : Hid (Below (w1.heap.size + 1) _ w3) := HB2.out.trans (hb3.mono (by omega))
  obtain ⟨⟨d0, d1, d2⟩, -, hz3⟩ := kept1 HB3.out
  clear hb3 c0 c1 c2
  go_wp2_with fail
  refine (ex_right _).mono ?_
  rintro e w4 ⟨rfl, hb4⟩
  have HB4 : Hid (Below (w1.heap.size + 1) _ w4) := HB3.out.trans (hb4.mono (by omega))
  clear hb4
  go_wp2
  go_ret
  exact ⟨rfl, (HB1.out.alloc hz1 _).trans (HB4.out.mono (by omega))⟩
end Go.Proofs.YtmgkjojifhchkaaDoor.Val
