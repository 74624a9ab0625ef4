/- What below, Right and Compare of package value answer, over this seat's translation. No conditions. -/
import Derived.Test.YtfkhfplibhnceaaDoorBare
import Derived.Test.YtfkhfplibhnceaaDoorKept
import Derived.Test.YtfkhfplibhnceaaDoorCmpPlain
import Derived.Deep.RegionHeld3
namespace Go.Proofs.YtfkhfplibhnceaaDoor.Val
open Go.RowKit

theorem below_tt (na nb : Int) (sa sb : ByteArray) (w : World) :
    Calls Tryd.prog 64 #[V true na sa, V true nb sb] w fun e w' => e = .returned (.bool (Op.bytesLess sa.toList sb.toList)) ∧ Below w.heap.size w w' := by
  go_enter Tryd.func64, Tryd.ntmps64
  go_wp2
  go_ret
  exact ⟨rfl, ((Below.refl _ _).alloc (Nat.le_refl _) _).alloc (by simp) _⟩
theorem below_nn (na nb : Int) (sa sb : ByteArray) (w : World) :
    Calls Tryd.prog 64 #[V false na sa, V false nb sb] w fun e w' => e = .returned (.bool (decide (na < nb))) ∧ Below w.heap.size w w' := by
  go_enter Tryd.func64, Tryd.ntmps64
  go_wp2
  go_ret
  exact ⟨rfl, ((Below.refl _ _).alloc (Nat.le_refl _) _).alloc (by simp) _⟩
theorem below_nt (na nb : Int) (sa sb : ByteArray) (w : World) :
    Calls Tryd.prog 64 #[V false na sa, V true nb sb] w fun e w' => e = .returned (.bool true) ∧ Below w.heap.size w w' := by
  go_enter Tryd.func64, Tryd.ntmps64
  go_wp2
  go_ret
  exact ⟨rfl, ((Below.refl _ _).alloc (Nat.le_refl _) _).alloc (by simp) _⟩
theorem below_tn (na nb : Int) (sa sb : ByteArray) (w : World) :
    Calls Tryd.prog 64 #[V true na sa, V false nb sb] w fun e w' => e = .returned (.bool false) ∧ Below w.heap.size w w' := by
  go_enter Tryd.func64, Tryd.ntmps64
  go_wp2
  go_ret
  exact ⟨rfl, ((Below.refl _ _).alloc (Nat.le_refl _) _).alloc (by simp) _⟩

set_option maxHeartbeats 400000 in
theorem cmp_nt (na nb : Int) (sa sb : ByteArray) (w : World) :
    Calls Tryd.prog 56 #[V false na sa, V true nb sb] w fun e w' => e = .returned (.int .i64 (-1)) ∧ Below w.heap.size w w' := by
  go_enter Tryd.func56, Tryd.ntmps56
  go_wp2
  go_region_held3 (fun w' => w'.cell? ⟨w.heap.size, 0, none⟩ = some (.bool false) ∧ w'.cell? ⟨w.heap.size, 1, none⟩ = some (.int .i64 na) ∧ w'.cell? ⟨w.heap.size, 2, none⟩ = some (.string sa) ∧ w'.cell? ⟨w.heap.size + 1, 0, none⟩ = some (.bool true) ∧ w'.cell? ⟨w.heap.size + 1, 1, none⟩ = some (.int .i64 nb) ∧ w'.cell? ⟨w.heap.size + 1, 2, none⟩ = some (.string sb)) (go_keep)
    ((first
    | (go_at_call_of 63 (Value.string sa); refine (bare_number _ _ _).mono ?_; rintro e w1 ⟨rfl, hb1⟩; obtain ⟨hc1, hz1, HB1⟩ := kept2a hb1)
    | (go_at_call_of 63 (Value.string sb); refine (bare_text _ _ _).mono ?_; rintro e w2 ⟨rfl, hb2⟩; have hc2 := kept2b hz1 hc1 hb2)))
  all_goals
    have HX : Hid (Below w.heap.size w w2) := HB1.trans (hb2.mono (by omega))
    have hz2 := hb2.size
    obtain ⟨a0, a1, a2, b0, b1, b2⟩ := hc2
    clear hc1 hb1 hb2 HB1
    go_wp2_with (go_at_call 64; refine (below_nt _ _ _ _ _).mono ?_; rintro e w3 ⟨rfl, hb3⟩)
    go_ret
    exact ⟨rfl, HX.out.trans (hb3.mono (by omega))⟩
set_option maxHeartbeats 400000 in
theorem cmp_tn (na nb : Int) (sa sb : ByteArray) (w : World) :
    Calls Tryd.prog 56 #[V true na sa, V false nb sb] w fun e w' => e = .returned (.int .i64 1) ∧ Below w.heap.size w w' := by
  go_enter Tryd.func56, Tryd.ntmps56
  go_wp2
  go_region_held3 (fun w' => w'.cell? ⟨w.heap.size, 0, none⟩ = some (.bool true) ∧ w'.cell? ⟨w.heap.size, 1, none⟩ = some (.int .i64 na) ∧ w'.cell? ⟨w.heap.size, 2, none⟩ = some (.string sa) ∧ w'.cell? ⟨w.heap.size + 1, 0, none⟩ = some (.bool false) ∧ w'.cell? ⟨w.heap.size + 1, 1, none⟩ = some (.int .i64 nb) ∧ w'.cell? ⟨w.heap.size + 1, 2, none⟩ = some (.string sb)) (go_keep)
    ((first
    | (go_at_call_of 63 (Value.string sa); refine (bare_text _ _ _).mono ?_; rintro e w1 ⟨rfl, hb1⟩; obtain ⟨hc1, hz1, HB1⟩ := kept2a hb1)
    | (go_at_call_of 63 (Value.string sb); refine (bare_number _ _ _).mono ?_; rintro e w2 ⟨rfl, hb2⟩; have hc2 := kept2b hz1 hc1 hb2)))
  all_goals
    have HX : Hid (Below w.heap.size w w2) := HB1.trans (hb2.mono (by omega))
    have hz2 := hb2.size
    obtain ⟨a0, a1, a2, b0, b1, b2⟩ := hc2
    clear hc1 hb1 hb2 HB1
    go_wp2_with (go_at_call 64; refine (below_tn _ _ _ _ _).mono ?_; rintro e w3 ⟨rfl, hb3⟩)
    go_ret
    exact ⟨rfl, HX.out.trans (hb3.mono (by omega))⟩
set_option maxHeartbeats 400000 in
theorem cmp_nn_eq (na nb : Int) (sa sb : ByteArray) (w : World) (h : (na == nb) = true) :
    Calls Tryd.prog 56 #[V false na sa, V false nb sb] w fun e w' => e = .returned (.int .i64 (cmpN na nb)) ∧ Below w.heap.size w w' := by
  go_enter Tryd.func56, Tryd.ntmps56
  go_wp2
  go_region_held3 (fun w' => w'.cell? ⟨w.heap.size, 0, none⟩ = some (.bool false) ∧ w'.cell? ⟨w.heap.size, 1, none⟩ = some (.int .i64 na) ∧ w'.cell? ⟨w.heap.size, 2, none⟩ = some (.string sa) ∧ w'.cell? ⟨w.heap.size + 1, 0, none⟩ = some (.bool false) ∧ w'.cell? ⟨w.heap.size + 1, 1, none⟩ = some (.int .i64 nb) ∧ w'.cell? ⟨w.heap.size + 1, 2, none⟩ = some (.string sb)) (go_keep)
    ((first
    | (go_at_call_of 63 (Value.string sa); refine (bare_number _ _ _).mono ?_; rintro e w1 ⟨rfl, hb1⟩; obtain ⟨hc1, hz1, HB1⟩ := kept2a hb1)
    | (go_at_call_of 63 (Value.string sb); refine (bare_number _ _ _).mono ?_; rintro e w2 ⟨rfl, hb2⟩; have hc2 := kept2b hz1 hc1 hb2)))
  all_goals
    have HX : Hid (Below w.heap.size w w2) := HB1.trans (hb2.mono (by omega))
    have hz2 := hb2.size
    obtain ⟨a0, a1, a2, b0, b1, b2⟩ := hc2
    clear hc1 hb1 hb2 HB1
    go_wp2_with (go_at_call 64; refine (below_nn _ _ _ _ _).mono ?_; rintro e w3 ⟨rfl, hb3⟩)
    go_ret
    exact ⟨ret_int (cmpN_eq h), HX.out⟩
set_option maxHeartbeats 400000 in
theorem cmp_tt_eq (na nb : Int) (sa sb : ByteArray) (w : World) (h : (sa.toList == sb.toList) = true) :
    Calls Tryd.prog 56 #[V true na sa, V true nb sb] w fun e w' => e = .returned (.int .i64 (cmpS sa.toList sb.toList)) ∧ Below w.heap.size w w' := by
  go_enter Tryd.func56, Tryd.ntmps56
  go_wp2
  go_region_held3 (fun w' => w'.cell? ⟨w.heap.size, 0, none⟩ = some (.bool true) ∧ w'.cell? ⟨w.heap.size, 1, none⟩ = some (.int .i64 na) ∧ w'.cell? ⟨w.heap.size, 2, none⟩ = some (.string sa) ∧ w'.cell? ⟨w.heap.size + 1, 0, none⟩ = some (.bool true) ∧ w'.cell? ⟨w.heap.size + 1, 1, none⟩ = some (.int .i64 nb) ∧ w'.cell? ⟨w.heap.size + 1, 2, none⟩ = some (.string sb)) (go_keep)
    ((first
    | (go_at_call_of 63 (Value.string sa); refine (bare_text _ _ _).mono ?_; rintro e w1 ⟨rfl, hb1⟩; obtain ⟨hc1, hz1, HB1⟩ := kept2a hb1)
    | (go_at_call_of 63 (Value.string sb); refine (bare_text _ _ _).mono ?_; rintro e w2 ⟨rfl, hb2⟩; have hc2 := kept2b hz1 hc1 hb2)))
  all_goals
    have HX : Hid (Below w.heap.size w w2) := HB1.trans (hb2.mono (by omega))
    have hz2 := hb2.size
    obtain ⟨a0, a1, a2, b0, b1, b2⟩ := hc2
    clear hc1 hb1 hb2 HB1
    go_wp2_with (go_at_call 64; refine (below_tt _ _ _ _ _).mono ?_; rintro e w3 ⟨rfl, hb3⟩)
    go_ret
    exact ⟨ret_int (cmpS_eq h), HX.out⟩
set_option maxHeartbeats 400000 in
theorem cmp_nn_ne (na nb : Int) (sa sb : ByteArray) (w : World) (h : (na == nb) = false) :
    Calls Tryd.prog 56 #[V false na sa, V false nb sb] w fun e w' => e = .returned (.int .i64 (cmpN na nb)) ∧ Below w.heap.size w w' := by
  go_enter Tryd.func56, Tryd.ntmps56
  go_wp2
  go_region_held3 (fun w' => w'.cell? ⟨w.heap.size, 0, none⟩ = some (.bool false) ∧ w'.cell? ⟨w.heap.size, 1, none⟩ = some (.int .i64 na) ∧ w'.cell? ⟨w.heap.size, 2, none⟩ = some (.string sa) ∧ w'.cell? ⟨w.heap.size + 1, 0, none⟩ = some (.bool false) ∧ w'.cell? ⟨w.heap.size + 1, 1, none⟩ = some (.int .i64 nb) ∧ w'.cell? ⟨w.heap.size + 1, 2, none⟩ = some (.string sb)) (go_keep)
    ((first
    | (go_at_call_of 63 (Value.string sa); refine (bare_number _ _ _).mono ?_; rintro e w1 ⟨rfl, hb1⟩; obtain ⟨hc1, hz1, HB1⟩ := kept2a hb1)
    | (go_at_call_of 63 (Value.string sb); refine (bare_number _ _ _).mono ?_; rintro e w2 ⟨rfl, hb2⟩; have hc2 := kept2b hz1 hc1 hb2)))
  all_goals
    have HX : Hid (Below w.heap.size w w2) := HB1.trans (hb2.mono (by omega))
    have hz2 := hb2.size
    obtain ⟨a0, a1, a2, b0, b1, b2⟩ := hc2
    clear hc1 hb1 hb2 HB1
    go_wp2_with (go_at_call 64; refine (below_nn _ _ _ _ _).mono ?_; rintro e w3 ⟨rfl, hb3⟩)
    · go_ret
      exact ⟨ret_int (cmpN_lt h (by assumption)), HX.out.trans (hb3.mono (by omega))⟩
    · go_ret
      exact ⟨ret_int (cmpN_gt h (by assumption)), HX.out.trans (hb3.mono (by omega))⟩
set_option maxHeartbeats 400000 in
theorem cmp_tt_ne (na nb : Int) (sa sb : ByteArray) (w : World) (h : (sa.toList == sb.toList) = false) :
    Calls Tryd.prog 56 #[V true na sa, V true nb sb] w fun e w' => e = .returned (.int .i64 (cmpS sa.toList sb.toList)) ∧ Below w.heap.size w w' := by
  go_enter Tryd.func56, Tryd.ntmps56
  go_wp2
  go_region_held3 (fun w' => w'.cell? ⟨w.heap.size, 0, none⟩ = some (.bool true) ∧ w'.cell? ⟨w.heap.size, 1, none⟩ = some (.int .i64 na) ∧ w'.cell? ⟨w.heap.size, 2, none⟩ = some (.string sa) ∧ w'.cell? ⟨w.heap.size + 1, 0, none⟩ = some (.bool true) ∧ w'.cell? ⟨w.heap.size + 1, 1, none⟩ = some (.int .i64 nb) ∧ w'.cell? ⟨w.heap.size + 1, 2, none⟩ = some (.string sb)) (go_keep)
    ((first
    | (go_at_call_of 63 (Value.string sa); refine (bare_text _ _ _).mono ?_; rintro e w1 ⟨rfl, hb1⟩; obtain ⟨hc1, hz1, HB1⟩ := kept2a hb1)
    | (go_at_call_of 63 (Value.string sb); refine (bare_text _ _ _).mono ?_; rintro e w2 ⟨rfl, hb2⟩; have hc2 := kept2b hz1 hc1 hb2)))
  all_goals
    have HX : Hid (Below w.heap.size w w2) := HB1.trans (hb2.mono (by omega))
    have hz2 := hb2.size
    obtain ⟨a0, a1, a2, b0, b1, b2⟩ := hc2
    clear hc1 hb1 hb2 HB1
    go_wp2_with (go_at_call 64; refine (below_tt _ _ _ _ _).mono ?_; rintro e w3 ⟨rfl, hb3⟩)
    · go_ret
      exact ⟨ret_int (cmpS_lt h (by assumption)), HX.out.trans (hb3.mono (by omega))⟩
    · go_ret
      exact ⟨ret_int (cmpS_gt h (by assumption)), HX.out.trans (hb3.mono (by omega))⟩
/-- Compare, for any two values. -/
theorem cmp_any (ta : Bool) (na : Int) (sa : ByteArray) (tb : Bool) (nb : Int) (sb : ByteArray) (w : World) :
    Calls Tryd.prog 56 #[V ta na sa, V tb nb sb] w fun e w' => e = .returned (.int .i64 (cmpV ta na sa tb nb sb)) ∧ Below w.heap.size w w' := by
  cases ta <;> cases tb
  · cases h : (na == nb)
    · exact cmp_nn_ne _ _ _ _ _ h
    · exact cmp_nn_eq _ _ _ _ _ h
  · exact cmp_nt _ _ _ _ _
  · exact cmp_tn _ _ _ _ _
  · cases h : (sa.toList == sb.toList)
    · exact cmp_tt_ne _ _ _ _ _ h
    · exact cmp_tt_eq _ _ _ _ _ h
end Go.Proofs.YtfkhfplibhnceaaDoor.Val
