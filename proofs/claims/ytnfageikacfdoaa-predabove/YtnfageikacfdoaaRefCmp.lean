/- What the reference's Compare and Right answer, for any values. -/
import Derived.Test.YtnfageikacfdoaaRefCmpPlain
import Derived.Test.YtnfageikacfdoaaBare
import Derived.Test.YtnfageikacfdoaaKept
import Derived.Test.YtnfageikacfdoaaByteAt
import Derived.WalkSmall
import Derived.Test.YtnfageikacfdoaaRefRight
import Derived.BigRegion
import Derived.BigQuiet
namespace Go.Proofs.Ytnfageikacfdoaa.Val
open Go.RowKit

set_option maxHeartbeats 400000 in
theorem rcmp_nt (na nb : Int) (sa sb : ByteArray) (w : World) :
    Calls Try.prog 44 #[V false na sa, V true nb sb] w fun e w' => e = .returned (.int .i64 (-1)) ∧ Below w.heap.size w w' := by
  go_enter Try.func44, Try.ntmps44
  go_wp2
  go_ret
  exact ⟨rfl, ((Below.refl _ _).alloc (Nat.le_refl _) _).alloc (by simp) _⟩
set_option maxHeartbeats 400000 in
theorem rcmp_tn (na nb : Int) (sa sb : ByteArray) (w : World) :
    Calls Try.prog 44 #[V true na sa, V false nb sb] w fun e w' => e = .returned (.int .i64 1) ∧ Below w.heap.size w w' := by
  go_enter Try.func44, Try.ntmps44
  go_wp2
  go_ret
  exact ⟨rfl, ((Below.refl _ _).alloc (Nat.le_refl _) _).alloc (by simp) _⟩
set_option maxHeartbeats 400000 in
theorem rcmp_nn (na nb : Int) (sa sb : ByteArray) (w : World) :
    Calls Try.prog 44 #[V false na sa, V false nb sb] w fun e w' => e = .returned (.int .i64 (cmpN na nb)) ∧ Below w.heap.size w w' := by
  by_cases h1 : na < nb
  · go_enter Try.func44, Try.ntmps44
    go_wp2
    go_ret
    exact ⟨ret_int (cmpN_lt (by simp; omega) h1), ((Below.refl _ _).alloc (Nat.le_refl _) _).alloc (by simp) _⟩
  · by_cases h2 : nb < na
    · go_enter Try.func44, Try.ntmps44
      go_wp2
      go_ret
      exact ⟨ret_int (cmpN_gt (by simp; omega) (by omega)), ((Below.refl _ _).alloc (Nat.le_refl _) _).alloc (by simp) _⟩
    · go_enter Try.func44, Try.ntmps44
      go_wp2
      go_ret
      exact ⟨ret_int (cmpN_eq (by simp; omega)), ((Below.refl _ _).alloc (Nat.le_refl _) _).alloc (by simp) _⟩

theorem below2 {w : World} {o1 o2 : Obj} : Below w.heap.size w ((w.alloc o1).alloc o2) := ((Below.refl _ _).alloc (Nat.le_refl _) _).alloc (by simp) _
set_option maxHeartbeats 1000000 in
theorem rcmp_tt (na nb : Int) (sa sb : ByteArray) (w : World) (ha : sa.size ≤ maxLen) (_hb : sb.size ≤ maxLen) :
    Calls Try.prog 44 #[V true na sa, V true nb sb] w fun e w' => e = .returned (.int .i64 (cmpS sa.data.toList sb.data.toList)) ∧ Below w.heap.size w w' := by
  unfold maxLen at ha _hb
  have la : sa.data.toList.length = sa.size := by simp
  have lb : sb.data.toList.length = sb.size := by simp
  have LA : Hid (sa.data.toList.length = sa.size) := la
  have LB : Hid (sb.data.toList.length = sb.size) := lb
  clear la lb
  go_enter Try.func44, Try.ntmps44
  go_wp2
  go_loopw [5] (fun i wr => ∃ k : Nat, k ≤ sa.size ∧ k ≤ sb.size ∧ i = .int .i64 k ∧ Hid (sa.data.toList.take k = sb.data.toList.take k) ∧ Hid (∃ q, wr = ((w.alloc (.cells #[.bool true, .int .i64 na, .string sa] 23)).alloc (.cells #[.bool true, .int .i64 nb, .string sb] 23)).drewN q))
    (fun i _ => sa.size - (intOf i).toNat)
  case atStart => exact ⟨0, Nat.zero_le _, Nat.zero_le _, rfl, rfl, 0, rfl⟩
  case round =>
    obtain ⟨k, hka, hkb, rfl, HT, HW⟩ := hrel
    obtain ⟨q, hq⟩ := HW.out
    subst hq
    by_cases h1 : k < sa.size
    · by_cases h2 : k < sb.size
      · have i0 : (0 : Int) ≤ (k : Int) := by omega
        have i1 : (k : Int) < (sa.size : Int) := by omega
        have i2 : (k : Int) < (sb.size : Int) := by omega
        have e1 : Hid _ := byte_at sa k h1
        have e2 : Hid _ := byte_at sb k h2
        by_cases h3 : sa[k].toNat < sb[k].toNat
        · have HR : Hid (cmpS sa.data.toList sb.data.toList = -1) := cmpS_lt_at HT.out e1.out e2.out (UInt8.lt_iff_toNat_lt.2 h3)
          have j1 : (sa[k].toNat : Int) < (sb[k].toNat : Int) := by omega
          clear HT e1 e2 h3
          go_wp2
          go_quiet (fail)
          go_wp2
          go_ret
          exact ⟨ret_int HR.out.symm, by (repeat (refine below_drewN ?_ _)); exact below2⟩
        · by_cases h4 : sb[k].toNat < sa[k].toNat
          · have HR : Hid (cmpS sa.data.toList sb.data.toList = 1) := cmpS_gt_at HT.out e1.out e2.out (UInt8.lt_iff_toNat_lt.2 h4)
            have j1 : (sb[k].toNat : Int) < (sa[k].toNat : Int) := by omega
            clear HT e1 e2 h3 h4
            go_wp2
            go_quiet (fail)
            go_wp2
            go_quiet (fail)
            go_wp2
            go_ret
            exact ⟨ret_int HR.out.symm, by (repeat (refine below_drewN ?_ _)); exact below2⟩
          · have h5 : sa[k].toNat = sb[k].toNat := by omega
            have h6 : sa[k] = sb[k] := UInt8.toNat_inj.1 h5
            have HN : Hid (sa.data.toList.take (k + 1) = sb.data.toList.take (k + 1)) := take_next HT.out e1.out (e2.out.trans (by rw [h6]))
            have j1 : ¬ (sb[k].toNat : Int) < (sa[k].toNat : Int) := by omega
            have j2 : ¬ (sa[k].toNat : Int) < (sb[k].toNat : Int) := by omega
            clear HT e1 e2 h3 h4 h5 h6
            go_wp2
            go_quiet (fail)
            go_wp2
            go_quiet (fail)
            go_wp2
            go_roundw
            case rel => exact ⟨k + 1, by omega, by omega, by go_num, HN, _, rfl⟩
            case measure => simp [intOf]; omega
      · have HR : Hid (cmpS sa.data.toList sb.data.toList = 1) := cmpS_long HT.out (LB.out.trans (by omega)) (by rw [LA.out]; exact h1)
        have i1 : (k : Int) < (sa.size : Int) := by omega
        have i2 : decide ((k : Int) < (sb.size : Int)) = false := by simp; omega
        have i3 : (sb.size : Int) < (sa.size : Int) := by omega
        clear HT
        go_wp2
        go_ret
        exact ⟨ret_int HR.out.symm, by (repeat (refine below_drewN ?_ _)); exact below2⟩
    · have i1 : decide ((k : Int) < (sa.size : Int)) = false := by simp; omega
      by_cases h2 : k < sb.size
      · have HR : Hid (cmpS sa.data.toList sb.data.toList = -1) := cmpS_short HT.out (LA.out.trans (by omega)) (by rw [LB.out]; exact h2)
        have i3 : (sa.size : Int) < (sb.size : Int) := by omega
        clear HT
        go_wp2
        go_ret
        exact ⟨ret_int HR.out.symm, by (repeat (refine below_drewN ?_ _)); exact below2⟩
      · have HR : Hid (cmpS sa.data.toList sb.data.toList = 0) := cmpS_same HT.out (LA.out.trans (by omega)) (LB.out.trans (by omega))
        have i3 : ¬ (sa.size : Int) < (sb.size : Int) := by omega
        have i4 : ¬ (sb.size : Int) < (sa.size : Int) := by omega
        clear HT
        go_wp2
        go_ret
        exact ⟨ret_int HR.out.symm, by (repeat (refine below_drewN ?_ _)); exact below2⟩
theorem rcmp_any (ta : Bool) (na : Int) (sa : ByteArray) (tb : Bool) (nb : Int) (sb : ByteArray) (w : World) (ha : sa.size ≤ maxLen) (hb : sb.size ≤ maxLen) :
    Calls Try.prog 44 #[V ta na sa, V tb nb sb] w fun e w' => e = .returned (.int .i64 (cmpV ta na sa tb nb sb)) ∧ Below w.heap.size w w' := by
  cases ta <;> cases tb
  · exact rcmp_nn na nb sa sb w
  · exact rcmp_nt na nb sa sb w
  · exact rcmp_tn na nb sa sb w
  · have := rcmp_tt na nb sa sb w ha hb
    rw [← ByteArray.toList_eq, ← ByteArray.toList_eq] at this
    exact this
end Go.Proofs.Ytnfageikacfdoaa.Val
