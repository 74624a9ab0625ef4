/- The law ValueBack answers true for any two values, in a world that holds what the rows list. -/
import Derived.Test.YtmgkjojifhchkaaDoorReadAny
import Derived.Test.YtmgkjojifhchkaaDoorAwake
import Derived.Test.YtmgkjojifhchkaaDoorKept2
import Derived.Lib.ItoaLen
import Derived.Lib.Strings
namespace Go.Proofs.YtmgkjojifhchkaaDoor.Val
open Go.RowKit

set_option maxHeartbeats 1000000 in
theorem back_long1 (ta : Bool) (na : Int) (sa : ByteArray) (tb : Bool) (nb : Int) (sb : ByteArray) (w : World) (hs : sa.size ≤ maxLen) (hl : 1000 < sa.size) (E : Env w) :
    Calls Tryd.prog 7 #[V ta na sa, V tb nb sb] w fun e w' => e = .returned (.bool true) ∧ Below w.heap.size w w' := by
  unfold maxLen at hs
  have H0 : Hid (∀ w1 : World, Below w.heap.size w w1 → Calls Tryd.prog 10 #[] w1 fun e w' => e = .returned (.bool true) ∧ Below w1.heap.size w1 w') := fun w1 hb => awake_any w1 (E.below hb (Nat.le_refl _)).tab (E.below hb (Nat.le_refl _)).lt
  clear E
  go_enter Tryd.func7, Tryd.ntmps7
  go_wp2_with fail
  refine Calls.mono (H0.out _ (((Below.refl _ _).alloc (Nat.le_refl _) _).alloc (by simp) _)) ?_
  rintro e w1 ⟨rfl, hb⟩
  obtain ⟨hc1, hz1, hb1⟩ := kept2c hb
  have HB1 : Hid (Below w.heap.size w w1) := hb1
  clear hb H0 hb1
  obtain ⟨a0, a1, a2, b0, b1, b2⟩ := hc1
  go_wp2
  go_ret
  exact ⟨rfl, HB1.out⟩
set_option maxHeartbeats 1000000 in
theorem back_long2 (ta : Bool) (na : Int) (sa : ByteArray) (tb : Bool) (nb : Int) (sb : ByteArray) (w : World) (hs : sb.size ≤ maxLen) (la : sa.size ≤ 1000) (hl : 1000 < sb.size) (E : Env w) :
    Calls Tryd.prog 7 #[V ta na sa, V tb nb sb] w fun e w' => e = .returned (.bool true) ∧ Below w.heap.size w w' := by
  unfold maxLen at hs
  have H0 : Hid (∀ w1 : World, Below w.heap.size w w1 → Calls Tryd.prog 10 #[] w1 fun e w' => e = .returned (.bool true) ∧ Below w1.heap.size w1 w') := fun w1 hb => awake_any w1 (E.below hb (Nat.le_refl _)).tab (E.below hb (Nat.le_refl _)).lt
  clear E
  go_enter Tryd.func7, Tryd.ntmps7
  go_wp2_with fail
  refine Calls.mono (H0.out _ (((Below.refl _ _).alloc (Nat.le_refl _) _).alloc (by simp) _)) ?_
  rintro e w1 ⟨rfl, hb⟩
  obtain ⟨hc1, hz1, hb1⟩ := kept2c hb
  have HB1 : Hid (Below w.heap.size w w1) := hb1
  clear hb H0 hb1
  obtain ⟨a0, a1, a2, b0, b1, b2⟩ := hc1
  go_wp2
  go_ret
  exact ⟨rfl, HB1.out⟩
set_option maxHeartbeats 1000000 in
theorem back_wrong (ta : Bool) (na : Int) (sa : ByteArray) (tb : Bool) (nb : Int) (sb : ByteArray) (w : World) (q : ByteArray) (la : sa.size ≤ 1000) (lb : sb.size ≤ 1000) (E : Env w) (hq : q.toList.isEmpty = true)
    (hS : ∀ w1 : World, Env w1 → Calls Tryd.prog 23 #[V ta na sa] w1 fun e w' => e = .returned (.string q) ∧ Below w1.heap.size w1 w')
    (hR : ∀ w1 : World, Env w1 → Calls Tryd.prog 21 #[.string q] w1 fun e w' => e = .returned (.tuple #[V false 0 ⟨#[]⟩, .int .i64 10]) ∧ Below w1.heap.size w1 w')
    (hT : ∀ w1 : World, Calls Tryd.prog 13 #[V ta na sa] w1 fun e w' => e = .returned (.bool false) ∧ Below w1.heap.size w1 w') :
    Calls Tryd.prog 7 #[V ta na sa, V tb nb sb] w fun e w' => e = .returned (.bool true) ∧ Below w.heap.size w w' := by
  have d1 : decide (1000 < (sa.size : Int)) = false := by simp; omega
  have d2 : decide (1000 < (sb.size : Int)) = false := by simp; omega
  have H0 : Hid (∀ w1 : World, Below w.heap.size w w1 → Calls Tryd.prog 10 #[] w1 fun e w' => e = .returned (.bool true) ∧ Below w1.heap.size w1 w') := fun w1 hb => awake_any w1 (E.below hb (Nat.le_refl _)).tab (E.below hb (Nat.le_refl _)).lt
  have HS : Hid (∀ w1 : World, Below w.heap.size w w1 → Calls Tryd.prog 23 #[V ta na sa] w1 fun e w' => e = .returned (.string q) ∧ Below w1.heap.size w1 w') := fun w1 hb => hS w1 (E.below hb (Nat.le_refl _))
  have HR : Hid (∀ w1 : World, Below w.heap.size w w1 → Calls Tryd.prog 21 #[.string q] w1 fun e w' => e = .returned (.tuple #[V false 0 ⟨#[]⟩, .int .i64 10]) ∧ Below w1.heap.size w1 w') := fun w1 hb => hR w1 (E.below hb (Nat.le_refl _))
  have HT : Hid (∀ w1 : World, Calls Tryd.prog 13 #[V ta na sa] w1 fun e w' => e = .returned (.bool false) ∧ Below w1.heap.size w1 w') := hT
  clear E la lb hS hR hT
  go_enter Tryd.func7, Tryd.ntmps7
  go_wp2_with fail
  refine Calls.mono (H0.out _ (((Below.refl _ _).alloc (Nat.le_refl _) _).alloc (by simp) _)) ?_
  rintro e w1 ⟨rfl, hb⟩
  obtain ⟨hc1, hz1, hb1⟩ := kept2c hb
  have HB1 : Hid (Below w.heap.size w w1) := hb1
  clear hb H0 hb1
  go_wp2_with fail
  refine Calls.mono (HS.out _ HB1.out) ?_
  rintro e w2 ⟨rfl, hb⟩
  have hc2 := kept2b hz1 hc1 hb
  obtain ⟨hz2, hb2⟩ := next2 hz1 HB1.out (Nat.le_refl _) hb
  have HB2 : Hid (Below w.heap.size w w2) := hb2
  clear hb hb2 hc1
  go_wp2_with fail
  refine Calls.mono (HR.out _ HB2.out) ?_
  rintro e w3 ⟨rfl, hb⟩
  have hc3 := kept2b hz2 hc2 hb
  obtain ⟨hz3, hb2⟩ := next2 hz2 HB2.out (Nat.le_refl _) hb
  have HB3 : Hid (Below w.heap.size w w3) := hb2
  clear hb hb2 hc2
  have hz3a : w.heap.size < w3.heap.size := by omega
  go_wp2_with fail
  refine Calls.mono (HT.out _) ?_
  rintro e w4 ⟨rfl, hb⟩
  obtain ⟨⟨v0, v1, v2⟩, -, hzv⟩ := kept1 (kept_end hb)
  have hb3 : Below w3.heap.size w3 w4 := ((Below.refl _ _).alloc (Nat.le_refl _) _).trans (hb.mono (by simp))
  have hc4 := kept2b hz3 hc3 hb3
  obtain ⟨hz4, hb2⟩ := next2 hz3 HB3.out (Nat.le_refl _) hb3
  have HB4 : Hid (Below w.heap.size w w4) := hb2
  clear hb hb2 hb3 hc3
  go_wp2
  go_ret
  exact ⟨rfl, HB4.out⟩
set_option maxHeartbeats 1000000 in
theorem back_other (ta : Bool) (na : Int) (sa : ByteArray) (tb : Bool) (nb : Int) (sb : ByteArray) (w : World) (q : ByteArray) (la : sa.size ≤ 1000) (lb : sb.size ≤ 1000) (E : Env w) (r : ByteArray) (hX : ∀ w1 : World, Env w1 → Calls Tryd.prog 23 #[V tb nb sb] w1 fun e w' => e = .returned (.string r) ∧ Below w1.heap.size w1 w') (hr : (r.toList == q.toList) = false)
    (hS : ∀ w1 : World, Env w1 → Calls Tryd.prog 23 #[V ta na sa] w1 fun e w' => e = .returned (.string q) ∧ Below w1.heap.size w1 w')
    (hR : ∀ w1 : World, Env w1 → Calls Tryd.prog 21 #[.string q] w1 fun e w' => e = .returned (.tuple #[V ta na sa, .int .i64 0]) ∧ Below w1.heap.size w1 w')
    (hT : ∀ w1 : World, Calls Tryd.prog 13 #[V ta na sa] w1 fun e w' => e = .returned (.bool true) ∧ Below w1.heap.size w1 w') :
    Calls Tryd.prog 7 #[V ta na sa, V tb nb sb] w fun e w' => e = .returned (.bool true) ∧ Below w.heap.size w w' := by
  have d1 : decide (1000 < (sa.size : Int)) = false := by simp; omega
  have d2 : decide (1000 < (sb.size : Int)) = false := by simp; omega
  have H0 : Hid (∀ w1 : World, Below w.heap.size w w1 → Calls Tryd.prog 10 #[] w1 fun e w' => e = .returned (.bool true) ∧ Below w1.heap.size w1 w') := fun w1 hb => awake_any w1 (E.below hb (Nat.le_refl _)).tab (E.below hb (Nat.le_refl _)).lt
  have HS : Hid (∀ w1 : World, Below w.heap.size w w1 → Calls Tryd.prog 23 #[V ta na sa] w1 fun e w' => e = .returned (.string q) ∧ Below w1.heap.size w1 w') := fun w1 hb => hS w1 (E.below hb (Nat.le_refl _))
  have HR : Hid (∀ w1 : World, Below w.heap.size w w1 → Calls Tryd.prog 21 #[.string q] w1 fun e w' => e = .returned (.tuple #[V ta na sa, .int .i64 0]) ∧ Below w1.heap.size w1 w') := fun w1 hb => hR w1 (E.below hb (Nat.le_refl _))
  have HT : Hid (∀ w1 : World, Calls Tryd.prog 13 #[V ta na sa] w1 fun e w' => e = .returned (.bool true) ∧ Below w1.heap.size w1 w') := hT
  have HX : Hid (∀ w1 : World, Below w.heap.size w w1 → Calls Tryd.prog 23 #[V tb nb sb] w1 fun e w' => e = .returned (.string r) ∧ Below w1.heap.size w1 w') := fun w1 hb => hX w1 (E.below hb (Nat.le_refl _))
  clear hX
  clear E la lb hS hR hT
  go_enter Tryd.func7, Tryd.ntmps7
  go_wp2_with fail
  refine Calls.mono (H0.out _ (((Below.refl _ _).alloc (Nat.le_refl _) _).alloc (by simp) _)) ?_
  rintro e w1 ⟨rfl, hb⟩
  obtain ⟨hc1, hz1, hb1⟩ := kept2c hb
  have HB1 : Hid (Below w.heap.size w w1) := hb1
  clear hb H0 hb1
  go_wp2_with fail
  refine Calls.mono (HS.out _ HB1.out) ?_
  rintro e w2 ⟨rfl, hb⟩
  have hc2 := kept2b hz1 hc1 hb
  obtain ⟨hz2, hb2⟩ := next2 hz1 HB1.out (Nat.le_refl _) hb
  have HB2 : Hid (Below w.heap.size w w2) := hb2
  clear hb hb2 hc1
  go_wp2_with fail
  refine Calls.mono (HR.out _ HB2.out) ?_
  rintro e w3 ⟨rfl, hb⟩
  have hc3 := kept2b hz2 hc2 hb
  obtain ⟨hz3, hb2⟩ := next2 hz2 HB2.out (Nat.le_refl _) hb
  have HB3 : Hid (Below w.heap.size w w3) := hb2
  clear hb hb2 hc2
  have hz3a : w.heap.size < w3.heap.size := by omega
  go_wp2_with fail
  refine Calls.mono (HT.out _) ?_
  rintro e w4 ⟨rfl, hb⟩
  obtain ⟨⟨v0, v1, v2⟩, -, hzv⟩ := kept1 (kept_end hb)
  have hb3 : Below w3.heap.size w3 w4 := ((Below.refl _ _).alloc (Nat.le_refl _) _).trans (hb.mono (by simp))
  have hc4 := kept2b hz3 hc3 hb3
  obtain ⟨hz4, hb2⟩ := next2 hz3 HB3.out (Nat.le_refl _) hb3
  have HB4 : Hid (Below w.heap.size w w4) := hb2
  clear hb hb2 hb3 hc3
  go_wp2_with fail
  refine Calls.mono (HX.out _ HB4.out) ?_
  rintro e w5 ⟨rfl, hb⟩
  have hc5 := kept2b hz4 hc4 hb
  obtain ⟨hz5, hb2⟩ := next2 hz4 HB4.out (Nat.le_refl _) hb
  have HB5 : Hid (Below w.heap.size w w5) := hb2
  clear hb hb2 hc4
  go_wp2
  go_ret
  exact ⟨rfl, HB5.out⟩
set_option maxHeartbeats 1000000 in
theorem back_same (ta : Bool) (na : Int) (sa : ByteArray) (tb : Bool) (nb : Int) (sb : ByteArray) (w : World) (q : ByteArray) (la : sa.size ≤ 1000) (lb : sb.size ≤ 1000) (E : Env w) (r : ByteArray) (hX : ∀ w1 : World, Env w1 → Calls Tryd.prog 23 #[V tb nb sb] w1 fun e w' => e = .returned (.string r) ∧ Below w1.heap.size w1 w') (hr : (r.toList == q.toList) = true) (et : (ta == tb) = true) (en : (na == nb) = true) (es : (sa.toList == sb.toList) = true)
    (hS : ∀ w1 : World, Env w1 → Calls Tryd.prog 23 #[V ta na sa] w1 fun e w' => e = .returned (.string q) ∧ Below w1.heap.size w1 w')
    (hR : ∀ w1 : World, Env w1 → Calls Tryd.prog 21 #[.string q] w1 fun e w' => e = .returned (.tuple #[V ta na sa, .int .i64 0]) ∧ Below w1.heap.size w1 w')
    (hT : ∀ w1 : World, Calls Tryd.prog 13 #[V ta na sa] w1 fun e w' => e = .returned (.bool true) ∧ Below w1.heap.size w1 w') :
    Calls Tryd.prog 7 #[V ta na sa, V tb nb sb] w fun e w' => e = .returned (.bool true) ∧ Below w.heap.size w w' := by
  have d1 : decide (1000 < (sa.size : Int)) = false := by simp; omega
  have d2 : decide (1000 < (sb.size : Int)) = false := by simp; omega
  have H0 : Hid (∀ w1 : World, Below w.heap.size w w1 → Calls Tryd.prog 10 #[] w1 fun e w' => e = .returned (.bool true) ∧ Below w1.heap.size w1 w') := fun w1 hb => awake_any w1 (E.below hb (Nat.le_refl _)).tab (E.below hb (Nat.le_refl _)).lt
  have HS : Hid (∀ w1 : World, Below w.heap.size w w1 → Calls Tryd.prog 23 #[V ta na sa] w1 fun e w' => e = .returned (.string q) ∧ Below w1.heap.size w1 w') := fun w1 hb => hS w1 (E.below hb (Nat.le_refl _))
  have HR : Hid (∀ w1 : World, Below w.heap.size w w1 → Calls Tryd.prog 21 #[.string q] w1 fun e w' => e = .returned (.tuple #[V ta na sa, .int .i64 0]) ∧ Below w1.heap.size w1 w') := fun w1 hb => hR w1 (E.below hb (Nat.le_refl _))
  have HT : Hid (∀ w1 : World, Calls Tryd.prog 13 #[V ta na sa] w1 fun e w' => e = .returned (.bool true) ∧ Below w1.heap.size w1 w') := hT
  have HX : Hid (∀ w1 : World, Below w.heap.size w w1 → Calls Tryd.prog 23 #[V tb nb sb] w1 fun e w' => e = .returned (.string r) ∧ Below w1.heap.size w1 w') := fun w1 hb => hX w1 (E.below hb (Nat.le_refl _))
  clear hX
  clear E la lb hS hR hT
  go_enter Tryd.func7, Tryd.ntmps7
  go_wp2_with fail
  refine Calls.mono (H0.out _ (((Below.refl _ _).alloc (Nat.le_refl _) _).alloc (by simp) _)) ?_
  rintro e w1 ⟨rfl, hb⟩
  obtain ⟨hc1, hz1, hb1⟩ := kept2c hb
  have HB1 : Hid (Below w.heap.size w w1) := hb1
  clear hb H0 hb1
  go_wp2_with fail
  refine Calls.mono (HS.out _ HB1.out) ?_
  rintro e w2 ⟨rfl, hb⟩
  have hc2 := kept2b hz1 hc1 hb
  obtain ⟨hz2, hb2⟩ := next2 hz1 HB1.out (Nat.le_refl _) hb
  have HB2 : Hid (Below w.heap.size w w2) := hb2
  clear hb hb2 hc1
  go_wp2_with fail
  refine Calls.mono (HR.out _ HB2.out) ?_
  rintro e w3 ⟨rfl, hb⟩
  have hc3 := kept2b hz2 hc2 hb
  obtain ⟨hz3, hb2⟩ := next2 hz2 HB2.out (Nat.le_refl _) hb
  have HB3 : Hid (Below w.heap.size w w3) := hb2
  clear hb hb2 hc2
  have hz3a : w.heap.size < w3.heap.size := by omega
  go_wp2_with fail
  refine Calls.mono (HT.out _) ?_
  rintro e w4 ⟨rfl, hb⟩
  obtain ⟨⟨v0, v1, v2⟩, -, hzv⟩ := kept1 (kept_end hb)
  have hb3 : Below w3.heap.size w3 w4 := ((Below.refl _ _).alloc (Nat.le_refl _) _).trans (hb.mono (by simp))
  have hc4 := kept2b hz3 hc3 hb3
  obtain ⟨hz4, hb2⟩ := next2 hz3 HB3.out (Nat.le_refl _) hb3
  have HB4 : Hid (Below w.heap.size w w4) := hb2
  clear hb hb2 hb3 hc3
  go_wp2_with fail
  refine Calls.mono (HX.out _ HB4.out) ?_
  rintro e w5 ⟨rfl, hb⟩
  have hc5 := kept2b hz4 hc4 hb
  obtain ⟨hz5, hb2⟩ := next2 hz4 HB4.out (Nat.le_refl _) hb
  have HB5 : Hid (Below w.heap.size w w5) := hb2
  clear hb hb2 hc4
  go_wp2
  go_ret
  exact ⟨rfl, HB5.out⟩
/-- What is shown of what may be. -/
theorem showL_right {t : Bool} {n : Int} {s : ByteArray} (h : rightV t n s = true) : (t = false ∧ s = ⟨#[]⟩ ∧ showL t n s = Lib.itoa n) ∨ (t = true ∧ n = 0 ∧ s.size ≤ 12 ∧ showL t n s = 120 :: shex s.data.toList) := by
  unfold showL
  rw [if_pos h]
  cases t
  · left; exact ⟨rfl, empty_of (by simpa [rightV] using h), by simp⟩
  · right
    simp only [rightV, if_true, Bool.and_eq_true, beq_iff_eq, decide_eq_true_eq] at h
    exact ⟨rfl, h.1, h.2, by simp⟩
theorem mk_data (s : ByteArray) : (⟨s.data.toList.toArray⟩ : ByteArray) = s := by cases s; simp
theorem readOf_text (s : ByteArray) (h : s.size ≤ 12) : readOf ⟨(120 :: shex s.data.toList).toArray⟩ = some (true, 0, s.data.toList) := by
  have e1 : (⟨(120 :: shex s.data.toList).toArray⟩ : ByteArray).data.toList = 120 :: shex s.data.toList := by simp
  have hl : (shex s.data.toList).length = 2 * s.size := by rw [shex_length]; simp
  have e0 : ((⟨(120 :: shex s.data.toList).toArray⟩ : ByteArray).extract 1 (⟨(120 :: shex s.data.toList).toArray⟩ : ByteArray).size).data.toList = shex s.data.toList := by
    rw [Lib.extract_data]
    have : (⟨(120 :: shex s.data.toList).toArray⟩ : ByteArray).size = (shex s.data.toList).length + 1 := by simp [ByteArray.size]
    rw [this]
    simp
  have e2 : textOf ⟨(120 :: shex s.data.toList).toArray⟩ = some s.data.toList := by
    unfold textOf
    rw [e0, unhex_shex, if_pos]
    rw [Lib.size_eq, e0, hl]
    omega
  unfold readOf
  rw [e1, e2]
  simp
theorem readOf_number {n : Int} (h : fits n = true) : readOf ⟨(Lib.itoa n).toArray⟩ = some (false, n, []) := by
  have e1 : (⟨(Lib.itoa n).toArray⟩ : ByteArray).data.toList = Lib.itoa n := by simp
  obtain ⟨c, r, hc, h1⟩ := itoa_cons n
  unfold readOf
  rw [e1, numOf_itoa h, hc, if_neg (by simpa using h1)]
  rfl
theorem showL_ne {t : Bool} {n : Int} {s : ByteArray} (h : rightV t n s = true) : showL t n s ≠ [] := by
  rcases showL_right h with ⟨_, _, e⟩ | ⟨_, _, _, e⟩
  · obtain ⟨c, r, hc, _⟩ := itoa_cons n
    rw [e, hc]; simp
  · rw [e]; simp
theorem showL_inj {ta : Bool} {na : Int} {sa : ByteArray} {tb : Bool} {nb : Int} {sb : ByteArray} (fa : fits na = true) (fb : fits nb = true) (h : rightV ta na sa = true) (e : showL tb nb sb = showL ta na sa) : ta = tb ∧ na = nb ∧ sa = sb := by
  by_cases hb : rightV tb nb sb = true
  · rcases showL_right h with ⟨h1, h2, e1⟩ | ⟨h1, h2, _, e1⟩ <;> rcases showL_right hb with ⟨k1, k2, e2⟩ | ⟨k1, k2, _, e2⟩
    · rw [e1, e2] at e
      exact ⟨h1.trans k1.symm, itoa_inj fa fb e.symm, h2.trans k2.symm⟩
    · exfalso
      obtain ⟨c, r, hc, hx⟩ := itoa_cons na
      rw [e1, e2, hc] at e
      exact hx (List.cons.inj e).1.symm
    · exfalso
      obtain ⟨c, r, hc, hx⟩ := itoa_cons nb
      rw [e1, e2, hc] at e
      exact hx (List.cons.inj e).1
    · rw [e1, e2] at e
      have e3 := congrArg unhex (List.cons.inj e).2
      rw [unhex_shex, unhex_shex] at e3
      refine ⟨h1.trans k1.symm, h2.trans k2.symm, ?_⟩
      rw [← mk_data sa, ← mk_data sb, Option.some.inj e3]
  · exfalso
    have : showL tb nb sb = [] := by unfold showL; rw [if_neg hb]
    rw [this] at e
    exact showL_ne h e.symm
theorem read_show {t : Bool} {n : Int} {s : ByteArray} (f : fits n = true) (h : rightV t n s = true) : ansOf (readOf ⟨(showL t n s).toArray⟩) = .tuple #[V t n s, .int .i64 0] := by
  rcases showL_right h with ⟨rfl, rfl, e⟩ | ⟨rfl, rfl, hl, e⟩
  · rw [e, readOf_number f]; rfl
  · rw [e, readOf_text s hl]
    show Value.tuple #[V true 0 ⟨s.data.toList.toArray⟩, _] = _
    rw [mk_data]
theorem showL_size (t : Bool) (n : Int) (s : ByteArray) (f : fits n = true) : (⟨(showL t n s).toArray⟩ : ByteArray).size ≤ 281474976710656 := by
  have e : (⟨(showL t n s).toArray⟩ : ByteArray).size = (showL t n s).length := by simp [ByteArray.size]
  rw [e]
  by_cases h : rightV t n s = true
  · rcases showL_right h with ⟨_, _, e1⟩ | ⟨_, _, hl, e1⟩
    · rw [e1]
      rw [fits_iff] at f
      have := Lib.itoa_length_le n f.1 f.2
      omega
    · rw [e1]
      simp only [List.length_cons, shex_length, Array.length_toList]
      have e2 : s.size = s.data.size := rfl
      omega
  · unfold showL; rw [if_neg h]; simp

theorem back_walk (ta : Bool) (na : Int) (sa : ByteArray) (tb : Bool) (nb : Int) (sb : ByteArray) (w : World) (fa : fits na = true) (fb : fits nb = true) (ha : sa.size ≤ maxLen) (hb : sb.size ≤ maxLen) (E : Env w) :
    Calls Tryd.prog 7 #[V ta na sa, V tb nb sb] w fun e w' => e = .returned (.bool true) ∧ Below w.heap.size w w' := by
  by_cases l1 : 1000 < sa.size
  · exact back_long1 ta na sa tb nb sb w ha l1 E
  · by_cases l2 : 1000 < sb.size
    · exact back_long2 ta na sa tb nb sb w hb (by omega) l2 E
    · have hS := fun (w1 : World) (E1 : Env w1) => show_any ta na sa w1 fa ha E1
      have hX := fun (w1 : World) (E1 : Env w1) => show_any tb nb sb w1 fb hb E1
      have hR := fun (w1 : World) (E1 : Env w1) => read_any ⟨(showL ta na sa).toArray⟩ w1 (showL_size ta na sa fa) E1
      have hT := fun (w1 : World) => right_any ta na sa w1 ha
      cases hr : rightV ta na sa
      · have e : showL ta na sa = [] := by unfold showL; rw [hr]; rfl
        rw [hr] at hT
        rw [e] at hS hR
        exact back_wrong ta na sa tb nb sb w _ (by omega) (by omega) E (by rw [ByteArray.toList_eq]; rfl) hS hR hT
      · rw [hr] at hT
        rw [read_show fa hr] at hR
        by_cases hq : showL tb nb sb = showL ta na sa
        · obtain ⟨rfl, rfl, rfl⟩ := showL_inj fa fb hr hq
          exact back_same ta na sa ta na sa w _ (by omega) (by omega) E _ hX (by simp) (by simp) (by simp) (by simp) hS hR hT
        · exact back_other ta na sa tb nb sb w _ (by omega) (by omega) E _ hX (by rw [toList_mk, toList_mk, beq_eq_false_iff_ne]; exact hq) hS hR hT
end Go.Proofs.YtmgkjojifhchkaaDoor.Val
