/- What below, Right and Compare of package value answer, over this seat's translation. No conditions. -/
import Derived.Test.YtfkhfplibhnceaaDoorU1
import Derived.Deep.RegionHeld3
import Derived.Deep.CutRange
namespace Go.Proofs.YtfkhfplibhnceaaDoor.Val
open Go.RowKit

theorem below_tt (na nb : Int) (sa sb : ByteArray) (w : World) :
    Calls Tryd.prog 64 #[V true na sa, V true nb sb] w fun e w' => e = .returned (.bool (Op.bytesLess sa.toList sb.toList)) ∧ Below w.heap.size w w' := by
  go_enter Tryd.func64, Tryd.ntmps64
  go_wp2
  go_ret
  exact ⟨rfl, ((Below.refl _ _).alloc (Nat.le_refl _) _).alloc (by simp) _⟩
theorem below_nn (na nb : Int) (sa sb : ByteArray) (w : World) :
    Calls Tryd.prog 64 #[V false na sa, V false nb sb] w fun e w' => e = .returned (.bool (decide (na < nb))) ∧ Below w.heap.size w w' := by
  go_enter Tryd.func64, Tryd.ntmps64
  go_wp2
  go_ret
  exact ⟨rfl, ((Below.refl _ _).alloc (Nat.le_refl _) _).alloc (by simp) _⟩
theorem below_nt (na nb : Int) (sa sb : ByteArray) (w : World) :
    Calls Tryd.prog 64 #[V false na sa, V true nb sb] w fun e w' => e = .returned (.bool true) ∧ Below w.heap.size w w' := by
  go_enter Tryd.func64, Tryd.ntmps64
  go_wp2
  go_ret
  exact ⟨rfl, ((Below.refl _ _).alloc (Nat.le_refl _) _).alloc (by simp) _⟩
theorem below_tn (na nb : Int) (sa sb : ByteArray) (w : World) :
    Calls Tryd.prog 64 #[V true na sa, V false nb sb] w fun e w' => e = .returned (.bool false) ∧ Below w.heap.size w w' := by
  go_enter Tryd.func64, Tryd.ntmps64
  go_wp2
  go_ret
  exact ⟨rfl, ((Below.refl _ _).alloc (Nat.le_refl _) _).alloc (by simp) _⟩

set_option maxHeartbeats 400000 in
theorem cmp_nt (na nb : Int) (sa sb : ByteArray) (w : World) :
    Calls Tryd.prog 56 #[V false na sa, V true nb sb] w fun e w' => e = .returned (.int .i64 (-1)) ∧ Below w.heap.size w w' := by
  go_enter Tryd.func56, Tryd.ntmps56
  go_wp2
  go_region_held3 (fun w' => w'.cell? ⟨w.heap.size, 0, none⟩ = some (.bool false) ∧ w'.cell? ⟨w.heap.size, 1, none⟩ = some (.int .i64 na) ∧ w'.cell? ⟨w.heap.size, 2, none⟩ = some (.string sa) ∧ w'.cell? ⟨w.heap.size + 1, 0, none⟩ = some (.bool true) ∧ w'.cell? ⟨w.heap.size + 1, 1, none⟩ = some (.int .i64 nb) ∧ w'.cell? ⟨w.heap.size + 1, 2, none⟩ = some (.string sb)) (go_keep)
    ((first
    | (go_at_call_of 63 (Value.string sa); refine (bare_number _ _ _).mono ?_; rintro e w1 ⟨rfl, hb1⟩; obtain ⟨hc1, hz1, HB1⟩ := kept2a hb1)
    | (go_at_call_of 63 (Value.string sb); refine (bare_text _ _ _).mono ?_; rintro e w2 ⟨rfl, hb2⟩; have hc2 := kept2b hz1 hc1 hb2)))
  all_goals
    have HX : Hid (Below w.heap.size w w2) := HB1.trans (hb2.mono (by omega))
    have hz2 := hb2.size
    obtain ⟨a0, a1, a2, b0, b1, b2⟩ := hc2
    clear hc1 hb1 hb2 HB1
    go_wp2_with (go_at_call 64; refine (below_nt _ _ _ _ _).mono ?_; rintro e w3 ⟨rfl, hb3⟩)
    go_ret
    exact ⟨rfl, HX.out.trans (hb3.mono (by omega))⟩
set_option maxHeartbeats 400000 in
theorem cmp_tn (na nb : Int) (sa sb : ByteArray) (w : World) :
    Calls Tryd.prog 56 #[V true na sa, V false nb sb] w fun e w' => e = .returned (.int .i64 1) ∧ Below w.heap.size w w' := by
  go_enter Tryd.func56, Tryd.ntmps56
  go_wp2
  go_region_held3 (fun w' => w'.cell? ⟨w.heap.size, 0, none⟩ = some (.bool true) ∧ w'.cell? ⟨w.heap.size, 1, none⟩ = some (.int .i64 na) ∧ w'.cell? ⟨w.heap.size, 2, none⟩ = some (.string sa) ∧ w'.cell? ⟨w.heap.size + 1, 0, none⟩ = some (.bool false) ∧ w'.cell? ⟨w.heap.size + 1, 1, none⟩ = some (.int .i64 nb) ∧ w'.cell? ⟨w.heap.size + 1, 2, none⟩ = some (.string sb)) (go_keep)
    ((first
    | (go_at_call_of 63 (Value.string sa); refine (bare_text _ _ _).mono ?_; rintro e w1 ⟨rfl, hb1⟩; obtain ⟨hc1, hz1, HB1⟩ := kept2a hb1)
    | (go_at_call_of 63 (Value.string sb); refine (bare_number _ _ _).mono ?_; rintro e w2 ⟨rfl, hb2⟩; have hc2 := kept2b hz1 hc1 hb2)))
  all_goals
    have HX : Hid (Below w.heap.size w w2) := HB1.trans (hb2.mono (by omega))
    have hz2 := hb2.size
    obtain ⟨a0, a1, a2, b0, b1, b2⟩ := hc2
    clear hc1 hb1 hb2 HB1
    go_wp2_with (go_at_call 64; refine (below_tn _ _ _ _ _).mono ?_; rintro e w3 ⟨rfl, hb3⟩)
    go_ret
    exact ⟨rfl, HX.out.trans (hb3.mono (by omega))⟩
set_option maxHeartbeats 400000 in
theorem cmp_nn_eq (na nb : Int) (sa sb : ByteArray) (w : World) (h : (na == nb) = true) :
    Calls Tryd.prog 56 #[V false na sa, V false nb sb] w fun e w' => e = .returned (.int .i64 (cmpN na nb)) ∧ Below w.heap.size w w' := by
  go_enter Tryd.func56, Tryd.ntmps56
  go_wp2
  go_region_held3 (fun w' => w'.cell? ⟨w.heap.size, 0, none⟩ = some (.bool false) ∧ w'.cell? ⟨w.heap.size, 1, none⟩ = some (.int .i64 na) ∧ w'.cell? ⟨w.heap.size, 2, none⟩ = some (.string sa) ∧ w'.cell? ⟨w.heap.size + 1, 0, none⟩ = some (.bool false) ∧ w'.cell? ⟨w.heap.size + 1, 1, none⟩ = some (.int .i64 nb) ∧ w'.cell? ⟨w.heap.size + 1, 2, none⟩ = some (.string sb)) (go_keep)
    ((first
    | (go_at_call_of 63 (Value.string sa); refine (bare_number _ _ _).mono ?_; rintro e w1 ⟨rfl, hb1⟩; obtain ⟨hc1, hz1, HB1⟩ := kept2a hb1)
    | (go_at_call_of 63 (Value.string sb); refine (bare_number _ _ _).mono ?_; rintro e w2 ⟨rfl, hb2⟩; have hc2 := kept2b hz1 hc1 hb2)))
  all_goals
    have HX : Hid (Below w.heap.size w w2) := HB1.trans (hb2.mono (by omega))
    have hz2 := hb2.size
    obtain ⟨a0, a1, a2, b0, b1, b2⟩ := hc2
    clear hc1 hb1 hb2 HB1
    go_wp2_with (go_at_call 64; refine (below_nn _ _ _ _ _).mono ?_; rintro e w3 ⟨rfl, hb3⟩)
    go_ret
    exact ⟨ret_int (cmpN_eq h), HX.out⟩
set_option maxHeartbeats 400000 in
theorem cmp_tt_eq (na nb : Int) (sa sb : ByteArray) (w : World) (h : (sa.toList == sb.toList) = true) :
    Calls Tryd.prog 56 #[V true na sa, V true nb sb] w fun e w' => e = .returned (.int .i64 (cmpS sa.toList sb.toList)) ∧ Below w.heap.size w w' := by
  go_enter Tryd.func56, Tryd.ntmps56
  go_wp2
  go_region_held3 (fun w' => w'.cell? ⟨w.heap.size, 0, none⟩ = some (.bool true) ∧ w'.cell? ⟨w.heap.size, 1, none⟩ = some (.int .i64 na) ∧ w'.cell? ⟨w.heap.size, 2, none⟩ = some (.string sa) ∧ w'.cell? ⟨w.heap.size + 1, 0, none⟩ = some (.bool true) ∧ w'.cell? ⟨w.heap.size + 1, 1, none⟩ = some (.int .i64 nb) ∧ w'.cell? ⟨w.heap.size + 1, 2, none⟩ = some (.string sb)) (go_keep)
    ((first
    | (go_at_call_of 63 (Value.string sa); refine (bare_text _ _ _).mono ?_; rintro e w1 ⟨rfl, hb1⟩; obtain ⟨hc1, hz1, HB1⟩ := kept2a hb1)
    | (go_at_call_of 63 (Value.string sb); refine (bare_text _ _ _).mono ?_; rintro e w2 ⟨rfl, hb2⟩; have hc2 := kept2b hz1 hc1 hb2)))
  all_goals
    have HX : Hid (Below w.heap.size w w2) := HB1.trans (hb2.mono (by omega))
    have hz2 := hb2.size
    obtain ⟨a0, a1, a2, b0, b1, b2⟩ := hc2
    clear hc1 hb1 hb2 HB1
    go_wp2_with (go_at_call 64; refine (below_tt _ _ _ _ _).mono ?_; rintro e w3 ⟨rfl, hb3⟩)
    go_ret
    exact ⟨ret_int (cmpS_eq h), HX.out⟩
set_option maxHeartbeats 400000 in
theorem cmp_nn_ne (na nb : Int) (sa sb : ByteArray) (w : World) (h : (na == nb) = false) :
    Calls Tryd.prog 56 #[V false na sa, V false nb sb] w fun e w' => e = .returned (.int .i64 (cmpN na nb)) ∧ Below w.heap.size w w' := by
  go_enter Tryd.func56, Tryd.ntmps56
  go_wp2
  go_region_held3 (fun w' => w'.cell? ⟨w.heap.size, 0, none⟩ = some (.bool false) ∧ w'.cell? ⟨w.heap.size, 1, none⟩ = some (.int .i64 na) ∧ w'.cell? ⟨w.heap.size, 2, none⟩ = some (.string sa) ∧ w'.cell? ⟨w.heap.size + 1, 0, none⟩ = some (.bool false) ∧ w'.cell? ⟨w.heap.size + 1, 1, none⟩ = some (.int .i64 nb) ∧ w'.cell? ⟨w.heap.size + 1, 2, none⟩ = some (.string sb)) (go_keep)
    ((first
    | (go_at_call_of 63 (Value.string sa); refine (bare_number _ _ _).mono ?_; rintro e w1 ⟨rfl, hb1⟩; obtain ⟨hc1, hz1, HB1⟩ := kept2a hb1)
    | (go_at_call_of 63 (Value.string sb); refine (bare_number _ _ _).mono ?_; rintro e w2 ⟨rfl, hb2⟩; have hc2 := kept2b hz1 hc1 hb2)))
  all_goals
    have HX : Hid (Below w.heap.size w w2) := HB1.trans (hb2.mono (by omega))
    have hz2 := hb2.size
    obtain ⟨a0, a1, a2, b0, b1, b2⟩ := hc2
    clear hc1 hb1 hb2 HB1
    go_wp2_with (go_at_call 64; refine (below_nn _ _ _ _ _).mono ?_; rintro e w3 ⟨rfl, hb3⟩)
    · go_ret
      exact ⟨ret_int (cmpN_lt h (by assumption)), HX.out.trans (hb3.mono (by omega))⟩
    · go_ret
      exact ⟨ret_int (cmpN_gt h (by assumption)), HX.out.trans (hb3.mono (by omega))⟩
set_option maxHeartbeats 400000 in
theorem cmp_tt_ne (na nb : Int) (sa sb : ByteArray) (w : World) (h : (sa.toList == sb.toList) = false) :
    Calls Tryd.prog 56 #[V true na sa, V true nb sb] w fun e w' => e = .returned (.int .i64 (cmpS sa.toList sb.toList)) ∧ Below w.heap.size w w' := by
  go_enter Tryd.func56, Tryd.ntmps56
  go_wp2
  go_region_held3 (fun w' => w'.cell? ⟨w.heap.size, 0, none⟩ = some (.bool true) ∧ w'.cell? ⟨w.heap.size, 1, none⟩ = some (.int .i64 na) ∧ w'.cell? ⟨w.heap.size, 2, none⟩ = some (.string sa) ∧ w'.cell? ⟨w.heap.size + 1, 0, none⟩ = some (.bool true) ∧ w'.cell? ⟨w.heap.size + 1, 1, none⟩ = some (.int .i64 nb) ∧ w'.cell? ⟨w.heap.size + 1, 2, none⟩ = some (.string sb)) (go_keep)
    ((first
    | (go_at_call_of 63 (Value.string sa); refine (bare_text _ _ _).mono ?_; rintro e w1 ⟨rfl, hb1⟩; obtain ⟨hc1, hz1, HB1⟩ := kept2a hb1)
    | (go_at_call_of 63 (Value.string sb); refine (bare_text _ _ _).mono ?_; rintro e w2 ⟨rfl, hb2⟩; have hc2 := kept2b hz1 hc1 hb2)))
  all_goals
    have HX : Hid (Below w.heap.size w w2) := HB1.trans (hb2.mono (by omega))
    have hz2 := hb2.size
    obtain ⟨a0, a1, a2, b0, b1, b2⟩ := hc2
    clear hc1 hb1 hb2 HB1
    go_wp2_with (go_at_call 64; refine (below_tt _ _ _ _ _).mono ?_; rintro e w3 ⟨rfl, hb3⟩)
    · go_ret
      exact ⟨ret_int (cmpS_lt h (by assumption)), HX.out.trans (hb3.mono (by omega))⟩
    · go_ret
      exact ⟨ret_int (cmpS_gt h (by assumption)), HX.out.trans (hb3.mono (by omega))⟩
/-- Compare, for any two values. -/
theorem cmp_any (ta : Bool) (na : Int) (sa : ByteArray) (tb : Bool) (nb : Int) (sb : ByteArray) (w : World) :
    Calls Tryd.prog 56 #[V ta na sa, V tb nb sb] w fun e w' => e = .returned (.int .i64 (cmpV ta na sa tb nb sb)) ∧ Below w.heap.size w w' := by
  cases ta <;> cases tb
  · cases h : (na == nb)
    · exact cmp_nn_ne _ _ _ _ _ h
    · exact cmp_nn_eq _ _ _ _ _ h
  · exact cmp_nt _ _ _ _ _
  · exact cmp_tn _ _ _ _ _
  · cases h : (sa.toList == sb.toList)
    · exact cmp_tt_ne _ _ _ _ _ h
    · exact cmp_tt_eq _ _ _ _ _ h
end Go.Proofs.YtfkhfplibhnceaaDoor.Val
/- What lower, upper, closed, open, apart, between, clean of package normal answer. -/
namespace Go.Proofs.YtfkhfplibhnceaaDoor.Val
open Go.RowKit

set_option maxHeartbeats 1000000 in
theorem lower_any (s : Sp) (w : World) : Calls Tryd.prog 34 #[s.val] w fun e w' => e = .returned (lowE s).val ∧ Below w.heap.size w w' := by
  cases s with | mk no hl ol lo hh oh hi =>
  unfold Sp.val
  cases hl
  · go_enter Tryd.func34, Tryd.ntmps34
    go_wp2_with fail
    refine bodyPost_ret (v := En.zero.val) (by simp [results, Tryd.results34, go_sem, En.val, En.zero, Val.zero]) rfl ⟨rfl, ?_⟩
    exact back1 (alloc1 _ _)
  · go_enter Tryd.func34, Tryd.ntmps34
    go_wp2_with fail
    refine bodyPost_ret (v := (En.mk true ol lo).val) (by simp [results, Tryd.results34, go_sem, En.val]) rfl ⟨rfl, ?_⟩
    exact back1 (alloc1 _ _)
set_option maxHeartbeats 1000000 in
theorem upper_any (s : Sp) (w : World) : Calls Tryd.prog 36 #[s.val] w fun e w' => e = .returned (uppE s).val ∧ Below w.heap.size w w' := by
  cases s with | mk no hl ol lo hh oh hi =>
  unfold Sp.val
  cases hh
  · go_enter Tryd.func36, Tryd.ntmps36
    go_wp2_with fail
    refine bodyPost_ret (v := En.zero.val) (by simp [results, Tryd.results36, go_sem, En.val, En.zero, Val.zero]) rfl ⟨rfl, ?_⟩
    exact back1 (alloc1 _ _)
  · go_enter Tryd.func36, Tryd.ntmps36
    go_wp2_with fail
    refine bodyPost_ret (v := (En.mk true oh hi).val) (by simp [results, Tryd.results36, go_sem, En.val]) rfl ⟨rfl, ?_⟩
    exact back1 (alloc1 _ _)
set_option maxHeartbeats 1000000 in
theorem closed_any (x : Val) (w : World) : Calls Tryd.prog 35 #[V x.t x.n x.s] w fun e w' => e = .returned (closedE x).val ∧ Below w.heap.size w w' := by
  go_enter Tryd.func35, Tryd.ntmps35
  go_wp2_with fail
  refine bodyPost_ret (v := (closedE x).val) (by simp [results, Tryd.results35, go_sem, En.val, closedE]) rfl ⟨rfl, ?_⟩
  exact back1 (alloc1 _ _)
set_option maxHeartbeats 1000000 in
theorem open_any (x : Val) (w : World) : Calls Tryd.prog 62 #[V x.t x.n x.s] w fun e w' => e = .returned (openE x).val ∧ Below w.heap.size w w' := by
  go_enter Tryd.func62, Tryd.ntmps62
  go_wp2_with fail
  refine bodyPost_ret (v := (openE x).val) (by simp [results, Tryd.results62, go_sem, En.val, openE]) rfl ⟨rfl, ?_⟩
  exact back1 (alloc1 _ _)
theorem eql_E (a b : En) (w : World) : (binOp .eql 55 (.agg #[.bool a.has, .bool a.op, .bool a.x.t, .int .i64 a.x.n, .string a.x.s]) (.agg #[.bool b.has, .bool b.op, .bool b.x.t, .int .i64 b.x.n, .string b.x.s])).run Tryd.prog w = .ok (.bool (eqE a b)) w := by
  unfold eqE eqV
  by_cases h1 : a.has = b.has
  case neg => simp [go_sem, h1]
  by_cases h2 : a.op = b.op
  case neg => simp [go_sem, h1, h2]
  by_cases h3 : a.x.t = b.x.t
  case neg => simp [go_sem, h1, h2, h3]
  by_cases h4 : a.x.n = b.x.n
  case neg => simp [go_sem, h1, h2, h3, h4]
  by_cases h5 : a.x.s.toList = b.x.s.toList
  case neg => simp [go_sem, h1, h2, h3, h4, h5]
  simp [go_sem, h1, h2, h3, h4, h5]
end Go.Proofs.YtfkhfplibhnceaaDoor.Val
/- What apart, between, clean of package normal answer. -/
namespace Go.Proofs.YtfkhfplibhnceaaDoor.Val
open Go.RowKit

theorem ret_b4 {a b : Bool} (h : a = b) : Ending.returned (.bool a) = Ending.returned (.bool b) := by subst h; rfl
theorem cmpX_any (x y : Val) (w : World) : Calls Tryd.prog 56 #[V x.t x.n x.s, V y.t y.n y.s] w fun e w' => e = .returned (.int .i64 (cmpX x y)) ∧ Below w.heap.size w w' := cmp_any _ _ _ _ _ _ w
theorem set_below {w w' : World} {B b j : Nat} (h : Below B w w') (hb : B ≤ b) (u : Value) : Below B w (w'.setCell ⟨b, j, none⟩ u) := h.setCell hb u
/-- Two ends' boxes. -/
structure E2 (w : World) (N : Nat) (a b : En) : Prop where
  pa : EBox w N a
  pb : EBox w (N + 1) b
theorem E2.below {w w' : World} {N : Nat} {a b : En} (h : E2 w N a b) (hb : Below w.heap.size w w') : E2 w' N a b := ⟨h.pa.below hb, h.pb.below hb⟩
theorem E2.new (w : World) (a b : En) (T1 T2 : TypeId) : E2 ((w.alloc (eobj a T1)).alloc (eobj b T2)) w.heap.size a b :=
  ⟨(EBox.new w a T1).alloc _, by have := EBox.new (w.alloc (eobj a T1)) b T2; simpa using this⟩
set_option maxHeartbeats 2000000 in
theorem apart_any (a b : En) (w : World) : Calls Tryd.prog 33 #[a.val, b.val] w fun e w' => e = .returned (.bool (apartE a b)) ∧ Below w.heap.size w w' := by
  have HA : Hid (apartE a b = (!(isZ a || isZ b) && sideB (cmpX a.x b.x) (a.op || b.op))) := rfl
  have q1 : ∀ w1, (binOp .eql 55 (EV a.has a.op a.x.t a.x.n a.x.s) (EV false false false 0 ⟨#[]⟩)).run Tryd.prog w1 = .ok (.bool (isZ a)) w1 := fun w1 => eql_E a En.zero w1
  have q2 : ∀ w1, (binOp .eql 55 (EV b.has b.op b.x.t b.x.n b.x.s) (EV false false false 0 ⟨#[]⟩)).run Tryd.prog w1 = .ok (.bool (isZ b)) w1 := fun w1 => eql_E b En.zero w1
  have HC : Hid (∀ w1, Calls Tryd.prog 56 #[V a.x.t a.x.n a.x.s, V b.x.t b.x.n b.x.s] w1 fun e w' => e = .returned (.int .i64 (cmpX a.x b.x)) ∧ Below w1.heap.size w1 w') := fun w1 => cmpX_any a.x b.x w1
  rw [HA.out]
  generalize isZ a = za at *
  generalize isZ b = zb at *
  generalize cmpX a.x b.x = c at *
  clear HA
  have HN : Hid _ := E2.new w a b 55 55
  unfold En.val
  cases za
  case true =>
    clear HC HN
    go_enter Tryd.func33, Tryd.ntmps33
    go_wp2_with fail
    go_ret
    exact ⟨rfl, back1 (alloc1 _ _)⟩
  cases zb
  case true =>
    clear HC HN
    go_enter Tryd.func33, Tryd.ntmps33
    go_wp2_with fail
    go_ret
    exact ⟨rfl, back1 (alloc1 _ _)⟩
  go_enter Tryd.func33, Tryd.ntmps33
  go_wp2_with fail
  refine Calls.mono (HC.out _) ?_
  rintro e w1 ⟨rfl, hb⟩
  have HB : Hid (Below w.heap.size w w1) := back2 hb
  obtain ⟨⟨a0, a1, a2, a3, a4⟩, ⟨b0, b1, b2, b3, b4⟩⟩ := HN.out.below hb
  clear hb HC HN q1 q2
  by_cases h1 : 0 < c
  · go_wp2_with fail
    go_ret
    exact ⟨ret_b4 (by simp [sideB, h1]), HB.out⟩
  have h1' : decide (0 < c) = false := by simpa using h1
  by_cases h2 : c = 0
  · subst h2
    obtain ⟨oa, hoa⟩ : ∃ o, a.op = o := ⟨_, rfl⟩
    rw [hoa] at a1
    have HO : Hid (a.op = oa) := hoa
    clear hoa
    cases oa <;>
    · go_wp2_with fail
      go_ret
      exact ⟨ret_b4 (by simp [sideB, HO.out]), HB.out⟩
  · have h2' : (c == 0) = false := by simpa using h2
    go_wp2_with fail
    go_ret
    exact ⟨ret_b4 (by simp [sideB, h1, h2]), HB.out⟩
set_option maxHeartbeats 2000000 in
theorem between_any (a b : En) (w : World) : Calls Tryd.prog 39 #[a.val, b.val] w fun e w' => e = .returned (btw a b).val ∧ Below w.heap.size w w' := by
  have HA : Hid (btw a b = if apartE a b then Sp.none else ⟨false, a.has, a.op, a.x, b.has, b.op, b.x⟩) := rfl
  have HC : Hid (∀ w1, Calls Tryd.prog 33 #[a.val, b.val] w1 fun e w' => e = .returned (.bool (apartE a b)) ∧ Below w1.heap.size w1 w') := fun w1 => apart_any a b w1
  rw [HA.out]
  generalize apartE a b = p at *
  clear HA
  have HN : Hid _ := fun o => (E2.new w a b 55 55).below (alloc1 _ o)
  have HZ : Hid (∀ w0 : World, SBox (w0.alloc (sobj Sp.all 35)) w0.heap.size Sp.all ∧ Fr (w0.alloc (sobj Sp.all 35)) w0.heap.size) := fun w0 => ⟨SBox.new _ _ _, Fr.new _ _ _⟩
  unfold En.val at *
  go_enter Tryd.func39, Tryd.ntmps39
  go_wp2_with fail
  refine Calls.mono (HC.out _) ?_
  rintro e w1 ⟨rfl, hb⟩
  have HB : Hid (Below w.heap.size w w1) := back3 hb
  obtain ⟨⟨a0, a1, a2, a3, a4⟩, ⟨b0, b1, b2, b3, b4⟩⟩ := (HN.out _).below hb
  have hz := HZ.out ((w.alloc (eobj a 55)).alloc (eobj b 55))
  have z : SBox w1 (w.heap.size + 1 + 1) Sp.all := by have := hz.1.below hb; simpa using this
  have f : Fr w1 (w.heap.size + 1 + 1) := by have := hz.2.below hb; simpa using this
  obtain ⟨hl, f⟩ := f
  obtain ⟨z0, z1, z2, z3, z4, z5, z6, z7, z8, z9, z10⟩ := z
  clear hb HC HN HZ hz
  cases p
  · go_wp2_with fail
    refine bodyPost_ret (v := (Sp.mk false a.has a.op a.x b.has b.op b.x).val) (by simp [results, Tryd.results39, go_sem, Sp.val, z0, z1, z2, z3, z4, z5, z6, z7, z8, z9, z10]) rfl ⟨rfl, ?_⟩
    repeat (refine set_below ?_ (by omega) _)
    exact HB.out
  · go_wp2_with fail
    refine bodyPost_ret (v := Sp.none.val) (by simp [results, Tryd.results39, go_sem, Sp.val, Sp.none, Val.zero, z0, z1, z2, z3, z4, z5, z6, z7, z8, z9, z10]) rfl ⟨rfl, ?_⟩
    repeat (refine set_below ?_ (by omega) _)
    exact HB.out
end Go.Proofs.YtfkhfplibhnceaaDoor.Val
/- What chosen, inner, outer of package normal answer. -/
namespace Go.Proofs.YtfkhfplibhnceaaDoor.Val
open Go.RowKit

/-- Two ends' boxes, and the answer's. -/
structure E3 (w0 : World) (a b : En) (w : World) : Prop where
  pa : EBox w w0.heap.size a
  pb : EBox w (w0.heap.size + 1) b
  pz : EBox w (w0.heap.size + 1 + 1) En.zero
  fa : Fr w w0.heap.size
  fz : Fr w (w0.heap.size + 1 + 1)
  be : Below w0.heap.size w0 w
theorem E3.below {w0 w w' : World} {a b : En} (h : E3 w0 a b w) (hb : Below w.heap.size w w') : E3 w0 a b w' := ⟨h.pa.below hb, h.pb.below hb, h.pz.below hb, h.fa.below hb, h.fz.below hb, on h.be hb⟩
theorem E3.new (w : World) (a b : En) (T1 T2 T3 : TypeId) : E3 w a b (((w.alloc (eobj a T1)).alloc (eobj b T2)).alloc (eobj En.zero T3)) := by
  refine ⟨((EBox.new w a T1).alloc _).alloc _, ?_, ?_, ((Fr.new w _ T1).alloc _).alloc _, ?_, back2 (alloc1 _ _)⟩
  · have := (EBox.new (w.alloc (eobj a T1)) b T2).alloc (eobj En.zero T3); simpa using this
  · have := EBox.new ((w.alloc (eobj a T1)).alloc (eobj b T2)) En.zero T3; simpa using this
  · have := Fr.new ((w.alloc (eobj a T1)).alloc (eobj b T2)) #[.bool En.zero.has, .bool En.zero.op, .bool En.zero.x.t, .int .i64 En.zero.x.n, .string En.zero.x.s] T3; simpa using this
set_option maxHeartbeats 2000000 in
theorem chosen_any (a b : En) (side : Int) (o : Bool) (w : World) (hs : side = 1 ∨ side = -1) : Calls Tryd.prog 57 #[a.val, b.val, .int .i64 side, .bool o] w fun e w' => e = .returned (chosenE a b side o).val ∧ Below w.heap.size w w' := by
  have HA : Hid (chosenE a b side o = if cmpX a.x b.x = side then a else if cmpX a.x b.x = -side then b else ⟨a.has, o, a.x⟩) := rfl
  have HC : Hid (∀ w1, Calls Tryd.prog 56 #[V a.x.t a.x.n a.x.s, V b.x.t b.x.n b.x.s] w1 fun e w' => e = .returned (.int .i64 (cmpX a.x b.x)) ∧ Below w1.heap.size w1 w') := fun w1 => cmpX_any a.x b.x w1
  generalize cmpX a.x b.x = c at *
  generalize chosenE a b side o = r at *
  have HN : Hid _ := E3.new w a b 55 55 55
  unfold En.val at *
  go_enter Tryd.func57, Tryd.ntmps57
  go_wp2_with fail
  refine Calls.mono (HC.out _) ?_
  rintro e w1 ⟨rfl, hb⟩
  have HX : Hid _ := HN.out.below hb
  have HB : Hid (Below w.heap.size w w1) := HX.out.be
  obtain ⟨⟨a0, a1, a2, a3, a4⟩, ⟨b0, b1, b2, b3, b4⟩, ⟨z0, z1, z2, z3, z4⟩, ⟨la, fa⟩, ⟨lz, fz⟩, _⟩ := HX.out
  clear hb HC HN HX
  by_cases h1 : c = side
  · subst h1
    have e1 : (c == c) = true := by simp
    clear hs
    go_wp2_with fail
    refine bodyPost_ret (v := a.val) (by simp [results, Tryd.results57, go_sem, En.val, z0, z1, z2, z3, z4]) rfl ⟨by rw [HA.out]; simp [En.val], ?_⟩
    repeat (refine set_below ?_ (by omega) _)
    exact HB.out
  have e1 : (c == side) = false := by simpa using h1
  by_cases h2 : c = -side
  · have e2 : (c == -side) = true := by simpa using h2
    have HH : Hid (c ≠ side ∧ c = -side) := ⟨h1, h2⟩
    clear h1 h2
    rcases hs with rfl | rfl
    · go_wp2_with fail
      refine bodyPost_ret (v := b.val) (by simp [results, Tryd.results57, go_sem, En.val, z0, z1, z2, z3, z4]) rfl ⟨by rw [HA.out, if_neg HH.out.1, if_pos HH.out.2]; rfl, ?_⟩
      repeat (refine set_below ?_ (by omega) _)
      exact HB.out
    · go_wp2_with fail
      refine bodyPost_ret (v := b.val) (by simp [results, Tryd.results57, go_sem, En.val, z0, z1, z2, z3, z4]) rfl ⟨by rw [HA.out, if_neg HH.out.1, if_pos HH.out.2]; rfl, ?_⟩
      repeat (refine set_below ?_ (by omega) _)
      exact HB.out
  · have e2 : (c == -side) = false := by simpa using h2
    have HH : Hid (c ≠ side ∧ c ≠ -side) := ⟨h1, h2⟩
    clear h1 h2
    rcases hs with rfl | rfl
    · go_wp2_with fail
      refine bodyPost_ret (v := (En.mk a.has o a.x).val) (by simp [results, Tryd.results57, go_sem, En.val, z0, z1, z2, z3, z4]) rfl ⟨by rw [HA.out, if_neg HH.out.1, if_neg HH.out.2]; rfl, ?_⟩
      repeat (refine set_below ?_ (by omega) _)
      exact HB.out
    · go_wp2_with fail
      refine bodyPost_ret (v := (En.mk a.has o a.x).val) (by simp [results, Tryd.results57, go_sem, En.val, z0, z1, z2, z3, z4]) rfl ⟨by rw [HA.out, if_neg HH.out.1, if_neg HH.out.2]; rfl, ?_⟩
      repeat (refine set_below ?_ (by omega) _)
      exact HB.out
set_option maxHeartbeats 2000000 in
theorem inner_any (a b : En) (side : Int) (w : World) (hs : side = 1 ∨ side = -1) : Calls Tryd.prog 40 #[a.val, b.val, .int .i64 side] w fun e w' => e = .returned (innerE a b side).val ∧ Below w.heap.size w w' := by
  have HA : Hid (innerE a b side = if isZ a then b else if isZ b then a else chosenE a b side (a.op || b.op)) := rfl
  have q1 : ∀ w1, (binOp .eql 55 (EV a.has a.op a.x.t a.x.n a.x.s) (EV false false false 0 ⟨#[]⟩)).run Tryd.prog w1 = .ok (.bool (isZ a)) w1 := fun w1 => eql_E a En.zero w1
  have q2 : ∀ w1, (binOp .eql 55 (EV b.has b.op b.x.t b.x.n b.x.s) (EV false false false 0 ⟨#[]⟩)).run Tryd.prog w1 = .ok (.bool (isZ b)) w1 := fun w1 => eql_E b En.zero w1
  obtain ⟨oa, hoa⟩ : ∃ o, a.op = o := ⟨_, rfl⟩
  have HC : Hid (∀ w1, Calls Tryd.prog 57 #[a.val, b.val, .int .i64 side, .bool (a.op || b.op)] w1 fun e w' => e = .returned (chosenE a b side (a.op || b.op)).val ∧ Below w1.heap.size w1 w') := fun w1 => chosen_any a b side _ w1 hs
  generalize isZ a = za at *
  generalize isZ b = zb at *
  generalize innerE a b side = r at *
  have HN : Hid _ := E3.new w a b 55 55 55
  clear hs
  cases za
  case true =>
    clear HC HN hoa
    unfold En.val at *
    go_enter Tryd.func40, Tryd.ntmps40
    go_wp2_with fail
    refine bodyPost_ret (v := b.val) (by simp [results, Tryd.results40, go_sem, En.val]) rfl ⟨by rw [HA.out]; rfl, ?_⟩
    exact back2 (alloc1 _ _)
  cases zb
  case true =>
    clear HC HN hoa
    unfold En.val at *
    go_enter Tryd.func40, Tryd.ntmps40
    go_wp2_with fail
    refine bodyPost_ret (v := a.val) (by simp [results, Tryd.results40, go_sem, En.val]) rfl ⟨by rw [HA.out]; rfl, ?_⟩
    exact back2 (alloc1 _ _)
  generalize hr : chosenE a b side (a.op || b.op) = r' at *
  have HR : Hid (r = r') := HA.out
  clear HA hr
  have HO : Hid (a.op = oa) := hoa
  rw [hoa] at HC
  unfold En.val at *
  rw [hoa] at q1 HC ⊢
  have HN' : Hid (∀ w1, Below (((w.alloc (.cells #[.bool a.has, .bool oa, .bool a.x.t, .int .i64 a.x.n, .string a.x.s] 55)).alloc (eobj b 55)).alloc (eobj En.zero 55)).heap.size (((w.alloc (.cells #[.bool a.has, .bool oa, .bool a.x.t, .int .i64 a.x.n, .string a.x.s] 55)).alloc (eobj b 55)).alloc (eobj En.zero 55)) w1 → E3 w a b w1) := fun w1 h => by rw [← hoa] at h; exact HN.out.below h
  clear hoa HN
  cases oa
  all_goals
    go_enter Tryd.func40, Tryd.ntmps40
    go_wp2_with fail
    refine Calls.mono (HC.out _) ?_
    rintro e w1 ⟨rfl, hb⟩
    have HX : Hid _ := HN'.out _ hb
    have HB : Hid (Below w.heap.size w w1) := HX.out.be
    obtain ⟨_, _, ⟨z0, z1, z2, z3, z4⟩, _, ⟨lz, fz⟩, _⟩ := HX.out
    clear hb HC HX HN'
    go_wp2_with fail
    refine bodyPost_ret (v := r'.val) (by simp [results, Tryd.results40, go_sem, En.val, z0, z1, z2, z3, z4]) rfl ⟨by rw [HR.out]; rfl, ?_⟩
    repeat (refine set_below ?_ (by omega) _)
    exact HB.out
set_option maxHeartbeats 2000000 in
theorem outer_any (a b : En) (side : Int) (w : World) (hs : side = 1 ∨ side = -1) : Calls Tryd.prog 42 #[a.val, b.val, .int .i64 side] w fun e w' => e = .returned (outerE a b side).val ∧ Below w.heap.size w w' := by
  have HA : Hid (outerE a b side = if isZ a || isZ b then En.zero else chosenE a b side (a.op && b.op)) := rfl
  have q1 : ∀ w1, (binOp .eql 55 (EV a.has a.op a.x.t a.x.n a.x.s) (EV false false false 0 ⟨#[]⟩)).run Tryd.prog w1 = .ok (.bool (isZ a)) w1 := fun w1 => eql_E a En.zero w1
  have q2 : ∀ w1, (binOp .eql 55 (EV b.has b.op b.x.t b.x.n b.x.s) (EV false false false 0 ⟨#[]⟩)).run Tryd.prog w1 = .ok (.bool (isZ b)) w1 := fun w1 => eql_E b En.zero w1
  obtain ⟨oa, hoa⟩ : ∃ o, a.op = o := ⟨_, rfl⟩
  have HC : Hid (∀ w1, Calls Tryd.prog 57 #[a.val, b.val, .int .i64 side, .bool (a.op && b.op)] w1 fun e w' => e = .returned (chosenE a b side (a.op && b.op)).val ∧ Below w1.heap.size w1 w') := fun w1 => chosen_any a b side _ w1 hs
  generalize isZ a = za at *
  generalize isZ b = zb at *
  generalize outerE a b side = r at *
  have HN : Hid _ := E3.new w a b 55 55 55
  clear hs
  cases za
  case true =>
    clear HC HN hoa
    unfold En.val at *
    go_enter Tryd.func42, Tryd.ntmps42
    go_wp2_with fail
    refine bodyPost_ret (v := En.zero.val) (by simp [results, Tryd.results42, go_sem, En.val, En.zero, Val.zero]) rfl ⟨by rw [HA.out]; rfl, ?_⟩
    exact back2 (alloc1 _ _)
  cases zb
  case true =>
    clear HC HN hoa
    unfold En.val at *
    go_enter Tryd.func42, Tryd.ntmps42
    go_wp2_with fail
    refine bodyPost_ret (v := En.zero.val) (by simp [results, Tryd.results42, go_sem, En.val, En.zero, Val.zero]) rfl ⟨by rw [HA.out]; rfl, ?_⟩
    exact back2 (alloc1 _ _)
  generalize hr : chosenE a b side (a.op && b.op) = r' at *
  have HR : Hid (r = r') := HA.out
  clear HA hr
  have HO : Hid (a.op = oa) := hoa
  rw [hoa] at HC
  unfold En.val at *
  rw [hoa] at q1 HC ⊢
  have HN' : Hid (∀ w1, Below (((w.alloc (.cells #[.bool a.has, .bool oa, .bool a.x.t, .int .i64 a.x.n, .string a.x.s] 55)).alloc (eobj b 55)).alloc (eobj En.zero 55)).heap.size (((w.alloc (.cells #[.bool a.has, .bool oa, .bool a.x.t, .int .i64 a.x.n, .string a.x.s] 55)).alloc (eobj b 55)).alloc (eobj En.zero 55)) w1 → E3 w a b w1) := fun w1 h => by rw [← hoa] at h; exact HN.out.below h
  clear hoa HN
  cases oa
  all_goals
    go_enter Tryd.func42, Tryd.ntmps42
    go_wp2_with fail
    refine Calls.mono (HC.out _) ?_
    rintro e w1 ⟨rfl, hb⟩
    have HX : Hid _ := HN'.out _ hb
    have HB : Hid (Below w.heap.size w w1) := HX.out.be
    obtain ⟨_, _, ⟨z0, z1, z2, z3, z4⟩, _, ⟨lz, fz⟩, _⟩ := HX.out
    clear hb HC HX HN'
    go_wp2_with fail
    refine bodyPost_ret (v := r'.val) (by simp [results, Tryd.results42, go_sem, En.val, z0, z1, z2, z3, z4]) rfl ⟨by rw [HR.out]; rfl, ?_⟩
    repeat (refine set_below ?_ (by omega) _)
    exact HB.out
end Go.Proofs.YtfkhfplibhnceaaDoor.Val
/- What clean, Within, Meet, Hull of package normal answer. -/
namespace Go.Proofs.YtfkhfplibhnceaaDoor.Val
open Go.RowKit

/-- A span's box, and the answer's. -/
structure S2 (w0 : World) (s : Sp) (w : World) : Prop where
  pa : SBox w w0.heap.size s
  pz : SBox w (w0.heap.size + 1) Sp.all
  fz : Fr w (w0.heap.size + 1)
  be : Below w0.heap.size w0 w
theorem S2.below {w0 w w' : World} {s : Sp} (h : S2 w0 s w) (hb : Below w.heap.size w w') : S2 w0 s w' := ⟨h.pa.below hb, h.pz.below hb, h.fz.below hb, on h.be hb⟩
theorem S2.new (w : World) (s : Sp) (T1 T2 : TypeId) : S2 w s ((w.alloc (sobj s T1)).alloc (sobj Sp.all T2)) := by
  refine ⟨(SBox.new w s T1).alloc _, ?_, ?_, back1 (alloc1 _ _)⟩
  · have := SBox.new (w.alloc (sobj s T1)) Sp.all T2; simpa using this
  · have := Fr.new (w.alloc (sobj s T1)) #[.bool Sp.all.no, .bool Sp.all.hl, .bool Sp.all.ol, .bool Sp.all.lo.t, .int .i64 Sp.all.lo.n, .string Sp.all.lo.s, .bool Sp.all.hh, .bool Sp.all.oh, .bool Sp.all.hi.t, .int .i64 Sp.all.hi.n, .string Sp.all.hi.s] T2; simpa using this
theorem cell_far {w : World} {b o c j : Nat} {u x : Value} (h : w.cell? ⟨b, o, none⟩ = some x) (hne : c ≠ b) : (w.setCell ⟨c, j, none⟩ u).cell? ⟨b, o, none⟩ = some x := by rw [World.cell?_setCell_far _ _ _ _ hne]; exact h
theorem SBox.far {w : World} {b c j : Nat} {s : Sp} {u : Value} (h : SBox w b s) (hne : c ≠ b) : SBox (w.setCell ⟨c, j, none⟩ u) b s :=
  ⟨cell_far h.c0 hne, cell_far h.c1 hne, cell_far h.c2 hne, cell_far h.c3 hne, cell_far h.c4 hne, cell_far h.c5 hne, cell_far h.c6 hne, cell_far h.c7 hne, cell_far h.c8 hne, cell_far h.c9 hne, cell_far h.c10 hne⟩
theorem SBox.conj {w' : World} {b : Nat} {s : Sp} (h : SBox w' b s) : w'.cell? ⟨b, 0, none⟩ = some (.bool s.no) ∧ w'.cell? ⟨b, 1, none⟩ = some (.bool s.hl) ∧ w'.cell? ⟨b, 2, none⟩ = some (.bool s.ol) ∧ w'.cell? ⟨b, 3, none⟩ = some (.bool s.lo.t) ∧ w'.cell? ⟨b, 4, none⟩ = some (.int .i64 s.lo.n) ∧ w'.cell? ⟨b, 5, none⟩ = some (.string s.lo.s) ∧ w'.cell? ⟨b, 6, none⟩ = some (.bool s.hh) ∧ w'.cell? ⟨b, 7, none⟩ = some (.bool s.oh) ∧ w'.cell? ⟨b, 8, none⟩ = some (.bool s.hi.t) ∧ w'.cell? ⟨b, 9, none⟩ = some (.int .i64 s.hi.n) ∧ w'.cell? ⟨b, 10, none⟩ = some (.string s.hi.s) := ⟨h.c0, h.c1, h.c2, h.c3, h.c4, h.c5, h.c6, h.c7, h.c8, h.c9, h.c10⟩
set_option maxHeartbeats 2000000 in
theorem clean_any (s : Sp) (w : World) : Calls Tryd.prog 38 #[s.val] w fun e w' => e = .returned (cleanS s).val ∧ Below w.heap.size w w' := by
  have HA : Hid (cleanS s = if s.no then Sp.none else btw (lowE s) (uppE s)) := rfl
  have HL : Hid (∀ w1, Calls Tryd.prog 34 #[s.val] w1 fun e w' => e = .returned (lowE s).val ∧ Below w1.heap.size w1 w') := fun w1 => lower_any s w1
  have HU : Hid (∀ w1, Calls Tryd.prog 36 #[s.val] w1 fun e w' => e = .returned (uppE s).val ∧ Below w1.heap.size w1 w') := fun w1 => upper_any s w1
  have HW : Hid (∀ w1, Calls Tryd.prog 39 #[(lowE s).val, (uppE s).val] w1 fun e w' => e = .returned (btw (lowE s) (uppE s)).val ∧ Below w1.heap.size w1 w') := fun w1 => between_any _ _ w1
  generalize btw (lowE s) (uppE s) = r1 at *
  generalize lowE s = lo at *
  generalize uppE s = up at *
  generalize cleanS s = r at *
  obtain ⟨no, hno⟩ : ∃ o, s.no = o := ⟨_, rfl⟩
  rw [hno] at HA
  have HN : Hid _ := S2.new w s 35 35
  unfold Sp.val En.val at *
  rw [hno] at HL HU ⊢
  cases no
  case true =>
    clear HL HU HW HN hno
    go_enter Tryd.func38, Tryd.ntmps38
    go_wp2_with fail
    refine bodyPost_ret (v := Sp.none.val) (by simp [results, Tryd.results38, go_sem, Sp.val, Sp.none, Val.zero]) rfl ⟨by rw [HA.out]; rfl, ?_⟩
    exact back1 (alloc1 _ _)
  have HR : Hid (r = r1) := HA.out
  have HNO : Hid (s.no = false) := hno
  clear HA
  go_enter Tryd.func38, Tryd.ntmps38
  go_wp2_with fail
  have X0 : S2 w s _ := HN.out.below (Below.refl _ _).drew
  rw [sobj, hno] at X0
  clear hno HN
  have D : ∀ w1, S2 w s w1 → SBox w1 w.heap.size ⟨false, s.hl, s.ol, s.lo, s.hh, s.oh, s.hi⟩ := fun w1 h => by have := h.pa; rw [show s = ⟨false, s.hl, s.ol, s.lo, s.hh, s.oh, s.hi⟩ from by rw [← HNO.out]] at this; exact this
  have HD : Hid _ := D
  clear D
  refine wp_region_held_drew (S := fun w' => w'.cell? ⟨w.heap.size, 0, none⟩ = some (.bool false) ∧ w'.cell? ⟨w.heap.size, 1, none⟩ = some (.bool s.hl) ∧ w'.cell? ⟨w.heap.size, 2, none⟩ = some (.bool s.ol) ∧ w'.cell? ⟨w.heap.size, 3, none⟩ = some (.bool s.lo.t) ∧ w'.cell? ⟨w.heap.size, 4, none⟩ = some (.int .i64 s.lo.n) ∧ w'.cell? ⟨w.heap.size, 5, none⟩ = some (.string s.lo.s) ∧ w'.cell? ⟨w.heap.size, 6, none⟩ = some (.bool s.hh) ∧ w'.cell? ⟨w.heap.size, 7, none⟩ = some (.bool s.oh) ∧ w'.cell? ⟨w.heap.size, 8, none⟩ = some (.bool s.hi.t) ∧ w'.cell? ⟨w.heap.size, 9, none⟩ = some (.int .i64 s.hi.n) ∧ w'.cell? ⟨w.heap.size, 10, none⟩ = some (.string s.hi.s)) (by kernel_rfl) ?_ (fun hHeld => ?_)
  · exact ⟨(HD.out _ X0).c0, (HD.out _ X0).c1, (HD.out _ X0).c2, (HD.out _ X0).c3, (HD.out _ X0).c4, (HD.out _ X0).c5, (HD.out _ X0).c6, (HD.out _ X0).c7, (HD.out _ X0).c8, (HD.out _ X0).c9, (HD.out _ X0).c10⟩
  (try clear hK K)
  refine wpAnyH_take (i := 0) (v := ?_) rfl (by kernel_rfl) (by kernel_rfl) (by kernel_rfl) (fun _ _ _ h => h) (Or.inl ⟨by rfl, ?_⟩) (by assumption) ?_
  rotate_left
  · intro w hSw; (try dsimp only at hSw); go_simp; (try with_reducible rfl)
  (try simp only [Act.put, List.getElem_toArray, List.getElem_cons_zero, List.setIfInBounds_toArray, List.set_cons_zero, List.set_cons_succ])
  refine wpAnyH_take (i := 2) (v := ?_) rfl (by kernel_rfl) (by kernel_rfl) (by kernel_rfl) (fun _ _ _ h => h) (Or.inl ⟨by rfl, ?_⟩) (by assumption) ?_
  rotate_left
  · intro w hSw; (try dsimp only at hSw); go_simp; (try with_reducible rfl)
  (try simp only [Act.put, List.getElem_toArray, List.getElem_cons_succ, List.getElem_cons_zero, List.setIfInBounds_toArray, List.set_cons_zero, List.set_cons_succ])
  (try clear hK K)
  refine wpAnyH_ready (rs := [1]) (by kernel_rfl) (by simp) ?_
  refine AllReadyH.cons rfl (fun K hK => ?_) AllReadyH.nil
  go_simp
  (refine Calls.mono (HL.out _) ?_; rintro e w1 ⟨rfl, hb1⟩; have X1 := X0.below hb1)
  refine hK.out _ _ ?_ (fun hHeld => ?_)
  · exact ⟨(HD.out _ X1).c0, (HD.out _ X1).c1, (HD.out _ X1).c2, (HD.out _ X1).c3, (HD.out _ X1).c4, (HD.out _ X1).c5, (HD.out _ X1).c6, (HD.out _ X1).c7, (HD.out _ X1).c8, (HD.out _ X1).c9, (HD.out _ X1).c10⟩
  (try clear hK K)
  refine wpAnyH_ready (rs := [3]) (by kernel_rfl) (by simp) ?_
  refine AllReadyH.cons rfl (fun K hK => ?_) AllReadyH.nil
  go_simp
  (refine Calls.mono (HU.out _) ?_; rintro e w2 ⟨rfl, hb2⟩; have X2 := X1.below hb2)
  refine hK.out _ _ ?_ (fun hHeld => ?_)
  · exact ⟨(HD.out _ X2).c0, (HD.out _ X2).c1, (HD.out _ X2).c2, (HD.out _ X2).c3, (HD.out _ X2).c4, (HD.out _ X2).c5, (HD.out _ X2).c6, (HD.out _ X2).c7, (HD.out _ X2).c8, (HD.out _ X2).c9, (HD.out _ X2).c10⟩
  (try clear hK K)
  refine wpAnyH_ready (rs := [4]) (by kernel_rfl) (by simp) ?_
  refine AllReadyH.cons rfl (fun K hK => ?_) AllReadyH.nil
  go_simp
  (refine Calls.mono (HW.out _) ?_; rintro e w3 ⟨rfl, hb3⟩; have X3 := X2.below hb3)
  refine hK.out _ _ ?_ (fun hHeld => ?_)
  · exact ⟨(HD.out _ X3).c0, (HD.out _ X3).c1, (HD.out _ X3).c2, (HD.out _ X3).c3, (HD.out _ X3).c4, (HD.out _ X3).c5, (HD.out _ X3).c6, (HD.out _ X3).c7, (HD.out _ X3).c8, (HD.out _ X3).c9, (HD.out _ X3).c10⟩
  obtain ⟨z0, z1, z2, z3, z4, z5, z6, z7, z8, z9, z10⟩ := X3.pz
  obtain ⟨lz, fz⟩ := X3.fz
  have HX : Hid (S2 w s w3) := X3
  clear X0 X1 X2 X3 hb1 hb2 hb3 HL HU HW
  (try clear hK K)
  refine wpAnyH_ready (rs := [5]) (by kernel_rfl) (by simp) ?_
  refine AllReadyH.cons rfl (fun K hK => ?_) AllReadyH.nil
  go_simp
  refine hK.out _ _ ?_ (fun hHeld => ?_)
  · refine SBox.conj (s := ⟨false, s.hl, s.ol, s.lo, s.hh, s.oh, s.hi⟩) ?_
    repeat (refine SBox.far ?_ (by omega))
    exact HD.out _ HX.out
  (try clear hK K)
  refine wpAnyH_done (by kernel_rfl) ?_ _
  go_wp2_with fail
  refine bodyPost_ret (v := r1.val) (by simp [results, Tryd.results38, go_sem, Sp.val, z0, z1, z2, z3, z4, z5, z6, z7, z8, z9, z10]) rfl ⟨by rw [HR.out]; rfl, ?_⟩
  repeat (refine set_below ?_ (by omega) _)
  exact HX.out.be
/-- A span's box, and a value's. -/
structure SVB (w0 : World) (s : Sp) (x : Val) (w : World) : Prop where
  pa : SBox w w0.heap.size s
  pv : VBox w (w0.heap.size + 1) x
  be : Below w0.heap.size w0 w
theorem SVB.below {w0 w w' : World} {s : Sp} {x : Val} (h : SVB w0 s x w) (hb : Below w.heap.size w w') : SVB w0 s x w' := ⟨h.pa.below hb, h.pv.below hb, on h.be hb⟩
theorem SVB.new (w : World) (s : Sp) (x : Val) (T1 T2 : TypeId) : SVB w s x ((w.alloc (sobj s T1)).alloc (vobj x T2)) := by
  refine ⟨(SBox.new w s T1).alloc _, ?_, back1 (alloc1 _ _)⟩
  have := VBox.new (w.alloc (sobj s T1)) x T2; simpa using this
set_option maxHeartbeats 2000000 in
theorem within_any (s : Sp) (x : Val) (w : World) : Calls Tryd.prog 17 #[s.val, V x.t x.n x.s] w fun e w' => e = .returned (.bool (withinS s x)) ∧ Below w.heap.size w w' := by
  have HA : Hid (withinS s x = (!s.no && (!apartE (lowE s) (closedE x) && !apartE (closedE x) (uppE s)))) := rfl
  have HL : Hid (∀ w1, Calls Tryd.prog 34 #[s.val] w1 fun e w' => e = .returned (lowE s).val ∧ Below w1.heap.size w1 w') := fun w1 => lower_any s w1
  have HU : Hid (∀ w1, Calls Tryd.prog 36 #[s.val] w1 fun e w' => e = .returned (uppE s).val ∧ Below w1.heap.size w1 w') := fun w1 => upper_any s w1
  have HV : Hid (∀ w1, Calls Tryd.prog 35 #[V x.t x.n x.s] w1 fun e w' => e = .returned (closedE x).val ∧ Below w1.heap.size w1 w') := fun w1 => closed_any x w1
  have HP : Hid (∀ w1, Calls Tryd.prog 33 #[(lowE s).val, (closedE x).val] w1 fun e w' => e = .returned (.bool (apartE (lowE s) (closedE x))) ∧ Below w1.heap.size w1 w') := fun w1 => apart_any _ _ w1
  have HQ : Hid (∀ w1, Calls Tryd.prog 33 #[(closedE x).val, (uppE s).val] w1 fun e w' => e = .returned (.bool (apartE (closedE x) (uppE s))) ∧ Below w1.heap.size w1 w') := fun w1 => apart_any _ _ w1
  generalize apartE (lowE s) (closedE x) = p1 at *
  generalize apartE (closedE x) (uppE s) = p2 at *
  generalize lowE s = lo at *
  generalize uppE s = up at *
  generalize closedE x = cl at *
  generalize withinS s x = r at *
  obtain ⟨no, hno⟩ : ∃ o, s.no = o := ⟨_, rfl⟩
  rw [hno] at HA
  have HN : Hid _ := SVB.new w s x 35 26
  unfold Sp.val En.val at *
  have HD : Hid (∀ w1, SVB w s x w1 → SBox w1 w.heap.size ⟨no, s.hl, s.ol, s.lo, s.hh, s.oh, s.hi⟩) := fun w1 h => by have := h.pa; rw [show s = ⟨no, s.hl, s.ol, s.lo, s.hh, s.oh, s.hi⟩ from by rw [← hno]] at this; exact this
  rw [hno] at HL HU ⊢
  have HNO : Hid (s.no = no) := hno
  clear hno
  go_enter Tryd.func17, Tryd.ntmps17
  go_wp2_with fail
  have X0 : SVB w s x _ := HN.out.below (Below.refl _ _).drew
  rw [sobj, HNO.out] at X0
  clear HN HNO
  cases no
  case true =>
    clear HL HU HV HP HQ
    have H1 : Hid (Below w.heap.size w _) := X0.be
    refine wp_region_held_drew (S := fun w' => (w'.cell? ⟨w.heap.size, 0, none⟩ = some (.bool true) ∧ w'.cell? ⟨w.heap.size, 1, none⟩ = some (.bool s.hl) ∧ w'.cell? ⟨w.heap.size, 2, none⟩ = some (.bool s.ol) ∧ w'.cell? ⟨w.heap.size, 3, none⟩ = some (.bool s.lo.t) ∧ w'.cell? ⟨w.heap.size, 4, none⟩ = some (.int .i64 s.lo.n) ∧ w'.cell? ⟨w.heap.size, 5, none⟩ = some (.string s.lo.s) ∧ w'.cell? ⟨w.heap.size, 6, none⟩ = some (.bool s.hh) ∧ w'.cell? ⟨w.heap.size, 7, none⟩ = some (.bool s.oh) ∧ w'.cell? ⟨w.heap.size, 8, none⟩ = some (.bool s.hi.t) ∧ w'.cell? ⟨w.heap.size, 9, none⟩ = some (.int .i64 s.hi.n) ∧ w'.cell? ⟨w.heap.size, 10, none⟩ = some (.string s.hi.s)) ∧ w'.cell? ⟨w.heap.size + 1, 0, none⟩ = some (.bool x.t) ∧ w'.cell? ⟨w.heap.size + 1, 1, none⟩ = some (.int .i64 x.n) ∧ w'.cell? ⟨w.heap.size + 1, 2, none⟩ = some (.string x.s)) (by kernel_rfl) ?_ (fun hHeld => ?_)
    · exact ⟨⟨(HD.out _ X0).c0, (HD.out _ X0).c1, (HD.out _ X0).c2, (HD.out _ X0).c3, (HD.out _ X0).c4, (HD.out _ X0).c5, (HD.out _ X0).c6, (HD.out _ X0).c7, (HD.out _ X0).c8, (HD.out _ X0).c9, (HD.out _ X0).c10⟩, ⟨X0.pv.c0, X0.pv.c1, X0.pv.c2⟩⟩
    (try clear hK K)
    refine wpAnyH_take (i := 0) (v := ?_) rfl (by kernel_rfl) (by kernel_rfl) (by kernel_rfl) (fun _ _ _ h => h) (Or.inl ⟨by rfl, ?_⟩) (by assumption) ?_
    rotate_left
    · intro w hSw; (try dsimp only at hSw); go_simp; (try with_reducible rfl)
    (try simp only [Act.put, List.getElem_toArray, List.getElem_cons_zero, List.setIfInBounds_toArray, List.set_cons_zero, List.set_cons_succ])
    refine wpAnyH_take (i := 1) (v := ?_) rfl (by kernel_rfl) (by kernel_rfl) (by kernel_rfl) (fun _ _ _ h => h) (Or.inl ⟨by rfl, ?_⟩) (by assumption) ?_
    rotate_left
    · intro w hSw; (try dsimp only at hSw); go_simp; (try with_reducible rfl)
    (try simp only [Act.put, List.getElem_toArray, List.getElem_cons_succ, List.getElem_cons_zero, List.setIfInBounds_toArray, List.set_cons_zero, List.set_cons_succ])
    refine wpAnyH_take (i := 2) (v := ?_) rfl (by kernel_rfl) (by kernel_rfl) (by kernel_rfl) (fun _ _ _ h => h) (Or.inl ⟨by rfl, ?_⟩) (by assumption) ?_
    rotate_left
    · intro w hSw; (try dsimp only at hSw); go_simp; (try with_reducible rfl)
    (try simp only [Act.put, List.getElem_toArray, List.getElem_cons_succ, List.getElem_cons_zero, List.setIfInBounds_toArray, List.set_cons_zero, List.set_cons_succ])
    refine wpAnyH_take (i := 3) (v := ?_) rfl (by kernel_rfl) (by kernel_rfl) (by kernel_rfl) (fun _ _ _ h => h) (Or.inl ⟨by rfl, ?_⟩) (by assumption) ?_
    rotate_left
    · intro w hSw; (try dsimp only at hSw); go_simp; (try with_reducible rfl)
    (try simp only [Act.put, List.getElem_toArray, List.getElem_cons_succ, List.getElem_cons_zero, List.setIfInBounds_toArray, List.set_cons_zero, List.set_cons_succ])
    (try clear hK K)
    refine wpAnyH_take (i := 4) (v := undef) rfl (by kernel_rfl) (by kernel_rfl) (by kernel_rfl) (fun _ _ _ h => h) (Or.inr ⟨by rfl, rfl⟩) (by assumption) ?_
    (try simp only [Act.put, List.getElem_toArray, List.getElem_cons_succ, List.getElem_cons_zero, List.setIfInBounds_toArray, List.set_cons_zero, List.set_cons_succ])
    refine wpAnyH_take (i := 5) (v := undef) rfl (by kernel_rfl) (by kernel_rfl) (by kernel_rfl) (fun _ _ _ h => h) (Or.inr ⟨by rfl, rfl⟩) (by assumption) ?_
    (try simp only [Act.put, List.getElem_toArray, List.getElem_cons_succ, List.getElem_cons_zero, List.setIfInBounds_toArray, List.set_cons_zero, List.set_cons_succ])
    refine wpAnyH_take (i := 6) (v := undef) rfl (by kernel_rfl) (by kernel_rfl) (by kernel_rfl) (fun _ _ _ h => h) (Or.inr ⟨by rfl, rfl⟩) (by assumption) ?_
    (try simp only [Act.put, List.getElem_toArray, List.getElem_cons_succ, List.getElem_cons_zero, List.setIfInBounds_toArray, List.set_cons_zero, List.set_cons_succ])
    refine wpAnyH_take (i := 7) (v := undef) rfl (by kernel_rfl) (by kernel_rfl) (by kernel_rfl) (fun _ _ _ h => h) (Or.inr ⟨by rfl, rfl⟩) (by assumption) ?_
    (try simp only [Act.put, List.getElem_toArray, List.getElem_cons_succ, List.getElem_cons_zero, List.setIfInBounds_toArray, List.set_cons_zero, List.set_cons_succ])
    refine wpAnyH_take (i := 8) (v := undef) rfl (by kernel_rfl) (by kernel_rfl) (by kernel_rfl) (fun _ _ _ h => h) (Or.inr ⟨by rfl, rfl⟩) (by assumption) ?_
    (try simp only [Act.put, List.getElem_toArray, List.getElem_cons_succ, List.getElem_cons_zero, List.setIfInBounds_toArray, List.set_cons_zero, List.set_cons_succ])
    refine wpAnyH_take (i := 9) (v := undef) rfl (by kernel_rfl) (by kernel_rfl) (by kernel_rfl) (fun _ _ _ h => h) (Or.inr ⟨by rfl, rfl⟩) (by assumption) ?_
    (try simp only [Act.put, List.getElem_toArray, List.getElem_cons_succ, List.getElem_cons_zero, List.setIfInBounds_toArray, List.set_cons_zero, List.set_cons_succ])
    (try clear hK K)
    refine wpAnyH_take (i := 10) (v := ?_) rfl (by kernel_rfl) (by kernel_rfl) (by kernel_rfl) (fun _ _ _ h => h) (Or.inl ⟨by rfl, ?_⟩) (by assumption) ?_
    rotate_left
    · intro w hSw; (try dsimp only at hSw); go_simp; (try with_reducible rfl)
    (try simp only [Act.put, List.getElem_toArray, List.getElem_cons_succ, List.getElem_cons_zero, List.setIfInBounds_toArray, List.set_cons_zero, List.set_cons_succ])
    refine wpAnyH_take (i := 11) (v := ?_) rfl (by kernel_rfl) (by kernel_rfl) (by kernel_rfl) (fun _ _ _ h => h) (Or.inl ⟨by rfl, ?_⟩) (by assumption) ?_
    rotate_left
    · intro w hSw; (try dsimp only at hSw); go_simp; (try with_reducible rfl)
    (try simp only [Act.put, List.getElem_toArray, List.getElem_cons_succ, List.getElem_cons_zero, List.setIfInBounds_toArray, List.set_cons_zero, List.set_cons_succ])
    (try clear hK K)
    refine wpAnyH_take (i := 12) (v := undef) rfl (by kernel_rfl) (by kernel_rfl) (by kernel_rfl) (fun _ _ _ h => h) (Or.inr ⟨by rfl, rfl⟩) (by assumption) ?_
    (try simp only [Act.put, List.getElem_toArray, List.getElem_cons_succ, List.getElem_cons_zero, List.setIfInBounds_toArray, List.set_cons_zero, List.set_cons_succ])
    refine wpAnyH_take (i := 13) (v := undef) rfl (by kernel_rfl) (by kernel_rfl) (by kernel_rfl) (fun _ _ _ h => h) (Or.inr ⟨by rfl, rfl⟩) (by assumption) ?_
    (try simp only [Act.put, List.getElem_toArray, List.getElem_cons_succ, List.getElem_cons_zero, List.setIfInBounds_toArray, List.set_cons_zero, List.set_cons_succ])
    refine wpAnyH_take (i := 14) (v := undef) rfl (by kernel_rfl) (by kernel_rfl) (by kernel_rfl) (fun _ _ _ h => h) (Or.inr ⟨by rfl, rfl⟩) (by assumption) ?_
    (try simp only [Act.put, List.getElem_toArray, List.getElem_cons_succ, List.getElem_cons_zero, List.setIfInBounds_toArray, List.set_cons_zero, List.set_cons_succ])
    refine wpAnyH_take (i := 15) (v := undef) rfl (by kernel_rfl) (by kernel_rfl) (by kernel_rfl) (fun _ _ _ h => h) (Or.inr ⟨by rfl, rfl⟩) (by assumption) ?_
    (try simp only [Act.put, List.getElem_toArray, List.getElem_cons_succ, List.getElem_cons_zero, List.setIfInBounds_toArray, List.set_cons_zero, List.set_cons_succ])
    refine wpAnyH_take (i := 16) (v := undef) rfl (by kernel_rfl) (by kernel_rfl) (by kernel_rfl) (fun _ _ _ h => h) (Or.inr ⟨by rfl, rfl⟩) (by assumption) ?_
    (try simp only [Act.put, List.getElem_toArray, List.getElem_cons_succ, List.getElem_cons_zero, List.setIfInBounds_toArray, List.set_cons_zero, List.set_cons_succ])
    refine wpAnyH_take (i := 17) (v := undef) rfl (by kernel_rfl) (by kernel_rfl) (by kernel_rfl) (fun _ _ _ h => h) (Or.inr ⟨by rfl, rfl⟩) (by assumption) ?_
    (try simp only [Act.put, List.getElem_toArray, List.getElem_cons_succ, List.getElem_cons_zero, List.setIfInBounds_toArray, List.set_cons_zero, List.set_cons_succ])
    (try clear hK K)
    refine wpAnyH_take (i := 18) (v := ?_) rfl (by kernel_rfl) (by kernel_rfl) (by kernel_rfl) (fun _ _ _ h => h) (Or.inl ⟨by rfl, ?_⟩) (by assumption) ?_
    rotate_left
    · intro w hSw; (try dsimp only at hSw); go_simp; (try with_reducible rfl)
    (try simp only [Act.put, List.getElem_toArray, List.getElem_cons_succ, List.getElem_cons_zero, List.setIfInBounds_toArray, List.set_cons_zero, List.set_cons_succ])
    refine wpAnyH_take (i := 19) (v := ?_) rfl (by kernel_rfl) (by kernel_rfl) (by kernel_rfl) (fun _ _ _ h => h) (Or.inl ⟨by rfl, ?_⟩) (by assumption) ?_
    rotate_left
    · intro w hSw; (try dsimp only at hSw); go_simp; (try with_reducible rfl)
    (try simp only [Act.put, List.getElem_toArray, List.getElem_cons_succ, List.getElem_cons_zero, List.setIfInBounds_toArray, List.set_cons_zero, List.set_cons_succ])
    (try clear hK K)
    refine wpAnyH_done (by kernel_rfl) ?_ _
    clear X0
    go_wp2_with fail
    go_ret
    exact ⟨by rw [HA.out]; rfl, H1.out⟩
  refine wp_region_held_drew (S := fun w' => (w'.cell? ⟨w.heap.size, 0, none⟩ = some (.bool false) ∧ w'.cell? ⟨w.heap.size, 1, none⟩ = some (.bool s.hl) ∧ w'.cell? ⟨w.heap.size, 2, none⟩ = some (.bool s.ol) ∧ w'.cell? ⟨w.heap.size, 3, none⟩ = some (.bool s.lo.t) ∧ w'.cell? ⟨w.heap.size, 4, none⟩ = some (.int .i64 s.lo.n) ∧ w'.cell? ⟨w.heap.size, 5, none⟩ = some (.string s.lo.s) ∧ w'.cell? ⟨w.heap.size, 6, none⟩ = some (.bool s.hh) ∧ w'.cell? ⟨w.heap.size, 7, none⟩ = some (.bool s.oh) ∧ w'.cell? ⟨w.heap.size, 8, none⟩ = some (.bool s.hi.t) ∧ w'.cell? ⟨w.heap.size, 9, none⟩ = some (.int .i64 s.hi.n) ∧ w'.cell? ⟨w.heap.size, 10, none⟩ = some (.string s.hi.s)) ∧ w'.cell? ⟨w.heap.size + 1, 0, none⟩ = some (.bool x.t) ∧ w'.cell? ⟨w.heap.size + 1, 1, none⟩ = some (.int .i64 x.n) ∧ w'.cell? ⟨w.heap.size + 1, 2, none⟩ = some (.string x.s)) (by kernel_rfl) ?_ (fun hHeld => ?_)
  · exact ⟨⟨(HD.out _ X0).c0, (HD.out _ X0).c1, (HD.out _ X0).c2, (HD.out _ X0).c3, (HD.out _ X0).c4, (HD.out _ X0).c5, (HD.out _ X0).c6, (HD.out _ X0).c7, (HD.out _ X0).c8, (HD.out _ X0).c9, (HD.out _ X0).c10⟩, ⟨X0.pv.c0, X0.pv.c1, X0.pv.c2⟩⟩
  (try clear hK K)
  refine wpAnyH_take (i := 0) (v := ?_) rfl (by kernel_rfl) (by kernel_rfl) (by kernel_rfl) (fun _ _ _ h => h) (Or.inl ⟨by rfl, ?_⟩) (by assumption) ?_
  rotate_left
  · intro w hSw; (try dsimp only at hSw); go_simp; (try with_reducible rfl)
  (try simp only [Act.put, List.getElem_toArray, List.getElem_cons_zero, List.setIfInBounds_toArray, List.set_cons_zero, List.set_cons_succ])
  refine wpAnyH_take (i := 1) (v := ?_) rfl (by kernel_rfl) (by kernel_rfl) (by kernel_rfl) (fun _ _ _ h => h) (Or.inl ⟨by rfl, ?_⟩) (by assumption) ?_
  rotate_left
  · intro w hSw; (try dsimp only at hSw); go_simp; (try with_reducible rfl)
  (try simp only [Act.put, List.getElem_toArray, List.getElem_cons_succ, List.getElem_cons_zero, List.setIfInBounds_toArray, List.set_cons_zero, List.set_cons_succ])
  refine wpAnyH_take (i := 2) (v := ?_) rfl (by kernel_rfl) (by kernel_rfl) (by kernel_rfl) (fun _ _ _ h => h) (Or.inl ⟨by rfl, ?_⟩) (by assumption) ?_
  rotate_left
  · intro w hSw; (try dsimp only at hSw); go_simp; (try with_reducible rfl)
  (try simp only [Act.put, List.getElem_toArray, List.getElem_cons_succ, List.getElem_cons_zero, List.setIfInBounds_toArray, List.set_cons_zero, List.set_cons_succ])
  refine wpAnyH_take (i := 3) (v := ?_) rfl (by kernel_rfl) (by kernel_rfl) (by kernel_rfl) (fun _ _ _ h => h) (Or.inl ⟨by rfl, ?_⟩) (by assumption) ?_
  rotate_left
  · intro w hSw; (try dsimp only at hSw); go_simp; (try with_reducible rfl)
  (try simp only [Act.put, List.getElem_toArray, List.getElem_cons_succ, List.getElem_cons_zero, List.setIfInBounds_toArray, List.set_cons_zero, List.set_cons_succ])
  refine wpAnyH_take (i := 4) (v := ?_) rfl (by kernel_rfl) (by kernel_rfl) (by kernel_rfl) (fun _ _ _ h => h) (Or.inl ⟨by rfl, ?_⟩) (by assumption) ?_
  rotate_left
  · intro w hSw; (try dsimp only at hSw); go_simp; (try with_reducible rfl)
  (try simp only [Act.put, List.getElem_toArray, List.getElem_cons_succ, List.getElem_cons_zero, List.setIfInBounds_toArray, List.set_cons_zero, List.set_cons_succ])
  refine wpAnyH_take (i := 6) (v := ?_) rfl (by kernel_rfl) (by kernel_rfl) (by kernel_rfl) (fun _ _ _ h => h) (Or.inl ⟨by rfl, ?_⟩) (by assumption) ?_
  rotate_left
  · intro w hSw; (try dsimp only at hSw); go_simp; (try with_reducible rfl)
  (try simp only [Act.put, List.getElem_toArray, List.getElem_cons_succ, List.getElem_cons_zero, List.setIfInBounds_toArray, List.set_cons_zero, List.set_cons_succ])
  (try clear hK K)
  refine wpAnyH_ready (rs := [5]) (by kernel_rfl) (by simp) ?_
  refine AllReadyH.cons rfl (fun K hK => ?_) AllReadyH.nil
  go_simp
  (refine Calls.mono (HL.out _) ?_; rintro e w1 ⟨rfl, hb1⟩; have X1 := X0.below hb1)
  refine hK.out _ _ ?_ (fun hHeld => ?_)
  · exact ⟨⟨(HD.out _ X1).c0, (HD.out _ X1).c1, (HD.out _ X1).c2, (HD.out _ X1).c3, (HD.out _ X1).c4, (HD.out _ X1).c5, (HD.out _ X1).c6, (HD.out _ X1).c7, (HD.out _ X1).c8, (HD.out _ X1).c9, (HD.out _ X1).c10⟩, ⟨X1.pv.c0, X1.pv.c1, X1.pv.c2⟩⟩
  (try clear hK K)
  refine wpAnyH_ready (rs := [7]) (by kernel_rfl) (by simp) ?_
  refine AllReadyH.cons rfl (fun K hK => ?_) AllReadyH.nil
  go_simp
  (refine Calls.mono (HV.out _) ?_; rintro e w2 ⟨rfl, hb2⟩; have X2 := X1.below hb2)
  refine hK.out _ _ ?_ (fun hHeld => ?_)
  · exact ⟨⟨(HD.out _ X2).c0, (HD.out _ X2).c1, (HD.out _ X2).c2, (HD.out _ X2).c3, (HD.out _ X2).c4, (HD.out _ X2).c5, (HD.out _ X2).c6, (HD.out _ X2).c7, (HD.out _ X2).c8, (HD.out _ X2).c9, (HD.out _ X2).c10⟩, ⟨X2.pv.c0, X2.pv.c1, X2.pv.c2⟩⟩
  (try clear hK K)
  refine wpAnyH_ready (rs := [8]) (by kernel_rfl) (by simp) ?_
  refine AllReadyH.cons rfl (fun K hK => ?_) AllReadyH.nil
  go_simp
  (refine Calls.mono (HP.out _) ?_; rintro e w3 ⟨rfl, hb3⟩; have X3 := X2.below hb3)
  refine hK.out _ _ ?_ (fun hHeld => ?_)
  · exact ⟨⟨(HD.out _ X3).c0, (HD.out _ X3).c1, (HD.out _ X3).c2, (HD.out _ X3).c3, (HD.out _ X3).c4, (HD.out _ X3).c5, (HD.out _ X3).c6, (HD.out _ X3).c7, (HD.out _ X3).c8, (HD.out _ X3).c9, (HD.out _ X3).c10⟩, ⟨X3.pv.c0, X3.pv.c1, X3.pv.c2⟩⟩
  clear X0 X1 X2 hb1 hb2 hb3
  cases p1
  case true =>
    have H1 : Hid (Below w.heap.size w w3) := X3.be
    (try clear hK K)
    refine wpAnyH_take (i := 9) (v := ?_) rfl (by kernel_rfl) (by kernel_rfl) (by kernel_rfl) (fun _ _ _ h => h) (Or.inl ⟨by rfl, ?_⟩) (by assumption) ?_
    rotate_left
    · intro w hSw; (try dsimp only at hSw); go_simp; (try with_reducible rfl)
    (try simp only [Act.put, List.getElem_toArray, List.getElem_cons_succ, List.getElem_cons_zero, List.setIfInBounds_toArray, List.set_cons_zero, List.set_cons_succ])
    refine wpAnyH_take (i := 10) (v := ?_) rfl (by kernel_rfl) (by kernel_rfl) (by kernel_rfl) (fun _ _ _ h => h) (Or.inl ⟨by rfl, ?_⟩) (by assumption) ?_
    rotate_left
    · intro w hSw; (try dsimp only at hSw); go_simp; (try with_reducible rfl)
    (try simp only [Act.put, List.getElem_toArray, List.getElem_cons_succ, List.getElem_cons_zero, List.setIfInBounds_toArray, List.set_cons_zero, List.set_cons_succ])
    refine wpAnyH_take (i := 11) (v := ?_) rfl (by kernel_rfl) (by kernel_rfl) (by kernel_rfl) (fun _ _ _ h => h) (Or.inl ⟨by rfl, ?_⟩) (by assumption) ?_
    rotate_left
    · intro w hSw; (try dsimp only at hSw); go_simp; (try with_reducible rfl)
    (try simp only [Act.put, List.getElem_toArray, List.getElem_cons_succ, List.getElem_cons_zero, List.setIfInBounds_toArray, List.set_cons_zero, List.set_cons_succ])
    (try clear hK K)
    refine wpAnyH_take (i := 12) (v := undef) rfl (by kernel_rfl) (by kernel_rfl) (by kernel_rfl) (fun _ _ _ h => h) (Or.inr ⟨by rfl, rfl⟩) (by assumption) ?_
    (try simp only [Act.put, List.getElem_toArray, List.getElem_cons_succ, List.getElem_cons_zero, List.setIfInBounds_toArray, List.set_cons_zero, List.set_cons_succ])
    refine wpAnyH_take (i := 13) (v := undef) rfl (by kernel_rfl) (by kernel_rfl) (by kernel_rfl) (fun _ _ _ h => h) (Or.inr ⟨by rfl, rfl⟩) (by assumption) ?_
    (try simp only [Act.put, List.getElem_toArray, List.getElem_cons_succ, List.getElem_cons_zero, List.setIfInBounds_toArray, List.set_cons_zero, List.set_cons_succ])
    refine wpAnyH_take (i := 14) (v := undef) rfl (by kernel_rfl) (by kernel_rfl) (by kernel_rfl) (fun _ _ _ h => h) (Or.inr ⟨by rfl, rfl⟩) (by assumption) ?_
    (try simp only [Act.put, List.getElem_toArray, List.getElem_cons_succ, List.getElem_cons_zero, List.setIfInBounds_toArray, List.set_cons_zero, List.set_cons_succ])
    refine wpAnyH_take (i := 15) (v := undef) rfl (by kernel_rfl) (by kernel_rfl) (by kernel_rfl) (fun _ _ _ h => h) (Or.inr ⟨by rfl, rfl⟩) (by assumption) ?_
    (try simp only [Act.put, List.getElem_toArray, List.getElem_cons_succ, List.getElem_cons_zero, List.setIfInBounds_toArray, List.set_cons_zero, List.set_cons_succ])
    refine wpAnyH_take (i := 16) (v := undef) rfl (by kernel_rfl) (by kernel_rfl) (by kernel_rfl) (fun _ _ _ h => h) (Or.inr ⟨by rfl, rfl⟩) (by assumption) ?_
    (try simp only [Act.put, List.getElem_toArray, List.getElem_cons_succ, List.getElem_cons_zero, List.setIfInBounds_toArray, List.set_cons_zero, List.set_cons_succ])
    refine wpAnyH_take (i := 17) (v := undef) rfl (by kernel_rfl) (by kernel_rfl) (by kernel_rfl) (fun _ _ _ h => h) (Or.inr ⟨by rfl, rfl⟩) (by assumption) ?_
    (try simp only [Act.put, List.getElem_toArray, List.getElem_cons_succ, List.getElem_cons_zero, List.setIfInBounds_toArray, List.set_cons_zero, List.set_cons_succ])
    (try clear hK K)
    refine wpAnyH_take (i := 18) (v := ?_) rfl (by kernel_rfl) (by kernel_rfl) (by kernel_rfl) (fun _ _ _ h => h) (Or.inl ⟨by rfl, ?_⟩) (by assumption) ?_
    rotate_left
    · intro w hSw; (try dsimp only at hSw); go_simp; (try with_reducible rfl)
    (try simp only [Act.put, List.getElem_toArray, List.getElem_cons_succ, List.getElem_cons_zero, List.setIfInBounds_toArray, List.set_cons_zero, List.set_cons_succ])
    refine wpAnyH_take (i := 19) (v := ?_) rfl (by kernel_rfl) (by kernel_rfl) (by kernel_rfl) (fun _ _ _ h => h) (Or.inl ⟨by rfl, ?_⟩) (by assumption) ?_
    rotate_left
    · intro w hSw; (try dsimp only at hSw); go_simp; (try with_reducible rfl)
    (try simp only [Act.put, List.getElem_toArray, List.getElem_cons_succ, List.getElem_cons_zero, List.setIfInBounds_toArray, List.set_cons_zero, List.set_cons_succ])
    (try clear hK K)
    refine wpAnyH_done (by kernel_rfl) ?_ _
    clear X3
    go_wp2_with fail
    go_ret
    exact ⟨by rw [HA.out]; rfl, H1.out⟩
  (try clear hK K)
  refine wpAnyH_take (i := 9) (v := ?_) rfl (by kernel_rfl) (by kernel_rfl) (by kernel_rfl) (fun _ _ _ h => h) (Or.inl ⟨by rfl, ?_⟩) (by assumption) ?_
  rotate_left
  · intro w hSw; (try dsimp only at hSw); go_simp; (try with_reducible rfl)
  (try simp only [Act.put, List.getElem_toArray, List.getElem_cons_succ, List.getElem_cons_zero, List.setIfInBounds_toArray, List.set_cons_zero, List.set_cons_succ])
  refine wpAnyH_take (i := 10) (v := ?_) rfl (by kernel_rfl) (by kernel_rfl) (by kernel_rfl) (fun _ _ _ h => h) (Or.inl ⟨by rfl, ?_⟩) (by assumption) ?_
  rotate_left
  · intro w hSw; (try dsimp only at hSw); go_simp; (try with_reducible rfl)
  (try simp only [Act.put, List.getElem_toArray, List.getElem_cons_succ, List.getElem_cons_zero, List.setIfInBounds_toArray, List.set_cons_zero, List.set_cons_succ])
  refine wpAnyH_take (i := 11) (v := ?_) rfl (by kernel_rfl) (by kernel_rfl) (by kernel_rfl) (fun _ _ _ h => h) (Or.inl ⟨by rfl, ?_⟩) (by assumption) ?_
  rotate_left
  · intro w hSw; (try dsimp only at hSw); go_simp; (try with_reducible rfl)
  (try simp only [Act.put, List.getElem_toArray, List.getElem_cons_succ, List.getElem_cons_zero, List.setIfInBounds_toArray, List.set_cons_zero, List.set_cons_succ])
  refine wpAnyH_take (i := 12) (v := ?_) rfl (by kernel_rfl) (by kernel_rfl) (by kernel_rfl) (fun _ _ _ h => h) (Or.inl ⟨by rfl, ?_⟩) (by assumption) ?_
  rotate_left
  · intro w hSw; (try dsimp only at hSw); go_simp; (try with_reducible rfl)
  (try simp only [Act.put, List.getElem_toArray, List.getElem_cons_succ, List.getElem_cons_zero, List.setIfInBounds_toArray, List.set_cons_zero, List.set_cons_succ])
  refine wpAnyH_take (i := 14) (v := ?_) rfl (by kernel_rfl) (by kernel_rfl) (by kernel_rfl) (fun _ _ _ h => h) (Or.inl ⟨by rfl, ?_⟩) (by assumption) ?_
  rotate_left
  · intro w hSw; (try dsimp only at hSw); go_simp; (try with_reducible rfl)
  (try simp only [Act.put, List.getElem_toArray, List.getElem_cons_succ, List.getElem_cons_zero, List.setIfInBounds_toArray, List.set_cons_zero, List.set_cons_succ])
  (try clear hK K)
  refine wpAnyH_ready (rs := [13]) (by kernel_rfl) (by simp) ?_
  refine AllReadyH.cons rfl (fun K hK => ?_) AllReadyH.nil
  go_simp
  (refine Calls.mono (HV.out _) ?_; rintro e w4 ⟨rfl, hb4⟩; have X4 := X3.below hb4)
  refine hK.out _ _ ?_ (fun hHeld => ?_)
  · exact ⟨⟨(HD.out _ X4).c0, (HD.out _ X4).c1, (HD.out _ X4).c2, (HD.out _ X4).c3, (HD.out _ X4).c4, (HD.out _ X4).c5, (HD.out _ X4).c6, (HD.out _ X4).c7, (HD.out _ X4).c8, (HD.out _ X4).c9, (HD.out _ X4).c10⟩, ⟨X4.pv.c0, X4.pv.c1, X4.pv.c2⟩⟩
  (try clear hK K)
  refine wpAnyH_ready (rs := [15]) (by kernel_rfl) (by simp) ?_
  refine AllReadyH.cons rfl (fun K hK => ?_) AllReadyH.nil
  go_simp
  (refine Calls.mono (HU.out _) ?_; rintro e w5 ⟨rfl, hb5⟩; have X5 := X4.below hb5)
  refine hK.out _ _ ?_ (fun hHeld => ?_)
  · exact ⟨⟨(HD.out _ X5).c0, (HD.out _ X5).c1, (HD.out _ X5).c2, (HD.out _ X5).c3, (HD.out _ X5).c4, (HD.out _ X5).c5, (HD.out _ X5).c6, (HD.out _ X5).c7, (HD.out _ X5).c8, (HD.out _ X5).c9, (HD.out _ X5).c10⟩, ⟨X5.pv.c0, X5.pv.c1, X5.pv.c2⟩⟩
  (try clear hK K)
  refine wpAnyH_ready (rs := [16]) (by kernel_rfl) (by simp) ?_
  refine AllReadyH.cons rfl (fun K hK => ?_) AllReadyH.nil
  go_simp
  (refine Calls.mono (HQ.out _) ?_; rintro e w6 ⟨rfl, hb6⟩; have X6 := X5.below hb6)
  refine hK.out _ _ ?_ (fun hHeld => ?_)
  · exact ⟨⟨(HD.out _ X6).c0, (HD.out _ X6).c1, (HD.out _ X6).c2, (HD.out _ X6).c3, (HD.out _ X6).c4, (HD.out _ X6).c5, (HD.out _ X6).c6, (HD.out _ X6).c7, (HD.out _ X6).c8, (HD.out _ X6).c9, (HD.out _ X6).c10⟩, ⟨X6.pv.c0, X6.pv.c1, X6.pv.c2⟩⟩
  have H1 : Hid (Below w.heap.size w w6) := X6.be
  clear X3 X4 X5 X6 hb4 hb5 hb6
  (try clear hK K)
  refine wpAnyH_take (i := 17) (v := ?_) rfl (by kernel_rfl) (by kernel_rfl) (by kernel_rfl) (fun _ _ _ h => h) (Or.inl ⟨by rfl, ?_⟩) (by assumption) ?_
  rotate_left
  · intro w hSw; (try dsimp only at hSw); go_simp; (try with_reducible rfl)
  (try simp only [Act.put, List.getElem_toArray, List.getElem_cons_succ, List.getElem_cons_zero, List.setIfInBounds_toArray, List.set_cons_zero, List.set_cons_succ])
  refine wpAnyH_take (i := 18) (v := ?_) rfl (by kernel_rfl) (by kernel_rfl) (by kernel_rfl) (fun _ _ _ h => h) (Or.inl ⟨by rfl, ?_⟩) (by assumption) ?_
  rotate_left
  · intro w hSw; (try dsimp only at hSw); go_simp; (try with_reducible rfl)
  (try simp only [Act.put, List.getElem_toArray, List.getElem_cons_succ, List.getElem_cons_zero, List.setIfInBounds_toArray, List.set_cons_zero, List.set_cons_succ])
  refine wpAnyH_take (i := 19) (v := ?_) rfl (by kernel_rfl) (by kernel_rfl) (by kernel_rfl) (fun _ _ _ h => h) (Or.inl ⟨by rfl, ?_⟩) (by assumption) ?_
  rotate_left
  · intro w hSw; (try dsimp only at hSw); go_simp; (try with_reducible rfl)
  (try simp only [Act.put, List.getElem_toArray, List.getElem_cons_succ, List.getElem_cons_zero, List.setIfInBounds_toArray, List.set_cons_zero, List.set_cons_succ])
  (try clear hK K)
  refine wpAnyH_done (by kernel_rfl) ?_ _
  go_wp2_with fail
  go_ret
  exact ⟨by rw [HA.out]; simp, H1.out⟩
end Go.Proofs.YtfkhfplibhnceaaDoor.Val
