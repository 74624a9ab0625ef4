/- What below, Right and Compare of package value answer, over this seat's translation. No conditions. -/
import Derived.Test.YtafkpfhhmmnpeaaU1
import Derived.Deep.RegionHeld3
namespace Go.Proofs.Ytafkpfhhmmnpeaa.Val
open Go.RowKit

theorem below_tt (na nb : Int) (sa sb : ByteArray) (w : World) :
    Calls Try.prog 79 #[V true na sa, V true nb sb] w fun e w' => e = .returned (.bool (Op.bytesLess sa.toList sb.toList)) ∧ Below w.heap.size w w' := by
  go_enter Try.func79, Try.ntmps79
  go_wp2
  go_ret
  exact ⟨rfl, ((Below.refl _ _).alloc (Nat.le_refl _) _).alloc (by simp) _⟩
theorem below_nn (na nb : Int) (sa sb : ByteArray) (w : World) :
    Calls Try.prog 79 #[V false na sa, V false nb sb] w fun e w' => e = .returned (.bool (decide (na < nb))) ∧ Below w.heap.size w w' := by
  go_enter Try.func79, Try.ntmps79
  go_wp2
  go_ret
  exact ⟨rfl, ((Below.refl _ _).alloc (Nat.le_refl _) _).alloc (by simp) _⟩
theorem below_nt (na nb : Int) (sa sb : ByteArray) (w : World) :
    Calls Try.prog 79 #[V false na sa, V true nb sb] w fun e w' => e = .returned (.bool true) ∧ Below w.heap.size w w' := by
  go_enter Try.func79, Try.ntmps79
  go_wp2
  go_ret
  exact ⟨rfl, ((Below.refl _ _).alloc (Nat.le_refl _) _).alloc (by simp) _⟩
theorem below_tn (na nb : Int) (sa sb : ByteArray) (w : World) :
    Calls Try.prog 79 #[V true na sa, V false nb sb] w fun e w' => e = .returned (.bool false) ∧ Below w.heap.size w w' := by
  go_enter Try.func79, Try.ntmps79
  go_wp2
  go_ret
  exact ⟨rfl, ((Below.refl _ _).alloc (Nat.le_refl _) _).alloc (by simp) _⟩

set_option maxHeartbeats 400000 in
theorem cmp_nt (na nb : Int) (sa sb : ByteArray) (w : World) :
    Calls Try.prog 71 #[V false na sa, V true nb sb] w fun e w' => e = .returned (.int .i64 (-1)) ∧ Below w.heap.size w w' := by
  go_enter Try.func71, Try.ntmps71
  go_wp2
  go_region_held3 (fun w' => w'.cell? ⟨w.heap.size, 0, none⟩ = some (.bool false) ∧ w'.cell? ⟨w.heap.size, 1, none⟩ = some (.int .i64 na) ∧ w'.cell? ⟨w.heap.size, 2, none⟩ = some (.string sa) ∧ w'.cell? ⟨w.heap.size + 1, 0, none⟩ = some (.bool true) ∧ w'.cell? ⟨w.heap.size + 1, 1, none⟩ = some (.int .i64 nb) ∧ w'.cell? ⟨w.heap.size + 1, 2, none⟩ = some (.string sb)) (go_keep)
    ((first
    | (go_at_call_of 68 (Value.string sa); refine (bare_number _ _ _).mono ?_; rintro e w1 ⟨rfl, hb1⟩; obtain ⟨hc1, hz1, HB1⟩ := kept2a hb1)
    | (go_at_call_of 68 (Value.string sb); refine (bare_text _ _ _).mono ?_; rintro e w2 ⟨rfl, hb2⟩; have hc2 := kept2b hz1 hc1 hb2)))
  all_goals
    have HX : Hid (Below w.heap.size w w2) := HB1.trans (hb2.mono (by omega))
    have hz2 := hb2.size
    obtain ⟨a0, a1, a2, b0, b1, b2⟩ := hc2
    clear hc1 hb1 hb2 HB1
    go_wp2_with (go_at_call 79; refine (below_nt _ _ _ _ _).mono ?_; rintro e w3 ⟨rfl, hb3⟩)
    go_ret
    exact ⟨rfl, HX.out.trans (hb3.mono (by omega))⟩
set_option maxHeartbeats 400000 in
theorem cmp_tn (na nb : Int) (sa sb : ByteArray) (w : World) :
    Calls Try.prog 71 #[V true na sa, V false nb sb] w fun e w' => e = .returned (.int .i64 1) ∧ Below w.heap.size w w' := by
  go_enter Try.func71, Try.ntmps71
  go_wp2
  go_region_held3 (fun w' => w'.cell? ⟨w.heap.size, 0, none⟩ = some (.bool true) ∧ w'.cell? ⟨w.heap.size, 1, none⟩ = some (.int .i64 na) ∧ w'.cell? ⟨w.heap.size, 2, none⟩ = some (.string sa) ∧ w'.cell? ⟨w.heap.size + 1, 0, none⟩ = some (.bool false) ∧ w'.cell? ⟨w.heap.size + 1, 1, none⟩ = some (.int .i64 nb) ∧ w'.cell? ⟨w.heap.size + 1, 2, none⟩ = some (.string sb)) (go_keep)
    ((first
    | (go_at_call_of 68 (Value.string sa); refine (bare_text _ _ _).mono ?_; rintro e w1 ⟨rfl, hb1⟩; obtain ⟨hc1, hz1, HB1⟩ := kept2a hb1)
    | (go_at_call_of 68 (Value.string sb); refine (bare_number _ _ _).mono ?_; rintro e w2 ⟨rfl, hb2⟩; have hc2 := kept2b hz1 hc1 hb2)))
  all_goals
    have HX : Hid (Below w.heap.size w w2) := HB1.trans (hb2.mono (by omega))
    have hz2 := hb2.size
    obtain ⟨a0, a1, a2, b0, b1, b2⟩ := hc2
    clear hc1 hb1 hb2 HB1
    go_wp2_with (go_at_call 79; refine (below_tn _ _ _ _ _).mono ?_; rintro e w3 ⟨rfl, hb3⟩)
    go_ret
    exact ⟨rfl, HX.out.trans (hb3.mono (by omega))⟩
set_option maxHeartbeats 400000 in
theorem cmp_nn_eq (na nb : Int) (sa sb : ByteArray) (w : World) (h : (na == nb) = true) :
    Calls Try.prog 71 #[V false na sa, V false nb sb] w fun e w' => e = .returned (.int .i64 (cmpN na nb)) ∧ Below w.heap.size w w' := by
  go_enter Try.func71, Try.ntmps71
  go_wp2
  go_region_held3 (fun w' => w'.cell? ⟨w.heap.size, 0, none⟩ = some (.bool false) ∧ w'.cell? ⟨w.heap.size, 1, none⟩ = some (.int .i64 na) ∧ w'.cell? ⟨w.heap.size, 2, none⟩ = some (.string sa) ∧ w'.cell? ⟨w.heap.size + 1, 0, none⟩ = some (.bool false) ∧ w'.cell? ⟨w.heap.size + 1, 1, none⟩ = some (.int .i64 nb) ∧ w'.cell? ⟨w.heap.size + 1, 2, none⟩ = some (.string sb)) (go_keep)
    ((first
    | (go_at_call_of 68 (Value.string sa); refine (bare_number _ _ _).mono ?_; rintro e w1 ⟨rfl, hb1⟩; obtain ⟨hc1, hz1, HB1⟩ := kept2a hb1)
    | (go_at_call_of 68 (Value.string sb); refine (bare_number _ _ _).mono ?_; rintro e w2 ⟨rfl, hb2⟩; have hc2 := kept2b hz1 hc1 hb2)))
  all_goals
    have HX : Hid (Below w.heap.size w w2) := HB1.trans (hb2.mono (by omega))
    have hz2 := hb2.size
    obtain ⟨a0, a1, a2, b0, b1, b2⟩ := hc2
    clear hc1 hb1 hb2 HB1
    go_wp2_with (go_at_call 79; refine (below_nn _ _ _ _ _).mono ?_; rintro e w3 ⟨rfl, hb3⟩)
    go_ret
    exact ⟨ret_int (cmpN_eq h), HX.out⟩
set_option maxHeartbeats 400000 in
theorem cmp_tt_eq (na nb : Int) (sa sb : ByteArray) (w : World) (h : (sa.toList == sb.toList) = true) :
    Calls Try.prog 71 #[V true na sa, V true nb sb] w fun e w' => e = .returned (.int .i64 (cmpS sa.toList sb.toList)) ∧ Below w.heap.size w w' := by
  go_enter Try.func71, Try.ntmps71
  go_wp2
  go_region_held3 (fun w' => w'.cell? ⟨w.heap.size, 0, none⟩ = some (.bool true) ∧ w'.cell? ⟨w.heap.size, 1, none⟩ = some (.int .i64 na) ∧ w'.cell? ⟨w.heap.size, 2, none⟩ = some (.string sa) ∧ w'.cell? ⟨w.heap.size + 1, 0, none⟩ = some (.bool true) ∧ w'.cell? ⟨w.heap.size + 1, 1, none⟩ = some (.int .i64 nb) ∧ w'.cell? ⟨w.heap.size + 1, 2, none⟩ = some (.string sb)) (go_keep)
    ((first
    | (go_at_call_of 68 (Value.string sa); refine (bare_text _ _ _).mono ?_; rintro e w1 ⟨rfl, hb1⟩; obtain ⟨hc1, hz1, HB1⟩ := kept2a hb1)
    | (go_at_call_of 68 (Value.string sb); refine (bare_text _ _ _).mono ?_; rintro e w2 ⟨rfl, hb2⟩; have hc2 := kept2b hz1 hc1 hb2)))
  all_goals
    have HX : Hid (Below w.heap.size w w2) := HB1.trans (hb2.mono (by omega))
    have hz2 := hb2.size
    obtain ⟨a0, a1, a2, b0, b1, b2⟩ := hc2
    clear hc1 hb1 hb2 HB1
    go_wp2_with (go_at_call 79; refine (below_tt _ _ _ _ _).mono ?_; rintro e w3 ⟨rfl, hb3⟩)
    go_ret
    exact ⟨ret_int (cmpS_eq h), HX.out⟩
set_option maxHeartbeats 400000 in
theorem cmp_nn_ne (na nb : Int) (sa sb : ByteArray) (w : World) (h : (na == nb) = false) :
    Calls Try.prog 71 #[V false na sa, V false nb sb] w fun e w' => e = .returned (.int .i64 (cmpN na nb)) ∧ Below w.heap.size w w' := by
  go_enter Try.func71, Try.ntmps71
  go_wp2
  go_region_held3 (fun w' => w'.cell? ⟨w.heap.size, 0, none⟩ = some (.bool false) ∧ w'.cell? ⟨w.heap.size, 1, none⟩ = some (.int .i64 na) ∧ w'.cell? ⟨w.heap.size, 2, none⟩ = some (.string sa) ∧ w'.cell? ⟨w.heap.size + 1, 0, none⟩ = some (.bool false) ∧ w'.cell? ⟨w.heap.size + 1, 1, none⟩ = some (.int .i64 nb) ∧ w'.cell? ⟨w.heap.size + 1, 2, none⟩ = some (.string sb)) (go_keep)
    ((first
    | (go_at_call_of 68 (Value.string sa); refine (bare_number _ _ _).mono ?_; rintro e w1 ⟨rfl, hb1⟩; obtain ⟨hc1, hz1, HB1⟩ := kept2a hb1)
    | (go_at_call_of 68 (Value.string sb); refine (bare_number _ _ _).mono ?_; rintro e w2 ⟨rfl, hb2⟩; have hc2 := kept2b hz1 hc1 hb2)))
  all_goals
    have HX : Hid (Below w.heap.size w w2) := HB1.trans (hb2.mono (by omega))
    have hz2 := hb2.size
    obtain ⟨a0, a1, a2, b0, b1, b2⟩ := hc2
    clear hc1 hb1 hb2 HB1
    go_wp2_with (go_at_call 79; refine (below_nn _ _ _ _ _).mono ?_; rintro e w3 ⟨rfl, hb3⟩)
    · go_ret
      exact ⟨ret_int (cmpN_lt h (by assumption)), HX.out.trans (hb3.mono (by omega))⟩
    · go_ret
      exact ⟨ret_int (cmpN_gt h (by assumption)), HX.out.trans (hb3.mono (by omega))⟩
set_option maxHeartbeats 400000 in
theorem cmp_tt_ne (na nb : Int) (sa sb : ByteArray) (w : World) (h : (sa.toList == sb.toList) = false) :
    Calls Try.prog 71 #[V true na sa, V true nb sb] w fun e w' => e = .returned (.int .i64 (cmpS sa.toList sb.toList)) ∧ Below w.heap.size w w' := by
  go_enter Try.func71, Try.ntmps71
  go_wp2
  go_region_held3 (fun w' => w'.cell? ⟨w.heap.size, 0, none⟩ = some (.bool true) ∧ w'.cell? ⟨w.heap.size, 1, none⟩ = some (.int .i64 na) ∧ w'.cell? ⟨w.heap.size, 2, none⟩ = some (.string sa) ∧ w'.cell? ⟨w.heap.size + 1, 0, none⟩ = some (.bool true) ∧ w'.cell? ⟨w.heap.size + 1, 1, none⟩ = some (.int .i64 nb) ∧ w'.cell? ⟨w.heap.size + 1, 2, none⟩ = some (.string sb)) (go_keep)
    ((first
    | (go_at_call_of 68 (Value.string sa); refine (bare_text _ _ _).mono ?_; rintro e w1 ⟨rfl, hb1⟩; obtain ⟨hc1, hz1, HB1⟩ := kept2a hb1)
    | (go_at_call_of 68 (Value.string sb); refine (bare_text _ _ _).mono ?_; rintro e w2 ⟨rfl, hb2⟩; have hc2 := kept2b hz1 hc1 hb2)))
  all_goals
    have HX : Hid (Below w.heap.size w w2) := HB1.trans (hb2.mono (by omega))
    have hz2 := hb2.size
    obtain ⟨a0, a1, a2, b0, b1, b2⟩ := hc2
    clear hc1 hb1 hb2 HB1
    go_wp2_with (go_at_call 79; refine (below_tt _ _ _ _ _).mono ?_; rintro e w3 ⟨rfl, hb3⟩)
    · go_ret
      exact ⟨ret_int (cmpS_lt h (by assumption)), HX.out.trans (hb3.mono (by omega))⟩
    · go_ret
      exact ⟨ret_int (cmpS_gt h (by assumption)), HX.out.trans (hb3.mono (by omega))⟩
/-- Compare, for any two values. -/
theorem cmp_any (ta : Bool) (na : Int) (sa : ByteArray) (tb : Bool) (nb : Int) (sb : ByteArray) (w : World) :
    Calls Try.prog 71 #[V ta na sa, V tb nb sb] w fun e w' => e = .returned (.int .i64 (cmpV ta na sa tb nb sb)) ∧ Below w.heap.size w w' := by
  cases ta <;> cases tb
  · cases h : (na == nb)
    · exact cmp_nn_ne _ _ _ _ _ h
    · exact cmp_nn_eq _ _ _ _ _ h
  · exact cmp_nt _ _ _ _ _
  · exact cmp_tn _ _ _ _ _
  · cases h : (sa.toList == sb.toList)
    · exact cmp_tt_ne _ _ _ _ _ h
    · exact cmp_tt_eq _ _ _ _ _ h
end Go.Proofs.Ytafkpfhhmmnpeaa.Val
/- What lower, upper, closed, open, apart, between, clean of package normal answer. -/
namespace Go.Proofs.Ytafkpfhhmmnpeaa.Val
open Go.RowKit

set_option maxHeartbeats 1000000 in
theorem lower_any (s : Sp) (w : World) : Calls Try.prog 88 #[s.val] w fun e w' => e = .returned (lowE s).val ∧ Below w.heap.size w w' := by
  cases s with | mk no hl ol lo hh oh hi =>
  unfold Sp.val
  cases hl
  · go_enter Try.func88, Try.ntmps88
    go_wp2_with fail
    refine bodyPost_ret (v := En.zero.val) (by simp [results, Try.results88, go_sem, En.val, En.zero, Val.zero]) rfl ⟨rfl, ?_⟩
    exact back1 (alloc1 _ _)
  · go_enter Try.func88, Try.ntmps88
    go_wp2_with fail
    refine bodyPost_ret (v := (En.mk true ol lo).val) (by simp [results, Try.results88, go_sem, En.val]) rfl ⟨rfl, ?_⟩
    exact back1 (alloc1 _ _)
set_option maxHeartbeats 1000000 in
theorem upper_any (s : Sp) (w : World) : Calls Try.prog 89 #[s.val] w fun e w' => e = .returned (uppE s).val ∧ Below w.heap.size w w' := by
  cases s with | mk no hl ol lo hh oh hi =>
  unfold Sp.val
  cases hh
  · go_enter Try.func89, Try.ntmps89
    go_wp2_with fail
    refine bodyPost_ret (v := En.zero.val) (by simp [results, Try.results89, go_sem, En.val, En.zero, Val.zero]) rfl ⟨rfl, ?_⟩
    exact back1 (alloc1 _ _)
  · go_enter Try.func89, Try.ntmps89
    go_wp2_with fail
    refine bodyPost_ret (v := (En.mk true oh hi).val) (by simp [results, Try.results89, go_sem, En.val]) rfl ⟨rfl, ?_⟩
    exact back1 (alloc1 _ _)
set_option maxHeartbeats 1000000 in
theorem closed_any (x : Val) (w : World) : Calls Try.prog 91 #[V x.t x.n x.s] w fun e w' => e = .returned (closedE x).val ∧ Below w.heap.size w w' := by
  go_enter Try.func91, Try.ntmps91
  go_wp2_with fail
  refine bodyPost_ret (v := (closedE x).val) (by simp [results, Try.results91, go_sem, En.val, closedE]) rfl ⟨rfl, ?_⟩
  exact back1 (alloc1 _ _)
theorem eql_E (a b : En) (w : World) : (binOp .eql 134 (.agg #[.bool a.has, .bool a.op, .bool a.x.t, .int .i64 a.x.n, .string a.x.s]) (.agg #[.bool b.has, .bool b.op, .bool b.x.t, .int .i64 b.x.n, .string b.x.s])).run Try.prog w = .ok (.bool (eqE a b)) w := by
  unfold eqE eqV
  by_cases h1 : a.has = b.has
  case neg => simp [go_sem, h1]
  by_cases h2 : a.op = b.op
  case neg => simp [go_sem, h1, h2]
  by_cases h3 : a.x.t = b.x.t
  case neg => simp [go_sem, h1, h2, h3]
  by_cases h4 : a.x.n = b.x.n
  case neg => simp [go_sem, h1, h2, h3, h4]
  by_cases h5 : a.x.s.toList = b.x.s.toList
  case neg => simp [go_sem, h1, h2, h3, h4, h5]
  simp [go_sem, h1, h2, h3, h4, h5]
end Go.Proofs.Ytafkpfhhmmnpeaa.Val
/- What apart, between, clean of package normal answer. -/
namespace Go.Proofs.Ytafkpfhhmmnpeaa.Val
open Go.RowKit

theorem ret_b4 {a b : Bool} (h : a = b) : Ending.returned (.bool a) = Ending.returned (.bool b) := by subst h; rfl
theorem cmpX_any (x y : Val) (w : World) : Calls Try.prog 71 #[V x.t x.n x.s, V y.t y.n y.s] w fun e w' => e = .returned (.int .i64 (cmpX x y)) ∧ Below w.heap.size w w' := cmp_any _ _ _ _ _ _ w
theorem set_below {w w' : World} {B b j : Nat} (h : Below B w w') (hb : B ≤ b) (u : Value) : Below B w (w'.setCell ⟨b, j, none⟩ u) := h.setCell hb u
/-- Two ends' boxes. -/
structure E2 (w : World) (N : Nat) (a b : En) : Prop where
  pa : EBox w N a
  pb : EBox w (N + 1) b
theorem E2.below {w w' : World} {N : Nat} {a b : En} (h : E2 w N a b) (hb : Below w.heap.size w w') : E2 w' N a b := ⟨h.pa.below hb, h.pb.below hb⟩
theorem E2.new (w : World) (a b : En) (T1 T2 : TypeId) : E2 ((w.alloc (eobj a T1)).alloc (eobj b T2)) w.heap.size a b :=
  ⟨(EBox.new w a T1).alloc _, by have := EBox.new (w.alloc (eobj a T1)) b T2; simpa using this⟩
set_option maxHeartbeats 2000000 in
theorem apart_any (a b : En) (w : World) : Calls Try.prog 90 #[a.val, b.val] w fun e w' => e = .returned (.bool (apartE a b)) ∧ Below w.heap.size w w' := by
  have HA : Hid (apartE a b = (!(isZ a || isZ b) && sideB (cmpX a.x b.x) (a.op || b.op))) := rfl
  have q1 : ∀ w1, (binOp .eql 134 (EV a.has a.op a.x.t a.x.n a.x.s) (EV false false false 0 ⟨#[]⟩)).run Try.prog w1 = .ok (.bool (isZ a)) w1 := fun w1 => eql_E a En.zero w1
  have q2 : ∀ w1, (binOp .eql 134 (EV b.has b.op b.x.t b.x.n b.x.s) (EV false false false 0 ⟨#[]⟩)).run Try.prog w1 = .ok (.bool (isZ b)) w1 := fun w1 => eql_E b En.zero w1
  have HC : Hid (∀ w1, Calls Try.prog 71 #[V a.x.t a.x.n a.x.s, V b.x.t b.x.n b.x.s] w1 fun e w' => e = .returned (.int .i64 (cmpX a.x b.x)) ∧ Below w1.heap.size w1 w') := fun w1 => cmpX_any a.x b.x w1
  rw [HA.out]
  generalize isZ a = za at *
  generalize isZ b = zb at *
  generalize cmpX a.x b.x = c at *
  clear HA
  have HN : Hid _ := E2.new w a b 134 134
  unfold En.val
  cases za
  case true =>
    clear HC HN
    go_enter Try.func90, Try.ntmps90
    go_wp2_with fail
    go_ret
    exact ⟨rfl, back1 (alloc1 _ _)⟩
  cases zb
  case true =>
    clear HC HN
    go_enter Try.func90, Try.ntmps90
    go_wp2_with fail
    go_ret
    exact ⟨rfl, back1 (alloc1 _ _)⟩
  go_enter Try.func90, Try.ntmps90
  go_wp2_with fail
  refine Calls.mono (HC.out _) ?_
  rintro e w1 ⟨rfl, hb⟩
  have HB : Hid (Below w.heap.size w w1) := back2 hb
  obtain ⟨⟨a0, a1, a2, a3, a4⟩, ⟨b0, b1, b2, b3, b4⟩⟩ := HN.out.below hb
  clear hb HC HN q1 q2
  by_cases h1 : 0 < c
  · go_wp2_with fail
    go_ret
    exact ⟨ret_b4 (by simp [sideB, h1]), HB.out⟩
  have h1' : decide (0 < c) = false := by simpa using h1
  by_cases h2 : c = 0
  · subst h2
    obtain ⟨oa, hoa⟩ : ∃ o, a.op = o := ⟨_, rfl⟩
    rw [hoa] at a1
    have HO : Hid (a.op = oa) := hoa
    clear hoa
    cases oa <;>
    · go_wp2_with fail
      go_ret
      exact ⟨ret_b4 (by simp [sideB, HO.out]), HB.out⟩
  · have h2' : (c == 0) = false := by simpa using h2
    go_wp2_with fail
    go_ret
    exact ⟨ret_b4 (by simp [sideB, h1, h2]), HB.out⟩
set_option maxHeartbeats 2000000 in
theorem between_any (a b : En) (w : World) : Calls Try.prog 86 #[a.val, b.val] w fun e w' => e = .returned (btw a b).val ∧ Below w.heap.size w w' := by
  have HA : Hid (btw a b = if apartE a b then Sp.none else ⟨false, a.has, a.op, a.x, b.has, b.op, b.x⟩) := rfl
  have HC : Hid (∀ w1, Calls Try.prog 90 #[a.val, b.val] w1 fun e w' => e = .returned (.bool (apartE a b)) ∧ Below w1.heap.size w1 w') := fun w1 => apart_any a b w1
  rw [HA.out]
  generalize apartE a b = p at *
  clear HA
  have HN : Hid _ := fun o => (E2.new w a b 134 134).below (alloc1 _ o)
  have HZ : Hid (∀ w0 : World, SBox (w0.alloc (sobj Sp.all 36)) w0.heap.size Sp.all ∧ Fr (w0.alloc (sobj Sp.all 36)) w0.heap.size) := fun w0 => ⟨SBox.new _ _ _, Fr.new _ _ _⟩
  unfold En.val at *
  go_enter Try.func86, Try.ntmps86
  go_wp2_with fail
  refine Calls.mono (HC.out _) ?_
  rintro e w1 ⟨rfl, hb⟩
  have HB : Hid (Below w.heap.size w w1) := back3 hb
  obtain ⟨⟨a0, a1, a2, a3, a4⟩, ⟨b0, b1, b2, b3, b4⟩⟩ := (HN.out _).below hb
  have hz := HZ.out ((w.alloc (eobj a 134)).alloc (eobj b 134))
  have z : SBox w1 (w.heap.size + 1 + 1) Sp.all := by have := hz.1.below hb; simpa using this
  have f : Fr w1 (w.heap.size + 1 + 1) := by have := hz.2.below hb; simpa using this
  obtain ⟨hl, f⟩ := f
  obtain ⟨z0, z1, z2, z3, z4, z5, z6, z7, z8, z9, z10⟩ := z
  clear hb HC HN HZ hz
  cases p
  · go_wp2_with fail
    refine bodyPost_ret (v := (Sp.mk false a.has a.op a.x b.has b.op b.x).val) (by simp [results, Try.results86, go_sem, Sp.val, z0, z1, z2, z3, z4, z5, z6, z7, z8, z9, z10]) rfl ⟨rfl, ?_⟩
    repeat (refine set_below ?_ (by omega) _)
    exact HB.out
  · go_wp2_with fail
    refine bodyPost_ret (v := Sp.none.val) (by simp [results, Try.results86, go_sem, Sp.val, Sp.none, Val.zero, z0, z1, z2, z3, z4, z5, z6, z7, z8, z9, z10]) rfl ⟨rfl, ?_⟩
    repeat (refine set_below ?_ (by omega) _)
    exact HB.out
end Go.Proofs.Ytafkpfhhmmnpeaa.Val
