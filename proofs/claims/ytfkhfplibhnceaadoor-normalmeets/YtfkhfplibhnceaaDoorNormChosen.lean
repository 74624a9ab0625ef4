/- What chosen, inner, outer of package normal answer. -/
import Derived.Test.YtfkhfplibhnceaaDoorNormApart
namespace Go.Proofs.YtfkhfplibhnceaaDoor.Val
open Go.RowKit

/-- Two ends' boxes, and the answer's. -/
structure E3 (w0 : World) (a b : En) (w : World) : Prop where
  pa : EBox w w0.heap.size a
  pb : EBox w (w0.heap.size + 1) b
  pz : EBox w (w0.heap.size + 1 + 1) En.zero
  fa : Fr w w0.heap.size
  fz : Fr w (w0.heap.size + 1 + 1)
  be : Below w0.heap.size w0 w
theorem E3.below {w0 w w' : World} {a b : En} (h : E3 w0 a b w) (hb : Below w.heap.size w w') : E3 w0 a b w' := ⟨h.pa.below hb, h.pb.below hb, h.pz.below hb, h.fa.below hb, h.fz.below hb, on h.be hb⟩
theorem E3.new (w : World) (a b : En) (T1 T2 T3 : TypeId) : E3 w a b (((w.alloc (eobj a T1)).alloc (eobj b T2)).alloc (eobj En.zero T3)) := by
  refine ⟨((EBox.new w a T1).alloc _).alloc _, ?_, ?_, ((Fr.new w _ T1).alloc _).alloc _, ?_, back2 (alloc1 _ _)⟩
  · have := (EBox.new (w.alloc (eobj a T1)) b T2).alloc (eobj En.zero T3); simpa using this
  · have := EBox.new ((w.alloc (eobj a T1)).alloc (eobj b T2)) En.zero T3; simpa using this
  · have := Fr.new ((w.alloc (eobj a T1)).alloc (eobj b T2)) #[.bool En.zero.has, .bool En.zero.op, .bool En.zero.x.t, .int .i64 En.zero.x.n, .string En.zero.x.s] T3; simpa using this
set_option maxHeartbeats 2000000 in
theorem chosen_any (a b : En) (side : Int) (o : Bool) (w : World) (hs : side = 1 ∨ side = -1) : Calls Tryd.prog 57 #[a.val, b.val, .int .i64 side, .bool o] w fun e w' => e = .returned (chosenE a b side o).val ∧ Below w.heap.size w w' := by
  have HA : Hid (chosenE a b side o = if cmpX a.x b.x = side then a else if cmpX a.x b.x = -side then b else ⟨a.has, o, a.x⟩) := rfl
  have HC : Hid (∀ w1, Calls Tryd.prog 56 #[V a.x.t a.x.n a.x.s, V b.x.t b.x.n b.x.s] w1 fun e w' => e = .returned (.int .i64 (cmpX a.x b.x)) ∧ Below w1.heap.size w1 w') := fun w1 => cmpX_any a.x b.x w1
  generalize cmpX a.x b.x = c at *
  generalize chosenE a b side o = r at *
  have HN : Hid _ := E3.new w a b 55 55 55
  unfold En.val at *
  go_enter Tryd.func57, Tryd.ntmps57
  go_wp2_with fail
  refine Calls.mono (HC.out _) ?_
  rintro e w1 ⟨rfl, hb⟩
  have HX : Hid _ := HN.out.below hb
  have HB : Hid (Below w.heap.size w w1) := HX.out.be
  obtain ⟨⟨a0, a1, a2, a3, a4⟩, ⟨b0, b1, b2, b3, b4⟩, ⟨z0, z1, z2, z3, z4⟩, ⟨la, fa⟩, ⟨lz, fz⟩, _⟩ := HX.out
  clear hb HC HN HX
  by_cases h1 : c = side
  · subst h1
    have e1 : (c == c) = true := by simp
    clear hs
    go_wp2_with fail
    refine bodyPost_ret (v := a.val) (by simp [results, Tryd.results57, go_sem, En.val, z0, z1, z2, z3, z4]) rfl ⟨by rw [HA.out]; simp [En.val], ?_⟩
    repeat (refine set_below ?_ (by omega) _)
    exact HB.out
  have e1 : (c == side) = false := by simpa using h1
  by_cases h2 : c = -side
  · have e2 : (c == -side) = true := by simpa using h2
    have HH : Hid (c ≠ side ∧ c = -side) := ⟨h1, h2⟩
    clear h1 h2
    rcases hs with rfl | rfl
    · go_wp2_with fail
      refine bodyPost_ret (v := b.val) (by simp [results, Tryd.results57, go_sem, En.val, z0, z1, z2, z3, z4]) rfl ⟨by rw [HA.out, if_neg HH.out.1, if_pos HH.out.2]; rfl, ?_⟩
      repeat (refine set_below ?_ (by omega) _)
      exact HB.out
    · go_wp2_with fail
      refine bodyPost_ret (v := b.val) (by simp [results, Tryd.results57, go_sem, En.val, z0, z1, z2, z3, z4]) rfl ⟨by rw [HA.out, if_neg HH.out.1, if_pos HH.out.2]; rfl, ?_⟩
      repeat (refine set_below ?_ (by omega) _)
      exact HB.out
  · have e2 : (c == -side) = false := by simpa using h2
    have HH : Hid (c ≠ side ∧ c ≠ -side) := ⟨h1, h2⟩
    clear h1 h2
    rcases hs with rfl | rfl
    · go_wp2_with fail
      refine bodyPost_ret (v := (En.mk a.has o a.x).val) (by simp [results, Tryd.results57, go_sem, En.val, z0, z1, z2, z3, z4]) rfl ⟨by rw [HA.out, if_neg HH.out.1, if_neg HH.out.2]; rfl, ?_⟩
      repeat (refine set_below ?_ (by omega) _)
      exact HB.out
    · go_wp2_with fail
      refine bodyPost_ret (v := (En.mk a.has o a.x).val) (by simp [results, Tryd.results57, go_sem, En.val, z0, z1, z2, z3, z4]) rfl ⟨by rw [HA.out, if_neg HH.out.1, if_neg HH.out.2]; rfl, ?_⟩
      repeat (refine set_below ?_ (by omega) _)
      exact HB.out
set_option maxHeartbeats 2000000 in
theorem inner_any (a b : En) (side : Int) (w : World) (hs : side = 1 ∨ side = -1) : Calls Tryd.prog 40 #[a.val, b.val, .int .i64 side] w fun e w' => e = .returned (innerE a b side).val ∧ Below w.heap.size w w' := by
  have HA : Hid (innerE a b side = if isZ a then b else if isZ b then a else chosenE a b side (a.op || b.op)) := rfl
  have q1 : ∀ w1, (binOp .eql 55 (EV a.has a.op a.x.t a.x.n a.x.s) (EV false false false 0 ⟨#[]⟩)).run Tryd.prog w1 = .ok (.bool (isZ a)) w1 := fun w1 => eql_E a En.zero w1
  have q2 : ∀ w1, (binOp .eql 55 (EV b.has b.op b.x.t b.x.n b.x.s) (EV false false false 0 ⟨#[]⟩)).run Tryd.prog w1 = .ok (.bool (isZ b)) w1 := fun w1 => eql_E b En.zero w1
  obtain ⟨oa, hoa⟩ : ∃ o, a.op = o := ⟨_, rfl⟩
  have HC : Hid (∀ w1, Calls Tryd.prog 57 #[a.val, b.val, .int .i64 side, .bool (a.op || b.op)] w1 fun e w' => e = .returned (chosenE a b side (a.op || b.op)).val ∧ Below w1.heap.size w1 w') := fun w1 => chosen_any a b side _ w1 hs
  generalize isZ a = za at *
  generalize isZ b = zb at *
  generalize innerE a b side = r at *
  have HN : Hid _ := E3.new w a b 55 55 55
  clear hs
  cases za
  case true =>
    clear HC HN hoa
    unfold En.val at *
    go_enter Tryd.func40, Tryd.ntmps40
    go_wp2_with fail
    refine bodyPost_ret (v := b.val) (by simp [results, Tryd.results40, go_sem, En.val]) rfl ⟨by rw [HA.out]; rfl, ?_⟩
    exact back2 (alloc1 _ _)
  cases zb
  case true =>
    clear HC HN hoa
    unfold En.val at *
    go_enter Tryd.func40, Tryd.ntmps40
    go_wp2_with fail
    refine bodyPost_ret (v := a.val) (by simp [results, Tryd.results40, go_sem, En.val]) rfl ⟨by rw [HA.out]; rfl, ?_⟩
    exact back2 (alloc1 _ _)
  generalize hr : chosenE a b side (a.op || b.op) = r' at *
  have HR : Hid (r = r') := HA.out
  clear HA hr
  have HO : Hid (a.op = oa) := hoa
  rw [hoa] at HC
  unfold En.val at *
  rw [hoa] at q1 HC ⊢
  have HN' : Hid (∀ w1, Below (((w.alloc (.cells #[.bool a.has, .bool oa, .bool a.x.t, .int .i64 a.x.n, .string a.x.s] 55)).alloc (eobj b 55)).alloc (eobj En.zero 55)).heap.size (((w.alloc (.cells #[.bool a.has, .bool oa, .bool a.x.t, .int .i64 a.x.n, .string a.x.s] 55)).alloc (eobj b 55)).alloc (eobj En.zero 55)) w1 → E3 w a b w1) := fun w1 h => by rw [← hoa] at h; exact HN.out.below h
  clear hoa HN
  cases oa
  all_goals
    go_enter Tryd.func40, Tryd.ntmps40
    go_wp2_with fail
    refine Calls.mono (HC.out _) ?_
    rintro e w1 ⟨rfl, hb⟩
    have HX : Hid _ := HN'.out _ hb
    have HB : Hid (Below w.heap.size w w1) := HX.out.be
    obtain ⟨_, _, ⟨z0, z1, z2, z3, z4⟩, _, ⟨lz, fz⟩, _⟩ := HX.out
    clear hb HC HX HN'
    go_wp2_with fail
    refine bodyPost_ret (v := r'.val) (by simp [results, Tryd.results40, go_sem, En.val, z0, z1, z2, z3, z4]) rfl ⟨by rw [HR.out]; rfl, ?_⟩
    repeat (refine set_below ?_ (by omega) _)
    exact HB.out
set_option maxHeartbeats 2000000 in
theorem outer_any (a b : En) (side : Int) (w : World) (hs : side = 1 ∨ side = -1) : Calls Tryd.prog 42 #[a.val, b.val, .int .i64 side] w fun e w' => e = .returned (outerE a b side).val ∧ Below w.heap.size w w' := by
  have HA : Hid (outerE a b side = if isZ a || isZ b then En.zero else chosenE a b side (a.op && b.op)) := rfl
  have q1 : ∀ w1, (binOp .eql 55 (EV a.has a.op a.x.t a.x.n a.x.s) (EV false false false 0 ⟨#[]⟩)).run Tryd.prog w1 = .ok (.bool (isZ a)) w1 := fun w1 => eql_E a En.zero w1
  have q2 : ∀ w1, (binOp .eql 55 (EV b.has b.op b.x.t b.x.n b.x.s) (EV false false false 0 ⟨#[]⟩)).run Tryd.prog w1 = .ok (.bool (isZ b)) w1 := fun w1 => eql_E b En.zero w1
  obtain ⟨oa, hoa⟩ : ∃ o, a.op = o := ⟨_, rfl⟩
  have HC : Hid (∀ w1, Calls Tryd.prog 57 #[a.val, b.val, .int .i64 side, .bool (a.op && b.op)] w1 fun e w' => e = .returned (chosenE a b side (a.op && b.op)).val ∧ Below w1.heap.size w1 w') := fun w1 => chosen_any a b side _ w1 hs
  generalize isZ a = za at *
  generalize isZ b = zb at *
  generalize outerE a b side = r at *
  have HN : Hid _ := E3.new w a b 55 55 55
  clear hs
  cases za
  case true =>
    clear HC HN hoa
    unfold En.val at *
    go_enter Tryd.func42, Tryd.ntmps42
    go_wp2_with fail
    refine bodyPost_ret (v := En.zero.val) (by simp [results, Tryd.results42, go_sem, En.val, En.zero, Val.zero]) rfl ⟨by rw [HA.out]; rfl, ?_⟩
    exact back2 (alloc1 _ _)
  cases zb
  case true =>
    clear HC HN hoa
    unfold En.val at *
    go_enter Tryd.func42, Tryd.ntmps42
    go_wp2_with fail
    refine bodyPost_ret (v := En.zero.val) (by simp [results, Tryd.results42, go_sem, En.val, En.zero, Val.zero]) rfl ⟨by rw [HA.out]; rfl, ?_⟩
    exact back2 (alloc1 _ _)
  generalize hr : chosenE a b side (a.op && b.op) = r' at *
  have HR : Hid (r = r') := HA.out
  clear HA hr
  have HO : Hid (a.op = oa) := hoa
  rw [hoa] at HC
  unfold En.val at *
  rw [hoa] at q1 HC ⊢
  have HN' : Hid (∀ w1, Below (((w.alloc (.cells #[.bool a.has, .bool oa, .bool a.x.t, .int .i64 a.x.n, .string a.x.s] 55)).alloc (eobj b 55)).alloc (eobj En.zero 55)).heap.size (((w.alloc (.cells #[.bool a.has, .bool oa, .bool a.x.t, .int .i64 a.x.n, .string a.x.s] 55)).alloc (eobj b 55)).alloc (eobj En.zero 55)) w1 → E3 w a b w1) := fun w1 h => by rw [← hoa] at h; exact HN.out.below h
  clear hoa HN
  cases oa
  all_goals
    go_enter Tryd.func42, Tryd.ntmps42
    go_wp2_with fail
    refine Calls.mono (HC.out _) ?_
    rintro e w1 ⟨rfl, hb⟩
    have HX : Hid _ := HN'.out _ hb
    have HB : Hid (Below w.heap.size w w1) := HX.out.be
    obtain ⟨_, _, ⟨z0, z1, z2, z3, z4⟩, _, ⟨lz, fz⟩, _⟩ := HX.out
    clear hb HC HX HN'
    go_wp2_with fail
    refine bodyPost_ret (v := r'.val) (by simp [results, Tryd.results42, go_sem, En.val, z0, z1, z2, z3, z4]) rfl ⟨by rw [HR.out]; rfl, ?_⟩
    repeat (refine set_below ?_ (by omega) _)
    exact HB.out
end Go.Proofs.YtfkhfplibhnceaaDoor.Val
