/- What apart, between, clean of package normal answer. -/
import Derived.Test.YtfkhfplibhnceaaDoorNormEnds
import Derived.Deep.RegionHeld3
namespace Go.Proofs.YtfkhfplibhnceaaDoor.Val
open Go.RowKit

theorem ret_b4 {a b : Bool} (h : a = b) : Ending.returned (.bool a) = Ending.returned (.bool b) := by subst h; rfl
theorem cmpX_any (x y : Val) (w : World) : Calls Tryd.prog 56 #[V x.t x.n x.s, V y.t y.n y.s] w fun e w' => e = .returned (.int .i64 (cmpX x y)) ∧ Below w.heap.size w w' := cmp_any _ _ _ _ _ _ w
theorem set_below {w w' : World} {B b j : Nat} (h : Below B w w') (hb : B ≤ b) (u : Value) : Below B w (w'.setCell ⟨b, j, none⟩ u) := h.setCell hb u
/-- Two ends' boxes. -/
structure E2 (w : World) (N : Nat) (a b : En) : Prop where
  pa : EBox w N a
  pb : EBox w (N + 1) b
theorem E2.below {w w' : World} {N : Nat} {a b : En} (h : E2 w N a b) (hb : Below w.heap.size w w') : E2 w' N a b := ⟨h.pa.below hb, h.pb.below hb⟩
theorem E2.new (w : World) (a b : En) (T1 T2 : TypeId) : E2 ((w.alloc (eobj a T1)).alloc (eobj b T2)) w.heap.size a b :=
  ⟨(EBox.new w a T1).alloc _, by have := EBox.new (w.alloc (eobj a T1)) b T2; simpa using this⟩
set_option maxHeartbeats 2000000 in
theorem apart_any (a b : En) (w : World) : Calls Tryd.prog 33 #[a.val, b.val] w fun e w' => e = .returned (.bool (apartE a b)) ∧ Below w.heap.size w w' := by
  have HA : Hid (apartE a b = (!(isZ a || isZ b) && sideB (cmpX a.x b.x) (a.op || b.op))) := rfl
  have q1 : ∀ w1, (binOp .eql 55 (EV a.has a.op a.x.t a.x.n a.x.s) (EV false false false 0 ⟨#[]⟩)).run Tryd.prog w1 = .ok (.bool (isZ a)) w1 := fun w1 => eql_E a En.zero w1
  have q2 : ∀ w1, (binOp .eql 55 (EV b.has b.op b.x.t b.x.n b.x.s) (EV false false false 0 ⟨#[]⟩)).run Tryd.prog w1 = .ok (.bool (isZ b)) w1 := fun w1 => eql_E b En.zero w1
  have HC : Hid (∀ w1, Calls Tryd.prog 56 #[V a.x.t a.x.n a.x.s, V b.x.t b.x.n b.x.s] w1 fun e w' => e = .returned (.int .i64 (cmpX a.x b.x)) ∧ Below w1.heap.size w1 w') := fun w1 => cmpX_any a.x b.x w1
  rw [HA.out]
  generalize isZ a = za at *
  generalize isZ b = zb at *
  generalize cmpX a.x b.x = c at *
  clear HA
  have HN : Hid _ := E2.new w a b 55 55
  unfold En.val
  cases za
  case true =>
    clear HC HN
    go_enter Tryd.func33, Tryd.ntmps33
    go_wp2_with fail
    go_ret
    exact ⟨rfl, back1 (alloc1 _ _)⟩
  cases zb
  case true =>
    clear HC HN
    go_enter Tryd.func33, Tryd.ntmps33
    go_wp2_with fail
    go_ret
    exact ⟨rfl, back1 (alloc1 _ _)⟩
  go_enter Tryd.func33, Tryd.ntmps33
  go_wp2_with fail
  refine Calls.mono (HC.out _) ?_
  rintro e w1 ⟨rfl, hb⟩
  have HB : Hid (Below w.heap.size w w1) := back2 hb
  obtain ⟨⟨a0, a1, a2, a3, a4⟩, ⟨b0, b1, b2, b3, b4⟩⟩ := HN.out.below hb
  clear hb HC HN q1 q2
  by_cases h1 : 0 < c
  · go_wp2_with fail
    go_ret
    exact ⟨ret_b4 (by simp [sideB, h1]), HB.out⟩
  have h1' : decide (0 < c) = false := by simpa using h1
  by_cases h2 : c = 0
  · subst h2
    obtain ⟨oa, hoa⟩ : ∃ o, a.op = o := ⟨_, rfl⟩
    rw [hoa] at a1
    have HO : Hid (a.op = oa) := hoa
    clear hoa
    cases oa <;>
    · go_wp2_with fail
      go_ret
      exact ⟨ret_b4 (by simp [sideB, HO.out]), HB.out⟩
  · have h2' : (c == 0) = false := by simpa using h2
    go_wp2_with fail
    go_ret
    exact ⟨ret_b4 (by simp [sideB, h1, h2]), HB.out⟩
set_option maxHeartbeats 2000000 in
theorem between_any (a b : En) (w : World) : Calls Tryd.prog 39 #[a.val, b.val] w fun e w' => e = .returned (btw a b).val ∧ Below w.heap.size w w' := by
  have HA : Hid (btw a b = if apartE a b then Sp.none else ⟨false, a.has, a.op, a.x, b.has, b.op, b.x⟩) := rfl
  have HC : Hid (∀ w1, Calls Tryd.prog 33 #[a.val, b.val] w1 fun e w' => e = .returned (.bool (apartE a b)) ∧ Below w1.heap.size w1 w') := fun w1 => apart_any a b w1
  rw [HA.out]
  generalize apartE a b = p at *
  clear HA
  have HN : Hid _ := fun o => (E2.new w a b 55 55).below (alloc1 _ o)
  have HZ : Hid (∀ w0 : World, SBox (w0.alloc (sobj Sp.all 35)) w0.heap.size Sp.all ∧ Fr (w0.alloc (sobj Sp.all 35)) w0.heap.size) := fun w0 => ⟨SBox.new _ _ _, Fr.new _ _ _⟩
  unfold En.val at *
  go_enter Tryd.func39, Tryd.ntmps39
  go_wp2_with fail
  refine Calls.mono (HC.out _) ?_
  rintro e w1 ⟨rfl, hb⟩
  have HB : Hid (Below w.heap.size w w1) := back3 hb
  obtain ⟨⟨a0, a1, a2, a3, a4⟩, ⟨b0, b1, b2, b3, b4⟩⟩ := (HN.out _).below hb
  have hz := HZ.out ((w.alloc (eobj a 55)).alloc (eobj b 55))
  have z : SBox w1 (w.heap.size + 1 + 1) Sp.all := by have := hz.1.below hb; simpa using this
  have f : Fr w1 (w.heap.size + 1 + 1) := by have := hz.2.below hb; simpa using this
  obtain ⟨hl, f⟩ := f
  obtain ⟨z0, z1, z2, z3, z4, z5, z6, z7, z8, z9, z10⟩ := z
  clear hb HC HN HZ hz
  cases p
  · go_wp2_with fail
    refine bodyPost_ret (v := (Sp.mk false a.has a.op a.x b.has b.op b.x).val) (by simp [results, Tryd.results39, go_sem, Sp.val, z0, z1, z2, z3, z4, z5, z6, z7, z8, z9, z10]) rfl ⟨rfl, ?_⟩
    repeat (refine set_below ?_ (by omega) _)
    exact HB.out
  · go_wp2_with fail
    refine bodyPost_ret (v := Sp.none.val) (by simp [results, Tryd.results39, go_sem, Sp.val, Sp.none, Val.zero, z0, z1, z2, z3, z4, z5, z6, z7, z8, z9, z10]) rfl ⟨rfl, ?_⟩
    repeat (refine set_below ?_ (by omega) _)
    exact HB.out
end Go.Proofs.YtfkhfplibhnceaaDoor.Val
