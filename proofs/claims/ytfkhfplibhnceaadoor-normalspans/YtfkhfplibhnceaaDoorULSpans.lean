/- The walk of the law NormalSpans. -/
import Derived.Test.YtfkhfplibhnceaaDoorU7
import Derived.Test.YtfkhfplibhnceaaDoorU13
import Derived.Test.YtfkhfplibhnceaaDoorU8
namespace Go.Proofs.YtfkhfplibhnceaaDoor.Val
open Go.RowKit

set_option maxRecDepth 100000 in
set_option maxHeartbeats 8000000 in
theorem nspans_walk (a b : Sp) (x : Val) (w : World) (ha : a.ok) (hb : b.ok) (hx : x.s.size ≤ maxLen) (hT : Tab w) : Calls Tryd.prog 4 #[a.val, b.val, V x.t x.n x.s] w fun e w' => e = .returned (.bool true) ∧ Below w.heap.size w w' := by
  have H0 : Hid (∀ w1, Below w.heap.size w w1 → Calls Tryd.prog 10 #[] w1 fun e w' => e = .returned (.bool true) ∧ Below w1.heap.size w1 w') := fun w1 hb => awake_any w1 (hT.below hb)
  have K1 : Hid (∀ w1, Calls Tryd.prog 17 #[a.val, V x.t x.n x.s] w1 fun e w' => e = .returned (.bool (withinS a x)) ∧ Below w1.heap.size w1 w') := fun w1 => within_any a x w1
  have K2 : Hid (∀ w1, Calls Tryd.prog 18 #[a.val, V x.t x.n x.s] w1 fun e w' => e = .returned (.bool (withinS a x)) ∧ Below w1.heap.size w1 w') := fun w1 => rwithin_any a x w1 ha hx
  have K3 : Hid (∀ w1, Calls Tryd.prog 19 #[a.val, b.val] w1 fun e w' => e = .returned (meetS a b).val ∧ Below w1.heap.size w1 w') := fun w1 => meet_any a b w1
  have K4 : Hid (∀ w1, Calls Tryd.prog 20 #[a.val, b.val] w1 fun e w' => e = .returned (meetS a b).val ∧ Below w1.heap.size w1 w') := fun w1 => rmeet_any a b w1 ha hb
  have K5 : Hid (∀ w1, Calls Tryd.prog 21 #[a.val, b.val] w1 fun e w' => e = .returned (hullS a b).val ∧ Below w1.heap.size w1 w') := fun w1 => hull_any a b w1
  have K6 : Hid (∀ w1, Calls Tryd.prog 22 #[a.val, b.val] w1 fun e w' => e = .returned (hullS a b).val ∧ Below w1.heap.size w1 w') := fun w1 => rhull_any a b w1 ha hb
  generalize withinS a x = i at *
  generalize meetS a b = m at *
  generalize hullS a b = h at *
  have Qm : ∀ w1, (binOp .eql 35 (SV m.no m.hl m.ol m.lo.t m.lo.n m.lo.s m.hh m.oh m.hi.t m.hi.n m.hi.s) (SV m.no m.hl m.ol m.lo.t m.lo.n m.lo.s m.hh m.oh m.hi.t m.hi.n m.hi.s)).run Tryd.prog w1 = .ok (.bool true) w1 := fun w1 => eql_same m w1
  have Qh : ∀ w1, (binOp .eql 35 (SV h.no h.hl h.ol h.lo.t h.lo.n h.lo.s h.hh h.oh h.hi.t h.hi.n h.hi.s) (SV h.no h.hl h.ol h.lo.t h.lo.n h.lo.s h.hh h.oh h.hi.t h.hi.n h.hi.s)).run Tryd.prog w1 = .ok (.bool true) w1 := fun w1 => eql_same h w1
  clear hT ha hb hx
  unfold Sp.val at *
  go_enter Tryd.func4, Tryd.ntmps4
  go_wp2_with fail
  refine Calls.mono (H0.out _ (back2 (alloc1 _ _))) ?_
  rintro e w1 ⟨rfl, hb⟩
  have Xa : Hid (SBox w1 (w.heap.size) a) := show SBox w1 (w.heap.size) a from ((((SBox.new w a 35).alloc _).alloc _)).below hb
  have Xb : Hid (SBox w1 (w.heap.size + 1) b) := show SBox w1 (w.heap.size + 1) b from by have := ((SBox.new (w.alloc (sobj a 35)) b 35).alloc _).below hb; simpa using this
  have Xv : Hid (VBox w1 (w.heap.size + 1 + 1) x) := show VBox w1 (w.heap.size + 1 + 1) x from by have := (VBox.new ((w.alloc (sobj a 35)).alloc (sobj b 35)) x 26).below hb; simpa using this
  have HB : Hid (Below w.heap.size w w1) := back3 hb
  clear hb
  go_wp2_with fail
  (try simp only [List.append])
  refine region_cls (C := fun w' => SBox w' (w.heap.size) a ∧ SBox w' (w.heap.size + 1) b ∧ VBox w' (w.heap.size + 1 + 1) x ∧ Below w.heap.size w w') (by kernel_rfl) (by kernel_rfl) ⟨Xa.out.below (Below.refl _ _).drew, Xb.out.below (Below.refl _ _).drew, Xv.out.below (Below.refl _ _).drew, HB.out.drew⟩ ?_
  clear HB Xa Xb Xv
  go_big_quiet_want
  refine ⟨SV a.no a.hl a.ol a.lo.t a.lo.n a.lo.s a.hh a.oh a.hi.t a.hi.n a.hi.s, fun w' hw' => ?_, ?_⟩
  · obtain ⟨⟨a0, a1, a2, a3, a4, a5, a6, a7, a8, a9, a10⟩, ⟨b0, b1, b2, b3, b4, b5, b6, b7, b8, b9, b10⟩, ⟨v0, v1, v2⟩, _⟩ := hw'
    go_simp
  simp only [Act.put, List.setIfInBounds_toArray, List.set_cons_zero, List.set_cons_succ]
  go_big_quiet_on
  go_big_quiet_want
  refine ⟨V x.t x.n x.s, fun w' hw' => ?_, ?_⟩
  · obtain ⟨⟨a0, a1, a2, a3, a4, a5, a6, a7, a8, a9, a10⟩, ⟨b0, b1, b2, b3, b4, b5, b6, b7, b8, b9, b10⟩, ⟨v0, v1, v2⟩, _⟩ := hw'
    go_simp
  simp only [Act.put, List.setIfInBounds_toArray, List.set_cons_zero, List.set_cons_succ]
  go_big_quiet_on
  go_big_quiet_want
  refine ⟨.bool i, fun w' hw' => ?_, ?_⟩
  · go_simp
    exact (K1.out w').mono fun e w'' h => ⟨h.1, ⟨(hw'.1).below h.2, (hw'.2.1).below h.2, (hw'.2.2.1).below h.2, on hw'.2.2.2 h.2⟩⟩
  simp only [Act.put, List.setIfInBounds_toArray, List.set_cons_zero, List.set_cons_succ]
  go_big_quiet_on
  go_big_quiet_want
  refine ⟨SV a.no a.hl a.ol a.lo.t a.lo.n a.lo.s a.hh a.oh a.hi.t a.hi.n a.hi.s, fun w' hw' => ?_, ?_⟩
  · obtain ⟨⟨a0, a1, a2, a3, a4, a5, a6, a7, a8, a9, a10⟩, ⟨b0, b1, b2, b3, b4, b5, b6, b7, b8, b9, b10⟩, ⟨v0, v1, v2⟩, _⟩ := hw'
    go_simp
  simp only [Act.put, List.setIfInBounds_toArray, List.set_cons_zero, List.set_cons_succ]
  go_big_quiet_on
  go_big_quiet_want
  refine ⟨V x.t x.n x.s, fun w' hw' => ?_, ?_⟩
  · obtain ⟨⟨a0, a1, a2, a3, a4, a5, a6, a7, a8, a9, a10⟩, ⟨b0, b1, b2, b3, b4, b5, b6, b7, b8, b9, b10⟩, ⟨v0, v1, v2⟩, _⟩ := hw'
    go_simp
  simp only [Act.put, List.setIfInBounds_toArray, List.set_cons_zero, List.set_cons_succ]
  go_big_quiet_on
  go_big_quiet_want
  refine ⟨.bool i, fun w' hw' => ?_, ?_⟩
  · go_simp
    exact (K2.out w').mono fun e w'' h => ⟨h.1, ⟨(hw'.1).below h.2, (hw'.2.1).below h.2, (hw'.2.2.1).below h.2, on hw'.2.2.2 h.2⟩⟩
  simp only [Act.put, List.setIfInBounds_toArray, List.set_cons_zero, List.set_cons_succ]
  go_big_quiet_on
  go_big_quiet_want
  refine ⟨.bool true, fun w' hw' => ?_, ?_⟩
  · go_simp
  simp only [Act.put, List.setIfInBounds_toArray, List.set_cons_zero, List.set_cons_succ]
  go_big_quiet_on
  go_big_quiet_want
  go_big_quiet_op
  go_big_quiet_on
  go_big_quiet_want
  refine ⟨SV a.no a.hl a.ol a.lo.t a.lo.n a.lo.s a.hh a.oh a.hi.t a.hi.n a.hi.s, fun w' hw' => ?_, ?_⟩
  · obtain ⟨⟨a0, a1, a2, a3, a4, a5, a6, a7, a8, a9, a10⟩, ⟨b0, b1, b2, b3, b4, b5, b6, b7, b8, b9, b10⟩, ⟨v0, v1, v2⟩, _⟩ := hw'
    go_simp
  simp only [Act.put, List.setIfInBounds_toArray, List.set_cons_zero, List.set_cons_succ]
  go_big_quiet_on
  go_big_quiet_want
  refine ⟨SV b.no b.hl b.ol b.lo.t b.lo.n b.lo.s b.hh b.oh b.hi.t b.hi.n b.hi.s, fun w' hw' => ?_, ?_⟩
  · obtain ⟨⟨a0, a1, a2, a3, a4, a5, a6, a7, a8, a9, a10⟩, ⟨b0, b1, b2, b3, b4, b5, b6, b7, b8, b9, b10⟩, ⟨v0, v1, v2⟩, _⟩ := hw'
    go_simp
  simp only [Act.put, List.setIfInBounds_toArray, List.set_cons_zero, List.set_cons_succ]
  go_big_quiet_on
  go_big_quiet_want
  refine ⟨SV m.no m.hl m.ol m.lo.t m.lo.n m.lo.s m.hh m.oh m.hi.t m.hi.n m.hi.s, fun w' hw' => ?_, ?_⟩
  · go_simp
    exact (K3.out w').mono fun e w'' h => ⟨h.1, ⟨(hw'.1).below h.2, (hw'.2.1).below h.2, (hw'.2.2.1).below h.2, on hw'.2.2.2 h.2⟩⟩
  simp only [Act.put, List.setIfInBounds_toArray, List.set_cons_zero, List.set_cons_succ]
  go_big_quiet_on
  go_big_quiet_want
  refine ⟨SV a.no a.hl a.ol a.lo.t a.lo.n a.lo.s a.hh a.oh a.hi.t a.hi.n a.hi.s, fun w' hw' => ?_, ?_⟩
  · obtain ⟨⟨a0, a1, a2, a3, a4, a5, a6, a7, a8, a9, a10⟩, ⟨b0, b1, b2, b3, b4, b5, b6, b7, b8, b9, b10⟩, ⟨v0, v1, v2⟩, _⟩ := hw'
    go_simp
  simp only [Act.put, List.setIfInBounds_toArray, List.set_cons_zero, List.set_cons_succ]
  go_big_quiet_on
  go_big_quiet_want
  refine ⟨SV b.no b.hl b.ol b.lo.t b.lo.n b.lo.s b.hh b.oh b.hi.t b.hi.n b.hi.s, fun w' hw' => ?_, ?_⟩
  · obtain ⟨⟨a0, a1, a2, a3, a4, a5, a6, a7, a8, a9, a10⟩, ⟨b0, b1, b2, b3, b4, b5, b6, b7, b8, b9, b10⟩, ⟨v0, v1, v2⟩, _⟩ := hw'
    go_simp
  simp only [Act.put, List.setIfInBounds_toArray, List.set_cons_zero, List.set_cons_succ]
  go_big_quiet_on
  go_big_quiet_want
  refine ⟨SV m.no m.hl m.ol m.lo.t m.lo.n m.lo.s m.hh m.oh m.hi.t m.hi.n m.hi.s, fun w' hw' => ?_, ?_⟩
  · go_simp
    exact (K4.out w').mono fun e w'' h => ⟨h.1, ⟨(hw'.1).below h.2, (hw'.2.1).below h.2, (hw'.2.2.1).below h.2, on hw'.2.2.2 h.2⟩⟩
  simp only [Act.put, List.setIfInBounds_toArray, List.set_cons_zero, List.set_cons_succ]
  go_big_quiet_on
  go_big_quiet_want
  refine ⟨.bool true, fun w' hw' => ?_, ?_⟩
  · go_simp
  simp only [Act.put, List.setIfInBounds_toArray, List.set_cons_zero, List.set_cons_succ]
  go_big_quiet_on
  go_big_quiet_want
  refine ⟨.bool true, fun w' hw' => ?_, ?_⟩
  · go_simp
  simp only [Act.put, List.setIfInBounds_toArray, List.set_cons_zero, List.set_cons_succ]
  go_big_quiet_on
  go_big_quiet_want
  go_big_quiet_op
  go_big_quiet_on
  go_big_quiet_want
  refine ⟨SV a.no a.hl a.ol a.lo.t a.lo.n a.lo.s a.hh a.oh a.hi.t a.hi.n a.hi.s, fun w' hw' => ?_, ?_⟩
  · obtain ⟨⟨a0, a1, a2, a3, a4, a5, a6, a7, a8, a9, a10⟩, ⟨b0, b1, b2, b3, b4, b5, b6, b7, b8, b9, b10⟩, ⟨v0, v1, v2⟩, _⟩ := hw'
    go_simp
  simp only [Act.put, List.setIfInBounds_toArray, List.set_cons_zero, List.set_cons_succ]
  go_big_quiet_on
  go_big_quiet_want
  refine ⟨SV b.no b.hl b.ol b.lo.t b.lo.n b.lo.s b.hh b.oh b.hi.t b.hi.n b.hi.s, fun w' hw' => ?_, ?_⟩
  · obtain ⟨⟨a0, a1, a2, a3, a4, a5, a6, a7, a8, a9, a10⟩, ⟨b0, b1, b2, b3, b4, b5, b6, b7, b8, b9, b10⟩, ⟨v0, v1, v2⟩, _⟩ := hw'
    go_simp
  simp only [Act.put, List.setIfInBounds_toArray, List.set_cons_zero, List.set_cons_succ]
  go_big_quiet_on
  go_big_quiet_want
  refine ⟨SV h.no h.hl h.ol h.lo.t h.lo.n h.lo.s h.hh h.oh h.hi.t h.hi.n h.hi.s, fun w' hw' => ?_, ?_⟩
  · go_simp
    exact (K5.out w').mono fun e w'' h => ⟨h.1, ⟨(hw'.1).below h.2, (hw'.2.1).below h.2, (hw'.2.2.1).below h.2, on hw'.2.2.2 h.2⟩⟩
  simp only [Act.put, List.setIfInBounds_toArray, List.set_cons_zero, List.set_cons_succ]
  go_big_quiet_on
  go_big_quiet_want
  refine ⟨SV a.no a.hl a.ol a.lo.t a.lo.n a.lo.s a.hh a.oh a.hi.t a.hi.n a.hi.s, fun w' hw' => ?_, ?_⟩
  · obtain ⟨⟨a0, a1, a2, a3, a4, a5, a6, a7, a8, a9, a10⟩, ⟨b0, b1, b2, b3, b4, b5, b6, b7, b8, b9, b10⟩, ⟨v0, v1, v2⟩, _⟩ := hw'
    go_simp
  simp only [Act.put, List.setIfInBounds_toArray, List.set_cons_zero, List.set_cons_succ]
  go_big_quiet_on
  go_big_quiet_want
  refine ⟨SV b.no b.hl b.ol b.lo.t b.lo.n b.lo.s b.hh b.oh b.hi.t b.hi.n b.hi.s, fun w' hw' => ?_, ?_⟩
  · obtain ⟨⟨a0, a1, a2, a3, a4, a5, a6, a7, a8, a9, a10⟩, ⟨b0, b1, b2, b3, b4, b5, b6, b7, b8, b9, b10⟩, ⟨v0, v1, v2⟩, _⟩ := hw'
    go_simp
  simp only [Act.put, List.setIfInBounds_toArray, List.set_cons_zero, List.set_cons_succ]
  go_big_quiet_on
  go_big_quiet_want
  refine ⟨SV h.no h.hl h.ol h.lo.t h.lo.n h.lo.s h.hh h.oh h.hi.t h.hi.n h.hi.s, fun w' hw' => ?_, ?_⟩
  · go_simp
    exact (K6.out w').mono fun e w'' h => ⟨h.1, ⟨(hw'.1).below h.2, (hw'.2.1).below h.2, (hw'.2.2.1).below h.2, on hw'.2.2.2 h.2⟩⟩
  simp only [Act.put, List.setIfInBounds_toArray, List.set_cons_zero, List.set_cons_succ]
  go_big_quiet_on
  go_big_quiet_want
  refine ⟨.bool true, fun w' hw' => ?_, ?_⟩
  · go_simp
  simp only [Act.put, List.setIfInBounds_toArray, List.set_cons_zero, List.set_cons_succ]
  go_big_quiet_on
  go_big_quiet_want
  refine ⟨.bool true, fun w' hw' => ?_, ?_⟩
  · go_simp
  simp only [Act.put, List.setIfInBounds_toArray, List.set_cons_zero, List.set_cons_succ]
  go_big_quiet_on
  go_big_quiet_want
  go_big_quiet_op
  go_big_quiet_on
  refine wpQuiet_nil ?_
  intro w' hw'
  have HBz : Hid (Below w.heap.size w w') := hw'.2.2.2
  clear hw'
  go_wp2_with fail
  go_ret
  exact ⟨rfl, HBz.out⟩
end Go.Proofs.YtfkhfplibhnceaaDoor.Val
/- The law NormalSpans holds: what lies in any span, what two meet in, and their hull are the document's. Conditions: the listed package-level variables lie as the program's text lays them (the card ties them). -/
namespace Go.Proofs.YtfkhfplibhnceaaDoor.Val
open Go.ChangeShapes Go.WideShapes Go.ChangeAt Go.RowKit
open Go.ChangeMaps (open_string)

theorem nspans_contract (H : Type) (enc : TypeId × Value → H) (W : World) (base : Nat) (args : Array Value) (ds gs : List (DataW H)) (before : List MemPlace)
    (hval : ∀ (j : Nat) t v, Tryd.f4.params[j]? = some t → args[j]? = some v → Value.okWide Tryd.prog W .any base t v)
    (hW : DataW.Whole enc Tryd.prog Tryd.f4.params.toList Rows.normalSpansSpec.vars false W args.toList ds gs before) (hL : laidMetH Tryd.prog Rows.normalSpansRow.laid W) :
    Calls Tryd.prog 4 args W fun e W' => ∃ v, e = .returned v ∧ Rows.normalSpansSpec.post enc Tryd.prog Tryd.f4 false true false false W args v W' := by
  have hW' := hW
  obtain ⟨p, q, hA0, hV, rfl, hfz, hnd⟩ := hW
  have hA : DataW.TrodAll enc Tryd.prog W 0 (fun _ => true) true Tryd.f4.params.toList args.toList ds p := hA0
  rw [Tryd.params4] at hA hval
  obtain ⟨v0, vs0, d0, ds0, p0, q0, hargs, rfl, rfl, h0, r0⟩ := trodAll_cons hA
  obtain ⟨v1, vs1, d1, ds1, p1, q1, rfl, rfl, rfl, h1, r1⟩ := trodAll_cons r0
  obtain ⟨v2, vs2, d2, ds2, p2, q2, rfl, rfl, rfl, h2, r2⟩ := trodAll_cons r1
  obtain ⟨rfl, rfl, rfl⟩ := trodAll_nil r2
  obtain rfl : args = #[v0, v1, v2] := by cases args; simp_all
  obtain ⟨rfl, rfl⟩ := trodVars_none hV
  have k0 := h0
  have lt0 : ∀ x ∈ p0, x.block < W.heap.size := by obtain ⟨m, hm⟩ := k0; exact DataW.trod_lt m _ _ _ hm
  obtain ⟨x0, rfl, o0⟩ := open_span (hval 0 35 v0 rfl rfl) h0
  have k1 := h1
  have lt1 : ∀ x ∈ p1, x.block < W.heap.size := by obtain ⟨m, hm⟩ := k1; exact DataW.trod_lt m _ _ _ hm
  obtain ⟨x1, rfl, o1⟩ := open_span (hval 1 35 v1 rfl rfl) h1
  have k2 := h2
  have lt2 : ∀ x ∈ p2, x.block < W.heap.size := by obtain ⟨m, hm⟩ := k2; exact DataW.trod_lt m _ _ _ hm
  obtain ⟨x2, rfl, o2⟩ := open_value (hval 2 26 v2 rfl rfl) h2
  clear hA0
  have hT := tabOf hL
  refine (nspans_walk x0 x1 x2 W o0 o1 o2.2 hT).mono fun e W' ⟨he, bel⟩ => ?_
  subst he
  exact ⟨_, rfl, _, _, _, [], _, [], hW', trodAll_mk1 (shut_bool Tryd.underlying4 _), (trodAll_cons_mk (Below.trod laidOut (by kernel_rfl) (of_decide_eq_true (by kernel_rfl)) k0 bel lt0) (trodAll_cons_mk (Below.trod laidOut (by kernel_rfl) (of_decide_eq_true (by kernel_rfl)) k1 bel lt1) (trodAll_cons_mk (Below.trod laidOut (by kernel_rfl) (of_decide_eq_true (by kernel_rfl)) k2 bel lt2) trodAll_mk0))), rfl, bel.frame _, fun h => by cases h⟩

set_option maxRecDepth 100000 in
theorem nspans_lifted (os : Os) (started : os.Started) (H : Type) (enc : TypeId × Value → H) (F : Stop.Interp) :
    ReturnsInHanded {} Tryd.checked os 4 .any ((OpenSpec.ofChange Rows.normalSpansSpec).preRow enc Tryd.prog Tryd.f4 Rows.normalSpansRow.domain false Rows.normalSpansRow.laid) (((OpenSpec.ofChange Rows.normalSpansSpec).at F).post enc Tryd.prog Tryd.f4 false true false false) := by
  refine returnsInHanded_of_row (C := Tryd.checked) (s := OpenSpec.ofChange Rows.normalSpansSpec) own started (by kernel_rfl) Tryd.func4
    (witness_row_at (enc := enc) (C := Tryd.checked) false
      { World.holding Tryd.prog os ⟨#[], #[], []⟩ with heap := ((World.holding Tryd.prog os ⟨#[], #[], []⟩).heap.modify 0 (putCells (dataCells .i64 oppTab))) }
      #[.agg #[.bool false, .bool false, .bool false, .bool false, .int .i64 0, .string ⟨#[]⟩, .bool false, .bool false, .bool false, .int .i64 0, .string ⟨#[]⟩], .agg #[.bool false, .bool false, .bool false, .bool false, .int .i64 0, .string ⟨#[]⟩, .bool false, .bool false, .bool false, .int .i64 0, .string ⟨#[]⟩], .agg #[.bool false, .int .i64 0, .string ⟨#[]⟩]] rfl (by kernel_rfl) (by kernel_rfl) (by kernel_rfl)
      (OpenSpec.preRow_of_cond 8 (x := ([.agg [.lit (.bool false), .lit (.bool false), .lit (.bool false), .agg [.lit (.bool false), .lit (.int .i64 0), .lit (.string [])], .lit (.bool false), .lit (.bool false), .agg [.lit (.bool false), .lit (.int .i64 0), .lit (.string [])]], .agg [.lit (.bool false), .lit (.bool false), .lit (.bool false), .agg [.lit (.bool false), .lit (.int .i64 0), .lit (.string [])], .lit (.bool false), .lit (.bool false), .agg [.lit (.bool false), .lit (.int .i64 0), .lit (.string [])]], .agg [.lit (.bool false), .lit (.int .i64 0), .lit (.string [])]], [], [])) (by kernel_rfl) (by kernel_rfl) (fun k hk => by cases hk) (by kernel_rfl) (laidMet_of_run' 8 (by kernel_rfl) (by kernel_rfl)))) ?_
  intro W base args ds gs before hval hW _ _ _ hL _ _
  exact nspans_contract H enc W base args ds gs before hval hW hL

theorem nspans_said : Rows.NormalSpansSaid :=
  OpenClaim.holds_of_cond 4 Tryd.f4 rfl rfl rfl rfl rfl rfl rfl ⟨rfl, rfl, rfl, rfl, rfl⟩ rfl rfl rfl rfl rfl (by kernel_rfl) Tryd.func4 (by kernel_rfl)
    (of_decide_eq_true (by kernel_rfl)) (by unfold Func.isWrapper; first | (rw [if_pos (by decide +kernel)]; kernel_rfl) | (rw [if_neg (by decide +kernel)]; exact ⟨rfl, rfl⟩))
    (fun os started H enc _ F => by rw [OpenClaim.pre_eq_preRow]; exact nspans_lifted os started H enc F)

theorem nspans_plain (f : FuncId) (fn : Func) (hf : Tryd.pinned.checked.prog.funcNamed "ratline/ratlinelaw04.NormalSpans" = some f) (hfn : Tryd.pinned.checked.prog.funcs[f]? = some fn) :
    false = Tryd.pinned.checked.prog.looks [] ∧ ∀ (j : Nat) t, fn.params[j]? = some t → Tryd.pinned.checked.prog.wantsStandIn t = false := by
  obtain rfl : f = 4 := Option.some.inj ((show Tryd.prog.funcNamed "ratline/ratlinelaw04.NormalSpans" = some 4 by kernel_rfl).symm.trans hf) |>.symm
  obtain rfl : fn = Tryd.f4 := (Option.some.inj (Tryd.func4.symm.trans hfn)).symm
  refine ⟨by kernel_rfl, fun j t ht => ?_⟩
  rw [Tryd.params4] at ht
  have hm : t = 35 ∨ t = 35 ∨ t = 26 := by simpa using Array.mem_of_getElem? ht
  rcases hm with rfl | rfl | rfl
  · exact (show Tryd.prog.wantsStandIn 35 = false by kernel_rfl)
  · exact (show Tryd.prog.wantsStandIn 35 = false by kernel_rfl)
  · exact (show Tryd.prog.wantsStandIn 26 = false by kernel_rfl)

/-- The card. -/
theorem nspans_card : Rows.NormalSpansCardSaid :=
  Claim7.holds_tied_plain_at .later [] _ _ _ _ nspans_said (fun _ h => by cases h) (by kernel_rfl) (fun _ h => by cases h) normalSpans_row_tie rfl ⟨rfl, rfl⟩ (by kernel_rfl) rfl nspans_plain (by kernel_rfl)
end Go.Proofs.YtfkhfplibhnceaaDoor.Val
