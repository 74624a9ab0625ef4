/- The walk of the law NormalSays. -/
import Derived.Test.YtfkhfplibhnceaaDoorU9
import Derived.Test.YtfkhfplibhnceaaDoorU11
import Derived.Test.YtfkhfplibhnceaaDoorU8
namespace Go.Proofs.YtfkhfplibhnceaaDoor.Val
open Go.RowKit

set_option maxRecDepth 100000 in
set_option maxHeartbeats 8000000 in
theorem nsays_walk (vc : Value) (cols : List Bool) (p : PT) (vr : Value) (r : List Val) (w : World) (hbo : BoolsIn w vc cols) (hi : In w p) (hr : RowIn w vr r) (hok : RowOk r) (hT : Tab w) :
    Calls Tryd.prog 5 #[.agg #[vc], p.val, vr] w fun e w' => e = .returned (.bool true) ∧ Below w.heap.size w w' := by
  have H0 : Hid (∀ w1, Below w.heap.size w w1 → Calls Tryd.prog 10 #[] w1 fun e w' => e = .returned (.bool true) ∧ Below w1.heap.size w1 w') := fun w1 hb => awake_any w1 (hT.below hb)
  have H1 : Hid (∀ w1, Below w.heap.size w w1 → Calls Tryd.prog 11 #[p.val, .int .i64 0] w1 fun e w' => ∃ b, e = .returned (.bool b) ∧ (b = true → p.size ≤ 100) ∧ Below w1.heap.size w1 w') := fun w1 hb => few_any p w1 (hi.keep hb)
  have H2 : Hid (p.size ≤ 100 → ∀ w1, Below w.heap.size w w1 → Calls Tryd.prog 13 #[.agg #[vc], p.val] w1 fun e w' => ∃ q : PT, e = .returned q.val ∧ (q.bare = normP cols p ∧ In w' q) ∧ Below w1.heap.size w1 w') := fun hs w1 hb => (normal_any vc cols p w1 (hbo.below hb) (hi.keep hb) (hT.below hb) (by omega)).mono fun e w' ⟨q, h1, h2, h3, h4⟩ => ⟨q, h1, ⟨h2, h3.isIn⟩, h4⟩
  obtain ⟨m, hm⟩ : ∃ m, (mayT cols && mayP cols p) = m := ⟨_, rfl⟩
  obtain ⟨f, hf⟩ : ∃ f, fitsRow cols r = f := ⟨_, rfl⟩
  obtain ⟨a, ha⟩ : ∃ a, holdsP r p = a := ⟨_, rfl⟩
  have H4 : Hid (p.size ≤ 100 → ∀ w1, Below w.heap.size w w1 → Calls Tryd.prog 24 #[.agg #[vc], p.val] w1 fun e w' => e = .returned (.bool m) ∧ Below w1.heap.size w1 w') := fun hs w1 hb => by rw [← hm]; exact rmayP_any vc cols p w1 (hbo.below hb) (hi.keep hb) (by omega)
  have H5 : Hid (∀ w1, Below w.heap.size w w1 → Calls Tryd.prog 25 #[.agg #[vc], vr] w1 fun e w' => e = .returned (.bool f) ∧ Below w1.heap.size w1 w') := fun w1 hb => by rw [← hf]; exact rfits_any vc vr cols r w1 (hbo.below hb) (hr.below hb) hok
  have H6 : Hid (∀ w1, Below w.heap.size w w1 → Calls Tryd.prog 26 #[p.val, vr] w1 fun e w' => e = .returned (.bool a) ∧ Below w1.heap.size w1 w') := fun w1 hb => by rw [← ha]; exact rholds_ok vr r hok p w1 (hi.keep hb) (hr.below hb)
  have H7 : Hid (∀ q : PT, q.bare = normP cols p → m = true → f = true → ∀ w1, In w1 q → Below w.heap.size w w1 → Calls Tryd.prog 26 #[q.val, vr] w1 fun e w' => e = .returned (.bool a) ∧ Below w1.heap.size w1 w') := fun q hq h1 h2 w1 hq1 hb => by
    have hn : holdsP r q = a := by
      rw [← norm_bare] at hq
      rw [holds_of_bare hq, norm_holds (check_may.2 (hm.trans h1)) (fits_len (hf.trans h2)), ha]
    rw [← hn]; exact rholds_ok vr r hok q w1 hq1 (hr.below hb)
  have H8 : Hid (∀ q : PT, q.bare = normP cols p → ∀ w1, In w1 q → Calls Tryd.prog 23 #[q.val] w1 fun e w' => e = .returned (.bool true) ∧ Below w1.heap.size w1 w') := fun q hq w1 hq1 => by
    have hn : noNot q = true := by rw [← norm_bare] at hq; rw [noNot_of_bare hq, norm_noNot]
    rw [← hn]; exact without_ok q w1 hq1
  have H9 : Hid (∀ q : PT, q.bare = normP cols p → m = false → q.op = 2 ∧ q.l.length = 0) := fun q hq h1 => bare_two hq fun h => by rw [check_may.1 h] at hm; rw [h1] at hm; cases hm
  generalize normP cols p = n at *
  obtain ⟨ap, cp, hlp, _⟩ := hi.lies.slice
  obtain ⟨ac, cc, rfl, _⟩ := hbo.slice
  obtain ⟨ar, cr, rfl, _⟩ := hr.slice
  have HLP : Hid (p.lv = .slice ap p.l.length cp) := hlp
  have HPN : Hid (∀ w0 : World, Box (w0.alloc (.cells #[.int .i64 p.op, .int .i64 p.col, .bool p.v.t, .int .i64 p.v.n, .string p.v.s, .bool p.w.t, .int .i64 p.w.n, .string p.w.s, .slice ap p.l.length cp] 29)) w0.heap.size p) := fun w0 => by have := Box.new w0 p 29; rw [pobj, hlp] at this; exact this
  clear hi hbo hr hok hT hm hf ha
  unfold PT.val at *
  rw [hlp] at H1 H2 H4 H6 ⊢
  clear hlp
  go_enter Tryd.func5, Tryd.ntmps5
  go_wp2_with fail
  refine Calls.mono (H0.out _ (back1 (alloc1 _ _))) ?_
  rintro e w1 ⟨rfl, hb⟩
  have Xt : Hid (CBox w1 (w.heap.size) (.slice ac cols.length cc)) := show CBox w1 (w.heap.size) (.slice ac cols.length cc) from ((CBox.new w _ _).alloc _).below hb
  have Xp : Hid (Box w1 (w.heap.size + 1) p) := show Box w1 (w.heap.size + 1) p from by have := (HPN.out _).below hb; simpa using this
  have HB : Hid (Below w.heap.size w w1) := back2 hb
  clear hb
  clear H0 HPN
  obtain ⟨t0⟩ := Xt.out
  have lt := Xt.out.lt
  obtain ⟨p0, p1, p2, p3, p4, p5, p6, p7, p8⟩ := Xp.out
  have lp := Xp.out.lt
  rw [HLP.out] at p8
  go_wp2_with fail
  refine Calls.mono (H1.out _ HB.out) ?_
  rintro e w2 ⟨b, rfl, hsz, hb⟩
  clear t0 lt p0 p1 p2 p3 p4 p5 p6 p7 p8 lp
  replace Xt : Hid (CBox w2 (w.heap.size) (.slice ac cols.length cc)) := Xt.out.below hb
  replace Xp : Hid (Box w2 (w.heap.size + 1) p) := Xp.out.below hb
  replace HB : Hid (Below w.heap.size w w2) := on HB.out hb
  have HS : Hid (b = true → p.size ≤ 100) := hsz
  clear hsz
  clear hb
  clear H1
  cases b
  · clear Xt Xp H2 H4 H5 H6 H7 H8 H9
    go_wp2_with fail
    go_ret
    exact ⟨rfl, HB.out⟩
  replace H2 := H2.out (HS.out rfl)
  replace H4 := H4.out (HS.out rfl)
  have K2 : Hid _ := H2
  have K4 : Hid _ := H4
  clear H2 H4 HS
  by_cases h1 : 100 < cols.length
  · have e1 : (100 : Int) < (cols.length : Int) := by omega
    obtain ⟨t0⟩ := Xt.out
    clear Xt Xp K2 K4 H5 H6 H7 H8 H9
    go_wp2_with fail
    go_ret
    exact ⟨rfl, HB.out⟩
  have e1 : decide ((100 : Int) < (cols.length : Int)) = false := by simp; omega
  by_cases h2 : 100 < r.length
  · have e2 : (100 : Int) < (r.length : Int) := by omega
    obtain ⟨t0⟩ := Xt.out
    clear Xt Xp K2 K4 H5 H6 H7 H8 H9
    go_wp2_with fail
    go_ret
    exact ⟨rfl, HB.out⟩
  have e2 : decide ((100 : Int) < (r.length : Int)) = false := by simp; omega
  clear h1 h2
  obtain ⟨t0⟩ := Xt.out
  have lt := Xt.out.lt
  obtain ⟨p0, p1, p2, p3, p4, p5, p6, p7, p8⟩ := Xp.out
  have lp := Xp.out.lt
  rw [HLP.out] at p8
  go_wp2_with fail
  refine Calls.mono (K2.out _ HB.out) ?_
  rintro e w3 ⟨q, rfl, ⟨hqb, hqi⟩, hb⟩
  clear t0 lt p0 p1 p2 p3 p4 p5 p6 p7 p8 lp
  replace Xt : Hid (CBox w3 (w.heap.size) (.slice ac cols.length cc)) := Xt.out.below hb
  replace Xp : Hid (Box w3 (w.heap.size + 1) p) := Xp.out.below hb
  replace HB : Hid (Below w.heap.size w w3) := on HB.out hb
  obtain ⟨aq, cq, hlq, _⟩ := hqi.lies.slice
  have HQ : Hid (q.bare = n ∧ In w3 q ∧ q.lv = .slice aq q.l.length cq) := ⟨hqb, hqi, hlq⟩
  have K8 : Hid (∀ w1, In w1 q → Calls Tryd.prog 23 #[q.val] w1 fun e w' => e = .returned (.bool true) ∧ Below w1.heap.size w1 w') := H8.out q hqb
  have HPN : Hid (∀ w0 : World, Box (w0.alloc (.cells #[.int .i64 q.op, .int .i64 q.col, .bool q.v.t, .int .i64 q.v.n, .string q.v.s, .bool q.w.t, .int .i64 q.w.n, .string q.w.s, .slice aq q.l.length cq] 29)) w0.heap.size q) := fun w0 => by have := Box.new w0 q 29; rw [pobj, hlq] at this; exact this
  unfold PT.val at K8
  rw [hlq] at K8 ⊢
  clear hqb hqi hlq H8 K2
  clear hb
  go_wp2_with fail
  refine Calls.mono (K8.out _ (HQ.out.2.1.keep (alloc1 _ _))) ?_
  rintro e w4 ⟨rfl, hb⟩
  replace Xt : Hid (CBox w4 (w.heap.size) (.slice ac cols.length cc)) := (Xt.out.alloc _).below hb
  replace Xp : Hid (Box w4 (w.heap.size + 1) p) := (Xp.out.alloc _).below hb
  have Xq : Hid (Box w4 w3.heap.size q) := (HPN.out _).below hb
  have HQ4 : Hid (In w4 q) := HQ.out.2.1.keep (back1 hb)
  have HLQ : Hid (q.lv = .slice aq q.l.length cq) := HQ.out.2.2
  have HQB : Hid (q.bare = n) := HQ.out.1
  replace HB : Hid (Below w.heap.size w w4) := on HB.out (back1 hb)
  clear hb HQ HPN K8
  obtain ⟨t0⟩ := Xt.out
  have lt := Xt.out.lt
  obtain ⟨p0, p1, p2, p3, p4, p5, p6, p7, p8⟩ := Xp.out
  have lp := Xp.out.lt
  rw [HLP.out] at p8
  go_wp2_with fail
  refine Calls.mono (K4.out _ HB.out) ?_
  rintro e w5 ⟨rfl, hb⟩
  clear t0 lt p0 p1 p2 p3 p4 p5 p6 p7 p8 lp
  replace Xt : Hid (CBox w5 (w.heap.size) (.slice ac cols.length cc)) := Xt.out.below hb
  replace Xp : Hid (Box w5 (w.heap.size + 1) p) := Xp.out.below hb
  replace Xq : Hid (Box w5 (w3.heap.size) q) := Xq.out.below hb
  replace HB : Hid (Below w.heap.size w w5) := on HB.out hb
  replace HQ4 : Hid (In w5 q) := HQ4.out.keep hb
  clear hb
  clear K4
  cases m
  · obtain ⟨g1, g2⟩ := H9.out q HQB.out rfl
    obtain ⟨q0, q1, q2, q3, q4, q5, q6, q7, q8⟩ := Xq.out
    rw [HLQ.out, g2] at q8
    rw [g1] at q0
    clear Xt Xp Xq H5 H6 H7 H9 HQ4 HLQ HQB g1 g2
    go_wp2_with fail
    go_ret
    exact ⟨rfl, HB.out⟩
  clear H9
  obtain ⟨t0⟩ := Xt.out
  have lt := Xt.out.lt
  go_wp2_with fail
  refine Calls.mono (H5.out _ HB.out) ?_
  rintro e w6 ⟨rfl, hb⟩
  clear t0 lt
  replace Xt : Hid (CBox w6 (w.heap.size) (.slice ac cols.length cc)) := Xt.out.below hb
  replace Xp : Hid (Box w6 (w.heap.size + 1) p) := Xp.out.below hb
  replace Xq : Hid (Box w6 (w3.heap.size) q) := Xq.out.below hb
  replace HB : Hid (Below w.heap.size w w6) := on HB.out hb
  replace HQ4 : Hid (In w6 q) := HQ4.out.keep hb
  clear hb
  clear H5
  cases f
  · clear Xt Xp Xq H6 H7 HQ4 HLQ HQB
    go_wp2_with fail
    go_ret
    exact ⟨rfl, HB.out⟩
  have K7 : Hid (∀ w1, In w1 q → Below w.heap.size w w1 → Calls Tryd.prog 26 #[q.val, .slice ar r.length cr] w1 fun e w' => e = .returned (.bool a) ∧ Below w1.heap.size w1 w') := H7.out q HQB.out (by trivial) (by trivial)
  unfold PT.val at K7
  rw [HLQ.out] at K7
  clear H7 HQB
  go_wp2_with fail
  refine region_cls (C := fun w' => Box w' (w.heap.size + 1) p ∧ Box w' w3.heap.size q ∧ In w' q ∧ Below w.heap.size w w') (by kernel_rfl) (by kernel_rfl) ⟨Xp.out.below (Below.refl _ _).drew, Xq.out.below (Below.refl _ _).drew, HQ4.out.keep (Below.refl _ _).drew, HB.out.drew⟩ ?_
  clear HB Xt Xp Xq HQ4
  go_big_quiet_want
  refine ⟨PV q.op q.col q.v.t q.v.n q.v.s q.w.t q.w.n q.w.s (.slice aq q.l.length cq), fun w' hw' => ?_, ?_⟩
  · obtain ⟨⟨p0, p1, p2, p3, p4, p5, p6, p7, p8⟩, ⟨q0, q1, q2, q3, q4, q5, q6, q7, q8⟩, _⟩ := hw'; rw [HLP.out] at p8; rw [HLQ.out] at q8
    go_simp
  simp only [Act.put, List.setIfInBounds_toArray, List.set_cons_zero, List.set_cons_succ]
  go_big_quiet_on
  go_big_quiet_want
  go_big_quiet_op
  go_big_quiet_on
  go_big_quiet_want
  refine ⟨.bool a, fun w' hw' => ?_, ?_⟩
  · go_simp
    exact (K7.out w' hw'.2.2.1 hw'.2.2.2).mono fun e w'' h => ⟨h.1, ⟨hw'.1.below h.2, hw'.2.1.below h.2, hw'.2.2.1.keep h.2, on hw'.2.2.2 h.2⟩⟩
  simp only [Act.put, List.setIfInBounds_toArray, List.set_cons_zero, List.set_cons_succ]
  go_big_quiet_on
  go_big_quiet_want
  refine ⟨PV p.op p.col p.v.t p.v.n p.v.s p.w.t p.w.n p.w.s (.slice ap p.l.length cp), fun w' hw' => ?_, ?_⟩
  · obtain ⟨⟨p0, p1, p2, p3, p4, p5, p6, p7, p8⟩, ⟨q0, q1, q2, q3, q4, q5, q6, q7, q8⟩, _⟩ := hw'; rw [HLP.out] at p8; rw [HLQ.out] at q8
    go_simp
  simp only [Act.put, List.setIfInBounds_toArray, List.set_cons_zero, List.set_cons_succ]
  go_big_quiet_on
  go_big_quiet_want
  go_big_quiet_op
  go_big_quiet_on
  go_big_quiet_want
  refine ⟨.bool a, fun w' hw' => ?_, ?_⟩
  · go_simp
    exact (H6.out w' hw'.2.2.2).mono fun e w'' h => ⟨h.1, ⟨hw'.1.below h.2, hw'.2.1.below h.2, hw'.2.2.1.keep h.2, on hw'.2.2.2 h.2⟩⟩
  simp only [Act.put, List.setIfInBounds_toArray, List.set_cons_zero, List.set_cons_succ]
  go_big_quiet_on
  go_big_quiet_want
  refine ⟨.bool true, fun w' hw' => ?_, ?_⟩
  · go_simp
  simp only [Act.put, List.setIfInBounds_toArray, List.set_cons_zero, List.set_cons_succ]
  go_big_quiet_on
  go_big_quiet_want
  go_big_quiet_op
  go_big_quiet_on
  refine wpQuiet_nil ?_
  intro w' hw'
  have HBz : Hid (Below w.heap.size w w') := hw'.2.2.2
  clear hw'
  go_wp2_with fail
  go_ret
  exact ⟨rfl, HBz.out⟩
end Go.Proofs.YtfkhfplibhnceaaDoor.Val
/- The law NormalSays holds: without PNot a predicate says the same of every row that fits. Conditions: the listed package-level variables lie as the program's text lays them (the card ties them). -/
namespace Go.Proofs.YtfkhfplibhnceaaDoor.Val
open Go.ChangeShapes Go.WideShapes Go.ChangeAt Go.RowKit
open Go.ChangeMaps (open_string)

theorem nsays_contract (H : Type) (enc : TypeId × Value → H) (W : World) (base : Nat) (args : Array Value) (ds gs : List (DataW H)) (before : List MemPlace)
    (hval : ∀ (j : Nat) t v, Tryd.f5.params[j]? = some t → args[j]? = some v → Value.okWide Tryd.prog W .any base t v)
    (hW : DataW.Whole enc Tryd.prog Tryd.f5.params.toList Rows.normalSaysSpec.vars false W args.toList ds gs before) (hL : laidMetH Tryd.prog Rows.normalSaysRow.laid W) :
    Calls Tryd.prog 5 args W fun e W' => ∃ v, e = .returned v ∧ Rows.normalSaysSpec.post enc Tryd.prog Tryd.f5 false true false false W args v W' := by
  have hW' := hW
  obtain ⟨p, q, hA0, hV, rfl, hfz, hnd⟩ := hW
  have hA : DataW.TrodAll enc Tryd.prog W 0 (fun _ => true) true Tryd.f5.params.toList args.toList ds p := hA0
  rw [Tryd.params5] at hA hval
  obtain ⟨v0, vs0, d0, ds0, p0, q0, hargs, rfl, rfl, h0, r0⟩ := trodAll_cons hA
  obtain ⟨v1, vs1, d1, ds1, p1, q1, rfl, rfl, rfl, h1, r1⟩ := trodAll_cons r0
  obtain ⟨v2, vs2, d2, ds2, p2, q2, rfl, rfl, rfl, h2, r2⟩ := trodAll_cons r1
  obtain ⟨rfl, rfl, rfl⟩ := trodAll_nil r2
  obtain rfl : args = #[v0, v1, v2] := by cases args; simp_all
  obtain ⟨rfl, rfl⟩ := trodVars_none hV
  have k0 := h0
  have lt0 : ∀ x ∈ p0, x.block < W.heap.size := by obtain ⟨m, hm⟩ := k0; exact DataW.trod_lt m _ _ _ hm
  obtain ⟨c0, cols0, rfl, w0⟩ := open_table (hval 0 24 v0 rfl rfl) h0
  have k1 := h1
  have lt1 : ∀ x ∈ p1, x.block < W.heap.size := by obtain ⟨m, hm⟩ := k1; exact DataW.trod_lt m _ _ _ hm
  obtain ⟨x1, rfl, o1⟩ := open_pred (hval 1 29 v1 rfl rfl) h1
  have k2 := h2
  have lt2 : ∀ x ∈ p2, x.block < W.heap.size := by obtain ⟨m, hm⟩ := k2; exact DataW.trod_lt m _ _ _ hm
  obtain ⟨a2, len2, cap2, rfl⟩ := okWide_slice Tryd.underlying42 (hval 2 42 v2 rfl rfl)
  obtain ⟨xs2, w2, o2⟩ := open_row h2 rfl
  clear hA0
  have hT := tabOf hL
  refine (nsays_walk _ _ _ _ _ W w0 o1 w2 o2 hT).mono fun e W' ⟨he, bel⟩ => ?_
  subst he
  exact ⟨_, rfl, _, _, _, [], _, [], hW', trodAll_mk1 (shut_bool Tryd.underlying4 _), (trodAll_cons_mk (Below.trod laidOut (by kernel_rfl) (of_decide_eq_true (by kernel_rfl)) k0 bel lt0) (trodAll_cons_mk (Below.trod laidOut (by kernel_rfl) (of_decide_eq_true (by kernel_rfl)) k1 bel lt1) (trodAll_cons_mk (Below.trod laidOut (by kernel_rfl) (of_decide_eq_true (by kernel_rfl)) k2 bel lt2) trodAll_mk0))), rfl, bel.frame _, fun h => by cases h⟩

set_option maxRecDepth 100000 in
theorem nsays_lifted (os : Os) (started : os.Started) (H : Type) (enc : TypeId × Value → H) (F : Stop.Interp) :
    ReturnsInHanded {} Tryd.checked os 5 .any ((OpenSpec.ofChange Rows.normalSaysSpec).preRow enc Tryd.prog Tryd.f5 Rows.normalSaysRow.domain false Rows.normalSaysRow.laid) (((OpenSpec.ofChange Rows.normalSaysSpec).at F).post enc Tryd.prog Tryd.f5 false true false false) := by
  refine returnsInHanded_of_row (C := Tryd.checked) (s := OpenSpec.ofChange Rows.normalSaysSpec) own started (by kernel_rfl) Tryd.func5
    (witness_row_at (enc := enc) (C := Tryd.checked) false
      { World.holding Tryd.prog os ⟨#[], #[], []⟩ with heap := ((World.holding Tryd.prog os ⟨#[], #[], []⟩).heap.modify 0 (putCells (dataCells .i64 oppTab))) }
      #[.agg #[.slice none 0 0], .agg #[.int .i64 0, .int .i64 0, .bool false, .int .i64 0, .string ⟨#[]⟩, .bool false, .int .i64 0, .string ⟨#[]⟩, .slice none 0 0], .slice none 0 0] rfl (by kernel_rfl) (by kernel_rfl) (by kernel_rfl)
      (OpenSpec.preRow_of_cond 8 (x := ([.agg [.nil], .agg [.lit (.int .i64 0), .lit (.int .i64 0), .agg [.lit (.bool false), .lit (.int .i64 0), .lit (.string [])], .agg [.lit (.bool false), .lit (.int .i64 0), .lit (.string [])], .nil], .nil], [], [])) (by kernel_rfl) (by kernel_rfl) (fun k hk => by cases hk) (by kernel_rfl) (laidMet_of_run' 8 (by kernel_rfl) (by kernel_rfl)))) ?_
  intro W base args ds gs before hval hW _ _ _ hL _ _
  exact nsays_contract H enc W base args ds gs before hval hW hL

theorem nsays_said : Rows.NormalSaysSaid :=
  OpenClaim.holds_of_cond 5 Tryd.f5 rfl rfl rfl rfl rfl rfl rfl ⟨rfl, rfl, rfl, rfl, rfl⟩ rfl rfl rfl rfl rfl (by kernel_rfl) Tryd.func5 (by kernel_rfl)
    (of_decide_eq_true (by kernel_rfl)) (by unfold Func.isWrapper; first | (rw [if_pos (by decide +kernel)]; kernel_rfl) | (rw [if_neg (by decide +kernel)]; exact ⟨rfl, rfl⟩))
    (fun os started H enc _ F => by rw [OpenClaim.pre_eq_preRow]; exact nsays_lifted os started H enc F)

theorem nsays_plain (f : FuncId) (fn : Func) (hf : Tryd.pinned.checked.prog.funcNamed "ratline/ratlinelaw04.NormalSays" = some f) (hfn : Tryd.pinned.checked.prog.funcs[f]? = some fn) :
    false = Tryd.pinned.checked.prog.looks [] ∧ ∀ (j : Nat) t, fn.params[j]? = some t → Tryd.pinned.checked.prog.wantsStandIn t = false := by
  obtain rfl : f = 5 := Option.some.inj ((show Tryd.prog.funcNamed "ratline/ratlinelaw04.NormalSays" = some 5 by kernel_rfl).symm.trans hf) |>.symm
  obtain rfl : fn = Tryd.f5 := (Option.some.inj (Tryd.func5.symm.trans hfn)).symm
  refine ⟨by kernel_rfl, fun j t ht => ?_⟩
  rw [Tryd.params5] at ht
  have hm : t = 24 ∨ t = 29 ∨ t = 42 := by simpa using Array.mem_of_getElem? ht
  rcases hm with rfl | rfl | rfl
  · exact (show Tryd.prog.wantsStandIn 24 = false by kernel_rfl)
  · exact (show Tryd.prog.wantsStandIn 29 = false by kernel_rfl)
  · exact (show Tryd.prog.wantsStandIn 42 = false by kernel_rfl)

/-- The card. -/
theorem nsays_card : Rows.NormalSaysCardSaid :=
  Claim7.holds_tied_plain_at .later [] _ _ _ _ nsays_said (fun _ h => by cases h) (by kernel_rfl) (fun _ h => by cases h) normalSays_row_tie rfl ⟨rfl, rfl⟩ (by kernel_rfl) rfl nsays_plain (by kernel_rfl)
end Go.Proofs.YtfkhfplibhnceaaDoor.Val
