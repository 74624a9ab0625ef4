/- The walk of the law NormalSelf. -/
import Derived.Test.YtfkhfplibhnceaaDoorU7
import Derived.Test.YtfkhfplibhnceaaDoorU8
namespace Go.Proofs.YtfkhfplibhnceaaDoor.Val
open Go.RowKit

set_option maxRecDepth 100000 in
set_option maxHeartbeats 8000000 in
theorem nself_walk (s : Sp) (x : Val) (w : World) (hT : Tab w) : Calls Tryd.prog 9 #[s.val, V x.t x.n x.s] w fun e w' => e = .returned (.bool true) ∧ Below w.heap.size w w' := by
  have H0 : Hid (∀ w1, Below w.heap.size w w1 → Calls Tryd.prog 10 #[] w1 fun e w' => e = .returned (.bool true) ∧ Below w1.heap.size w1 w') := fun w1 hb => awake_any w1 (hT.below hb)
  have K1 : Hid (∀ w1, Calls Tryd.prog 19 #[s.val, s.val] w1 fun e w' => e = .returned (cleanS s).val ∧ Below w1.heap.size w1 w') := fun w1 => by have := meet_any s s w1; rw [meet_self] at this; exact this
  have K2 : Hid (∀ w1, Calls Tryd.prog 21 #[s.val, s.val] w1 fun e w' => e = .returned (cleanS s).val ∧ Below w1.heap.size w1 w') := fun w1 => by have := hull_any s s w1; rw [hull_self] at this; exact this
  have K3 : Hid (∀ w1, Calls Tryd.prog 19 #[s.val, Sp.none.val] w1 fun e w' => e = .returned Sp.none.val ∧ Below w1.heap.size w1 w') := fun w1 => by have := meet_any s Sp.none w1; rw [meet_none] at this; exact this
  have K4 : Hid (∀ w1, Calls Tryd.prog 21 #[s.val, Sp.all.val] w1 fun e w' => e = .returned Sp.all.val ∧ Below w1.heap.size w1 w') := fun w1 => by have := hull_any s Sp.all w1; rw [hull_all] at this; exact this
  have K5 : Hid (∀ w1, Calls Tryd.prog 17 #[s.val, V x.t x.n x.s] w1 fun e w' => e = .returned (.bool (withinS s x)) ∧ Below w1.heap.size w1 w') := fun w1 => within_any s x w1
  have K6 : Hid (∀ w1, Calls Tryd.prog 17 #[(cleanS s).val, V x.t x.n x.s] w1 fun e w' => e = .returned (.bool (withinS s x)) ∧ Below w1.heap.size w1 w') := fun w1 => by have := within_any (cleanS s) x w1; rw [within_clean] at this; exact this
  have K7 : Hid (∀ w1, Calls Tryd.prog 21 #[Sp.none.val, s.val] w1 fun e w' => e = .returned (cleanS s).val ∧ Below w1.heap.size w1 w') := fun w1 => by have := hull_any Sp.none s w1; rw [hull_none] at this; exact this
  have K8 : Hid (∀ w1, Calls Tryd.prog 19 #[Sp.all.val, s.val] w1 fun e w' => e = .returned (cleanS s).val ∧ Below w1.heap.size w1 w') := fun w1 => by have := meet_any Sp.all s w1; rw [meet_all] at this; exact this
  have K9 : Hid (∀ w1, Calls Tryd.prog 17 #[Sp.all.val, V x.t x.n x.s] w1 fun e w' => e = .returned (.bool true) ∧ Below w1.heap.size w1 w') := fun w1 => by have := within_any Sp.all x w1; rw [within_all] at this; exact this
  generalize cleanS s = m at *
  generalize withinS s x = i at *
  have Qm : ∀ w1, (binOp .eql 35 (SV m.no m.hl m.ol m.lo.t m.lo.n m.lo.s m.hh m.oh m.hi.t m.hi.n m.hi.s) (SV m.no m.hl m.ol m.lo.t m.lo.n m.lo.s m.hh m.oh m.hi.t m.hi.n m.hi.s)).run Tryd.prog w1 = .ok (.bool true) w1 := fun w1 => eql_same m w1
  have Qn : ∀ w1, (binOp .eql 35 (SV true false false false 0 ⟨#[]⟩ false false false 0 ⟨#[]⟩) (SV true false false false 0 ⟨#[]⟩ false false false 0 ⟨#[]⟩)).run Tryd.prog w1 = .ok (.bool true) w1 := fun w1 => eql_same Sp.none w1
  have Qa : ∀ w1, (binOp .eql 35 (SV false false false false 0 ⟨#[]⟩ false false false 0 ⟨#[]⟩) (SV false false false false 0 ⟨#[]⟩ false false false 0 ⟨#[]⟩)).run Tryd.prog w1 = .ok (.bool true) w1 := fun w1 => eql_same Sp.all w1
  clear hT
  unfold Sp.val at *
  simp only [Sp.none, Sp.all, Val.zero] at K3 K4 K7 K8 K9
  go_enter Tryd.func9, Tryd.ntmps9
  go_wp2_with fail
  refine Calls.mono (H0.out _ (back1 (alloc1 _ _))) ?_
  rintro e w1 ⟨rfl, hb⟩
  have Xs : Hid (SBox w1 (w.heap.size) s) := show SBox w1 (w.heap.size) s from ((SBox.new w s 35).alloc _).below hb
  have Xv : Hid (VBox w1 (w.heap.size + 1) x) := show VBox w1 (w.heap.size + 1) x from by have := (VBox.new (w.alloc (sobj s 35)) x 26).below hb; simpa using this
  have HB : Hid (Below w.heap.size w w1) := back2 hb
  clear hb
  obtain ⟨s0, s1, s2, s3, s4, s5, s6, s7, s8, s9, s10⟩ := Xs.out
  have ls := Xs.out.lt
  go_wp2_with fail
  refine Calls.mono (K1.out _) ?_
  rintro e w2 ⟨rfl, hb⟩
  clear s0 s1 s2 s3 s4 s5 s6 s7 s8 s9 s10 ls
  replace Xs : Hid (SBox w2 (w.heap.size) s) := Xs.out.below hb
  replace Xv : Hid (VBox w2 (w.heap.size + 1) x) := Xv.out.below hb
  replace HB : Hid (Below w.heap.size w w2) := on HB.out hb
  clear hb
  obtain ⟨s0, s1, s2, s3, s4, s5, s6, s7, s8, s9, s10⟩ := Xs.out
  have ls := Xs.out.lt
  go_wp2_with fail
  refine Calls.mono (K2.out _) ?_
  rintro e w3 ⟨rfl, hb⟩
  clear s0 s1 s2 s3 s4 s5 s6 s7 s8 s9 s10 ls
  replace Xs : Hid (SBox w3 (w.heap.size) s) := (Xs.out.alloc _).below hb
  replace Xv : Hid (VBox w3 (w.heap.size + 1) x) := (Xv.out.alloc _).below hb
  have Xm : Hid (SBox w3 w2.heap.size m) := (SBox.new _ _ 35).below hb
  replace HB : Hid (Below w.heap.size w w3) := on HB.out (back1 hb)
  clear hb
  obtain ⟨s0, s1, s2, s3, s4, s5, s6, s7, s8, s9, s10⟩ := Xs.out
  have ls := Xs.out.lt
  go_wp2_with fail
  refine Calls.mono (K3.out _) ?_
  rintro e w4 ⟨rfl, hb⟩
  clear s0 s1 s2 s3 s4 s5 s6 s7 s8 s9 s10 ls
  replace Xs : Hid (SBox w4 (w.heap.size) s) := (Xs.out.alloc _).below hb
  replace Xv : Hid (VBox w4 (w.heap.size + 1) x) := (Xv.out.alloc _).below hb
  replace Xm : Hid (SBox w4 (w2.heap.size) m) := (Xm.out.alloc _).below hb
  have Xh : Hid (SBox w4 w3.heap.size m) := (SBox.new _ _ 35).below hb
  replace HB : Hid (Below w.heap.size w w4) := on HB.out (back1 hb)
  clear hb
  obtain ⟨s0, s1, s2, s3, s4, s5, s6, s7, s8, s9, s10⟩ := Xs.out
  have ls := Xs.out.lt
  go_wp2_with fail
  refine Calls.mono (K4.out _) ?_
  rintro e w5 ⟨rfl, hb⟩
  clear s0 s1 s2 s3 s4 s5 s6 s7 s8 s9 s10 ls
  replace Xs : Hid (SBox w5 (w.heap.size) s) := (Xs.out.alloc _).below hb
  replace Xv : Hid (VBox w5 (w.heap.size + 1) x) := (Xv.out.alloc _).below hb
  replace Xm : Hid (SBox w5 (w2.heap.size) m) := (Xm.out.alloc _).below hb
  replace Xh : Hid (SBox w5 (w3.heap.size) m) := (Xh.out.alloc _).below hb
  have Xn : Hid (SBox w5 w4.heap.size Sp.none) := (SBox.new _ _ 35).below hb
  replace HB : Hid (Below w.heap.size w w5) := on HB.out (back1 hb)
  clear hb
  obtain ⟨s0, s1, s2, s3, s4, s5, s6, s7, s8, s9, s10⟩ := Xs.out
  have ls := Xs.out.lt
  obtain ⟨v0, v1, v2⟩ := Xv.out
  have lv := Xv.out.lt
  go_wp2_with fail
  refine Calls.mono (K5.out _) ?_
  rintro e w6 ⟨rfl, hb⟩
  clear s0 s1 s2 s3 s4 s5 s6 s7 s8 s9 s10 ls v0 v1 v2 lv
  replace Xs : Hid (SBox w6 (w.heap.size) s) := (Xs.out.alloc _).below hb
  replace Xv : Hid (VBox w6 (w.heap.size + 1) x) := (Xv.out.alloc _).below hb
  replace Xm : Hid (SBox w6 (w2.heap.size) m) := (Xm.out.alloc _).below hb
  replace Xh : Hid (SBox w6 (w3.heap.size) m) := (Xh.out.alloc _).below hb
  replace Xn : Hid (SBox w6 (w4.heap.size) Sp.none) := (Xn.out.alloc _).below hb
  have Xa : Hid (SBox w6 w5.heap.size Sp.all) := (SBox.new _ _ 35).below hb
  replace HB : Hid (Below w.heap.size w w6) := on HB.out (back1 hb)
  clear hb
  go_wp2_with fail
  (try simp only [List.append])
  refine region_cls (C := fun w' => SBox w' (w.heap.size) s ∧ VBox w' (w.heap.size + 1) x ∧ SBox w' (w2.heap.size) m ∧ SBox w' (w3.heap.size) m ∧ SBox w' (w4.heap.size) Sp.none ∧ SBox w' (w5.heap.size) Sp.all ∧ Below w.heap.size w w') (by kernel_rfl) (by kernel_rfl) ⟨Xs.out.below (Below.refl _ _).drew, Xv.out.below (Below.refl _ _).drew, Xm.out.below (Below.refl _ _).drew, Xh.out.below (Below.refl _ _).drew, Xn.out.below (Below.refl _ _).drew, Xa.out.below (Below.refl _ _).drew, HB.out.drew⟩ ?_
  clear HB Xs Xv Xm Xh Xn Xa
  go_big_quiet_want
  refine ⟨SV m.no m.hl m.ol m.lo.t m.lo.n m.lo.s m.hh m.oh m.hi.t m.hi.n m.hi.s, fun w' hw' => ?_, ?_⟩
  · obtain ⟨⟨s0, s1, s2, s3, s4, s5, s6, s7, s8, s9, s10⟩, ⟨v0, v1, v2⟩, ⟨m0, m1, m2, m3, m4, m5, m6, m7, m8, m9, m10⟩, ⟨h0, h1, h2, h3, h4, h5, h6, h7, h8, h9, h10⟩, ⟨n0, n1, n2, n3, n4, n5, n6, n7, n8, n9, n10⟩, ⟨a0, a1, a2, a3, a4, a5, a6, a7, a8, a9, a10⟩, _⟩ := hw'; simp only [Sp.none, Sp.all, Val.zero] at *
    go_simp
  simp only [Act.put, List.setIfInBounds_toArray, List.set_cons_zero, List.set_cons_succ]
  go_big_quiet_on
  go_big_quiet_want
  refine ⟨SV m.no m.hl m.ol m.lo.t m.lo.n m.lo.s m.hh m.oh m.hi.t m.hi.n m.hi.s, fun w' hw' => ?_, ?_⟩
  · obtain ⟨⟨s0, s1, s2, s3, s4, s5, s6, s7, s8, s9, s10⟩, ⟨v0, v1, v2⟩, ⟨m0, m1, m2, m3, m4, m5, m6, m7, m8, m9, m10⟩, ⟨h0, h1, h2, h3, h4, h5, h6, h7, h8, h9, h10⟩, ⟨n0, n1, n2, n3, n4, n5, n6, n7, n8, n9, n10⟩, ⟨a0, a1, a2, a3, a4, a5, a6, a7, a8, a9, a10⟩, _⟩ := hw'; simp only [Sp.none, Sp.all, Val.zero] at *
    go_simp
  simp only [Act.put, List.setIfInBounds_toArray, List.set_cons_zero, List.set_cons_succ]
  go_big_quiet_on
  go_big_quiet_want
  refine ⟨.bool true, fun w' hw' => ?_, ?_⟩
  · go_simp
  simp only [Act.put, List.setIfInBounds_toArray, List.set_cons_zero, List.set_cons_succ]
  go_big_quiet_on
  go_big_quiet_want
  go_big_quiet_op
  go_big_quiet_on
  go_big_quiet_want
  refine ⟨SV m.no m.hl m.ol m.lo.t m.lo.n m.lo.s m.hh m.oh m.hi.t m.hi.n m.hi.s, fun w' hw' => ?_, ?_⟩
  · obtain ⟨⟨s0, s1, s2, s3, s4, s5, s6, s7, s8, s9, s10⟩, ⟨v0, v1, v2⟩, ⟨m0, m1, m2, m3, m4, m5, m6, m7, m8, m9, m10⟩, ⟨h0, h1, h2, h3, h4, h5, h6, h7, h8, h9, h10⟩, ⟨n0, n1, n2, n3, n4, n5, n6, n7, n8, n9, n10⟩, ⟨a0, a1, a2, a3, a4, a5, a6, a7, a8, a9, a10⟩, _⟩ := hw'; simp only [Sp.none, Sp.all, Val.zero] at *
    go_simp
  simp only [Act.put, List.setIfInBounds_toArray, List.set_cons_zero, List.set_cons_succ]
  go_big_quiet_on
  go_big_quiet_want
  refine ⟨V x.t x.n x.s, fun w' hw' => ?_, ?_⟩
  · obtain ⟨⟨s0, s1, s2, s3, s4, s5, s6, s7, s8, s9, s10⟩, ⟨v0, v1, v2⟩, ⟨m0, m1, m2, m3, m4, m5, m6, m7, m8, m9, m10⟩, ⟨h0, h1, h2, h3, h4, h5, h6, h7, h8, h9, h10⟩, ⟨n0, n1, n2, n3, n4, n5, n6, n7, n8, n9, n10⟩, ⟨a0, a1, a2, a3, a4, a5, a6, a7, a8, a9, a10⟩, _⟩ := hw'; simp only [Sp.none, Sp.all, Val.zero] at *
    go_simp
  simp only [Act.put, List.setIfInBounds_toArray, List.set_cons_zero, List.set_cons_succ]
  go_big_quiet_on
  go_big_quiet_want
  refine ⟨.bool i, fun w' hw' => ?_, ?_⟩
  · go_simp
    exact (K6.out w').mono fun e w'' h => ⟨h.1, ⟨(hw'.1).below h.2, (hw'.2.1).below h.2, (hw'.2.2.1).below h.2, (hw'.2.2.2.1).below h.2, (hw'.2.2.2.2.1).below h.2, (hw'.2.2.2.2.2.1).below h.2, on hw'.2.2.2.2.2.2 h.2⟩⟩
  simp only [Act.put, List.setIfInBounds_toArray, List.set_cons_zero, List.set_cons_succ]
  go_big_quiet_on
  go_big_quiet_want
  go_big_quiet_op
  go_big_quiet_on
  go_big_quiet_want
  refine ⟨.bool true, fun w' hw' => ?_, ?_⟩
  · go_simp
  simp only [Act.put, List.setIfInBounds_toArray, List.set_cons_zero, List.set_cons_succ]
  go_big_quiet_on
  go_big_quiet_want
  refine ⟨.bool true, fun w' hw' => ?_, ?_⟩
  · go_simp
  simp only [Act.put, List.setIfInBounds_toArray, List.set_cons_zero, List.set_cons_succ]
  go_big_quiet_on
  go_big_quiet_want
  go_big_quiet_op
  go_big_quiet_on
  go_big_quiet_want
  refine ⟨SV true false false false 0 ⟨#[]⟩ false false false 0 ⟨#[]⟩, fun w' hw' => ?_, ?_⟩
  · obtain ⟨⟨s0, s1, s2, s3, s4, s5, s6, s7, s8, s9, s10⟩, ⟨v0, v1, v2⟩, ⟨m0, m1, m2, m3, m4, m5, m6, m7, m8, m9, m10⟩, ⟨h0, h1, h2, h3, h4, h5, h6, h7, h8, h9, h10⟩, ⟨n0, n1, n2, n3, n4, n5, n6, n7, n8, n9, n10⟩, ⟨a0, a1, a2, a3, a4, a5, a6, a7, a8, a9, a10⟩, _⟩ := hw'; simp only [Sp.none, Sp.all, Val.zero] at *
    go_simp
  simp only [Act.put, List.setIfInBounds_toArray, List.set_cons_zero, List.set_cons_succ]
  go_big_quiet_on
  go_big_quiet_want
  refine ⟨SV true false false false 0 ⟨#[]⟩ false false false 0 ⟨#[]⟩, fun w' hw' => ?_, ?_⟩
  · go_simp
  simp only [Act.put, List.setIfInBounds_toArray, List.set_cons_zero, List.set_cons_succ]
  go_big_quiet_on
  go_big_quiet_want
  refine ⟨.bool true, fun w' hw' => ?_, ?_⟩
  · go_simp
  simp only [Act.put, List.setIfInBounds_toArray, List.set_cons_zero, List.set_cons_succ]
  go_big_quiet_on
  go_big_quiet_want
  refine ⟨.bool true, fun w' hw' => ?_, ?_⟩
  · go_simp
  simp only [Act.put, List.setIfInBounds_toArray, List.set_cons_zero, List.set_cons_succ]
  go_big_quiet_on
  go_big_quiet_want
  go_big_quiet_op
  go_big_quiet_on
  go_big_quiet_want
  refine ⟨SV true false false false 0 ⟨#[]⟩ false false false 0 ⟨#[]⟩, fun w' hw' => ?_, ?_⟩
  · go_simp
  simp only [Act.put, List.setIfInBounds_toArray, List.set_cons_zero, List.set_cons_succ]
  go_big_quiet_on
  go_big_quiet_want
  refine ⟨SV s.no s.hl s.ol s.lo.t s.lo.n s.lo.s s.hh s.oh s.hi.t s.hi.n s.hi.s, fun w' hw' => ?_, ?_⟩
  · obtain ⟨⟨s0, s1, s2, s3, s4, s5, s6, s7, s8, s9, s10⟩, ⟨v0, v1, v2⟩, ⟨m0, m1, m2, m3, m4, m5, m6, m7, m8, m9, m10⟩, ⟨h0, h1, h2, h3, h4, h5, h6, h7, h8, h9, h10⟩, ⟨n0, n1, n2, n3, n4, n5, n6, n7, n8, n9, n10⟩, ⟨a0, a1, a2, a3, a4, a5, a6, a7, a8, a9, a10⟩, _⟩ := hw'; simp only [Sp.none, Sp.all, Val.zero] at *
    go_simp
  simp only [Act.put, List.setIfInBounds_toArray, List.set_cons_zero, List.set_cons_succ]
  go_big_quiet_on
  go_big_quiet_want
  refine ⟨SV m.no m.hl m.ol m.lo.t m.lo.n m.lo.s m.hh m.oh m.hi.t m.hi.n m.hi.s, fun w' hw' => ?_, ?_⟩
  · go_simp
    exact (K7.out w').mono fun e w'' h => ⟨h.1, ⟨(hw'.1).below h.2, (hw'.2.1).below h.2, (hw'.2.2.1).below h.2, (hw'.2.2.2.1).below h.2, (hw'.2.2.2.2.1).below h.2, (hw'.2.2.2.2.2.1).below h.2, on hw'.2.2.2.2.2.2 h.2⟩⟩
  simp only [Act.put, List.setIfInBounds_toArray, List.set_cons_zero, List.set_cons_succ]
  go_big_quiet_on
  go_big_quiet_want
  refine ⟨SV m.no m.hl m.ol m.lo.t m.lo.n m.lo.s m.hh m.oh m.hi.t m.hi.n m.hi.s, fun w' hw' => ?_, ?_⟩
  · obtain ⟨⟨s0, s1, s2, s3, s4, s5, s6, s7, s8, s9, s10⟩, ⟨v0, v1, v2⟩, ⟨m0, m1, m2, m3, m4, m5, m6, m7, m8, m9, m10⟩, ⟨h0, h1, h2, h3, h4, h5, h6, h7, h8, h9, h10⟩, ⟨n0, n1, n2, n3, n4, n5, n6, n7, n8, n9, n10⟩, ⟨a0, a1, a2, a3, a4, a5, a6, a7, a8, a9, a10⟩, _⟩ := hw'; simp only [Sp.none, Sp.all, Val.zero] at *
    go_simp
  simp only [Act.put, List.setIfInBounds_toArray, List.set_cons_zero, List.set_cons_succ]
  go_big_quiet_on
  go_big_quiet_want
  refine ⟨.bool true, fun w' hw' => ?_, ?_⟩
  · go_simp
  simp only [Act.put, List.setIfInBounds_toArray, List.set_cons_zero, List.set_cons_succ]
  go_big_quiet_on
  go_big_quiet_want
  refine ⟨.bool true, fun w' hw' => ?_, ?_⟩
  · go_simp
  simp only [Act.put, List.setIfInBounds_toArray, List.set_cons_zero, List.set_cons_succ]
  go_big_quiet_on
  go_big_quiet_want
  go_big_quiet_op
  go_big_quiet_on
  go_big_quiet_want
  refine ⟨SV false false false false 0 ⟨#[]⟩ false false false 0 ⟨#[]⟩, fun w' hw' => ?_, ?_⟩
  · go_simp
  simp only [Act.put, List.setIfInBounds_toArray, List.set_cons_zero, List.set_cons_succ]
  go_big_quiet_on
  go_big_quiet_want
  refine ⟨SV s.no s.hl s.ol s.lo.t s.lo.n s.lo.s s.hh s.oh s.hi.t s.hi.n s.hi.s, fun w' hw' => ?_, ?_⟩
  · obtain ⟨⟨s0, s1, s2, s3, s4, s5, s6, s7, s8, s9, s10⟩, ⟨v0, v1, v2⟩, ⟨m0, m1, m2, m3, m4, m5, m6, m7, m8, m9, m10⟩, ⟨h0, h1, h2, h3, h4, h5, h6, h7, h8, h9, h10⟩, ⟨n0, n1, n2, n3, n4, n5, n6, n7, n8, n9, n10⟩, ⟨a0, a1, a2, a3, a4, a5, a6, a7, a8, a9, a10⟩, _⟩ := hw'; simp only [Sp.none, Sp.all, Val.zero] at *
    go_simp
  simp only [Act.put, List.setIfInBounds_toArray, List.set_cons_zero, List.set_cons_succ]
  go_big_quiet_on
  go_big_quiet_want
  refine ⟨SV m.no m.hl m.ol m.lo.t m.lo.n m.lo.s m.hh m.oh m.hi.t m.hi.n m.hi.s, fun w' hw' => ?_, ?_⟩
  · go_simp
    exact (K8.out w').mono fun e w'' h => ⟨h.1, ⟨(hw'.1).below h.2, (hw'.2.1).below h.2, (hw'.2.2.1).below h.2, (hw'.2.2.2.1).below h.2, (hw'.2.2.2.2.1).below h.2, (hw'.2.2.2.2.2.1).below h.2, on hw'.2.2.2.2.2.2 h.2⟩⟩
  simp only [Act.put, List.setIfInBounds_toArray, List.set_cons_zero, List.set_cons_succ]
  go_big_quiet_on
  go_big_quiet_want
  refine ⟨SV m.no m.hl m.ol m.lo.t m.lo.n m.lo.s m.hh m.oh m.hi.t m.hi.n m.hi.s, fun w' hw' => ?_, ?_⟩
  · obtain ⟨⟨s0, s1, s2, s3, s4, s5, s6, s7, s8, s9, s10⟩, ⟨v0, v1, v2⟩, ⟨m0, m1, m2, m3, m4, m5, m6, m7, m8, m9, m10⟩, ⟨h0, h1, h2, h3, h4, h5, h6, h7, h8, h9, h10⟩, ⟨n0, n1, n2, n3, n4, n5, n6, n7, n8, n9, n10⟩, ⟨a0, a1, a2, a3, a4, a5, a6, a7, a8, a9, a10⟩, _⟩ := hw'; simp only [Sp.none, Sp.all, Val.zero] at *
    go_simp
  simp only [Act.put, List.setIfInBounds_toArray, List.set_cons_zero, List.set_cons_succ]
  go_big_quiet_on
  go_big_quiet_want
  refine ⟨.bool true, fun w' hw' => ?_, ?_⟩
  · go_simp
  simp only [Act.put, List.setIfInBounds_toArray, List.set_cons_zero, List.set_cons_succ]
  go_big_quiet_on
  go_big_quiet_want
  refine ⟨.bool true, fun w' hw' => ?_, ?_⟩
  · go_simp
  simp only [Act.put, List.setIfInBounds_toArray, List.set_cons_zero, List.set_cons_succ]
  go_big_quiet_on
  go_big_quiet_want
  go_big_quiet_op
  go_big_quiet_on
  go_big_quiet_want
  refine ⟨SV false false false false 0 ⟨#[]⟩ false false false 0 ⟨#[]⟩, fun w' hw' => ?_, ?_⟩
  · obtain ⟨⟨s0, s1, s2, s3, s4, s5, s6, s7, s8, s9, s10⟩, ⟨v0, v1, v2⟩, ⟨m0, m1, m2, m3, m4, m5, m6, m7, m8, m9, m10⟩, ⟨h0, h1, h2, h3, h4, h5, h6, h7, h8, h9, h10⟩, ⟨n0, n1, n2, n3, n4, n5, n6, n7, n8, n9, n10⟩, ⟨a0, a1, a2, a3, a4, a5, a6, a7, a8, a9, a10⟩, _⟩ := hw'; simp only [Sp.none, Sp.all, Val.zero] at *
    go_simp
  simp only [Act.put, List.setIfInBounds_toArray, List.set_cons_zero, List.set_cons_succ]
  go_big_quiet_on
  go_big_quiet_want
  refine ⟨SV false false false false 0 ⟨#[]⟩ false false false 0 ⟨#[]⟩, fun w' hw' => ?_, ?_⟩
  · go_simp
  simp only [Act.put, List.setIfInBounds_toArray, List.set_cons_zero, List.set_cons_succ]
  go_big_quiet_on
  go_big_quiet_want
  refine ⟨.bool true, fun w' hw' => ?_, ?_⟩
  · go_simp
  simp only [Act.put, List.setIfInBounds_toArray, List.set_cons_zero, List.set_cons_succ]
  go_big_quiet_on
  go_big_quiet_want
  refine ⟨.bool true, fun w' hw' => ?_, ?_⟩
  · go_simp
  simp only [Act.put, List.setIfInBounds_toArray, List.set_cons_zero, List.set_cons_succ]
  go_big_quiet_on
  go_big_quiet_want
  go_big_quiet_op
  go_big_quiet_on
  go_big_quiet_want
  refine ⟨SV false false false false 0 ⟨#[]⟩ false false false 0 ⟨#[]⟩, fun w' hw' => ?_, ?_⟩
  · obtain ⟨⟨s0, s1, s2, s3, s4, s5, s6, s7, s8, s9, s10⟩, ⟨v0, v1, v2⟩, ⟨m0, m1, m2, m3, m4, m5, m6, m7, m8, m9, m10⟩, ⟨h0, h1, h2, h3, h4, h5, h6, h7, h8, h9, h10⟩, ⟨n0, n1, n2, n3, n4, n5, n6, n7, n8, n9, n10⟩, ⟨a0, a1, a2, a3, a4, a5, a6, a7, a8, a9, a10⟩, _⟩ := hw'; simp only [Sp.none, Sp.all, Val.zero] at *
    go_simp
  simp only [Act.put, List.setIfInBounds_toArray, List.set_cons_zero, List.set_cons_succ]
  go_big_quiet_on
  go_big_quiet_want
  refine ⟨V x.t x.n x.s, fun w' hw' => ?_, ?_⟩
  · obtain ⟨⟨s0, s1, s2, s3, s4, s5, s6, s7, s8, s9, s10⟩, ⟨v0, v1, v2⟩, ⟨m0, m1, m2, m3, m4, m5, m6, m7, m8, m9, m10⟩, ⟨h0, h1, h2, h3, h4, h5, h6, h7, h8, h9, h10⟩, ⟨n0, n1, n2, n3, n4, n5, n6, n7, n8, n9, n10⟩, ⟨a0, a1, a2, a3, a4, a5, a6, a7, a8, a9, a10⟩, _⟩ := hw'; simp only [Sp.none, Sp.all, Val.zero] at *
    go_simp
  simp only [Act.put, List.setIfInBounds_toArray, List.set_cons_zero, List.set_cons_succ]
  go_big_quiet_on
  go_big_quiet_want
  refine ⟨.bool true, fun w' hw' => ?_, ?_⟩
  · go_simp
    exact (K9.out w').mono fun e w'' h => ⟨h.1, ⟨(hw'.1).below h.2, (hw'.2.1).below h.2, (hw'.2.2.1).below h.2, (hw'.2.2.2.1).below h.2, (hw'.2.2.2.2.1).below h.2, (hw'.2.2.2.2.2.1).below h.2, on hw'.2.2.2.2.2.2 h.2⟩⟩
  simp only [Act.put, List.setIfInBounds_toArray, List.set_cons_zero, List.set_cons_succ]
  go_big_quiet_on
  go_big_quiet_want
  refine ⟨.bool true, fun w' hw' => ?_, ?_⟩
  · go_simp
  simp only [Act.put, List.setIfInBounds_toArray, List.set_cons_zero, List.set_cons_succ]
  go_big_quiet_on
  go_big_quiet_want
  go_big_quiet_op
  go_big_quiet_on
  refine wpQuiet_nil ?_
  intro w' hw'
  have HBz : Hid (Below w.heap.size w w') := hw'.2.2.2.2.2.2
  clear hw'
  go_wp2_with fail
  go_ret
  exact ⟨rfl, HBz.out⟩
end Go.Proofs.YtfkhfplibhnceaaDoor.Val
/- The law NormalSelf holds: a span meets itself in itself and is its own hull, nothing meets it in nothing, and all of it lies in the hull with all. Conditions: the listed package-level variables lie as the program's text lays them (the card ties them). -/
namespace Go.Proofs.YtfkhfplibhnceaaDoor.Val
open Go.ChangeShapes Go.WideShapes Go.ChangeAt Go.RowKit
open Go.ChangeMaps (open_string)

theorem nself_contract (H : Type) (enc : TypeId × Value → H) (W : World) (base : Nat) (args : Array Value) (ds gs : List (DataW H)) (before : List MemPlace)
    (hval : ∀ (j : Nat) t v, Tryd.f9.params[j]? = some t → args[j]? = some v → Value.okWide Tryd.prog W .any base t v)
    (hW : DataW.Whole enc Tryd.prog Tryd.f9.params.toList Rows.normalSelfSpec.vars false W args.toList ds gs before) (hL : laidMetH Tryd.prog Rows.normalSelfRow.laid W) :
    Calls Tryd.prog 9 args W fun e W' => ∃ v, e = .returned v ∧ Rows.normalSelfSpec.post enc Tryd.prog Tryd.f9 false true false false W args v W' := by
  have hW' := hW
  obtain ⟨p, q, hA0, hV, rfl, hfz, hnd⟩ := hW
  have hA : DataW.TrodAll enc Tryd.prog W 0 (fun _ => true) true Tryd.f9.params.toList args.toList ds p := hA0
  rw [Tryd.params9] at hA hval
  obtain ⟨v0, vs0, d0, ds0, p0, q0, hargs, rfl, rfl, h0, r0⟩ := trodAll_cons hA
  obtain ⟨v1, vs1, d1, ds1, p1, q1, rfl, rfl, rfl, h1, r1⟩ := trodAll_cons r0
  obtain ⟨rfl, rfl, rfl⟩ := trodAll_nil r1
  obtain rfl : args = #[v0, v1] := by cases args; simp_all
  obtain ⟨rfl, rfl⟩ := trodVars_none hV
  have k0 := h0
  have lt0 : ∀ x ∈ p0, x.block < W.heap.size := by obtain ⟨m, hm⟩ := k0; exact DataW.trod_lt m _ _ _ hm
  obtain ⟨x0, rfl, o0⟩ := open_span (hval 0 35 v0 rfl rfl) h0
  have k1 := h1
  have lt1 : ∀ x ∈ p1, x.block < W.heap.size := by obtain ⟨m, hm⟩ := k1; exact DataW.trod_lt m _ _ _ hm
  obtain ⟨x1, rfl, o1⟩ := open_value (hval 1 26 v1 rfl rfl) h1
  clear hA0
  have hT := tabOf hL
  refine (nself_walk x0 x1 W hT).mono fun e W' ⟨he, bel⟩ => ?_
  subst he
  exact ⟨_, rfl, _, _, _, [], _, [], hW', trodAll_mk1 (shut_bool Tryd.underlying4 _), (trodAll_cons_mk (Below.trod laidOut (by kernel_rfl) (of_decide_eq_true (by kernel_rfl)) k0 bel lt0) (trodAll_cons_mk (Below.trod laidOut (by kernel_rfl) (of_decide_eq_true (by kernel_rfl)) k1 bel lt1) trodAll_mk0)), rfl, bel.frame _, fun h => by cases h⟩

set_option maxRecDepth 100000 in
theorem nself_lifted (os : Os) (started : os.Started) (H : Type) (enc : TypeId × Value → H) (F : Stop.Interp) :
    ReturnsInHanded {} Tryd.checked os 9 .any ((OpenSpec.ofChange Rows.normalSelfSpec).preRow enc Tryd.prog Tryd.f9 Rows.normalSelfRow.domain false Rows.normalSelfRow.laid) (((OpenSpec.ofChange Rows.normalSelfSpec).at F).post enc Tryd.prog Tryd.f9 false true false false) := by
  refine returnsInHanded_of_row (C := Tryd.checked) (s := OpenSpec.ofChange Rows.normalSelfSpec) own started (by kernel_rfl) Tryd.func9
    (witness_row_at (enc := enc) (C := Tryd.checked) false
      { World.holding Tryd.prog os ⟨#[], #[], []⟩ with heap := ((World.holding Tryd.prog os ⟨#[], #[], []⟩).heap.modify 0 (putCells (dataCells .i64 oppTab))) }
      #[.agg #[.bool false, .bool false, .bool false, .bool false, .int .i64 0, .string ⟨#[]⟩, .bool false, .bool false, .bool false, .int .i64 0, .string ⟨#[]⟩], .agg #[.bool false, .int .i64 0, .string ⟨#[]⟩]] rfl (by kernel_rfl) (by kernel_rfl) (by kernel_rfl)
      (OpenSpec.preRow_of_cond 8 (x := ([.agg [.lit (.bool false), .lit (.bool false), .lit (.bool false), .agg [.lit (.bool false), .lit (.int .i64 0), .lit (.string [])], .lit (.bool false), .lit (.bool false), .agg [.lit (.bool false), .lit (.int .i64 0), .lit (.string [])]], .agg [.lit (.bool false), .lit (.int .i64 0), .lit (.string [])]], [], [])) (by kernel_rfl) (by kernel_rfl) (fun k hk => by cases hk) (by kernel_rfl) (laidMet_of_run' 8 (by kernel_rfl) (by kernel_rfl)))) ?_
  intro W base args ds gs before hval hW _ _ _ hL _ _
  exact nself_contract H enc W base args ds gs before hval hW hL

theorem nself_said : Rows.NormalSelfSaid :=
  OpenClaim.holds_of_cond 9 Tryd.f9 rfl rfl rfl rfl rfl rfl rfl ⟨rfl, rfl, rfl, rfl, rfl⟩ rfl rfl rfl rfl rfl (by kernel_rfl) Tryd.func9 (by kernel_rfl)
    (of_decide_eq_true (by kernel_rfl)) (by unfold Func.isWrapper; first | (rw [if_pos (by decide +kernel)]; kernel_rfl) | (rw [if_neg (by decide +kernel)]; exact ⟨rfl, rfl⟩))
    (fun os started H enc _ F => by rw [OpenClaim.pre_eq_preRow]; exact nself_lifted os started H enc F)

theorem nself_plain (f : FuncId) (fn : Func) (hf : Tryd.pinned.checked.prog.funcNamed "ratline/ratlinelaw04.NormalSelf" = some f) (hfn : Tryd.pinned.checked.prog.funcs[f]? = some fn) :
    false = Tryd.pinned.checked.prog.looks [] ∧ ∀ (j : Nat) t, fn.params[j]? = some t → Tryd.pinned.checked.prog.wantsStandIn t = false := by
  obtain rfl : f = 9 := Option.some.inj ((show Tryd.prog.funcNamed "ratline/ratlinelaw04.NormalSelf" = some 9 by kernel_rfl).symm.trans hf) |>.symm
  obtain rfl : fn = Tryd.f9 := (Option.some.inj (Tryd.func9.symm.trans hfn)).symm
  refine ⟨by kernel_rfl, fun j t ht => ?_⟩
  rw [Tryd.params9] at ht
  have hm : t = 35 ∨ t = 26 := by simpa using Array.mem_of_getElem? ht
  rcases hm with rfl | rfl
  · exact (show Tryd.prog.wantsStandIn 35 = false by kernel_rfl)
  · exact (show Tryd.prog.wantsStandIn 26 = false by kernel_rfl)

/-- The card. -/
theorem nself_card : Rows.NormalSelfCardSaid :=
  Claim7.holds_tied_plain_at .later [] _ _ _ _ nself_said (fun _ h => by cases h) (by kernel_rfl) (fun _ h => by cases h) normalSelf_row_tie rfl ⟨rfl, rfl⟩ (by kernel_rfl) rfl nself_plain (by kernel_rfl)
end Go.Proofs.YtfkhfplibhnceaaDoor.Val
