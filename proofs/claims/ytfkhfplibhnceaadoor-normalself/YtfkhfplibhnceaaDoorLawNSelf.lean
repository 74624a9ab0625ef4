/- The walk of the law NormalSelf. -/
import Derived.Test.YtfkhfplibhnceaaDoorNormAwake
namespace Go.Proofs.YtfkhfplibhnceaaDoor.Val
open Go.RowKit

set_option maxRecDepth 100000 in
set_option maxHeartbeats 8000000 in
theorem nself_walk (s : Sp) (x : Val) (w : World) (hT : Tab w) : Calls Tryd.prog 9 #[s.val, V x.t x.n x.s] w fun e w' => e = .returned (.bool true) ∧ Below w.heap.size w w' := by
  have H0 : Hid (∀ w1, Below w.heap.size w w1 → Calls Tryd.prog 10 #[] w1 fun e w' => e = .returned (.bool true) ∧ Below w1.heap.size w1 w') := fun w1 hb => awake_any w1 (hT.below hb)
  have K1 : Hid (∀ w1, Calls Tryd.prog 19 #[s.val, s.val] w1 fun e w' => e = .returned (cleanS s).val ∧ Below w1.heap.size w1 w') := fun w1 => by have := meet_any s s w1; rw [meet_self] at this; exact this
  have K2 : Hid (∀ w1, Calls Tryd.prog 21 #[s.val, s.val] w1 fun e w' => e = .returned (cleanS s).val ∧ Below w1.heap.size w1 w') := fun w1 => by have := hull_any s s w1; rw [hull_self] at this; exact this
  have K3 : Hid (∀ w1, Calls Tryd.prog 19 #[s.val, Sp.none.val] w1 fun e w' => e = .returned Sp.none.val ∧ Below w1.heap.size w1 w') := fun w1 => by have := meet_any s Sp.none w1; rw [meet_none] at this; exact this
  have K4 : Hid (∀ w1, Calls Tryd.prog 21 #[s.val, Sp.all.val] w1 fun e w' => e = .returned Sp.all.val ∧ Below w1.heap.size w1 w') := fun w1 => by have := hull_any s Sp.all w1; rw [hull_all] at this; exact this
  have K5 : Hid (∀ w1, Calls Tryd.prog 17 #[s.val, V x.t x.n x.s] w1 fun e w' => e = .returned (.bool (withinS s x)) ∧ Below w1.heap.size w1 w') := fun w1 => within_any s x w1
  have K6 : Hid (∀ w1, Calls Tryd.prog 17 #[(cleanS s).val, V x.t x.n x.s] w1 fun e w' => e = .returned (.bool (withinS s x)) ∧ Below w1.heap.size w1 w') := fun w1 => by have := within_any (cleanS s) x w1; rw [within_clean] at this; exact this
  have K7 : Hid (∀ w1, Calls Tryd.prog 21 #[Sp.none.val, s.val] w1 fun e w' => e = .returned (cleanS s).val ∧ Below w1.heap.size w1 w') := fun w1 => by have := hull_any Sp.none s w1; rw [hull_none] at this; exact this
  have K8 : Hid (∀ w1, Calls Tryd.prog 19 #[Sp.all.val, s.val] w1 fun e w' => e = .returned (cleanS s).val ∧ Below w1.heap.size w1 w') := fun w1 => by have := meet_any Sp.all s w1; rw [meet_all] at this; exact this
  have K9 : Hid (∀ w1, Calls Tryd.prog 17 #[Sp.all.val, V x.t x.n x.s] w1 fun e w' => e = .returned (.bool true) ∧ Below w1.heap.size w1 w') := fun w1 => by have := within_any Sp.all x w1; rw [within_all] at this; exact this
  generalize cleanS s = m at *
  generalize withinS s x = i at *
  have Qm : ∀ w1, (binOp .eql 35 (SV m.no m.hl m.ol m.lo.t m.lo.n m.lo.s m.hh m.oh m.hi.t m.hi.n m.hi.s) (SV m.no m.hl m.ol m.lo.t m.lo.n m.lo.s m.hh m.oh m.hi.t m.hi.n m.hi.s)).run Tryd.prog w1 = .ok (.bool true) w1 := fun w1 => eql_same m w1
  have Qn : ∀ w1, (binOp .eql 35 (SV true false false false 0 ⟨#[]⟩ false false false 0 ⟨#[]⟩) (SV true false false false 0 ⟨#[]⟩ false false false 0 ⟨#[]⟩)).run Tryd.prog w1 = .ok (.bool true) w1 := fun w1 => eql_same Sp.none w1
  have Qa : ∀ w1, (binOp .eql 35 (SV false false false false 0 ⟨#[]⟩ false false false 0 ⟨#[]⟩) (SV false false false false 0 ⟨#[]⟩ false false false 0 ⟨#[]⟩)).run Tryd.prog w1 = .ok (.bool true) w1 := fun w1 => eql_same Sp.all w1
  clear hT
  unfold Sp.val at *
  simp only [Sp.none, Sp.all, Val.zero] at K3 K4 K7 K8 K9
  go_enter Tryd.func9, Tryd.ntmps9
  go_wp2_with fail
  refine Calls.mono (H0.out _ (back1 (alloc1 _ _))) ?_
  rintro e w1 ⟨rfl, hb⟩
  have Xs : Hid (SBox w1 (w.heap.size) s) := show SBox w1 (w.heap.size) s from ((SBox.new w s 35).alloc _).below hb
  have Xv : Hid (VBox w1 (w.heap.size + 1) x) := show VBox w1 (w.heap.size + 1) x from by have := (VBox.new (w.alloc (sobj s 35)) x 26).below hb; simpa using this
  have HB : Hid (Below w.heap.size w w1) := back2 hb
  clear hb
  obtain ⟨s0, s1, s2, s3, s4, s5, s6, s7, s8, s9, s10⟩ := Xs.out
  have ls := Xs.out.lt
  go_wp2_with fail
  refine Calls.mono (K1.out _) ?_
  rintro e w2 ⟨rfl, hb⟩
  clear s0 s1 s2 s3 s4 s5 s6 s7 s8 s9 s10 ls
  replace Xs : Hid (SBox w2 (w.heap.size) s) := Xs.out.below hb
  replace Xv : Hid (VBox w2 (w.heap.size + 1) x) := Xv.out.below hb
  replace HB : Hid (Below w.heap.size w w2) := on HB.out hb
  clear hb
  obtain ⟨s0, s1, s2, s3, s4, s5, s6, s7, s8, s9, s10⟩ := Xs.out
  have ls := Xs.out.lt
  go_wp2_with fail
  refine Calls.mono (K2.out _) ?_
  rintro e w3 ⟨rfl, hb⟩
  clear s0 s1 s2 s3 s4 s5 s6 s7 s8 s9 s10 ls
  replace Xs : Hid (SBox w3 (w.heap.size) s) := (Xs.out.alloc _).below hb
  replace Xv : Hid (VBox w3 (w.heap.size + 1) x) := (Xv.out.alloc _).below hb
  have Xm : Hid (SBox w3 w2.heap.size m) := (SBox.new _ _ 35).below hb
  replace HB : Hid (Below w.heap.size w w3) := on HB.out (back1 hb)
  clear hb
  obtain ⟨s0, s1, s2, s3, s4, s5, s6, s7, s8, s9, s10⟩ := Xs.out
  have ls := Xs.out.lt
  go_wp2_with fail
  refine Calls.mono (K3.out _) ?_
  rintro e w4 ⟨rfl, hb⟩
  clear s0 s1 s2 s3 s4 s5 s6 s7 s8 s9 s10 ls
  replace Xs : Hid (SBox w4 (w.heap.size) s) := (Xs.out.alloc _).below hb
  replace Xv : Hid (VBox w4 (w.heap.size + 1) x) := (Xv.out.alloc _).below hb
  replace Xm : Hid (SBox w4 (w2.heap.size) m) := (Xm.out.alloc _).below hb
  have Xh : Hid (SBox w4 w3.heap.size m) := (SBox.new _ _ 35).below hb
  replace HB : Hid (Below w.heap.size w w4) := on HB.out (back1 hb)
  clear hb
  obtain ⟨s0, s1, s2, s3, s4, s5, s6, s7, s8, s9, s10⟩ := Xs.out
  have ls := Xs.out.lt
  go_wp2_with fail
  refine Calls.mono (K4.out _) ?_
  rintro e w5 ⟨rfl, hb⟩
  clear s0 s1 s2 s3 s4 s5 s6 s7 s8 s9 s10 ls
  replace Xs : Hid (SBox w5 (w.heap.size) s) := (Xs.out.alloc _).below hb
  replace Xv : Hid (VBox w5 (w.heap.size + 1) x) := (Xv.out.alloc _).below hb
  replace Xm : Hid (SBox w5 (w2.heap.size) m) := (Xm.out.alloc _).below hb
  replace Xh : Hid (SBox w5 (w3.heap.size) m) := (Xh.out.alloc _).below hb
  have Xn : Hid (SBox w5 w4.heap.size Sp.none) := (SBox.new _ _ 35).below hb
  replace HB : Hid (Below w.heap.size w w5) := on HB.out (back1 hb)
  clear hb
  obtain ⟨s0, s1, s2, s3, s4, s5, s6, s7, s8, s9, s10⟩ := Xs.out
  have ls := Xs.out.lt
  obtain ⟨v0, v1, v2⟩ := Xv.out
  have lv := Xv.out.lt
  go_wp2_with fail
  refine Calls.mono (K5.out _) ?_
  rintro e w6 ⟨rfl, hb⟩
  clear s0 s1 s2 s3 s4 s5 s6 s7 s8 s9 s10 ls v0 v1 v2 lv
  replace Xs : Hid (SBox w6 (w.heap.size) s) := (Xs.out.alloc _).below hb
  replace Xv : Hid (VBox w6 (w.heap.size + 1) x) := (Xv.out.alloc _).below hb
  replace Xm : Hid (SBox w6 (w2.heap.size) m) := (Xm.out.alloc _).below hb
  replace Xh : Hid (SBox w6 (w3.heap.size) m) := (Xh.out.alloc _).below hb
  replace Xn : Hid (SBox w6 (w4.heap.size) Sp.none) := (Xn.out.alloc _).below hb
  have Xa : Hid (SBox w6 w5.heap.size Sp.all) := (SBox.new _ _ 35).below hb
  replace HB : Hid (Below w.heap.size w w6) := on HB.out (back1 hb)
  clear hb
  go_wp2_with fail
  (try simp only [List.append])
  refine region_cls (C := fun w' => SBox w' (w.heap.size) s ∧ VBox w' (w.heap.size + 1) x ∧ SBox w' (w2.heap.size) m ∧ SBox w' (w3.heap.size) m ∧ SBox w' (w4.heap.size) Sp.none ∧ SBox w' (w5.heap.size) Sp.all ∧ Below w.heap.size w w') (by kernel_rfl) (by kernel_rfl) ⟨Xs.out.below (Below.refl _ _).drew, Xv.out.below (Below.refl _ _).drew, Xm.out.below (Below.refl _ _).drew, Xh.out.below (Below.refl _ _).drew, Xn.out.below (Below.refl _ _).drew, Xa.out.below (Below.refl _ _).drew, HB.out.drew⟩ ?_
  clear HB Xs Xv Xm Xh Xn Xa
  go_big_quiet_want
  refine ⟨SV m.no m.hl m.ol m.lo.t m.lo.n m.lo.s m.hh m.oh m.hi.t m.hi.n m.hi.s, fun w' hw' => ?_, ?_⟩
  · obtain ⟨⟨s0, s1, s2, s3, s4, s5, s6, s7, s8, s9, s10⟩, ⟨v0, v1, v2⟩, ⟨m0, m1, m2, m3, m4, m5, m6, m7, m8, m9, m10⟩, ⟨h0, h1, h2, h3, h4, h5, h6, h7, h8, h9, h10⟩, ⟨n0, n1, n2, n3, n4, n5, n6, n7, n8, n9, n10⟩, ⟨a0, a1, a2, a3, a4, a5, a6, a7, a8, a9, a10⟩, _⟩ := hw'; simp only [Sp.none, Sp.all, Val.zero] at *
    go_simp
  simp only [Act.put, List.setIfInBounds_toArray, List.set_cons_zero, List.set_cons_succ]
  go_big_quiet_on
  go_big_quiet_want
  refine ⟨SV m.no m.hl m.ol m.lo.t m.lo.n m.lo.s m.hh m.oh m.hi.t m.hi.n m.hi.s, fun w' hw' => ?_, ?_⟩
  · obtain ⟨⟨s0, s1, s2, s3, s4, s5, s6, s7, s8, s9, s10⟩, ⟨v0, v1, v2⟩, ⟨m0, m1, m2, m3, m4, m5, m6, m7, m8, m9, m10⟩, ⟨h0, h1, h2, h3, h4, h5, h6, h7, h8, h9, h10⟩, ⟨n0, n1, n2, n3, n4, n5, n6, n7, n8, n9, n10⟩, ⟨a0, a1, a2, a3, a4, a5, a6, a7, a8, a9, a10⟩, _⟩ := hw'; simp only [Sp.none, Sp.all, Val.zero] at *
    go_simp
  simp only [Act.put, List.setIfInBounds_toArray, List.set_cons_zero, List.set_cons_succ]
  go_big_quiet_on
  go_big_quiet_want
  refine ⟨.bool true, fun w' hw' => ?_, ?_⟩
  · go_simp
  simp only [Act.put, List.setIfInBounds_toArray, List.set_cons_zero, List.set_cons_succ]
  go_big_quiet_on
  go_big_quiet_want
  go_big_quiet_op
  go_big_quiet_on
  go_big_quiet_want
  refine ⟨SV m.no m.hl m.ol m.lo.t m.lo.n m.lo.s m.hh m.oh m.hi.t m.hi.n m.hi.s, fun w' hw' => ?_, ?_⟩
  · obtain ⟨⟨s0, s1, s2, s3, s4, s5, s6, s7, s8, s9, s10⟩, ⟨v0, v1, v2⟩, ⟨m0, m1, m2, m3, m4, m5, m6, m7, m8, m9, m10⟩, ⟨h0, h1, h2, h3, h4, h5, h6, h7, h8, h9, h10⟩, ⟨n0, n1, n2, n3, n4, n5, n6, n7, n8, n9, n10⟩, ⟨a0, a1, a2, a3, a4, a5, a6, a7, a8, a9, a10⟩, _⟩ := hw'; simp only [Sp.none, Sp.all, Val.zero] at *
    go_simp
  simp only [Act.put, List.setIfInBounds_toArray, List.set_cons_zero, List.set_cons_succ]
  go_big_quiet_on
  go_big_quiet_want
  refine ⟨V x.t x.n x.s, fun w' hw' => ?_, ?_⟩
  · obtain ⟨⟨s0, s1, s2, s3, s4, s5, s6, s7, s8, s9, s10⟩, ⟨v0, v1, v2⟩, ⟨m0, m1, m2, m3, m4, m5, m6, m7, m8, m9, m10⟩, ⟨h0, h1, h2, h3, h4, h5, h6, h7, h8, h9, h10⟩, ⟨n0, n1, n2, n3, n4, n5, n6, n7, n8, n9, n10⟩, ⟨a0, a1, a2, a3, a4, a5, a6, a7, a8, a9, a10⟩, _⟩ := hw'; simp only [Sp.none, Sp.all, Val.zero] at *
    go_simp
  simp only [Act.put, List.setIfInBounds_toArray, List.set_cons_zero, List.set_cons_succ]
  go_big_quiet_on
  go_big_quiet_want
  refine ⟨.bool i, fun w' hw' => ?_, ?_⟩
  · go_simp
    exact (K6.out w').mono fun e w'' h => ⟨h.1, ⟨(hw'.1).below h.2, (hw'.2.1).below h.2, (hw'.2.2.1).below h.2, (hw'.2.2.2.1).below h.2, (hw'.2.2.2.2.1).below h.2, (hw'.2.2.2.2.2.1).below h.2, on hw'.2.2.2.2.2.2 h.2⟩⟩
  simp only [Act.put, List.setIfInBounds_toArray, List.set_cons_zero, List.set_cons_succ]
  go_big_quiet_on
  go_big_quiet_want
  go_big_quiet_op
  go_big_quiet_on
  go_big_quiet_want
  refine ⟨.bool true, fun w' hw' => ?_, ?_⟩
  · go_simp
  simp only [Act.put, List.setIfInBounds_toArray, List.set_cons_zero, List.set_cons_succ]
  go_big_quiet_on
  go_big_quiet_want
  refine ⟨.bool true, fun w' hw' => ?_, ?_⟩
  · go_simp
  simp only [Act.put, List.setIfInBounds_toArray, List.set_cons_zero, List.set_cons_succ]
  go_big_quiet_on
  go_big_quiet_want
  go_big_quiet_op
  go_big_quiet_on
  go_big_quiet_want
  refine ⟨SV true false false false 0 ⟨#[]⟩ false false false 0 ⟨#[]⟩, fun w' hw' => ?_, ?_⟩
  · obtain ⟨⟨s0, s1, s2, s3, s4, s5, s6, s7, s8, s9, s10⟩, ⟨v0, v1, v2⟩, ⟨m0, m1, m2, m3, m4, m5, m6, m7, m8, m9, m10⟩, ⟨h0, h1, h2, h3, h4, h5, h6, h7, h8, h9, h10⟩, ⟨n0, n1, n2, n3, n4, n5, n6, n7, n8, n9, n10⟩, ⟨a0, a1, a2, a3, a4, a5, a6, a7, a8, a9, a10⟩, _⟩ := hw'; simp only [Sp.none, Sp.all, Val.zero] at *
    go_simp
  simp only [Act.put, List.setIfInBounds_toArray, List.set_cons_zero, List.set_cons_succ]
  go_big_quiet_on
  go_big_quiet_want
  refine ⟨SV true false false false 0 ⟨#[]⟩ false false false 0 ⟨#[]⟩, fun w' hw' => ?_, ?_⟩
  · go_simp
  simp only [Act.put, List.setIfInBounds_toArray, List.set_cons_zero, List.set_cons_succ]
  go_big_quiet_on
  go_big_quiet_want
  refine ⟨.bool true, fun w' hw' => ?_, ?_⟩
  · go_simp
  simp only [Act.put, List.setIfInBounds_toArray, List.set_cons_zero, List.set_cons_succ]
  go_big_quiet_on
  go_big_quiet_want
  refine ⟨.bool true, fun w' hw' => ?_, ?_⟩
  · go_simp
  simp only [Act.put, List.setIfInBounds_toArray, List.set_cons_zero, List.set_cons_succ]
  go_big_quiet_on
  go_big_quiet_want
  go_big_quiet_op
  go_big_quiet_on
  go_big_quiet_want
  refine ⟨SV true false false false 0 ⟨#[]⟩ false false false 0 ⟨#[]⟩, fun w' hw' => ?_, ?_⟩
  · go_simp
  simp only [Act.put, List.setIfInBounds_toArray, List.set_cons_zero, List.set_cons_succ]
  go_big_quiet_on
  go_big_quiet_want
  refine ⟨SV s.no s.hl s.ol s.lo.t s.lo.n s.lo.s s.hh s.oh s.hi.t s.hi.n s.hi.s, fun w' hw' => ?_, ?_⟩
  · obtain ⟨⟨s0, s1, s2, s3, s4, s5, s6, s7, s8, s9, s10⟩, ⟨v0, v1, v2⟩, ⟨m0, m1, m2, m3, m4, m5, m6, m7, m8, m9, m10⟩, ⟨h0, h1, h2, h3, h4, h5, h6, h7, h8, h9, h10⟩, ⟨n0, n1, n2, n3, n4, n5, n6, n7, n8, n9, n10⟩, ⟨a0, a1, a2, a3, a4, a5, a6, a7, a8, a9, a10⟩, _⟩ := hw'; simp only [Sp.none, Sp.all, Val.zero] at *
    go_simp
  simp only [Act.put, List.setIfInBounds_toArray, List.set_cons_zero, List.set_cons_succ]
  go_big_quiet_on
  go_big_quiet_want
  refine ⟨SV m.no m.hl m.ol m.lo.t m.lo.n m.lo.s m.hh m.oh m.hi.t m.hi.n m.hi.s, fun w' hw' => ?_, ?_⟩
  · go_simp
    exact (K7.out w').mono fun e w'' h => ⟨h.1, ⟨(hw'.1).below h.2, (hw'.2.1).below h.2, (hw'.2.2.1).below h.2, (hw'.2.2.2.1).below h.2, (hw'.2.2.2.2.1).below h.2, (hw'.2.2.2.2.2.1).below h.2, on hw'.2.2.2.2.2.2 h.2⟩⟩
  simp only [Act.put, List.setIfInBounds_toArray, List.set_cons_zero, List.set_cons_succ]
  go_big_quiet_on
  go_big_quiet_want
  refine ⟨SV m.no m.hl m.ol m.lo.t m.lo.n m.lo.s m.hh m.oh m.hi.t m.hi.n m.hi.s, fun w' hw' => ?_, ?_⟩
  · obtain ⟨⟨s0, s1, s2, s3, s4, s5, s6, s7, s8, s9, s10⟩, ⟨v0, v1, v2⟩, ⟨m0, m1, m2, m3, m4, m5, m6, m7, m8, m9, m10⟩, ⟨h0, h1, h2, h3, h4, h5, h6, h7, h8, h9, h10⟩, ⟨n0, n1, n2, n3, n4, n5, n6, n7, n8, n9, n10⟩, ⟨a0, a1, a2, a3, a4, a5, a6, a7, a8, a9, a10⟩, _⟩ := hw'; simp only [Sp.none, Sp.all, Val.zero] at *
    go_simp
  simp only [Act.put, List.setIfInBounds_toArray, List.set_cons_zero, List.set_cons_succ]
  go_big_quiet_on
  go_big_quiet_want
  refine ⟨.bool true, fun w' hw' => ?_, ?_⟩
  · go_simp
  simp only [Act.put, List.setIfInBounds_toArray, List.set_cons_zero, List.set_cons_succ]
  go_big_quiet_on
  go_big_quiet_want
  refine ⟨.bool true, fun w' hw' => ?_, ?_⟩
  · go_simp
  simp only [Act.put, List.setIfInBounds_toArray, List.set_cons_zero, List.set_cons_succ]
  go_big_quiet_on
  go_big_quiet_want
  go_big_quiet_op
  go_big_quiet_on
  go_big_quiet_want
  refine ⟨SV false false false false 0 ⟨#[]⟩ false false false 0 ⟨#[]⟩, fun w' hw' => ?_, ?_⟩
  · go_simp
  simp only [Act.put, List.setIfInBounds_toArray, List.set_cons_zero, List.set_cons_succ]
  go_big_quiet_on
  go_big_quiet_want
  refine ⟨SV s.no s.hl s.ol s.lo.t s.lo.n s.lo.s s.hh s.oh s.hi.t s.hi.n s.hi.s, fun w' hw' => ?_, ?_⟩
  · obtain ⟨⟨s0, s1, s2, s3, s4, s5, s6, s7, s8, s9, s10⟩, ⟨v0, v1, v2⟩, ⟨m0, m1, m2, m3, m4, m5, m6, m7, m8, m9, m10⟩, ⟨h0, h1, h2, h3, h4, h5, h6, h7, h8, h9, h10⟩, ⟨n0, n1, n2, n3, n4, n5, n6, n7, n8, n9, n10⟩, ⟨a0, a1, a2, a3, a4, a5, a6, a7, a8, a9, a10⟩, _⟩ := hw'; simp only [Sp.none, Sp.all, Val.zero] at *
    go_simp
  simp only [Act.put, List.setIfInBounds_toArray, List.set_cons_zero, List.set_cons_succ]
  go_big_quiet_on
  go_big_quiet_want
  refine ⟨SV m.no m.hl m.ol m.lo.t m.lo.n m.lo.s m.hh m.oh m.hi.t m.hi.n m.hi.s, fun w' hw' => ?_, ?_⟩
  · go_simp
    exact (K8.out w').mono fun e w'' h => ⟨h.1, ⟨(hw'.1).below h.2, (hw'.2.1).below h.2, (hw'.2.2.1).below h.2, (hw'.2.2.2.1).below h.2, (hw'.2.2.2.2.1).below h.2, (hw'.2.2.2.2.2.1).below h.2, on hw'.2.2.2.2.2.2 h.2⟩⟩
  simp only [Act.put, List.setIfInBounds_toArray, List.set_cons_zero, List.set_cons_succ]
  go_big_quiet_on
  go_big_quiet_want
  refine ⟨SV m.no m.hl m.ol m.lo.t m.lo.n m.lo.s m.hh m.oh m.hi.t m.hi.n m.hi.s, fun w' hw' => ?_, ?_⟩
  · obtain ⟨⟨s0, s1, s2, s3, s4, s5, s6, s7, s8, s9, s10⟩, ⟨v0, v1, v2⟩, ⟨m0, m1, m2, m3, m4, m5, m6, m7, m8, m9, m10⟩, ⟨h0, h1, h2, h3, h4, h5, h6, h7, h8, h9, h10⟩, ⟨n0, n1, n2, n3, n4, n5, n6, n7, n8, n9, n10⟩, ⟨a0, a1, a2, a3, a4, a5, a6, a7, a8, a9, a10⟩, _⟩ := hw'; simp only [Sp.none, Sp.all, Val.zero] at *
    go_simp
  simp only [Act.put, List.setIfInBounds_toArray, List.set_cons_zero, List.set_cons_succ]
  go_big_quiet_on
  go_big_quiet_want
  refine ⟨.bool true, fun w' hw' => ?_, ?_⟩
  · go_simp
  simp only [Act.put, List.setIfInBounds_toArray, List.set_cons_zero, List.set_cons_succ]
  go_big_quiet_on
  go_big_quiet_want
  refine ⟨.bool true, fun w' hw' => ?_, ?_⟩
  · go_simp
  simp only [Act.put, List.setIfInBounds_toArray, List.set_cons_zero, List.set_cons_succ]
  go_big_quiet_on
  go_big_quiet_want
  go_big_quiet_op
  go_big_quiet_on
  go_big_quiet_want
  refine ⟨SV false false false false 0 ⟨#[]⟩ false false false 0 ⟨#[]⟩, fun w' hw' => ?_, ?_⟩
  · obtain ⟨⟨s0, s1, s2, s3, s4, s5, s6, s7, s8, s9, s10⟩, ⟨v0, v1, v2⟩, ⟨m0, m1, m2, m3, m4, m5, m6, m7, m8, m9, m10⟩, ⟨h0, h1, h2, h3, h4, h5, h6, h7, h8, h9, h10⟩, ⟨n0, n1, n2, n3, n4, n5, n6, n7, n8, n9, n10⟩, ⟨a0, a1, a2, a3, a4, a5, a6, a7, a8, a9, a10⟩, _⟩ := hw'; simp only [Sp.none, Sp.all, Val.zero] at *
    go_simp
  simp only [Act.put, List.setIfInBounds_toArray, List.set_cons_zero, List.set_cons_succ]
  go_big_quiet_on
  go_big_quiet_want
  refine ⟨SV false false false false 0 ⟨#[]⟩ false false false 0 ⟨#[]⟩, fun w' hw' => ?_, ?_⟩
  · go_simp
  simp only [Act.put, List.setIfInBounds_toArray, List.set_cons_zero, List.set_cons_succ]
  go_big_quiet_on
  go_big_quiet_want
  refine ⟨.bool true, fun w' hw' => ?_, ?_⟩
  · go_simp
  simp only [Act.put, List.setIfInBounds_toArray, List.set_cons_zero, List.set_cons_succ]
  go_big_quiet_on
  go_big_quiet_want
  refine ⟨.bool true, fun w' hw' => ?_, ?_⟩
  · go_simp
  simp only [Act.put, List.setIfInBounds_toArray, List.set_cons_zero, List.set_cons_succ]
  go_big_quiet_on
  go_big_quiet_want
  go_big_quiet_op
  go_big_quiet_on
  go_big_quiet_want
  refine ⟨SV false false false false 0 ⟨#[]⟩ false false false 0 ⟨#[]⟩, fun w' hw' => ?_, ?_⟩
  · obtain ⟨⟨s0, s1, s2, s3, s4, s5, s6, s7, s8, s9, s10⟩, ⟨v0, v1, v2⟩, ⟨m0, m1, m2, m3, m4, m5, m6, m7, m8, m9, m10⟩, ⟨h0, h1, h2, h3, h4, h5, h6, h7, h8, h9, h10⟩, ⟨n0, n1, n2, n3, n4, n5, n6, n7, n8, n9, n10⟩, ⟨a0, a1, a2, a3, a4, a5, a6, a7, a8, a9, a10⟩, _⟩ := hw'; simp only [Sp.none, Sp.all, Val.zero] at *
    go_simp
  simp only [Act.put, List.setIfInBounds_toArray, List.set_cons_zero, List.set_cons_succ]
  go_big_quiet_on
  go_big_quiet_want
  refine ⟨V x.t x.n x.s, fun w' hw' => ?_, ?_⟩
  · obtain ⟨⟨s0, s1, s2, s3, s4, s5, s6, s7, s8, s9, s10⟩, ⟨v0, v1, v2⟩, ⟨m0, m1, m2, m3, m4, m5, m6, m7, m8, m9, m10⟩, ⟨h0, h1, h2, h3, h4, h5, h6, h7, h8, h9, h10⟩, ⟨n0, n1, n2, n3, n4, n5, n6, n7, n8, n9, n10⟩, ⟨a0, a1, a2, a3, a4, a5, a6, a7, a8, a9, a10⟩, _⟩ := hw'; simp only [Sp.none, Sp.all, Val.zero] at *
    go_simp
  simp only [Act.put, List.setIfInBounds_toArray, List.set_cons_zero, List.set_cons_succ]
  go_big_quiet_on
  go_big_quiet_want
  refine ⟨.bool true, fun w' hw' => ?_, ?_⟩
  · go_simp
    exact (K9.out w').mono fun e w'' h => ⟨h.1, ⟨(hw'.1).below h.2, (hw'.2.1).below h.2, (hw'.2.2.1).below h.2, (hw'.2.2.2.1).below h.2, (hw'.2.2.2.2.1).below h.2, (hw'.2.2.2.2.2.1).below h.2, on hw'.2.2.2.2.2.2 h.2⟩⟩
  simp only [Act.put, List.setIfInBounds_toArray, List.set_cons_zero, List.set_cons_succ]
  go_big_quiet_on
  go_big_quiet_want
  refine ⟨.bool true, fun w' hw' => ?_, ?_⟩
  · go_simp
  simp only [Act.put, List.setIfInBounds_toArray, List.set_cons_zero, List.set_cons_succ]
  go_big_quiet_on
  go_big_quiet_want
  go_big_quiet_op
  go_big_quiet_on
  refine wpQuiet_nil ?_
  intro w' hw'
  have HBz : Hid (Below w.heap.size w w') := hw'.2.2.2.2.2.2
  clear hw'
  go_wp2_with fail
  go_ret
  exact ⟨rfl, HBz.out⟩
end Go.Proofs.YtfkhfplibhnceaaDoor.Val
