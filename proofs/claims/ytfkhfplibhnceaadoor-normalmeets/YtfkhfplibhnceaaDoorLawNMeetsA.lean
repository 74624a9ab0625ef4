/- The walk of the law NormalMeets: some of its cases. -/
import Derived.Test.YtfkhfplibhnceaaDoorLawNMeetsP
namespace Go.Proofs.YtfkhfplibhnceaaDoor.Val
open Go.RowKit

set_option maxRecDepth 100000 in
set_option maxHeartbeats 8000000 in
theorem nmeets_110 (a b : Sp) (x : Val) (m h n k : Sp) (hm : m.no = false) (K : MK a b x true true true m h n k) (w : World) (hT : Tab w) : Calls Tryd.prog 7 #[a.val, b.val, V x.t x.n x.s] w fun e w' => e = .returned (.bool true) ∧ Below w.heap.size w w' := by
  have H0 : Hid (∀ w1, Below w.heap.size w w1 → Calls Tryd.prog 10 #[] w1 fun e w' => e = .returned (.bool true) ∧ Below w1.heap.size w1 w') := fun w1 hb => awake_any w1 (hT.below hb)
  have Kka : Hid (∀ w1, Calls Tryd.prog 17 #[a.val, V x.t x.n x.s] w1 fun e w' => e = .returned (.bool true) ∧ Below w1.heap.size w1 w') := K.ka
  have Kkb : Hid (∀ w1, Calls Tryd.prog 17 #[b.val, V x.t x.n x.s] w1 fun e w' => e = .returned (.bool true) ∧ Below w1.heap.size w1 w') := K.kb
  have Kkm : Hid (∀ w1, Calls Tryd.prog 19 #[a.val, b.val] w1 fun e w' => e = .returned m.val ∧ Below w1.heap.size w1 w') := K.km
  have Kkh : Hid (∀ w1, Calls Tryd.prog 21 #[a.val, b.val] w1 fun e w' => e = .returned h.val ∧ Below w1.heap.size w1 w') := K.kh
  have Kwm : Hid (∀ w1, Calls Tryd.prog 17 #[m.val, V x.t x.n x.s] w1 fun e w' => e = .returned (.bool true) ∧ Below w1.heap.size w1 w') := K.wm
  have Kwh : Hid (∀ w1, Calls Tryd.prog 17 #[h.val, V x.t x.n x.s] w1 fun e w' => e = .returned (.bool true) ∧ Below w1.heap.size w1 w') := K.wh
  have Kkn : Hid (∀ w1, Calls Tryd.prog 19 #[b.val, a.val] w1 fun e w' => e = .returned n.val ∧ Below w1.heap.size w1 w') := K.kn
  have Kkk : Hid (∀ w1, Calls Tryd.prog 21 #[b.val, a.val] w1 fun e w' => e = .returned k.val ∧ Below w1.heap.size w1 w') := K.kk
  have Kwn : Hid (∀ w1, Calls Tryd.prog 17 #[n.val, V x.t x.n x.s] w1 fun e w' => e = .returned (.bool true) ∧ Below w1.heap.size w1 w') := K.wn
  have Kwk : Hid (∀ w1, Calls Tryd.prog 17 #[k.val, V x.t x.n x.s] w1 fun e w' => e = .returned (.bool true) ∧ Below w1.heap.size w1 w') := K.wk
  have Qn : ∀ w1, (binOp .eql 35 (SV true false false false 0 ⟨#[]⟩ false false false 0 ⟨#[]⟩) (SV true false false false 0 ⟨#[]⟩ false false false 0 ⟨#[]⟩)).run Tryd.prog w1 = .ok (.bool true) w1 := fun w1 => eql_same Sp.none w1
  have HM : Hid (m.no = false) := hm
  clear hm
  clear hT K
  unfold Sp.val at *
  (try simp only [Sp.none, Val.zero] at Kkm Kwm)
  go_enter Tryd.func7, Tryd.ntmps7
  go_wp2_with fail
  refine Calls.mono (H0.out _ (back2 (alloc1 _ _))) ?_
  rintro e w1 ⟨rfl, hb⟩
  have Xa : Hid (SBox w1 (w.heap.size) a) := show SBox w1 (w.heap.size) a from ((((SBox.new w a 35).alloc _).alloc _)).below hb
  have Xb : Hid (SBox w1 (w.heap.size + 1) b) := show SBox w1 (w.heap.size + 1) b from by have := ((SBox.new (w.alloc (sobj a 35)) b 35).alloc _).below hb; simpa using this
  have Xv : Hid (VBox w1 (w.heap.size + 1 + 1) x) := show VBox w1 (w.heap.size + 1 + 1) x from by have := (VBox.new ((w.alloc (sobj a 35)).alloc (sobj b 35)) x 26).below hb; simpa using this
  have HB : Hid (Below w.heap.size w w1) := back3 hb
  clear hb
  obtain ⟨a0, a1, a2, a3, a4, a5, a6, a7, a8, a9, a10⟩ := Xa.out
  have la := Xa.out.lt
  obtain ⟨v0, v1, v2⟩ := Xv.out
  have lv := Xv.out.lt
  go_wp2_with fail
  refine Calls.mono (Kka.out _) ?_
  rintro e w2 ⟨rfl, hb⟩
  clear a0 a1 a2 a3 a4 a5 a6 a7 a8 a9 a10 la v0 v1 v2 lv
  replace Xa : Hid (SBox w2 (w.heap.size) a) := Xa.out.below hb
  replace Xb : Hid (SBox w2 (w.heap.size + 1) b) := Xb.out.below hb
  replace Xv : Hid (VBox w2 (w.heap.size + 1 + 1) x) := Xv.out.below hb
  replace HB : Hid (Below w.heap.size w w2) := on HB.out hb
  clear hb
  obtain ⟨b0, b1, b2, b3, b4, b5, b6, b7, b8, b9, b10⟩ := Xb.out
  have lb := Xb.out.lt
  obtain ⟨v0, v1, v2⟩ := Xv.out
  have lv := Xv.out.lt
  go_wp2_with fail
  refine Calls.mono (Kkb.out _) ?_
  rintro e w3 ⟨rfl, hb⟩
  clear b0 b1 b2 b3 b4 b5 b6 b7 b8 b9 b10 lb v0 v1 v2 lv
  replace Xa : Hid (SBox w3 (w.heap.size) a) := Xa.out.below hb
  replace Xb : Hid (SBox w3 (w.heap.size + 1) b) := Xb.out.below hb
  replace Xv : Hid (VBox w3 (w.heap.size + 1 + 1) x) := Xv.out.below hb
  replace HB : Hid (Below w.heap.size w w3) := on HB.out hb
  clear hb
  obtain ⟨a0, a1, a2, a3, a4, a5, a6, a7, a8, a9, a10⟩ := Xa.out
  have la := Xa.out.lt
  obtain ⟨b0, b1, b2, b3, b4, b5, b6, b7, b8, b9, b10⟩ := Xb.out
  have lb := Xb.out.lt
  go_wp2_with fail
  refine Calls.mono (Kkm.out _) ?_
  rintro e w4 ⟨rfl, hb⟩
  clear a0 a1 a2 a3 a4 a5 a6 a7 a8 a9 a10 la b0 b1 b2 b3 b4 b5 b6 b7 b8 b9 b10 lb
  replace Xa : Hid (SBox w4 (w.heap.size) a) := Xa.out.below hb
  replace Xb : Hid (SBox w4 (w.heap.size + 1) b) := Xb.out.below hb
  replace Xv : Hid (VBox w4 (w.heap.size + 1 + 1) x) := Xv.out.below hb
  replace HB : Hid (Below w.heap.size w w4) := on HB.out hb
  clear hb
  obtain ⟨a0, a1, a2, a3, a4, a5, a6, a7, a8, a9, a10⟩ := Xa.out
  have la := Xa.out.lt
  obtain ⟨b0, b1, b2, b3, b4, b5, b6, b7, b8, b9, b10⟩ := Xb.out
  have lb := Xb.out.lt
  go_wp2_with fail
  refine Calls.mono (Kkh.out _) ?_
  rintro e w5 ⟨rfl, hb⟩
  clear a0 a1 a2 a3 a4 a5 a6 a7 a8 a9 a10 la b0 b1 b2 b3 b4 b5 b6 b7 b8 b9 b10 lb
  replace Xa : Hid (SBox w5 (w.heap.size) a) := (Xa.out.alloc _).below hb
  replace Xb : Hid (SBox w5 (w.heap.size + 1) b) := (Xb.out.alloc _).below hb
  replace Xv : Hid (VBox w5 (w.heap.size + 1 + 1) x) := (Xv.out.alloc _).below hb
  have Xm : Hid (SBox w5 w4.heap.size m) := (SBox.new _ _ 35).below hb
  replace HB : Hid (Below w.heap.size w w5) := on HB.out (back1 hb)
  clear hb
  obtain ⟨v0, v1, v2⟩ := Xv.out
  have lv := Xv.out.lt
  obtain ⟨m0, m1, m2, m3, m4, m5, m6, m7, m8, m9, m10⟩ := Xm.out
  have lm := Xm.out.lt
  go_wp2_with fail
  refine Calls.mono (Kwm.out _) ?_
  rintro e w6 ⟨rfl, hb⟩
  clear v0 v1 v2 lv m0 m1 m2 m3 m4 m5 m6 m7 m8 m9 m10 lm
  replace Xa : Hid (SBox w6 (w.heap.size) a) := (Xa.out.alloc _).below hb
  replace Xb : Hid (SBox w6 (w.heap.size + 1) b) := (Xb.out.alloc _).below hb
  replace Xv : Hid (VBox w6 (w.heap.size + 1 + 1) x) := (Xv.out.alloc _).below hb
  replace Xm : Hid (SBox w6 (w4.heap.size) m) := (Xm.out.alloc _).below hb
  have Xh : Hid (SBox w6 w5.heap.size h) := (SBox.new _ _ 35).below hb
  replace HB : Hid (Below w.heap.size w w6) := on HB.out (back1 hb)
  clear hb
  obtain ⟨h0, h1, h2, h3, h4, h5, h6, h7, h8, h9, h10⟩ := Xh.out
  have lh := Xh.out.lt
  obtain ⟨v0, v1, v2⟩ := Xv.out
  have lv := Xv.out.lt
  go_wp2_with fail
  refine Calls.mono (Kwh.out _) ?_
  rintro e w7 ⟨rfl, hb⟩
  clear h0 h1 h2 h3 h4 h5 h6 h7 h8 h9 h10 lh v0 v1 v2 lv
  replace Xa : Hid (SBox w7 (w.heap.size) a) := Xa.out.below hb
  replace Xb : Hid (SBox w7 (w.heap.size + 1) b) := Xb.out.below hb
  replace Xv : Hid (VBox w7 (w.heap.size + 1 + 1) x) := Xv.out.below hb
  replace Xm : Hid (SBox w7 (w4.heap.size) m) := Xm.out.below hb
  replace Xh : Hid (SBox w7 (w5.heap.size) h) := Xh.out.below hb
  replace HB : Hid (Below w.heap.size w w7) := on HB.out hb
  clear hb
  obtain ⟨a0, a1, a2, a3, a4, a5, a6, a7, a8, a9, a10⟩ := Xa.out
  have la := Xa.out.lt
  obtain ⟨b0, b1, b2, b3, b4, b5, b6, b7, b8, b9, b10⟩ := Xb.out
  have lb := Xb.out.lt
  go_wp2_with fail
  refine Calls.mono (Kkn.out _) ?_
  rintro e w8 ⟨rfl, hb⟩
  clear a0 a1 a2 a3 a4 a5 a6 a7 a8 a9 a10 la b0 b1 b2 b3 b4 b5 b6 b7 b8 b9 b10 lb
  replace Xa : Hid (SBox w8 (w.heap.size) a) := Xa.out.below hb
  replace Xb : Hid (SBox w8 (w.heap.size + 1) b) := Xb.out.below hb
  replace Xv : Hid (VBox w8 (w.heap.size + 1 + 1) x) := Xv.out.below hb
  replace Xm : Hid (SBox w8 (w4.heap.size) m) := Xm.out.below hb
  replace Xh : Hid (SBox w8 (w5.heap.size) h) := Xh.out.below hb
  replace HB : Hid (Below w.heap.size w w8) := on HB.out hb
  clear hb
  obtain ⟨a0, a1, a2, a3, a4, a5, a6, a7, a8, a9, a10⟩ := Xa.out
  have la := Xa.out.lt
  obtain ⟨b0, b1, b2, b3, b4, b5, b6, b7, b8, b9, b10⟩ := Xb.out
  have lb := Xb.out.lt
  go_wp2_with fail
  refine Calls.mono (Kkk.out _) ?_
  rintro e w9 ⟨rfl, hb⟩
  clear a0 a1 a2 a3 a4 a5 a6 a7 a8 a9 a10 la b0 b1 b2 b3 b4 b5 b6 b7 b8 b9 b10 lb
  replace Xa : Hid (SBox w9 (w.heap.size) a) := (Xa.out.alloc _).below hb
  replace Xb : Hid (SBox w9 (w.heap.size + 1) b) := (Xb.out.alloc _).below hb
  replace Xv : Hid (VBox w9 (w.heap.size + 1 + 1) x) := (Xv.out.alloc _).below hb
  replace Xm : Hid (SBox w9 (w4.heap.size) m) := (Xm.out.alloc _).below hb
  replace Xh : Hid (SBox w9 (w5.heap.size) h) := (Xh.out.alloc _).below hb
  have Xn : Hid (SBox w9 w8.heap.size n) := (SBox.new _ _ 35).below hb
  replace HB : Hid (Below w.heap.size w w9) := on HB.out (back1 hb)
  clear hb
  have XK : Hid (∀ T, SBox (w9.alloc (sobj k T)) w9.heap.size k) := fun T => SBox.new _ _ T
  go_wp2_with fail
  (try simp only [List.append])
  refine region_cls (C := fun w' => VBox w' (w.heap.size + 1 + 1) x ∧ SBox w' (w4.heap.size) m ∧ SBox w' (w5.heap.size) h ∧ SBox w' (w8.heap.size) n ∧ SBox w' (w9.heap.size) k ∧ Below w.heap.size w w') (by kernel_rfl) (by kernel_rfl) ⟨(Xv.out.alloc _).below (Below.refl _ _).drew, (Xm.out.alloc _).below (Below.refl _ _).drew, (Xh.out.alloc _).below (Below.refl _ _).drew, (Xn.out.alloc _).below (Below.refl _ _).drew, (XK.out _).below (Below.refl _ _).drew, (on HB.out (alloc1 _ _)).drew⟩ ?_
  clear HB XK Xa Xb Xv Xm Xh Xn
  go_big_quiet_want
  refine ⟨SV n.no n.hl n.ol n.lo.t n.lo.n n.lo.s n.hh n.oh n.hi.t n.hi.n n.hi.s, fun w' hw' => ?_, ?_⟩
  · obtain ⟨⟨v0, v1, v2⟩, ⟨m0, m1, m2, m3, m4, m5, m6, m7, m8, m9, m10⟩, ⟨h0, h1, h2, h3, h4, h5, h6, h7, h8, h9, h10⟩, ⟨n0, n1, n2, n3, n4, n5, n6, n7, n8, n9, n10⟩, ⟨k0, k1, k2, k3, k4, k5, k6, k7, k8, k9, k10⟩, _⟩ := hw'; rw [HM.out] at m0
    go_simp
  simp only [Act.put, List.setIfInBounds_toArray, List.set_cons_zero, List.set_cons_succ]
  go_big_quiet_on
  go_big_quiet_want
  refine ⟨V x.t x.n x.s, fun w' hw' => ?_, ?_⟩
  · obtain ⟨⟨v0, v1, v2⟩, ⟨m0, m1, m2, m3, m4, m5, m6, m7, m8, m9, m10⟩, ⟨h0, h1, h2, h3, h4, h5, h6, h7, h8, h9, h10⟩, ⟨n0, n1, n2, n3, n4, n5, n6, n7, n8, n9, n10⟩, ⟨k0, k1, k2, k3, k4, k5, k6, k7, k8, k9, k10⟩, _⟩ := hw'; rw [HM.out] at m0
    go_simp
  simp only [Act.put, List.setIfInBounds_toArray, List.set_cons_zero, List.set_cons_succ]
  go_big_quiet_on
  go_big_quiet_want
  refine ⟨.bool true, fun w' hw' => ?_, ?_⟩
  · go_simp
    exact (Kwn.out w').mono fun e w'' h => ⟨h.1, ⟨(hw'.1).below h.2, (hw'.2.1).below h.2, (hw'.2.2.1).below h.2, (hw'.2.2.2.1).below h.2, (hw'.2.2.2.2.1).below h.2, on hw'.2.2.2.2.2 h.2⟩⟩
  simp only [Act.put, List.setIfInBounds_toArray, List.set_cons_zero, List.set_cons_succ]
  go_big_quiet_on
  go_big_quiet_want
  go_big_quiet_op
  go_big_quiet_on
  go_big_quiet_want
  go_big_quiet_op
  go_big_quiet_on
  go_big_quiet_want
  go_big_quiet_op
  go_big_quiet_on
  go_big_quiet_want
  refine ⟨.bool true, fun w' hw' => ?_, ?_⟩
  · go_simp
  simp only [Act.put, List.setIfInBounds_toArray, List.set_cons_zero, List.set_cons_succ]
  go_big_quiet_on
  go_big_quiet_want
  refine ⟨.bool true, fun w' hw' => ?_, ?_⟩
  · go_simp
  simp only [Act.put, List.setIfInBounds_toArray, List.set_cons_zero, List.set_cons_succ]
  go_big_quiet_on
  go_big_quiet_want
  go_big_quiet_op
  go_big_quiet_on
  go_big_quiet_want
  refine ⟨SV k.no k.hl k.ol k.lo.t k.lo.n k.lo.s k.hh k.oh k.hi.t k.hi.n k.hi.s, fun w' hw' => ?_, ?_⟩
  · obtain ⟨⟨v0, v1, v2⟩, ⟨m0, m1, m2, m3, m4, m5, m6, m7, m8, m9, m10⟩, ⟨h0, h1, h2, h3, h4, h5, h6, h7, h8, h9, h10⟩, ⟨n0, n1, n2, n3, n4, n5, n6, n7, n8, n9, n10⟩, ⟨k0, k1, k2, k3, k4, k5, k6, k7, k8, k9, k10⟩, _⟩ := hw'; rw [HM.out] at m0
    go_simp
  simp only [Act.put, List.setIfInBounds_toArray, List.set_cons_zero, List.set_cons_succ]
  go_big_quiet_on
  go_big_quiet_want
  refine ⟨V x.t x.n x.s, fun w' hw' => ?_, ?_⟩
  · obtain ⟨⟨v0, v1, v2⟩, ⟨m0, m1, m2, m3, m4, m5, m6, m7, m8, m9, m10⟩, ⟨h0, h1, h2, h3, h4, h5, h6, h7, h8, h9, h10⟩, ⟨n0, n1, n2, n3, n4, n5, n6, n7, n8, n9, n10⟩, ⟨k0, k1, k2, k3, k4, k5, k6, k7, k8, k9, k10⟩, _⟩ := hw'; rw [HM.out] at m0
    go_simp
  simp only [Act.put, List.setIfInBounds_toArray, List.set_cons_zero, List.set_cons_succ]
  go_big_quiet_on
  go_big_quiet_want
  refine ⟨.bool true, fun w' hw' => ?_, ?_⟩
  · go_simp
    exact (Kwk.out w').mono fun e w'' h => ⟨h.1, ⟨(hw'.1).below h.2, (hw'.2.1).below h.2, (hw'.2.2.1).below h.2, (hw'.2.2.2.1).below h.2, (hw'.2.2.2.2.1).below h.2, on hw'.2.2.2.2.2 h.2⟩⟩
  simp only [Act.put, List.setIfInBounds_toArray, List.set_cons_zero, List.set_cons_succ]
  go_big_quiet_on
  go_big_quiet_want
  refine ⟨SV h.no h.hl h.ol h.lo.t h.lo.n h.lo.s h.hh h.oh h.hi.t h.hi.n h.hi.s, fun w' hw' => ?_, ?_⟩
  · obtain ⟨⟨v0, v1, v2⟩, ⟨m0, m1, m2, m3, m4, m5, m6, m7, m8, m9, m10⟩, ⟨h0, h1, h2, h3, h4, h5, h6, h7, h8, h9, h10⟩, ⟨n0, n1, n2, n3, n4, n5, n6, n7, n8, n9, n10⟩, ⟨k0, k1, k2, k3, k4, k5, k6, k7, k8, k9, k10⟩, _⟩ := hw'; rw [HM.out] at m0
    go_simp
  simp only [Act.put, List.setIfInBounds_toArray, List.set_cons_zero, List.set_cons_succ]
  go_big_quiet_on
  go_big_quiet_want
  refine ⟨V x.t x.n x.s, fun w' hw' => ?_, ?_⟩
  · obtain ⟨⟨v0, v1, v2⟩, ⟨m0, m1, m2, m3, m4, m5, m6, m7, m8, m9, m10⟩, ⟨h0, h1, h2, h3, h4, h5, h6, h7, h8, h9, h10⟩, ⟨n0, n1, n2, n3, n4, n5, n6, n7, n8, n9, n10⟩, ⟨k0, k1, k2, k3, k4, k5, k6, k7, k8, k9, k10⟩, _⟩ := hw'; rw [HM.out] at m0
    go_simp
  simp only [Act.put, List.setIfInBounds_toArray, List.set_cons_zero, List.set_cons_succ]
  go_big_quiet_on
  go_big_quiet_want
  refine ⟨.bool true, fun w' hw' => ?_, ?_⟩
  · go_simp
    exact (Kwh.out w').mono fun e w'' h => ⟨h.1, ⟨(hw'.1).below h.2, (hw'.2.1).below h.2, (hw'.2.2.1).below h.2, (hw'.2.2.2.1).below h.2, (hw'.2.2.2.2.1).below h.2, on hw'.2.2.2.2.2 h.2⟩⟩
  simp only [Act.put, List.setIfInBounds_toArray, List.set_cons_zero, List.set_cons_succ]
  go_big_quiet_on
  go_big_quiet_want
  refine ⟨.bool true, fun w' hw' => ?_, ?_⟩
  · go_simp
  simp only [Act.put, List.setIfInBounds_toArray, List.set_cons_zero, List.set_cons_succ]
  go_big_quiet_on
  go_big_quiet_want
  refine ⟨.bool true, fun w' hw' => ?_, ?_⟩
  · go_simp
  simp only [Act.put, List.setIfInBounds_toArray, List.set_cons_zero, List.set_cons_succ]
  go_big_quiet_on
  go_big_quiet_want
  go_big_quiet_op
  go_big_quiet_on
  go_big_quiet_want
  refine ⟨.pointer (some ⟨w4.heap.size, 0, none⟩), fun w' hw' => ?_, ?_⟩
  · go_simp
  simp only [Act.put, List.setIfInBounds_toArray, List.set_cons_zero, List.set_cons_succ]
  go_big_quiet_on
  go_big_quiet_want
  refine ⟨.bool false, fun w' hw' => ?_, ?_⟩
  · obtain ⟨⟨v0, v1, v2⟩, ⟨m0, m1, m2, m3, m4, m5, m6, m7, m8, m9, m10⟩, ⟨h0, h1, h2, h3, h4, h5, h6, h7, h8, h9, h10⟩, ⟨n0, n1, n2, n3, n4, n5, n6, n7, n8, n9, n10⟩, ⟨k0, k1, k2, k3, k4, k5, k6, k7, k8, k9, k10⟩, _⟩ := hw'; rw [HM.out] at m0
    go_simp
  simp only [Act.put, List.setIfInBounds_toArray, List.set_cons_zero, List.set_cons_succ]
  go_big_quiet_on
  go_big_quiet_want
  refine ⟨.bool true, fun w' hw' => ?_, ?_⟩
  · go_simp
  simp only [Act.put, List.setIfInBounds_toArray, List.set_cons_zero, List.set_cons_succ]
  go_big_quiet_on
  go_big_quiet_want
  go_big_quiet_op
  go_big_quiet_on
  go_big_quiet_skip
  go_big_quiet_skip
  go_big_quiet_skip
  go_big_quiet_want
  refine ⟨.bool true, fun w' hw' => ?_, ?_⟩
  · go_simp
  simp only [Act.put, List.setIfInBounds_toArray, List.set_cons_zero, List.set_cons_succ]
  go_big_quiet_on
  go_big_quiet_want
  refine ⟨.bool true, fun w' hw' => ?_, ?_⟩
  · go_simp
  simp only [Act.put, List.setIfInBounds_toArray, List.set_cons_zero, List.set_cons_succ]
  go_big_quiet_on
  go_big_quiet_want
  go_big_quiet_op
  go_big_quiet_on
  refine wpQuiet_nil ?_
  intro w' hw'
  have HBz : Hid (Below w.heap.size w w') := hw'.2.2.2.2.2
  clear hw'
  go_wp2_with fail
  go_ret
  exact ⟨rfl, HBz.out⟩
set_option maxRecDepth 100000 in
set_option maxHeartbeats 8000000 in
theorem nmeets_100 (a b : Sp) (x : Val) (m h n k : Sp) (hm : m.no = false) (K : MK a b x true false true m h n k) (w : World) (hT : Tab w) : Calls Tryd.prog 7 #[a.val, b.val, V x.t x.n x.s] w fun e w' => e = .returned (.bool true) ∧ Below w.heap.size w w' := by
  have H0 : Hid (∀ w1, Below w.heap.size w w1 → Calls Tryd.prog 10 #[] w1 fun e w' => e = .returned (.bool true) ∧ Below w1.heap.size w1 w') := fun w1 hb => awake_any w1 (hT.below hb)
  have Kka : Hid (∀ w1, Calls Tryd.prog 17 #[a.val, V x.t x.n x.s] w1 fun e w' => e = .returned (.bool true) ∧ Below w1.heap.size w1 w') := K.ka
  have Kkb : Hid (∀ w1, Calls Tryd.prog 17 #[b.val, V x.t x.n x.s] w1 fun e w' => e = .returned (.bool false) ∧ Below w1.heap.size w1 w') := K.kb
  have Kkm : Hid (∀ w1, Calls Tryd.prog 19 #[a.val, b.val] w1 fun e w' => e = .returned m.val ∧ Below w1.heap.size w1 w') := K.km
  have Kkh : Hid (∀ w1, Calls Tryd.prog 21 #[a.val, b.val] w1 fun e w' => e = .returned h.val ∧ Below w1.heap.size w1 w') := K.kh
  have Kwm : Hid (∀ w1, Calls Tryd.prog 17 #[m.val, V x.t x.n x.s] w1 fun e w' => e = .returned (.bool false) ∧ Below w1.heap.size w1 w') := K.wm
  have Kwh : Hid (∀ w1, Calls Tryd.prog 17 #[h.val, V x.t x.n x.s] w1 fun e w' => e = .returned (.bool true) ∧ Below w1.heap.size w1 w') := K.wh
  have Kkn : Hid (∀ w1, Calls Tryd.prog 19 #[b.val, a.val] w1 fun e w' => e = .returned n.val ∧ Below w1.heap.size w1 w') := K.kn
  have Kkk : Hid (∀ w1, Calls Tryd.prog 21 #[b.val, a.val] w1 fun e w' => e = .returned k.val ∧ Below w1.heap.size w1 w') := K.kk
  have Kwn : Hid (∀ w1, Calls Tryd.prog 17 #[n.val, V x.t x.n x.s] w1 fun e w' => e = .returned (.bool false) ∧ Below w1.heap.size w1 w') := K.wn
  have Kwk : Hid (∀ w1, Calls Tryd.prog 17 #[k.val, V x.t x.n x.s] w1 fun e w' => e = .returned (.bool true) ∧ Below w1.heap.size w1 w') := K.wk
  have Qn : ∀ w1, (binOp .eql 35 (SV true false false false 0 ⟨#[]⟩ false false false 0 ⟨#[]⟩) (SV true false false false 0 ⟨#[]⟩ false false false 0 ⟨#[]⟩)).run Tryd.prog w1 = .ok (.bool true) w1 := fun w1 => eql_same Sp.none w1
  have HM : Hid (m.no = false) := hm
  clear hm
  clear hT K
  unfold Sp.val at *
  (try simp only [Sp.none, Val.zero] at Kkm Kwm)
  go_enter Tryd.func7, Tryd.ntmps7
  go_wp2_with fail
  refine Calls.mono (H0.out _ (back2 (alloc1 _ _))) ?_
  rintro e w1 ⟨rfl, hb⟩
  have Xa : Hid (SBox w1 (w.heap.size) a) := show SBox w1 (w.heap.size) a from ((((SBox.new w a 35).alloc _).alloc _)).below hb
  have Xb : Hid (SBox w1 (w.heap.size + 1) b) := show SBox w1 (w.heap.size + 1) b from by have := ((SBox.new (w.alloc (sobj a 35)) b 35).alloc _).below hb; simpa using this
  have Xv : Hid (VBox w1 (w.heap.size + 1 + 1) x) := show VBox w1 (w.heap.size + 1 + 1) x from by have := (VBox.new ((w.alloc (sobj a 35)).alloc (sobj b 35)) x 26).below hb; simpa using this
  have HB : Hid (Below w.heap.size w w1) := back3 hb
  clear hb
  obtain ⟨a0, a1, a2, a3, a4, a5, a6, a7, a8, a9, a10⟩ := Xa.out
  have la := Xa.out.lt
  obtain ⟨v0, v1, v2⟩ := Xv.out
  have lv := Xv.out.lt
  go_wp2_with fail
  refine Calls.mono (Kka.out _) ?_
  rintro e w2 ⟨rfl, hb⟩
  clear a0 a1 a2 a3 a4 a5 a6 a7 a8 a9 a10 la v0 v1 v2 lv
  replace Xa : Hid (SBox w2 (w.heap.size) a) := Xa.out.below hb
  replace Xb : Hid (SBox w2 (w.heap.size + 1) b) := Xb.out.below hb
  replace Xv : Hid (VBox w2 (w.heap.size + 1 + 1) x) := Xv.out.below hb
  replace HB : Hid (Below w.heap.size w w2) := on HB.out hb
  clear hb
  obtain ⟨b0, b1, b2, b3, b4, b5, b6, b7, b8, b9, b10⟩ := Xb.out
  have lb := Xb.out.lt
  obtain ⟨v0, v1, v2⟩ := Xv.out
  have lv := Xv.out.lt
  go_wp2_with fail
  refine Calls.mono (Kkb.out _) ?_
  rintro e w3 ⟨rfl, hb⟩
  clear b0 b1 b2 b3 b4 b5 b6 b7 b8 b9 b10 lb v0 v1 v2 lv
  replace Xa : Hid (SBox w3 (w.heap.size) a) := Xa.out.below hb
  replace Xb : Hid (SBox w3 (w.heap.size + 1) b) := Xb.out.below hb
  replace Xv : Hid (VBox w3 (w.heap.size + 1 + 1) x) := Xv.out.below hb
  replace HB : Hid (Below w.heap.size w w3) := on HB.out hb
  clear hb
  obtain ⟨a0, a1, a2, a3, a4, a5, a6, a7, a8, a9, a10⟩ := Xa.out
  have la := Xa.out.lt
  obtain ⟨b0, b1, b2, b3, b4, b5, b6, b7, b8, b9, b10⟩ := Xb.out
  have lb := Xb.out.lt
  go_wp2_with fail
  refine Calls.mono (Kkm.out _) ?_
  rintro e w4 ⟨rfl, hb⟩
  clear a0 a1 a2 a3 a4 a5 a6 a7 a8 a9 a10 la b0 b1 b2 b3 b4 b5 b6 b7 b8 b9 b10 lb
  replace Xa : Hid (SBox w4 (w.heap.size) a) := Xa.out.below hb
  replace Xb : Hid (SBox w4 (w.heap.size + 1) b) := Xb.out.below hb
  replace Xv : Hid (VBox w4 (w.heap.size + 1 + 1) x) := Xv.out.below hb
  replace HB : Hid (Below w.heap.size w w4) := on HB.out hb
  clear hb
  obtain ⟨a0, a1, a2, a3, a4, a5, a6, a7, a8, a9, a10⟩ := Xa.out
  have la := Xa.out.lt
  obtain ⟨b0, b1, b2, b3, b4, b5, b6, b7, b8, b9, b10⟩ := Xb.out
  have lb := Xb.out.lt
  go_wp2_with fail
  refine Calls.mono (Kkh.out _) ?_
  rintro e w5 ⟨rfl, hb⟩
  clear a0 a1 a2 a3 a4 a5 a6 a7 a8 a9 a10 la b0 b1 b2 b3 b4 b5 b6 b7 b8 b9 b10 lb
  replace Xa : Hid (SBox w5 (w.heap.size) a) := (Xa.out.alloc _).below hb
  replace Xb : Hid (SBox w5 (w.heap.size + 1) b) := (Xb.out.alloc _).below hb
  replace Xv : Hid (VBox w5 (w.heap.size + 1 + 1) x) := (Xv.out.alloc _).below hb
  have Xm : Hid (SBox w5 w4.heap.size m) := (SBox.new _ _ 35).below hb
  replace HB : Hid (Below w.heap.size w w5) := on HB.out (back1 hb)
  clear hb
  obtain ⟨v0, v1, v2⟩ := Xv.out
  have lv := Xv.out.lt
  obtain ⟨m0, m1, m2, m3, m4, m5, m6, m7, m8, m9, m10⟩ := Xm.out
  have lm := Xm.out.lt
  go_wp2_with fail
  refine Calls.mono (Kwm.out _) ?_
  rintro e w6 ⟨rfl, hb⟩
  clear v0 v1 v2 lv m0 m1 m2 m3 m4 m5 m6 m7 m8 m9 m10 lm
  replace Xa : Hid (SBox w6 (w.heap.size) a) := (Xa.out.alloc _).below hb
  replace Xb : Hid (SBox w6 (w.heap.size + 1) b) := (Xb.out.alloc _).below hb
  replace Xv : Hid (VBox w6 (w.heap.size + 1 + 1) x) := (Xv.out.alloc _).below hb
  replace Xm : Hid (SBox w6 (w4.heap.size) m) := (Xm.out.alloc _).below hb
  have Xh : Hid (SBox w6 w5.heap.size h) := (SBox.new _ _ 35).below hb
  replace HB : Hid (Below w.heap.size w w6) := on HB.out (back1 hb)
  clear hb
  obtain ⟨h0, h1, h2, h3, h4, h5, h6, h7, h8, h9, h10⟩ := Xh.out
  have lh := Xh.out.lt
  obtain ⟨v0, v1, v2⟩ := Xv.out
  have lv := Xv.out.lt
  go_wp2_with fail
  refine Calls.mono (Kwh.out _) ?_
  rintro e w7 ⟨rfl, hb⟩
  clear h0 h1 h2 h3 h4 h5 h6 h7 h8 h9 h10 lh v0 v1 v2 lv
  replace Xa : Hid (SBox w7 (w.heap.size) a) := Xa.out.below hb
  replace Xb : Hid (SBox w7 (w.heap.size + 1) b) := Xb.out.below hb
  replace Xv : Hid (VBox w7 (w.heap.size + 1 + 1) x) := Xv.out.below hb
  replace Xm : Hid (SBox w7 (w4.heap.size) m) := Xm.out.below hb
  replace Xh : Hid (SBox w7 (w5.heap.size) h) := Xh.out.below hb
  replace HB : Hid (Below w.heap.size w w7) := on HB.out hb
  clear hb
  obtain ⟨a0, a1, a2, a3, a4, a5, a6, a7, a8, a9, a10⟩ := Xa.out
  have la := Xa.out.lt
  obtain ⟨b0, b1, b2, b3, b4, b5, b6, b7, b8, b9, b10⟩ := Xb.out
  have lb := Xb.out.lt
  go_wp2_with fail
  refine Calls.mono (Kkn.out _) ?_
  rintro e w8 ⟨rfl, hb⟩
  clear a0 a1 a2 a3 a4 a5 a6 a7 a8 a9 a10 la b0 b1 b2 b3 b4 b5 b6 b7 b8 b9 b10 lb
  replace Xa : Hid (SBox w8 (w.heap.size) a) := Xa.out.below hb
  replace Xb : Hid (SBox w8 (w.heap.size + 1) b) := Xb.out.below hb
  replace Xv : Hid (VBox w8 (w.heap.size + 1 + 1) x) := Xv.out.below hb
  replace Xm : Hid (SBox w8 (w4.heap.size) m) := Xm.out.below hb
  replace Xh : Hid (SBox w8 (w5.heap.size) h) := Xh.out.below hb
  replace HB : Hid (Below w.heap.size w w8) := on HB.out hb
  clear hb
  obtain ⟨a0, a1, a2, a3, a4, a5, a6, a7, a8, a9, a10⟩ := Xa.out
  have la := Xa.out.lt
  obtain ⟨b0, b1, b2, b3, b4, b5, b6, b7, b8, b9, b10⟩ := Xb.out
  have lb := Xb.out.lt
  go_wp2_with fail
  refine Calls.mono (Kkk.out _) ?_
  rintro e w9 ⟨rfl, hb⟩
  clear a0 a1 a2 a3 a4 a5 a6 a7 a8 a9 a10 la b0 b1 b2 b3 b4 b5 b6 b7 b8 b9 b10 lb
  replace Xa : Hid (SBox w9 (w.heap.size) a) := (Xa.out.alloc _).below hb
  replace Xb : Hid (SBox w9 (w.heap.size + 1) b) := (Xb.out.alloc _).below hb
  replace Xv : Hid (VBox w9 (w.heap.size + 1 + 1) x) := (Xv.out.alloc _).below hb
  replace Xm : Hid (SBox w9 (w4.heap.size) m) := (Xm.out.alloc _).below hb
  replace Xh : Hid (SBox w9 (w5.heap.size) h) := (Xh.out.alloc _).below hb
  have Xn : Hid (SBox w9 w8.heap.size n) := (SBox.new _ _ 35).below hb
  replace HB : Hid (Below w.heap.size w w9) := on HB.out (back1 hb)
  clear hb
  have XK : Hid (∀ T, SBox (w9.alloc (sobj k T)) w9.heap.size k) := fun T => SBox.new _ _ T
  go_wp2_with fail
  (try simp only [List.append])
  refine region_cls (C := fun w' => VBox w' (w.heap.size + 1 + 1) x ∧ SBox w' (w4.heap.size) m ∧ SBox w' (w5.heap.size) h ∧ SBox w' (w8.heap.size) n ∧ SBox w' (w9.heap.size) k ∧ Below w.heap.size w w') (by kernel_rfl) (by kernel_rfl) ⟨(Xv.out.alloc _).below (Below.refl _ _).drew, (Xm.out.alloc _).below (Below.refl _ _).drew, (Xh.out.alloc _).below (Below.refl _ _).drew, (Xn.out.alloc _).below (Below.refl _ _).drew, (XK.out _).below (Below.refl _ _).drew, (on HB.out (alloc1 _ _)).drew⟩ ?_
  clear HB XK Xa Xb Xv Xm Xh Xn
  go_big_quiet_want
  refine ⟨SV n.no n.hl n.ol n.lo.t n.lo.n n.lo.s n.hh n.oh n.hi.t n.hi.n n.hi.s, fun w' hw' => ?_, ?_⟩
  · obtain ⟨⟨v0, v1, v2⟩, ⟨m0, m1, m2, m3, m4, m5, m6, m7, m8, m9, m10⟩, ⟨h0, h1, h2, h3, h4, h5, h6, h7, h8, h9, h10⟩, ⟨n0, n1, n2, n3, n4, n5, n6, n7, n8, n9, n10⟩, ⟨k0, k1, k2, k3, k4, k5, k6, k7, k8, k9, k10⟩, _⟩ := hw'; rw [HM.out] at m0
    go_simp
  simp only [Act.put, List.setIfInBounds_toArray, List.set_cons_zero, List.set_cons_succ]
  go_big_quiet_on
  go_big_quiet_want
  refine ⟨V x.t x.n x.s, fun w' hw' => ?_, ?_⟩
  · obtain ⟨⟨v0, v1, v2⟩, ⟨m0, m1, m2, m3, m4, m5, m6, m7, m8, m9, m10⟩, ⟨h0, h1, h2, h3, h4, h5, h6, h7, h8, h9, h10⟩, ⟨n0, n1, n2, n3, n4, n5, n6, n7, n8, n9, n10⟩, ⟨k0, k1, k2, k3, k4, k5, k6, k7, k8, k9, k10⟩, _⟩ := hw'; rw [HM.out] at m0
    go_simp
  simp only [Act.put, List.setIfInBounds_toArray, List.set_cons_zero, List.set_cons_succ]
  go_big_quiet_on
  go_big_quiet_want
  refine ⟨.bool false, fun w' hw' => ?_, ?_⟩
  · go_simp
    exact (Kwn.out w').mono fun e w'' h => ⟨h.1, ⟨(hw'.1).below h.2, (hw'.2.1).below h.2, (hw'.2.2.1).below h.2, (hw'.2.2.2.1).below h.2, (hw'.2.2.2.2.1).below h.2, on hw'.2.2.2.2.2 h.2⟩⟩
  simp only [Act.put, List.setIfInBounds_toArray, List.set_cons_zero, List.set_cons_succ]
  go_big_quiet_on
  go_big_quiet_want
  go_big_quiet_op
  go_big_quiet_on
  go_big_quiet_want
  go_big_quiet_op
  go_big_quiet_on
  go_big_quiet_want
  go_big_quiet_op
  go_big_quiet_on
  go_big_quiet_want
  refine ⟨.bool false, fun w' hw' => ?_, ?_⟩
  · go_simp
  simp only [Act.put, List.setIfInBounds_toArray, List.set_cons_zero, List.set_cons_succ]
  go_big_quiet_on
  go_big_quiet_want
  refine ⟨.bool true, fun w' hw' => ?_, ?_⟩
  · go_simp
  simp only [Act.put, List.setIfInBounds_toArray, List.set_cons_zero, List.set_cons_succ]
  go_big_quiet_on
  go_big_quiet_want
  go_big_quiet_op
  go_big_quiet_on
  go_big_quiet_want
  refine ⟨SV k.no k.hl k.ol k.lo.t k.lo.n k.lo.s k.hh k.oh k.hi.t k.hi.n k.hi.s, fun w' hw' => ?_, ?_⟩
  · obtain ⟨⟨v0, v1, v2⟩, ⟨m0, m1, m2, m3, m4, m5, m6, m7, m8, m9, m10⟩, ⟨h0, h1, h2, h3, h4, h5, h6, h7, h8, h9, h10⟩, ⟨n0, n1, n2, n3, n4, n5, n6, n7, n8, n9, n10⟩, ⟨k0, k1, k2, k3, k4, k5, k6, k7, k8, k9, k10⟩, _⟩ := hw'; rw [HM.out] at m0
    go_simp
  simp only [Act.put, List.setIfInBounds_toArray, List.set_cons_zero, List.set_cons_succ]
  go_big_quiet_on
  go_big_quiet_want
  refine ⟨V x.t x.n x.s, fun w' hw' => ?_, ?_⟩
  · obtain ⟨⟨v0, v1, v2⟩, ⟨m0, m1, m2, m3, m4, m5, m6, m7, m8, m9, m10⟩, ⟨h0, h1, h2, h3, h4, h5, h6, h7, h8, h9, h10⟩, ⟨n0, n1, n2, n3, n4, n5, n6, n7, n8, n9, n10⟩, ⟨k0, k1, k2, k3, k4, k5, k6, k7, k8, k9, k10⟩, _⟩ := hw'; rw [HM.out] at m0
    go_simp
  simp only [Act.put, List.setIfInBounds_toArray, List.set_cons_zero, List.set_cons_succ]
  go_big_quiet_on
  go_big_quiet_want
  refine ⟨.bool true, fun w' hw' => ?_, ?_⟩
  · go_simp
    exact (Kwk.out w').mono fun e w'' h => ⟨h.1, ⟨(hw'.1).below h.2, (hw'.2.1).below h.2, (hw'.2.2.1).below h.2, (hw'.2.2.2.1).below h.2, (hw'.2.2.2.2.1).below h.2, on hw'.2.2.2.2.2 h.2⟩⟩
  simp only [Act.put, List.setIfInBounds_toArray, List.set_cons_zero, List.set_cons_succ]
  go_big_quiet_on
  go_big_quiet_want
  refine ⟨SV h.no h.hl h.ol h.lo.t h.lo.n h.lo.s h.hh h.oh h.hi.t h.hi.n h.hi.s, fun w' hw' => ?_, ?_⟩
  · obtain ⟨⟨v0, v1, v2⟩, ⟨m0, m1, m2, m3, m4, m5, m6, m7, m8, m9, m10⟩, ⟨h0, h1, h2, h3, h4, h5, h6, h7, h8, h9, h10⟩, ⟨n0, n1, n2, n3, n4, n5, n6, n7, n8, n9, n10⟩, ⟨k0, k1, k2, k3, k4, k5, k6, k7, k8, k9, k10⟩, _⟩ := hw'; rw [HM.out] at m0
    go_simp
  simp only [Act.put, List.setIfInBounds_toArray, List.set_cons_zero, List.set_cons_succ]
  go_big_quiet_on
  go_big_quiet_want
  refine ⟨V x.t x.n x.s, fun w' hw' => ?_, ?_⟩
  · obtain ⟨⟨v0, v1, v2⟩, ⟨m0, m1, m2, m3, m4, m5, m6, m7, m8, m9, m10⟩, ⟨h0, h1, h2, h3, h4, h5, h6, h7, h8, h9, h10⟩, ⟨n0, n1, n2, n3, n4, n5, n6, n7, n8, n9, n10⟩, ⟨k0, k1, k2, k3, k4, k5, k6, k7, k8, k9, k10⟩, _⟩ := hw'; rw [HM.out] at m0
    go_simp
  simp only [Act.put, List.setIfInBounds_toArray, List.set_cons_zero, List.set_cons_succ]
  go_big_quiet_on
  go_big_quiet_want
  refine ⟨.bool true, fun w' hw' => ?_, ?_⟩
  · go_simp
    exact (Kwh.out w').mono fun e w'' h => ⟨h.1, ⟨(hw'.1).below h.2, (hw'.2.1).below h.2, (hw'.2.2.1).below h.2, (hw'.2.2.2.1).below h.2, (hw'.2.2.2.2.1).below h.2, on hw'.2.2.2.2.2 h.2⟩⟩
  simp only [Act.put, List.setIfInBounds_toArray, List.set_cons_zero, List.set_cons_succ]
  go_big_quiet_on
  go_big_quiet_want
  refine ⟨.bool true, fun w' hw' => ?_, ?_⟩
  · go_simp
  simp only [Act.put, List.setIfInBounds_toArray, List.set_cons_zero, List.set_cons_succ]
  go_big_quiet_on
  go_big_quiet_want
  refine ⟨.bool true, fun w' hw' => ?_, ?_⟩
  · go_simp
  simp only [Act.put, List.setIfInBounds_toArray, List.set_cons_zero, List.set_cons_succ]
  go_big_quiet_on
  go_big_quiet_want
  go_big_quiet_op
  go_big_quiet_on
  go_big_quiet_want
  refine ⟨.pointer (some ⟨w4.heap.size, 0, none⟩), fun w' hw' => ?_, ?_⟩
  · go_simp
  simp only [Act.put, List.setIfInBounds_toArray, List.set_cons_zero, List.set_cons_succ]
  go_big_quiet_on
  go_big_quiet_want
  refine ⟨.bool false, fun w' hw' => ?_, ?_⟩
  · obtain ⟨⟨v0, v1, v2⟩, ⟨m0, m1, m2, m3, m4, m5, m6, m7, m8, m9, m10⟩, ⟨h0, h1, h2, h3, h4, h5, h6, h7, h8, h9, h10⟩, ⟨n0, n1, n2, n3, n4, n5, n6, n7, n8, n9, n10⟩, ⟨k0, k1, k2, k3, k4, k5, k6, k7, k8, k9, k10⟩, _⟩ := hw'; rw [HM.out] at m0
    go_simp
  simp only [Act.put, List.setIfInBounds_toArray, List.set_cons_zero, List.set_cons_succ]
  go_big_quiet_on
  go_big_quiet_want
  refine ⟨.bool true, fun w' hw' => ?_, ?_⟩
  · go_simp
  simp only [Act.put, List.setIfInBounds_toArray, List.set_cons_zero, List.set_cons_succ]
  go_big_quiet_on
  go_big_quiet_want
  go_big_quiet_op
  go_big_quiet_on
  go_big_quiet_skip
  go_big_quiet_skip
  go_big_quiet_skip
  go_big_quiet_want
  refine ⟨.bool true, fun w' hw' => ?_, ?_⟩
  · go_simp
  simp only [Act.put, List.setIfInBounds_toArray, List.set_cons_zero, List.set_cons_succ]
  go_big_quiet_on
  go_big_quiet_want
  refine ⟨.bool true, fun w' hw' => ?_, ?_⟩
  · go_simp
  simp only [Act.put, List.setIfInBounds_toArray, List.set_cons_zero, List.set_cons_succ]
  go_big_quiet_on
  go_big_quiet_want
  go_big_quiet_op
  go_big_quiet_on
  refine wpQuiet_nil ?_
  intro w' hw'
  have HBz : Hid (Below w.heap.size w w') := hw'.2.2.2.2.2
  clear hw'
  go_wp2_with fail
  go_ret
  exact ⟨rfl, HBz.out⟩
end Go.Proofs.YtfkhfplibhnceaaDoor.Val
