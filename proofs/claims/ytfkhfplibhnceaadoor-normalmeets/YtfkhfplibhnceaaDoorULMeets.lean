/- What the law NormalMeets calls, for any two spans and a value. -/
import Derived.Test.YtfkhfplibhnceaaDoorU7
import Derived.Test.YtfkhfplibhnceaaDoorU8
namespace Go.Proofs.YtfkhfplibhnceaaDoor.Val
open Go.RowKit

structure MK (a b : Sp) (x : Val) (X Y g : Bool) (m h n k : Sp) : Prop where
  ka : ∀ w1, Calls Tryd.prog 17 #[a.val, V x.t x.n x.s] w1 fun e w' => e = .returned (.bool X) ∧ Below w1.heap.size w1 w'
  kb : ∀ w1, Calls Tryd.prog 17 #[b.val, V x.t x.n x.s] w1 fun e w' => e = .returned (.bool Y) ∧ Below w1.heap.size w1 w'
  km : ∀ w1, Calls Tryd.prog 19 #[a.val, b.val] w1 fun e w' => e = .returned m.val ∧ Below w1.heap.size w1 w'
  kh : ∀ w1, Calls Tryd.prog 21 #[a.val, b.val] w1 fun e w' => e = .returned h.val ∧ Below w1.heap.size w1 w'
  wm : ∀ w1, Calls Tryd.prog 17 #[m.val, V x.t x.n x.s] w1 fun e w' => e = .returned (.bool (X && Y)) ∧ Below w1.heap.size w1 w'
  wh : ∀ w1, Calls Tryd.prog 17 #[h.val, V x.t x.n x.s] w1 fun e w' => e = .returned (.bool g) ∧ Below w1.heap.size w1 w'
  kn : ∀ w1, Calls Tryd.prog 19 #[b.val, a.val] w1 fun e w' => e = .returned n.val ∧ Below w1.heap.size w1 w'
  kk : ∀ w1, Calls Tryd.prog 21 #[b.val, a.val] w1 fun e w' => e = .returned k.val ∧ Below w1.heap.size w1 w'
  wn : ∀ w1, Calls Tryd.prog 17 #[n.val, V x.t x.n x.s] w1 fun e w' => e = .returned (.bool (X && Y)) ∧ Below w1.heap.size w1 w'
  wk : ∀ w1, Calls Tryd.prog 17 #[k.val, V x.t x.n x.s] w1 fun e w' => e = .returned (.bool g) ∧ Below w1.heap.size w1 w'
theorem MK.of (a b : Sp) (x : Val) : MK a b x (withinS a x) (withinS b x) (withinS (hullS a b) x) (meetS a b) (hullS a b) (meetS b a) (hullS b a) :=
  ⟨fun w1 => within_any a x w1, fun w1 => within_any b x w1, fun w1 => meet_any a b w1, fun w1 => hull_any a b w1,
   fun w1 => by have := within_any (meetS a b) x w1; rw [within_meet] at this; exact this,
   fun w1 => within_any (hullS a b) x w1, fun w1 => meet_any b a w1, fun w1 => hull_any b a w1,
   fun w1 => by have := within_any (meetS b a) x w1; rw [within_meet, Bool.and_comm] at this; exact this,
   fun w1 => by have := within_any (hullS b a) x w1; rw [within_hull, hull_turn, ← within_hull] at this; exact this⟩
end Go.Proofs.YtfkhfplibhnceaaDoor.Val
/- The walk of the law NormalMeets: some of its cases. -/
namespace Go.Proofs.YtfkhfplibhnceaaDoor.Val
open Go.RowKit

set_option maxRecDepth 100000 in
set_option maxHeartbeats 8000000 in
theorem nmeets_110 (a b : Sp) (x : Val) (m h n k : Sp) (hm : m.no = false) (K : MK a b x true true true m h n k) (w : World) (hT : Tab w) : Calls Tryd.prog 7 #[a.val, b.val, V x.t x.n x.s] w fun e w' => e = .returned (.bool true) ∧ Below w.heap.size w w' := by
  have H0 : Hid (∀ w1, Below w.heap.size w w1 → Calls Tryd.prog 10 #[] w1 fun e w' => e = .returned (.bool true) ∧ Below w1.heap.size w1 w') := fun w1 hb => awake_any w1 (hT.below hb)
  have Kka : Hid (∀ w1, Calls Tryd.prog 17 #[a.val, V x.t x.n x.s] w1 fun e w' => e = .returned (.bool true) ∧ Below w1.heap.size w1 w') := K.ka
  have Kkb : Hid (∀ w1, Calls Tryd.prog 17 #[b.val, V x.t x.n x.s] w1 fun e w' => e = .returned (.bool true) ∧ Below w1.heap.size w1 w') := K.kb
  have Kkm : Hid (∀ w1, Calls Tryd.prog 19 #[a.val, b.val] w1 fun e w' => e = .returned m.val ∧ Below w1.heap.size w1 w') := K.km
  have Kkh : Hid (∀ w1, Calls Tryd.prog 21 #[a.val, b.val] w1 fun e w' => e = .returned h.val ∧ Below w1.heap.size w1 w') := K.kh
  have Kwm : Hid (∀ w1, Calls Tryd.prog 17 #[m.val, V x.t x.n x.s] w1 fun e w' => e = .returned (.bool true) ∧ Below w1.heap.size w1 w') := K.wm
  have Kwh : Hid (∀ w1, Calls Tryd.prog 17 #[h.val, V x.t x.n x.s] w1 fun e w' => e = .returned (.bool true) ∧ Below w1.heap.size w1 w') := K.wh
  have Kkn : Hid (∀ w1, Calls Tryd.prog 19 #[b.val, a.val] w1 fun e w' => e = .returned n.val ∧ Below w1.heap.size w1 w') := K.kn
  have Kkk : Hid (∀ w1, Calls Tryd.prog 21 #[b.val, a.val] w1 fun e w' => e = .returned k.val ∧ Below w1.heap.size w1 w') := K.kk
  have Kwn : Hid (∀ w1, Calls Tryd.prog 17 #[n.val, V x.t x.n x.s] w1 fun e w' => e = .returned (.bool true) ∧ Below w1.heap.size w1 w') := K.wn
  have Kwk : Hid (∀ w1, Calls Tryd.prog 17 #[k.val, V x.t x.n x.s] w1 fun e w' => e = .returned (.bool true) ∧ Below w1.heap.size w1 w') := K.wk
  have Qn : ∀ w1, (binOp .eql 35 (SV true false false false 0 ⟨#[]⟩ false false false 0 ⟨#[]⟩) (SV true false false false 0 ⟨#[]⟩ false false false 0 ⟨#[]⟩)).run Tryd.prog w1 = .ok (.bool true) w1 := fun w1 => eql_same Sp.none w1
  have HM : Hid (m.no = false) := hm
  clear hm
  clear hT K
  unfold Sp.val at *
  (try simp only [Sp.none, Val.zero] at Kkm Kwm)
  go_enter Tryd.func7, Tryd.ntmps7
  go_wp2_with fail
  refine Calls.mono (H0.out _ (back2 (alloc1 _ _))) ?_
  rintro e w1 ⟨rfl, hb⟩
  have Xa : Hid (SBox w1 (w.heap.size) a) := show SBox w1 (w.heap.size) a from ((((SBox.new w a 35).alloc _).alloc _)).below hb
  have Xb : Hid (SBox w1 (w.heap.size + 1) b) := show SBox w1 (w.heap.size + 1) b from by have := ((SBox.new (w.alloc (sobj a 35)) b 35).alloc _).below hb; simpa using this
  have Xv : Hid (VBox w1 (w.heap.size + 1 + 1) x) := show VBox w1 (w.heap.size + 1 + 1) x from by have := (VBox.new ((w.alloc (sobj a 35)).alloc (sobj b 35)) x 26).below hb; simpa using this
  have HB : Hid (Below w.heap.size w w1) := back3 hb
  clear hb
  obtain ⟨a0, a1, a2, a3, a4, a5, a6, a7, a8, a9, a10⟩ := Xa.out
  have la := Xa.out.lt
  obtain ⟨v0, v1, v2⟩ := Xv.out
  have lv := Xv.out.lt
  go_wp2_with fail
  refine Calls.mono (Kka.out _) ?_
  rintro e w2 ⟨rfl, hb⟩
  clear a0 a1 a2 a3 a4 a5 a6 a7 a8 a9 a10 la v0 v1 v2 lv
  replace Xa : Hid (SBox w2 (w.heap.size) a) := Xa.out.below hb
  replace Xb : Hid (SBox w2 (w.heap.size + 1) b) := Xb.out.below hb
  replace Xv : Hid (VBox w2 (w.heap.size + 1 + 1) x) := Xv.out.below hb
  replace HB : Hid (Below w.heap.size w w2) := on HB.out hb
  clear hb
  obtain ⟨b0, b1, b2, b3, b4, b5, b6, b7, b8, b9, b10⟩ := Xb.out
  have lb := Xb.out.lt
  obtain ⟨v0, v1, v2⟩ := Xv.out
  have lv := Xv.out.lt
  go_wp2_with fail
  refine Calls.mono (Kkb.out _) ?_
  rintro e w3 ⟨rfl, hb⟩
  clear b0 b1 b2 b3 b4 b5 b6 b7 b8 b9 b10 lb v0 v1 v2 lv
  replace Xa : Hid (SBox w3 (w.heap.size) a) := Xa.out.below hb
  replace Xb : Hid (SBox w3 (w.heap.size + 1) b) := Xb.out.below hb
  replace Xv : Hid (VBox w3 (w.heap.size + 1 + 1) x) := Xv.out.below hb
  replace HB : Hid (Below w.heap.size w w3) := on HB.out hb
  clear hb
  obtain ⟨a0, a1, a2, a3, a4, a5, a6, a7, a8, a9, a10⟩ := Xa.out
  have la := Xa.out.lt
  obtain ⟨b0, b1, b2, b3, b4, b5, b6, b7, b8, b9, b10⟩ := Xb.out
  have lb := Xb.out.lt
  go_wp2_with fail
  refine Calls.mono (Kkm.out _) ?_
  rintro e w4 ⟨rfl, hb⟩
  clear a0 a1 a2 a3 a4 a5 a6 a7 a8 a9 a10 la b0 b1 b2 b3 b4 b5 b6 b7 b8 b9 b10 lb
  replace Xa : Hid (SBox w4 (w.heap.size) a) := Xa.out.below hb
  replace Xb : Hid (SBox w4 (w.heap.size + 1) b) := Xb.out.below hb
  replace Xv : Hid (VBox w4 (w.heap.size + 1 + 1) x) := Xv.out.below hb
  replace HB : Hid (Below w.heap.size w w4) := on HB.out hb
  clear hb
  obtain ⟨a0, a1, a2, a3, a4, a5, a6, a7, a8, a9, a10⟩ := Xa.out
  have la := Xa.out.lt
  obtain ⟨b0, b1, b2, b3, b4, b5, b6, b7, b8, b9, b10⟩ := Xb.out
  have lb := Xb.out.lt
  go_wp2_with fail
  refine Calls.mono (Kkh.out _) ?_
  rintro e w5 ⟨rfl, hb⟩
  clear a0 a1 a2 a3 a4 a5 a6 a7 a8 a9 a10 la b0 b1 b2 b3 b4 b5 b6 b7 b8 b9 b10 lb
  replace Xa : Hid (SBox w5 (w.heap.size) a) := (Xa.out.alloc _).below hb
  replace Xb : Hid (SBox w5 (w.heap.size + 1) b) := (Xb.out.alloc _).below hb
  replace Xv : Hid (VBox w5 (w.heap.size + 1 + 1) x) := (Xv.out.alloc _).below hb
  have Xm : Hid (SBox w5 w4.heap.size m) := (SBox.new _ _ 35).below hb
  replace HB : Hid (Below w.heap.size w w5) := on HB.out (back1 hb)
  clear hb
  obtain ⟨v0, v1, v2⟩ := Xv.out
  have lv := Xv.out.lt
  obtain ⟨m0, m1, m2, m3, m4, m5, m6, m7, m8, m9, m10⟩ := Xm.out
  have lm := Xm.out.lt
  go_wp2_with fail
  refine Calls.mono (Kwm.out _) ?_
  rintro e w6 ⟨rfl, hb⟩
  clear v0 v1 v2 lv m0 m1 m2 m3 m4 m5 m6 m7 m8 m9 m10 lm
  replace Xa : Hid (SBox w6 (w.heap.size) a) := (Xa.out.alloc _).below hb
  replace Xb : Hid (SBox w6 (w.heap.size + 1) b) := (Xb.out.alloc _).below hb
  replace Xv : Hid (VBox w6 (w.heap.size + 1 + 1) x) := (Xv.out.alloc _).below hb
  replace Xm : Hid (SBox w6 (w4.heap.size) m) := (Xm.out.alloc _).below hb
  have Xh : Hid (SBox w6 w5.heap.size h) := (SBox.new _ _ 35).below hb
  replace HB : Hid (Below w.heap.size w w6) := on HB.out (back1 hb)
  clear hb
  obtain ⟨h0, h1, h2, h3, h4, h5, h6, h7, h8, h9, h10⟩ := Xh.out
  have lh := Xh.out.lt
  obtain ⟨v0, v1, v2⟩ := Xv.out
  have lv := Xv.out.lt
  go_wp2_with fail
  refine Calls.mono (Kwh.out _) ?_
  rintro e w7 ⟨rfl, hb⟩
  clear h0 h1 h2 h3 h4 h5 h6 h7 h8 h9 h10 lh v0 v1 v2 lv
  replace Xa : Hid (SBox w7 (w.heap.size) a) := Xa.out.below hb
  replace Xb : Hid (SBox w7 (w.heap.size + 1) b) := Xb.out.below hb
  replace Xv : Hid (VBox w7 (w.heap.size + 1 + 1) x) := Xv.out.below hb
  replace Xm : Hid (SBox w7 (w4.heap.size) m) := Xm.out.below hb
  replace Xh : Hid (SBox w7 (w5.heap.size) h) := Xh.out.below hb
  replace HB : Hid (Below w.heap.size w w7) := on HB.out hb
  clear hb
  obtain ⟨a0, a1, a2, a3, a4, a5, a6, a7, a8, a9, a10⟩ := Xa.out
  have la := Xa.out.lt
  obtain ⟨b0, b1, b2, b3, b4, b5, b6, b7, b8, b9, b10⟩ := Xb.out
  have lb := Xb.out.lt
  go_wp2_with fail
  refine Calls.mono (Kkn.out _) ?_
  rintro e w8 ⟨rfl, hb⟩
  clear a0 a1 a2 a3 a4 a5 a6 a7 a8 a9 a10 la b0 b1 b2 b3 b4 b5 b6 b7 b8 b9 b10 lb
  replace Xa : Hid (SBox w8 (w.heap.size) a) := Xa.out.below hb
  replace Xb : Hid (SBox w8 (w.heap.size + 1) b) := Xb.out.below hb
  replace Xv : Hid (VBox w8 (w.heap.size + 1 + 1) x) := Xv.out.below hb
  replace Xm : Hid (SBox w8 (w4.heap.size) m) := Xm.out.below hb
  replace Xh : Hid (SBox w8 (w5.heap.size) h) := Xh.out.below hb
  replace HB : Hid (Below w.heap.size w w8) := on HB.out hb
  clear hb
  obtain ⟨a0, a1, a2, a3, a4, a5, a6, a7, a8, a9, a10⟩ := Xa.out
  have la := Xa.out.lt
  obtain ⟨b0, b1, b2, b3, b4, b5, b6, b7, b8, b9, b10⟩ := Xb.out
  have lb := Xb.out.lt
  go_wp2_with fail
  refine Calls.mono (Kkk.out _) ?_
  rintro e w9 ⟨rfl, hb⟩
  clear a0 a1 a2 a3 a4 a5 a6 a7 a8 a9 a10 la b0 b1 b2 b3 b4 b5 b6 b7 b8 b9 b10 lb
  replace Xa : Hid (SBox w9 (w.heap.size) a) := (Xa.out.alloc _).below hb
  replace Xb : Hid (SBox w9 (w.heap.size + 1) b) := (Xb.out.alloc _).below hb
  replace Xv : Hid (VBox w9 (w.heap.size + 1 + 1) x) := (Xv.out.alloc _).below hb
  replace Xm : Hid (SBox w9 (w4.heap.size) m) := (Xm.out.alloc _).below hb
  replace Xh : Hid (SBox w9 (w5.heap.size) h) := (Xh.out.alloc _).below hb
  have Xn : Hid (SBox w9 w8.heap.size n) := (SBox.new _ _ 35).below hb
  replace HB : Hid (Below w.heap.size w w9) := on HB.out (back1 hb)
  clear hb
  have XK : Hid (∀ T, SBox (w9.alloc (sobj k T)) w9.heap.size k) := fun T => SBox.new _ _ T
  go_wp2_with fail
  (try simp only [List.append])
  refine region_cls (C := fun w' => VBox w' (w.heap.size + 1 + 1) x ∧ SBox w' (w4.heap.size) m ∧ SBox w' (w5.heap.size) h ∧ SBox w' (w8.heap.size) n ∧ SBox w' (w9.heap.size) k ∧ Below w.heap.size w w') (by kernel_rfl) (by kernel_rfl) ⟨(Xv.out.alloc _).below (Below.refl _ _).drew, (Xm.out.alloc _).below (Below.refl _ _).drew, (Xh.out.alloc _).below (Below.refl _ _).drew, (Xn.out.alloc _).below (Below.refl _ _).drew, (XK.out _).below (Below.refl _ _).drew, (on HB.out (alloc1 _ _)).drew⟩ ?_
  clear HB XK Xa Xb Xv Xm Xh Xn
  go_big_quiet_want
  refine ⟨SV n.no n.hl n.ol n.lo.t n.lo.n n.lo.s n.hh n.oh n.hi.t n.hi.n n.hi.s, fun w' hw' => ?_, ?_⟩
  · obtain ⟨⟨v0, v1, v2⟩, ⟨m0, m1, m2, m3, m4, m5, m6, m7, m8, m9, m10⟩, ⟨h0, h1, h2, h3, h4, h5, h6, h7, h8, h9, h10⟩, ⟨n0, n1, n2, n3, n4, n5, n6, n7, n8, n9, n10⟩, ⟨k0, k1, k2, k3, k4, k5, k6, k7, k8, k9, k10⟩, _⟩ := hw'; rw [HM.out] at m0
    go_simp
  simp only [Act.put, List.setIfInBounds_toArray, List.set_cons_zero, List.set_cons_succ]
  go_big_quiet_on
  go_big_quiet_want
  refine ⟨V x.t x.n x.s, fun w' hw' => ?_, ?_⟩
  · obtain ⟨⟨v0, v1, v2⟩, ⟨m0, m1, m2, m3, m4, m5, m6, m7, m8, m9, m10⟩, ⟨h0, h1, h2, h3, h4, h5, h6, h7, h8, h9, h10⟩, ⟨n0, n1, n2, n3, n4, n5, n6, n7, n8, n9, n10⟩, ⟨k0, k1, k2, k3, k4, k5, k6, k7, k8, k9, k10⟩, _⟩ := hw'; rw [HM.out] at m0
    go_simp
  simp only [Act.put, List.setIfInBounds_toArray, List.set_cons_zero, List.set_cons_succ]
  go_big_quiet_on
  go_big_quiet_want
  refine ⟨.bool true, fun w' hw' => ?_, ?_⟩
  · go_simp
    exact (Kwn.out w').mono fun e w'' h => ⟨h.1, ⟨(hw'.1).below h.2, (hw'.2.1).below h.2, (hw'.2.2.1).below h.2, (hw'.2.2.2.1).below h.2, (hw'.2.2.2.2.1).below h.2, on hw'.2.2.2.2.2 h.2⟩⟩
  simp only [Act.put, List.setIfInBounds_toArray, List.set_cons_zero, List.set_cons_succ]
  go_big_quiet_on
  go_big_quiet_want
  go_big_quiet_op
  go_big_quiet_on
  go_big_quiet_want
  go_big_quiet_op
  go_big_quiet_on
  go_big_quiet_want
  go_big_quiet_op
  go_big_quiet_on
  go_big_quiet_want
  refine ⟨.bool true, fun w' hw' => ?_, ?_⟩
  · go_simp
  simp only [Act.put, List.setIfInBounds_toArray, List.set_cons_zero, List.set_cons_succ]
  go_big_quiet_on
  go_big_quiet_want
  refine ⟨.bool true, fun w' hw' => ?_, ?_⟩
  · go_simp
  simp only [Act.put, List.setIfInBounds_toArray, List.set_cons_zero, List.set_cons_succ]
  go_big_quiet_on
  go_big_quiet_want
  go_big_quiet_op
  go_big_quiet_on
  go_big_quiet_want
  refine ⟨SV k.no k.hl k.ol k.lo.t k.lo.n k.lo.s k.hh k.oh k.hi.t k.hi.n k.hi.s, fun w' hw' => ?_, ?_⟩
  · obtain ⟨⟨v0, v1, v2⟩, ⟨m0, m1, m2, m3, m4, m5, m6, m7, m8, m9, m10⟩, ⟨h0, h1, h2, h3, h4, h5, h6, h7, h8, h9, h10⟩, ⟨n0, n1, n2, n3, n4, n5, n6, n7, n8, n9, n10⟩, ⟨k0, k1, k2, k3, k4, k5, k6, k7, k8, k9, k10⟩, _⟩ := hw'; rw [HM.out] at m0
    go_simp
  simp only [Act.put, List.setIfInBounds_toArray, List.set_cons_zero, List.set_cons_succ]
  go_big_quiet_on
  go_big_quiet_want
  refine ⟨V x.t x.n x.s, fun w' hw' => ?_, ?_⟩
  · obtain ⟨⟨v0, v1, v2⟩, ⟨m0, m1, m2, m3, m4, m5, m6, m7, m8, m9, m10⟩, ⟨h0, h1, h2, h3, h4, h5, h6, h7, h8, h9, h10⟩, ⟨n0, n1, n2, n3, n4, n5, n6, n7, n8, n9, n10⟩, ⟨k0, k1, k2, k3, k4, k5, k6, k7, k8, k9, k10⟩, _⟩ := hw'; rw [HM.out] at m0
    go_simp
  simp only [Act.put, List.setIfInBounds_toArray, List.set_cons_zero, List.set_cons_succ]
  go_big_quiet_on
  go_big_quiet_want
  refine ⟨.bool true, fun w' hw' => ?_, ?_⟩
  · go_simp
    exact (Kwk.out w').mono fun e w'' h => ⟨h.1, ⟨(hw'.1).below h.2, (hw'.2.1).below h.2, (hw'.2.2.1).below h.2, (hw'.2.2.2.1).below h.2, (hw'.2.2.2.2.1).below h.2, on hw'.2.2.2.2.2 h.2⟩⟩
  simp only [Act.put, List.setIfInBounds_toArray, List.set_cons_zero, List.set_cons_succ]
  go_big_quiet_on
  go_big_quiet_want
  refine ⟨SV h.no h.hl h.ol h.lo.t h.lo.n h.lo.s h.hh h.oh h.hi.t h.hi.n h.hi.s, fun w' hw' => ?_, ?_⟩
  · obtain ⟨⟨v0, v1, v2⟩, ⟨m0, m1, m2, m3, m4, m5, m6, m7, m8, m9, m10⟩, ⟨h0, h1, h2, h3, h4, h5, h6, h7, h8, h9, h10⟩, ⟨n0, n1, n2, n3, n4, n5, n6, n7, n8, n9, n10⟩, ⟨k0, k1, k2, k3, k4, k5, k6, k7, k8, k9, k10⟩, _⟩ := hw'; rw [HM.out] at m0
    go_simp
  simp only [Act.put, List.setIfInBounds_toArray, List.set_cons_zero, List.set_cons_succ]
  go_big_quiet_on
  go_big_quiet_want
  refine ⟨V x.t x.n x.s, fun w' hw' => ?_, ?_⟩
  · obtain ⟨⟨v0, v1, v2⟩, ⟨m0, m1, m2, m3, m4, m5, m6, m7, m8, m9, m10⟩, ⟨h0, h1, h2, h3, h4, h5, h6, h7, h8, h9, h10⟩, ⟨n0, n1, n2, n3, n4, n5, n6, n7, n8, n9, n10⟩, ⟨k0, k1, k2, k3, k4, k5, k6, k7, k8, k9, k10⟩, _⟩ := hw'; rw [HM.out] at m0
    go_simp
  simp only [Act.put, List.setIfInBounds_toArray, List.set_cons_zero, List.set_cons_succ]
  go_big_quiet_on
  go_big_quiet_want
  refine ⟨.bool true, fun w' hw' => ?_, ?_⟩
  · go_simp
    exact (Kwh.out w').mono fun e w'' h => ⟨h.1, ⟨(hw'.1).below h.2, (hw'.2.1).below h.2, (hw'.2.2.1).below h.2, (hw'.2.2.2.1).below h.2, (hw'.2.2.2.2.1).below h.2, on hw'.2.2.2.2.2 h.2⟩⟩
  simp only [Act.put, List.setIfInBounds_toArray, List.set_cons_zero, List.set_cons_succ]
  go_big_quiet_on
  go_big_quiet_want
  refine ⟨.bool true, fun w' hw' => ?_, ?_⟩
  · go_simp
  simp only [Act.put, List.setIfInBounds_toArray, List.set_cons_zero, List.set_cons_succ]
  go_big_quiet_on
  go_big_quiet_want
  refine ⟨.bool true, fun w' hw' => ?_, ?_⟩
  · go_simp
  simp only [Act.put, List.setIfInBounds_toArray, List.set_cons_zero, List.set_cons_succ]
  go_big_quiet_on
  go_big_quiet_want
  go_big_quiet_op
  go_big_quiet_on
  go_big_quiet_want
  refine ⟨.pointer (some ⟨w4.heap.size, 0, none⟩), fun w' hw' => ?_, ?_⟩
  · go_simp
  simp only [Act.put, List.setIfInBounds_toArray, List.set_cons_zero, List.set_cons_succ]
  go_big_quiet_on
  go_big_quiet_want
  refine ⟨.bool false, fun w' hw' => ?_, ?_⟩
  · obtain ⟨⟨v0, v1, v2⟩, ⟨m0, m1, m2, m3, m4, m5, m6, m7, m8, m9, m10⟩, ⟨h0, h1, h2, h3, h4, h5, h6, h7, h8, h9, h10⟩, ⟨n0, n1, n2, n3, n4, n5, n6, n7, n8, n9, n10⟩, ⟨k0, k1, k2, k3, k4, k5, k6, k7, k8, k9, k10⟩, _⟩ := hw'; rw [HM.out] at m0
    go_simp
  simp only [Act.put, List.setIfInBounds_toArray, List.set_cons_zero, List.set_cons_succ]
  go_big_quiet_on
  go_big_quiet_want
  refine ⟨.bool true, fun w' hw' => ?_, ?_⟩
  · go_simp
  simp only [Act.put, List.setIfInBounds_toArray, List.set_cons_zero, List.set_cons_succ]
  go_big_quiet_on
  go_big_quiet_want
  go_big_quiet_op
  go_big_quiet_on
  go_big_quiet_skip
  go_big_quiet_skip
  go_big_quiet_skip
  go_big_quiet_want
  refine ⟨.bool true, fun w' hw' => ?_, ?_⟩
  · go_simp
  simp only [Act.put, List.setIfInBounds_toArray, List.set_cons_zero, List.set_cons_succ]
  go_big_quiet_on
  go_big_quiet_want
  refine ⟨.bool true, fun w' hw' => ?_, ?_⟩
  · go_simp
  simp only [Act.put, List.setIfInBounds_toArray, List.set_cons_zero, List.set_cons_succ]
  go_big_quiet_on
  go_big_quiet_want
  go_big_quiet_op
  go_big_quiet_on
  refine wpQuiet_nil ?_
  intro w' hw'
  have HBz : Hid (Below w.heap.size w w') := hw'.2.2.2.2.2
  clear hw'
  go_wp2_with fail
  go_ret
  exact ⟨rfl, HBz.out⟩
set_option maxRecDepth 100000 in
set_option maxHeartbeats 8000000 in
theorem nmeets_100 (a b : Sp) (x : Val) (m h n k : Sp) (hm : m.no = false) (K : MK a b x true false true m h n k) (w : World) (hT : Tab w) : Calls Tryd.prog 7 #[a.val, b.val, V x.t x.n x.s] w fun e w' => e = .returned (.bool true) ∧ Below w.heap.size w w' := by
  have H0 : Hid (∀ w1, Below w.heap.size w w1 → Calls Tryd.prog 10 #[] w1 fun e w' => e = .returned (.bool true) ∧ Below w1.heap.size w1 w') := fun w1 hb => awake_any w1 (hT.below hb)
  have Kka : Hid (∀ w1, Calls Tryd.prog 17 #[a.val, V x.t x.n x.s] w1 fun e w' => e = .returned (.bool true) ∧ Below w1.heap.size w1 w') := K.ka
  have Kkb : Hid (∀ w1, Calls Tryd.prog 17 #[b.val, V x.t x.n x.s] w1 fun e w' => e = .returned (.bool false) ∧ Below w1.heap.size w1 w') := K.kb
  have Kkm : Hid (∀ w1, Calls Tryd.prog 19 #[a.val, b.val] w1 fun e w' => e = .returned m.val ∧ Below w1.heap.size w1 w') := K.km
  have Kkh : Hid (∀ w1, Calls Tryd.prog 21 #[a.val, b.val] w1 fun e w' => e = .returned h.val ∧ Below w1.heap.size w1 w') := K.kh
  have Kwm : Hid (∀ w1, Calls Tryd.prog 17 #[m.val, V x.t x.n x.s] w1 fun e w' => e = .returned (.bool false) ∧ Below w1.heap.size w1 w') := K.wm
  have Kwh : Hid (∀ w1, Calls Tryd.prog 17 #[h.val, V x.t x.n x.s] w1 fun e w' => e = .returned (.bool true) ∧ Below w1.heap.size w1 w') := K.wh
  have Kkn : Hid (∀ w1, Calls Tryd.prog 19 #[b.val, a.val] w1 fun e w' => e = .returned n.val ∧ Below w1.heap.size w1 w') := K.kn
  have Kkk : Hid (∀ w1, Calls Tryd.prog 21 #[b.val, a.val] w1 fun e w' => e = .returned k.val ∧ Below w1.heap.size w1 w') := K.kk
  have Kwn : Hid (∀ w1, Calls Tryd.prog 17 #[n.val, V x.t x.n x.s] w1 fun e w' => e = .returned (.bool false) ∧ Below w1.heap.size w1 w') := K.wn
  have Kwk : Hid (∀ w1, Calls Tryd.prog 17 #[k.val, V x.t x.n x.s] w1 fun e w' => e = .returned (.bool true) ∧ Below w1.heap.size w1 w') := K.wk
  have Qn : ∀ w1, (binOp .eql 35 (SV true false false false 0 ⟨#[]⟩ false false false 0 ⟨#[]⟩) (SV true false false false 0 ⟨#[]⟩ false false false 0 ⟨#[]⟩)).run Tryd.prog w1 = .ok (.bool true) w1 := fun w1 => eql_same Sp.none w1
  have HM : Hid (m.no = false) := hm
  clear hm
  clear hT K
  unfold Sp.val at *
  (try simp only [Sp.none, Val.zero] at Kkm Kwm)
  go_enter Tryd.func7, Tryd.ntmps7
  go_wp2_with fail
  refine Calls.mono (H0.out _ (back2 (alloc1 _ _))) ?_
  rintro e w1 ⟨rfl, hb⟩
  have Xa : Hid (SBox w1 (w.heap.size) a) := show SBox w1 (w.heap.size) a from ((((SBox.new w a 35).alloc _).alloc _)).below hb
  have Xb : Hid (SBox w1 (w.heap.size + 1) b) := show SBox w1 (w.heap.size + 1) b from by have := ((SBox.new (w.alloc (sobj a 35)) b 35).alloc _).below hb; simpa using this
  have Xv : Hid (VBox w1 (w.heap.size + 1 + 1) x) := show VBox w1 (w.heap.size + 1 + 1) x from by have := (VBox.new ((w.alloc (sobj a 35)).alloc (sobj b 35)) x 26).below hb; simpa using this
  have HB : Hid (Below w.heap.size w w1) := back3 hb
  clear hb
  obtain ⟨a0, a1, a2, a3, a4, a5, a6, a7, a8, a9, a10⟩ := Xa.out
  have la := Xa.out.lt
  obtain ⟨v0, v1, v2⟩ := Xv.out
  have lv := Xv.out.lt
  go_wp2_with fail
  refine Calls.mono (Kka.out _) ?_
  rintro e w2 ⟨rfl, hb⟩
  clear a0 a1 a2 a3 a4 a5 a6 a7 a8 a9 a10 la v0 v1 v2 lv
  replace Xa : Hid (SBox w2 (w.heap.size) a) := Xa.out.below hb
  replace Xb : Hid (SBox w2 (w.heap.size + 1) b) := Xb.out.below hb
  replace Xv : Hid (VBox w2 (w.heap.size + 1 + 1) x) := Xv.out.below hb
  replace HB : Hid (Below w.heap.size w w2) := on HB.out hb
  clear hb
  obtain ⟨b0, b1, b2, b3, b4, b5, b6, b7, b8, b9, b10⟩ := Xb.out
  have lb := Xb.out.lt
  obtain ⟨v0, v1, v2⟩ := Xv.out
  have lv := Xv.out.lt
  go_wp2_with fail
  refine Calls.mono (Kkb.out _) ?_
  rintro e w3 ⟨rfl, hb⟩
  clear b0 b1 b2 b3 b4 b5 b6 b7 b8 b9 b10 lb v0 v1 v2 lv
  replace Xa : Hid (SBox w3 (w.heap.size) a) := Xa.out.below hb
  replace Xb : Hid (SBox w3 (w.heap.size + 1) b) := Xb.out.below hb
  replace Xv : Hid (VBox w3 (w.heap.size + 1 + 1) x) := Xv.out.below hb
  replace HB : Hid (Below w.heap.size w w3) := on HB.out hb
  clear hb
  obtain ⟨a0, a1, a2, a3, a4, a5, a6, a7, a8, a9, a10⟩ := Xa.out
  have la := Xa.out.lt
  obtain ⟨b0, b1, b2, b3, b4, b5, b6, b7, b8, b9, b10⟩ := Xb.out
  have lb := Xb.out.lt
  go_wp2_with fail
  refine Calls.mono (Kkm.out _) ?_
  rintro e w4 ⟨rfl, hb⟩
  clear a0 a1 a2 a3 a4 a5 a6 a7 a8 a9 a10 la b0 b1 b2 b3 b4 b5 b6 b7 b8 b9 b10 lb
  replace Xa : Hid (SBox w4 (w.heap.size) a) := Xa.out.below hb
  replace Xb : Hid (SBox w4 (w.heap.size + 1) b) := Xb.out.below hb
  replace Xv : Hid (VBox w4 (w.heap.size + 1 + 1) x) := Xv.out.below hb
  replace HB : Hid (Below w.heap.size w w4) := on HB.out hb
  clear hb
  obtain ⟨a0, a1, a2, a3, a4, a5, a6, a7, a8, a9, a10⟩ := Xa.out
  have la := Xa.out.lt
  obtain ⟨b0, b1, b2, b3, b4, b5, b6, b7, b8, b9, b10⟩ := Xb.out
  have lb := Xb.out.lt
  go_wp2_with fail
  refine Calls.mono (Kkh.out _) ?_
  rintro e w5 ⟨rfl, hb⟩
  clear a0 a1 a2 a3 a4 a5 a6 a7 a8 a9 a10 la b0 b1 b2 b3 b4 b5 b6 b7 b8 b9 b10 lb
  replace Xa : Hid (SBox w5 (w.heap.size) a) := (Xa.out.alloc _).below hb
  replace Xb : Hid (SBox w5 (w.heap.size + 1) b) := (Xb.out.alloc _).below hb
  replace Xv : Hid (VBox w5 (w.heap.size + 1 + 1) x) := (Xv.out.alloc _).below hb
  have Xm : Hid (SBox w5 w4.heap.size m) := (SBox.new _ _ 35).below hb
  replace HB : Hid (Below w.heap.size w w5) := on HB.out (back1 hb)
  clear hb
  obtain ⟨v0, v1, v2⟩ := Xv.out
  have lv := Xv.out.lt
  obtain ⟨m0, m1, m2, m3, m4, m5, m6, m7, m8, m9, m10⟩ := Xm.out
  have lm := Xm.out.lt
  go_wp2_with fail
  refine Calls.mono (Kwm.out _) ?_
  rintro e w6 ⟨rfl, hb⟩
  clear v0 v1 v2 lv m0 m1 m2 m3 m4 m5 m6 m7 m8 m9 m10 lm
  replace Xa : Hid (SBox w6 (w.heap.size) a) := (Xa.out.alloc _).below hb
  replace Xb : Hid (SBox w6 (w.heap.size + 1) b) := (Xb.out.alloc _).below hb
  replace Xv : Hid (VBox w6 (w.heap.size + 1 + 1) x) := (Xv.out.alloc _).below hb
  replace Xm : Hid (SBox w6 (w4.heap.size) m) := (Xm.out.alloc _).below hb
  have Xh : Hid (SBox w6 w5.heap.size h) := (SBox.new _ _ 35).below hb
  replace HB : Hid (Below w.heap.size w w6) := on HB.out (back1 hb)
  clear hb
  obtain ⟨h0, h1, h2, h3, h4, h5, h6, h7, h8, h9, h10⟩ := Xh.out
  have lh := Xh.out.lt
  obtain ⟨v0, v1, v2⟩ := Xv.out
  have lv := Xv.out.lt
  go_wp2_with fail
  refine Calls.mono (Kwh.out _) ?_
  rintro e w7 ⟨rfl, hb⟩
  clear h0 h1 h2 h3 h4 h5 h6 h7 h8 h9 h10 lh v0 v1 v2 lv
  replace Xa : Hid (SBox w7 (w.heap.size) a) := Xa.out.below hb
  replace Xb : Hid (SBox w7 (w.heap.size + 1) b) := Xb.out.below hb
  replace Xv : Hid (VBox w7 (w.heap.size + 1 + 1) x) := Xv.out.below hb
  replace Xm : Hid (SBox w7 (w4.heap.size) m) := Xm.out.below hb
  replace Xh : Hid (SBox w7 (w5.heap.size) h) := Xh.out.below hb
  replace HB : Hid (Below w.heap.size w w7) := on HB.out hb
  clear hb
  obtain ⟨a0, a1, a2, a3, a4, a5, a6, a7, a8, a9, a10⟩ := Xa.out
  have la := Xa.out.lt
  obtain ⟨b0, b1, b2, b3, b4, b5, b6, b7, b8, b9, b10⟩ := Xb.out
  have lb := Xb.out.lt
  go_wp2_with fail
  refine Calls.mono (Kkn.out _) ?_
  rintro e w8 ⟨rfl, hb⟩
  clear a0 a1 a2 a3 a4 a5 a6 a7 a8 a9 a10 la b0 b1 b2 b3 b4 b5 b6 b7 b8 b9 b10 lb
  replace Xa : Hid (SBox w8 (w.heap.size) a) := Xa.out.below hb
  replace Xb : Hid (SBox w8 (w.heap.size + 1) b) := Xb.out.below hb
  replace Xv : Hid (VBox w8 (w.heap.size + 1 + 1) x) := Xv.out.below hb
  replace Xm : Hid (SBox w8 (w4.heap.size) m) := Xm.out.below hb
  replace Xh : Hid (SBox w8 (w5.heap.size) h) := Xh.out.below hb
  replace HB : Hid (Below w.heap.size w w8) := on HB.out hb
  clear hb
  obtain ⟨a0, a1, a2, a3, a4, a5, a6, a7, a8, a9, a10⟩ := Xa.out
  have la := Xa.out.lt
  obtain ⟨b0, b1, b2, b3, b4, b5, b6, b7, b8, b9, b10⟩ := Xb.out
  have lb := Xb.out.lt
  go_wp2_with fail
  refine Calls.mono (Kkk.out _) ?_
  rintro e w9 ⟨rfl, hb⟩
  clear a0 a1 a2 a3 a4 a5 a6 a7 a8 a9 a10 la b0 b1 b2 b3 b4 b5 b6 b7 b8 b9 b10 lb
  replace Xa : Hid (SBox w9 (w.heap.size) a) := (Xa.out.alloc _).below hb
  replace Xb : Hid (SBox w9 (w.heap.size + 1) b) := (Xb.out.alloc _).below hb
  replace Xv : Hid (VBox w9 (w.heap.size + 1 + 1) x) := (Xv.out.alloc _).below hb
  replace Xm : Hid (SBox w9 (w4.heap.size) m) := (Xm.out.alloc _).below hb
  replace Xh : Hid (SBox w9 (w5.heap.size) h) := (Xh.out.alloc _).below hb
  have Xn : Hid (SBox w9 w8.heap.size n) := (SBox.new _ _ 35).below hb
  replace HB : Hid (Below w.heap.size w w9) := on HB.out (back1 hb)
  clear hb
  have XK : Hid (∀ T, SBox (w9.alloc (sobj k T)) w9.heap.size k) := fun T => SBox.new _ _ T
  go_wp2_with fail
  (try simp only [List.append])
  refine region_cls (C := fun w' => VBox w' (w.heap.size + 1 + 1) x ∧ SBox w' (w4.heap.size) m ∧ SBox w' (w5.heap.size) h ∧ SBox w' (w8.heap.size) n ∧ SBox w' (w9.heap.size) k ∧ Below w.heap.size w w') (by kernel_rfl) (by kernel_rfl) ⟨(Xv.out.alloc _).below (Below.refl _ _).drew, (Xm.out.alloc _).below (Below.refl _ _).drew, (Xh.out.alloc _).below (Below.refl _ _).drew, (Xn.out.alloc _).below (Below.refl _ _).drew, (XK.out _).below (Below.refl _ _).drew, (on HB.out (alloc1 _ _)).drew⟩ ?_
  clear HB XK Xa Xb Xv Xm Xh Xn
  go_big_quiet_want
  refine ⟨SV n.no n.hl n.ol n.lo.t n.lo.n n.lo.s n.hh n.oh n.hi.t n.hi.n n.hi.s, fun w' hw' => ?_, ?_⟩
  · obtain ⟨⟨v0, v1, v2⟩, ⟨m0, m1, m2, m3, m4, m5, m6, m7, m8, m9, m10⟩, ⟨h0, h1, h2, h3, h4, h5, h6, h7, h8, h9, h10⟩, ⟨n0, n1, n2, n3, n4, n5, n6, n7, n8, n9, n10⟩, ⟨k0, k1, k2, k3, k4, k5, k6, k7, k8, k9, k10⟩, _⟩ := hw'; rw [HM.out] at m0
    go_simp
  simp only [Act.put, List.setIfInBounds_toArray, List.set_cons_zero, List.set_cons_succ]
  go_big_quiet_on
  go_big_quiet_want
  refine ⟨V x.t x.n x.s, fun w' hw' => ?_, ?_⟩
  · obtain ⟨⟨v0, v1, v2⟩, ⟨m0, m1, m2, m3, m4, m5, m6, m7, m8, m9, m10⟩, ⟨h0, h1, h2, h3, h4, h5, h6, h7, h8, h9, h10⟩, ⟨n0, n1, n2, n3, n4, n5, n6, n7, n8, n9, n10⟩, ⟨k0, k1, k2, k3, k4, k5, k6, k7, k8, k9, k10⟩, _⟩ := hw'; rw [HM.out] at m0
    go_simp
  simp only [Act.put, List.setIfInBounds_toArray, List.set_cons_zero, List.set_cons_succ]
  go_big_quiet_on
  go_big_quiet_want
  refine ⟨.bool false, fun w' hw' => ?_, ?_⟩
  · go_simp
    exact (Kwn.out w').mono fun e w'' h => ⟨h.1, ⟨(hw'.1).below h.2, (hw'.2.1).below h.2, (hw'.2.2.1).below h.2, (hw'.2.2.2.1).below h.2, (hw'.2.2.2.2.1).below h.2, on hw'.2.2.2.2.2 h.2⟩⟩
  simp only [Act.put, List.setIfInBounds_toArray, List.set_cons_zero, List.set_cons_succ]
  go_big_quiet_on
  go_big_quiet_want
  go_big_quiet_op
  go_big_quiet_on
  go_big_quiet_want
  go_big_quiet_op
  go_big_quiet_on
  go_big_quiet_want
  go_big_quiet_op
  go_big_quiet_on
  go_big_quiet_want
  refine ⟨.bool false, fun w' hw' => ?_, ?_⟩
  · go_simp
  simp only [Act.put, List.setIfInBounds_toArray, List.set_cons_zero, List.set_cons_succ]
  go_big_quiet_on
  go_big_quiet_want
  refine ⟨.bool true, fun w' hw' => ?_, ?_⟩
  · go_simp
  simp only [Act.put, List.setIfInBounds_toArray, List.set_cons_zero, List.set_cons_succ]
  go_big_quiet_on
  go_big_quiet_want
  go_big_quiet_op
  go_big_quiet_on
  go_big_quiet_want
  refine ⟨SV k.no k.hl k.ol k.lo.t k.lo.n k.lo.s k.hh k.oh k.hi.t k.hi.n k.hi.s, fun w' hw' => ?_, ?_⟩
  · obtain ⟨⟨v0, v1, v2⟩, ⟨m0, m1, m2, m3, m4, m5, m6, m7, m8, m9, m10⟩, ⟨h0, h1, h2, h3, h4, h5, h6, h7, h8, h9, h10⟩, ⟨n0, n1, n2, n3, n4, n5, n6, n7, n8, n9, n10⟩, ⟨k0, k1, k2, k3, k4, k5, k6, k7, k8, k9, k10⟩, _⟩ := hw'; rw [HM.out] at m0
    go_simp
  simp only [Act.put, List.setIfInBounds_toArray, List.set_cons_zero, List.set_cons_succ]
  go_big_quiet_on
  go_big_quiet_want
  refine ⟨V x.t x.n x.s, fun w' hw' => ?_, ?_⟩
  · obtain ⟨⟨v0, v1, v2⟩, ⟨m0, m1, m2, m3, m4, m5, m6, m7, m8, m9, m10⟩, ⟨h0, h1, h2, h3, h4, h5, h6, h7, h8, h9, h10⟩, ⟨n0, n1, n2, n3, n4, n5, n6, n7, n8, n9, n10⟩, ⟨k0, k1, k2, k3, k4, k5, k6, k7, k8, k9, k10⟩, _⟩ := hw'; rw [HM.out] at m0
    go_simp
  simp only [Act.put, List.setIfInBounds_toArray, List.set_cons_zero, List.set_cons_succ]
  go_big_quiet_on
  go_big_quiet_want
  refine ⟨.bool true, fun w' hw' => ?_, ?_⟩
  · go_simp
    exact (Kwk.out w').mono fun e w'' h => ⟨h.1, ⟨(hw'.1).below h.2, (hw'.2.1).below h.2, (hw'.2.2.1).below h.2, (hw'.2.2.2.1).below h.2, (hw'.2.2.2.2.1).below h.2, on hw'.2.2.2.2.2 h.2⟩⟩
  simp only [Act.put, List.setIfInBounds_toArray, List.set_cons_zero, List.set_cons_succ]
  go_big_quiet_on
  go_big_quiet_want
  refine ⟨SV h.no h.hl h.ol h.lo.t h.lo.n h.lo.s h.hh h.oh h.hi.t h.hi.n h.hi.s, fun w' hw' => ?_, ?_⟩
  · obtain ⟨⟨v0, v1, v2⟩, ⟨m0, m1, m2, m3, m4, m5, m6, m7, m8, m9, m10⟩, ⟨h0, h1, h2, h3, h4, h5, h6, h7, h8, h9, h10⟩, ⟨n0, n1, n2, n3, n4, n5, n6, n7, n8, n9, n10⟩, ⟨k0, k1, k2, k3, k4, k5, k6, k7, k8, k9, k10⟩, _⟩ := hw'; rw [HM.out] at m0
    go_simp
  simp only [Act.put, List.setIfInBounds_toArray, List.set_cons_zero, List.set_cons_succ]
  go_big_quiet_on
  go_big_quiet_want
  refine ⟨V x.t x.n x.s, fun w' hw' => ?_, ?_⟩
  · obtain ⟨⟨v0, v1, v2⟩, ⟨m0, m1, m2, m3, m4, m5, m6, m7, m8, m9, m10⟩, ⟨h0, h1, h2, h3, h4, h5, h6, h7, h8, h9, h10⟩, ⟨n0, n1, n2, n3, n4, n5, n6, n7, n8, n9, n10⟩, ⟨k0, k1, k2, k3, k4, k5, k6, k7, k8, k9, k10⟩, _⟩ := hw'; rw [HM.out] at m0
    go_simp
  simp only [Act.put, List.setIfInBounds_toArray, List.set_cons_zero, List.set_cons_succ]
  go_big_quiet_on
  go_big_quiet_want
  refine ⟨.bool true, fun w' hw' => ?_, ?_⟩
  · go_simp
    exact (Kwh.out w').mono fun e w'' h => ⟨h.1, ⟨(hw'.1).below h.2, (hw'.2.1).below h.2, (hw'.2.2.1).below h.2, (hw'.2.2.2.1).below h.2, (hw'.2.2.2.2.1).below h.2, on hw'.2.2.2.2.2 h.2⟩⟩
  simp only [Act.put, List.setIfInBounds_toArray, List.set_cons_zero, List.set_cons_succ]
  go_big_quiet_on
  go_big_quiet_want
  refine ⟨.bool true, fun w' hw' => ?_, ?_⟩
  · go_simp
  simp only [Act.put, List.setIfInBounds_toArray, List.set_cons_zero, List.set_cons_succ]
  go_big_quiet_on
  go_big_quiet_want
  refine ⟨.bool true, fun w' hw' => ?_, ?_⟩
  · go_simp
  simp only [Act.put, List.setIfInBounds_toArray, List.set_cons_zero, List.set_cons_succ]
  go_big_quiet_on
  go_big_quiet_want
  go_big_quiet_op
  go_big_quiet_on
  go_big_quiet_want
  refine ⟨.pointer (some ⟨w4.heap.size, 0, none⟩), fun w' hw' => ?_, ?_⟩
  · go_simp
  simp only [Act.put, List.setIfInBounds_toArray, List.set_cons_zero, List.set_cons_succ]
  go_big_quiet_on
  go_big_quiet_want
  refine ⟨.bool false, fun w' hw' => ?_, ?_⟩
  · obtain ⟨⟨v0, v1, v2⟩, ⟨m0, m1, m2, m3, m4, m5, m6, m7, m8, m9, m10⟩, ⟨h0, h1, h2, h3, h4, h5, h6, h7, h8, h9, h10⟩, ⟨n0, n1, n2, n3, n4, n5, n6, n7, n8, n9, n10⟩, ⟨k0, k1, k2, k3, k4, k5, k6, k7, k8, k9, k10⟩, _⟩ := hw'; rw [HM.out] at m0
    go_simp
  simp only [Act.put, List.setIfInBounds_toArray, List.set_cons_zero, List.set_cons_succ]
  go_big_quiet_on
  go_big_quiet_want
  refine ⟨.bool true, fun w' hw' => ?_, ?_⟩
  · go_simp
  simp only [Act.put, List.setIfInBounds_toArray, List.set_cons_zero, List.set_cons_succ]
  go_big_quiet_on
  go_big_quiet_want
  go_big_quiet_op
  go_big_quiet_on
  go_big_quiet_skip
  go_big_quiet_skip
  go_big_quiet_skip
  go_big_quiet_want
  refine ⟨.bool true, fun w' hw' => ?_, ?_⟩
  · go_simp
  simp only [Act.put, List.setIfInBounds_toArray, List.set_cons_zero, List.set_cons_succ]
  go_big_quiet_on
  go_big_quiet_want
  refine ⟨.bool true, fun w' hw' => ?_, ?_⟩
  · go_simp
  simp only [Act.put, List.setIfInBounds_toArray, List.set_cons_zero, List.set_cons_succ]
  go_big_quiet_on
  go_big_quiet_want
  go_big_quiet_op
  go_big_quiet_on
  refine wpQuiet_nil ?_
  intro w' hw'
  have HBz : Hid (Below w.heap.size w w') := hw'.2.2.2.2.2
  clear hw'
  go_wp2_with fail
  go_ret
  exact ⟨rfl, HBz.out⟩
end Go.Proofs.YtfkhfplibhnceaaDoor.Val
/- The walk of the law NormalMeets: some of its cases. -/
namespace Go.Proofs.YtfkhfplibhnceaaDoor.Val
open Go.RowKit

set_option maxRecDepth 100000 in
set_option maxHeartbeats 8000000 in
theorem nmeets_101 (a b : Sp) (x : Val) (h n k : Sp) (K : MK a b x true false true Sp.none h n k) (w : World) (hT : Tab w) : Calls Tryd.prog 7 #[a.val, b.val, V x.t x.n x.s] w fun e w' => e = .returned (.bool true) ∧ Below w.heap.size w w' := by
  have H0 : Hid (∀ w1, Below w.heap.size w w1 → Calls Tryd.prog 10 #[] w1 fun e w' => e = .returned (.bool true) ∧ Below w1.heap.size w1 w') := fun w1 hb => awake_any w1 (hT.below hb)
  have Kka : Hid (∀ w1, Calls Tryd.prog 17 #[a.val, V x.t x.n x.s] w1 fun e w' => e = .returned (.bool true) ∧ Below w1.heap.size w1 w') := K.ka
  have Kkb : Hid (∀ w1, Calls Tryd.prog 17 #[b.val, V x.t x.n x.s] w1 fun e w' => e = .returned (.bool false) ∧ Below w1.heap.size w1 w') := K.kb
  have Kkm : Hid (∀ w1, Calls Tryd.prog 19 #[a.val, b.val] w1 fun e w' => e = .returned Sp.none.val ∧ Below w1.heap.size w1 w') := K.km
  have Kkh : Hid (∀ w1, Calls Tryd.prog 21 #[a.val, b.val] w1 fun e w' => e = .returned h.val ∧ Below w1.heap.size w1 w') := K.kh
  have Kwm : Hid (∀ w1, Calls Tryd.prog 17 #[Sp.none.val, V x.t x.n x.s] w1 fun e w' => e = .returned (.bool false) ∧ Below w1.heap.size w1 w') := K.wm
  have Kwh : Hid (∀ w1, Calls Tryd.prog 17 #[h.val, V x.t x.n x.s] w1 fun e w' => e = .returned (.bool true) ∧ Below w1.heap.size w1 w') := K.wh
  have Kkn : Hid (∀ w1, Calls Tryd.prog 19 #[b.val, a.val] w1 fun e w' => e = .returned n.val ∧ Below w1.heap.size w1 w') := K.kn
  have Kkk : Hid (∀ w1, Calls Tryd.prog 21 #[b.val, a.val] w1 fun e w' => e = .returned k.val ∧ Below w1.heap.size w1 w') := K.kk
  have Kwn : Hid (∀ w1, Calls Tryd.prog 17 #[n.val, V x.t x.n x.s] w1 fun e w' => e = .returned (.bool false) ∧ Below w1.heap.size w1 w') := K.wn
  have Kwk : Hid (∀ w1, Calls Tryd.prog 17 #[k.val, V x.t x.n x.s] w1 fun e w' => e = .returned (.bool true) ∧ Below w1.heap.size w1 w') := K.wk
  have Qn : ∀ w1, (binOp .eql 35 (SV true false false false 0 ⟨#[]⟩ false false false 0 ⟨#[]⟩) (SV true false false false 0 ⟨#[]⟩ false false false 0 ⟨#[]⟩)).run Tryd.prog w1 = .ok (.bool true) w1 := fun w1 => eql_same Sp.none w1
  clear hT K
  unfold Sp.val at *
  (try simp only [Sp.none, Val.zero] at Kkm Kwm)
  go_enter Tryd.func7, Tryd.ntmps7
  go_wp2_with fail
  refine Calls.mono (H0.out _ (back2 (alloc1 _ _))) ?_
  rintro e w1 ⟨rfl, hb⟩
  have Xa : Hid (SBox w1 (w.heap.size) a) := show SBox w1 (w.heap.size) a from ((((SBox.new w a 35).alloc _).alloc _)).below hb
  have Xb : Hid (SBox w1 (w.heap.size + 1) b) := show SBox w1 (w.heap.size + 1) b from by have := ((SBox.new (w.alloc (sobj a 35)) b 35).alloc _).below hb; simpa using this
  have Xv : Hid (VBox w1 (w.heap.size + 1 + 1) x) := show VBox w1 (w.heap.size + 1 + 1) x from by have := (VBox.new ((w.alloc (sobj a 35)).alloc (sobj b 35)) x 26).below hb; simpa using this
  have HB : Hid (Below w.heap.size w w1) := back3 hb
  clear hb
  obtain ⟨a0, a1, a2, a3, a4, a5, a6, a7, a8, a9, a10⟩ := Xa.out
  have la := Xa.out.lt
  obtain ⟨v0, v1, v2⟩ := Xv.out
  have lv := Xv.out.lt
  go_wp2_with fail
  refine Calls.mono (Kka.out _) ?_
  rintro e w2 ⟨rfl, hb⟩
  clear a0 a1 a2 a3 a4 a5 a6 a7 a8 a9 a10 la v0 v1 v2 lv
  replace Xa : Hid (SBox w2 (w.heap.size) a) := Xa.out.below hb
  replace Xb : Hid (SBox w2 (w.heap.size + 1) b) := Xb.out.below hb
  replace Xv : Hid (VBox w2 (w.heap.size + 1 + 1) x) := Xv.out.below hb
  replace HB : Hid (Below w.heap.size w w2) := on HB.out hb
  clear hb
  obtain ⟨b0, b1, b2, b3, b4, b5, b6, b7, b8, b9, b10⟩ := Xb.out
  have lb := Xb.out.lt
  obtain ⟨v0, v1, v2⟩ := Xv.out
  have lv := Xv.out.lt
  go_wp2_with fail
  refine Calls.mono (Kkb.out _) ?_
  rintro e w3 ⟨rfl, hb⟩
  clear b0 b1 b2 b3 b4 b5 b6 b7 b8 b9 b10 lb v0 v1 v2 lv
  replace Xa : Hid (SBox w3 (w.heap.size) a) := Xa.out.below hb
  replace Xb : Hid (SBox w3 (w.heap.size + 1) b) := Xb.out.below hb
  replace Xv : Hid (VBox w3 (w.heap.size + 1 + 1) x) := Xv.out.below hb
  replace HB : Hid (Below w.heap.size w w3) := on HB.out hb
  clear hb
  obtain ⟨a0, a1, a2, a3, a4, a5, a6, a7, a8, a9, a10⟩ := Xa.out
  have la := Xa.out.lt
  obtain ⟨b0, b1, b2, b3, b4, b5, b6, b7, b8, b9, b10⟩ := Xb.out
  have lb := Xb.out.lt
  go_wp2_with fail
  refine Calls.mono (Kkm.out _) ?_
  rintro e w4 ⟨rfl, hb⟩
  clear a0 a1 a2 a3 a4 a5 a6 a7 a8 a9 a10 la b0 b1 b2 b3 b4 b5 b6 b7 b8 b9 b10 lb
  replace Xa : Hid (SBox w4 (w.heap.size) a) := Xa.out.below hb
  replace Xb : Hid (SBox w4 (w.heap.size + 1) b) := Xb.out.below hb
  replace Xv : Hid (VBox w4 (w.heap.size + 1 + 1) x) := Xv.out.below hb
  replace HB : Hid (Below w.heap.size w w4) := on HB.out hb
  clear hb
  obtain ⟨a0, a1, a2, a3, a4, a5, a6, a7, a8, a9, a10⟩ := Xa.out
  have la := Xa.out.lt
  obtain ⟨b0, b1, b2, b3, b4, b5, b6, b7, b8, b9, b10⟩ := Xb.out
  have lb := Xb.out.lt
  go_wp2_with fail
  refine Calls.mono (Kkh.out _) ?_
  rintro e w5 ⟨rfl, hb⟩
  clear a0 a1 a2 a3 a4 a5 a6 a7 a8 a9 a10 la b0 b1 b2 b3 b4 b5 b6 b7 b8 b9 b10 lb
  replace Xa : Hid (SBox w5 (w.heap.size) a) := (Xa.out.alloc _).below hb
  replace Xb : Hid (SBox w5 (w.heap.size + 1) b) := (Xb.out.alloc _).below hb
  replace Xv : Hid (VBox w5 (w.heap.size + 1 + 1) x) := (Xv.out.alloc _).below hb
  have Xm : Hid (SBox w5 w4.heap.size Sp.none) := (SBox.new _ _ 35).below hb
  replace HB : Hid (Below w.heap.size w w5) := on HB.out (back1 hb)
  clear hb
  obtain ⟨v0, v1, v2⟩ := Xv.out
  have lv := Xv.out.lt
  obtain ⟨m0, m1, m2, m3, m4, m5, m6, m7, m8, m9, m10⟩ := Xm.out
  have lm := Xm.out.lt
  simp only [Sp.none, Val.zero] at m0 m1 m2 m3 m4 m5 m6 m7 m8 m9 m10
  go_wp2_with fail
  refine Calls.mono (Kwm.out _) ?_
  rintro e w6 ⟨rfl, hb⟩
  clear v0 v1 v2 lv m0 m1 m2 m3 m4 m5 m6 m7 m8 m9 m10 lm
  replace Xa : Hid (SBox w6 (w.heap.size) a) := (Xa.out.alloc _).below hb
  replace Xb : Hid (SBox w6 (w.heap.size + 1) b) := (Xb.out.alloc _).below hb
  replace Xv : Hid (VBox w6 (w.heap.size + 1 + 1) x) := (Xv.out.alloc _).below hb
  replace Xm : Hid (SBox w6 (w4.heap.size) Sp.none) := (Xm.out.alloc _).below hb
  have Xh : Hid (SBox w6 w5.heap.size h) := (SBox.new _ _ 35).below hb
  replace HB : Hid (Below w.heap.size w w6) := on HB.out (back1 hb)
  clear hb
  obtain ⟨h0, h1, h2, h3, h4, h5, h6, h7, h8, h9, h10⟩ := Xh.out
  have lh := Xh.out.lt
  obtain ⟨v0, v1, v2⟩ := Xv.out
  have lv := Xv.out.lt
  go_wp2_with fail
  refine Calls.mono (Kwh.out _) ?_
  rintro e w7 ⟨rfl, hb⟩
  clear h0 h1 h2 h3 h4 h5 h6 h7 h8 h9 h10 lh v0 v1 v2 lv
  replace Xa : Hid (SBox w7 (w.heap.size) a) := Xa.out.below hb
  replace Xb : Hid (SBox w7 (w.heap.size + 1) b) := Xb.out.below hb
  replace Xv : Hid (VBox w7 (w.heap.size + 1 + 1) x) := Xv.out.below hb
  replace Xm : Hid (SBox w7 (w4.heap.size) Sp.none) := Xm.out.below hb
  replace Xh : Hid (SBox w7 (w5.heap.size) h) := Xh.out.below hb
  replace HB : Hid (Below w.heap.size w w7) := on HB.out hb
  clear hb
  obtain ⟨a0, a1, a2, a3, a4, a5, a6, a7, a8, a9, a10⟩ := Xa.out
  have la := Xa.out.lt
  obtain ⟨b0, b1, b2, b3, b4, b5, b6, b7, b8, b9, b10⟩ := Xb.out
  have lb := Xb.out.lt
  go_wp2_with fail
  refine Calls.mono (Kkn.out _) ?_
  rintro e w8 ⟨rfl, hb⟩
  clear a0 a1 a2 a3 a4 a5 a6 a7 a8 a9 a10 la b0 b1 b2 b3 b4 b5 b6 b7 b8 b9 b10 lb
  replace Xa : Hid (SBox w8 (w.heap.size) a) := Xa.out.below hb
  replace Xb : Hid (SBox w8 (w.heap.size + 1) b) := Xb.out.below hb
  replace Xv : Hid (VBox w8 (w.heap.size + 1 + 1) x) := Xv.out.below hb
  replace Xm : Hid (SBox w8 (w4.heap.size) Sp.none) := Xm.out.below hb
  replace Xh : Hid (SBox w8 (w5.heap.size) h) := Xh.out.below hb
  replace HB : Hid (Below w.heap.size w w8) := on HB.out hb
  clear hb
  obtain ⟨a0, a1, a2, a3, a4, a5, a6, a7, a8, a9, a10⟩ := Xa.out
  have la := Xa.out.lt
  obtain ⟨b0, b1, b2, b3, b4, b5, b6, b7, b8, b9, b10⟩ := Xb.out
  have lb := Xb.out.lt
  go_wp2_with fail
  refine Calls.mono (Kkk.out _) ?_
  rintro e w9 ⟨rfl, hb⟩
  clear a0 a1 a2 a3 a4 a5 a6 a7 a8 a9 a10 la b0 b1 b2 b3 b4 b5 b6 b7 b8 b9 b10 lb
  replace Xa : Hid (SBox w9 (w.heap.size) a) := (Xa.out.alloc _).below hb
  replace Xb : Hid (SBox w9 (w.heap.size + 1) b) := (Xb.out.alloc _).below hb
  replace Xv : Hid (VBox w9 (w.heap.size + 1 + 1) x) := (Xv.out.alloc _).below hb
  replace Xm : Hid (SBox w9 (w4.heap.size) Sp.none) := (Xm.out.alloc _).below hb
  replace Xh : Hid (SBox w9 (w5.heap.size) h) := (Xh.out.alloc _).below hb
  have Xn : Hid (SBox w9 w8.heap.size n) := (SBox.new _ _ 35).below hb
  replace HB : Hid (Below w.heap.size w w9) := on HB.out (back1 hb)
  clear hb
  have XK : Hid (∀ T, SBox (w9.alloc (sobj k T)) w9.heap.size k) := fun T => SBox.new _ _ T
  go_wp2_with fail
  (try simp only [List.append])
  refine region_cls (C := fun w' => VBox w' (w.heap.size + 1 + 1) x ∧ SBox w' (w4.heap.size) Sp.none ∧ SBox w' (w5.heap.size) h ∧ SBox w' (w8.heap.size) n ∧ SBox w' (w9.heap.size) k ∧ Below w.heap.size w w') (by kernel_rfl) (by kernel_rfl) ⟨(Xv.out.alloc _).below (Below.refl _ _).drew, (Xm.out.alloc _).below (Below.refl _ _).drew, (Xh.out.alloc _).below (Below.refl _ _).drew, (Xn.out.alloc _).below (Below.refl _ _).drew, (XK.out _).below (Below.refl _ _).drew, (on HB.out (alloc1 _ _)).drew⟩ ?_
  clear HB XK Xa Xb Xv Xm Xh Xn
  go_big_quiet_want
  refine ⟨SV n.no n.hl n.ol n.lo.t n.lo.n n.lo.s n.hh n.oh n.hi.t n.hi.n n.hi.s, fun w' hw' => ?_, ?_⟩
  · obtain ⟨⟨v0, v1, v2⟩, ⟨m0, m1, m2, m3, m4, m5, m6, m7, m8, m9, m10⟩, ⟨h0, h1, h2, h3, h4, h5, h6, h7, h8, h9, h10⟩, ⟨n0, n1, n2, n3, n4, n5, n6, n7, n8, n9, n10⟩, ⟨k0, k1, k2, k3, k4, k5, k6, k7, k8, k9, k10⟩, _⟩ := hw'; simp only [Sp.none, Val.zero] at *
    go_simp
  simp only [Act.put, List.setIfInBounds_toArray, List.set_cons_zero, List.set_cons_succ]
  go_big_quiet_on
  go_big_quiet_want
  refine ⟨V x.t x.n x.s, fun w' hw' => ?_, ?_⟩
  · obtain ⟨⟨v0, v1, v2⟩, ⟨m0, m1, m2, m3, m4, m5, m6, m7, m8, m9, m10⟩, ⟨h0, h1, h2, h3, h4, h5, h6, h7, h8, h9, h10⟩, ⟨n0, n1, n2, n3, n4, n5, n6, n7, n8, n9, n10⟩, ⟨k0, k1, k2, k3, k4, k5, k6, k7, k8, k9, k10⟩, _⟩ := hw'; simp only [Sp.none, Val.zero] at *
    go_simp
  simp only [Act.put, List.setIfInBounds_toArray, List.set_cons_zero, List.set_cons_succ]
  go_big_quiet_on
  go_big_quiet_want
  refine ⟨.bool false, fun w' hw' => ?_, ?_⟩
  · go_simp
    exact (Kwn.out w').mono fun e w'' h => ⟨h.1, ⟨(hw'.1).below h.2, (hw'.2.1).below h.2, (hw'.2.2.1).below h.2, (hw'.2.2.2.1).below h.2, (hw'.2.2.2.2.1).below h.2, on hw'.2.2.2.2.2 h.2⟩⟩
  simp only [Act.put, List.setIfInBounds_toArray, List.set_cons_zero, List.set_cons_succ]
  go_big_quiet_on
  go_big_quiet_want
  go_big_quiet_op
  go_big_quiet_on
  go_big_quiet_want
  go_big_quiet_op
  go_big_quiet_on
  go_big_quiet_want
  go_big_quiet_op
  go_big_quiet_on
  go_big_quiet_want
  refine ⟨.bool false, fun w' hw' => ?_, ?_⟩
  · go_simp
  simp only [Act.put, List.setIfInBounds_toArray, List.set_cons_zero, List.set_cons_succ]
  go_big_quiet_on
  go_big_quiet_want
  refine ⟨.bool true, fun w' hw' => ?_, ?_⟩
  · go_simp
  simp only [Act.put, List.setIfInBounds_toArray, List.set_cons_zero, List.set_cons_succ]
  go_big_quiet_on
  go_big_quiet_want
  go_big_quiet_op
  go_big_quiet_on
  go_big_quiet_want
  refine ⟨SV k.no k.hl k.ol k.lo.t k.lo.n k.lo.s k.hh k.oh k.hi.t k.hi.n k.hi.s, fun w' hw' => ?_, ?_⟩
  · obtain ⟨⟨v0, v1, v2⟩, ⟨m0, m1, m2, m3, m4, m5, m6, m7, m8, m9, m10⟩, ⟨h0, h1, h2, h3, h4, h5, h6, h7, h8, h9, h10⟩, ⟨n0, n1, n2, n3, n4, n5, n6, n7, n8, n9, n10⟩, ⟨k0, k1, k2, k3, k4, k5, k6, k7, k8, k9, k10⟩, _⟩ := hw'; simp only [Sp.none, Val.zero] at *
    go_simp
  simp only [Act.put, List.setIfInBounds_toArray, List.set_cons_zero, List.set_cons_succ]
  go_big_quiet_on
  go_big_quiet_want
  refine ⟨V x.t x.n x.s, fun w' hw' => ?_, ?_⟩
  · obtain ⟨⟨v0, v1, v2⟩, ⟨m0, m1, m2, m3, m4, m5, m6, m7, m8, m9, m10⟩, ⟨h0, h1, h2, h3, h4, h5, h6, h7, h8, h9, h10⟩, ⟨n0, n1, n2, n3, n4, n5, n6, n7, n8, n9, n10⟩, ⟨k0, k1, k2, k3, k4, k5, k6, k7, k8, k9, k10⟩, _⟩ := hw'; simp only [Sp.none, Val.zero] at *
    go_simp
  simp only [Act.put, List.setIfInBounds_toArray, List.set_cons_zero, List.set_cons_succ]
  go_big_quiet_on
  go_big_quiet_want
  refine ⟨.bool true, fun w' hw' => ?_, ?_⟩
  · go_simp
    exact (Kwk.out w').mono fun e w'' h => ⟨h.1, ⟨(hw'.1).below h.2, (hw'.2.1).below h.2, (hw'.2.2.1).below h.2, (hw'.2.2.2.1).below h.2, (hw'.2.2.2.2.1).below h.2, on hw'.2.2.2.2.2 h.2⟩⟩
  simp only [Act.put, List.setIfInBounds_toArray, List.set_cons_zero, List.set_cons_succ]
  go_big_quiet_on
  go_big_quiet_want
  refine ⟨SV h.no h.hl h.ol h.lo.t h.lo.n h.lo.s h.hh h.oh h.hi.t h.hi.n h.hi.s, fun w' hw' => ?_, ?_⟩
  · obtain ⟨⟨v0, v1, v2⟩, ⟨m0, m1, m2, m3, m4, m5, m6, m7, m8, m9, m10⟩, ⟨h0, h1, h2, h3, h4, h5, h6, h7, h8, h9, h10⟩, ⟨n0, n1, n2, n3, n4, n5, n6, n7, n8, n9, n10⟩, ⟨k0, k1, k2, k3, k4, k5, k6, k7, k8, k9, k10⟩, _⟩ := hw'; simp only [Sp.none, Val.zero] at *
    go_simp
  simp only [Act.put, List.setIfInBounds_toArray, List.set_cons_zero, List.set_cons_succ]
  go_big_quiet_on
  go_big_quiet_want
  refine ⟨V x.t x.n x.s, fun w' hw' => ?_, ?_⟩
  · obtain ⟨⟨v0, v1, v2⟩, ⟨m0, m1, m2, m3, m4, m5, m6, m7, m8, m9, m10⟩, ⟨h0, h1, h2, h3, h4, h5, h6, h7, h8, h9, h10⟩, ⟨n0, n1, n2, n3, n4, n5, n6, n7, n8, n9, n10⟩, ⟨k0, k1, k2, k3, k4, k5, k6, k7, k8, k9, k10⟩, _⟩ := hw'; simp only [Sp.none, Val.zero] at *
    go_simp
  simp only [Act.put, List.setIfInBounds_toArray, List.set_cons_zero, List.set_cons_succ]
  go_big_quiet_on
  go_big_quiet_want
  refine ⟨.bool true, fun w' hw' => ?_, ?_⟩
  · go_simp
    exact (Kwh.out w').mono fun e w'' h => ⟨h.1, ⟨(hw'.1).below h.2, (hw'.2.1).below h.2, (hw'.2.2.1).below h.2, (hw'.2.2.2.1).below h.2, (hw'.2.2.2.2.1).below h.2, on hw'.2.2.2.2.2 h.2⟩⟩
  simp only [Act.put, List.setIfInBounds_toArray, List.set_cons_zero, List.set_cons_succ]
  go_big_quiet_on
  go_big_quiet_want
  refine ⟨.bool true, fun w' hw' => ?_, ?_⟩
  · go_simp
  simp only [Act.put, List.setIfInBounds_toArray, List.set_cons_zero, List.set_cons_succ]
  go_big_quiet_on
  go_big_quiet_want
  refine ⟨.bool true, fun w' hw' => ?_, ?_⟩
  · go_simp
  simp only [Act.put, List.setIfInBounds_toArray, List.set_cons_zero, List.set_cons_succ]
  go_big_quiet_on
  go_big_quiet_want
  go_big_quiet_op
  go_big_quiet_on
  go_big_quiet_want
  refine ⟨.pointer (some ⟨w4.heap.size, 0, none⟩), fun w' hw' => ?_, ?_⟩
  · go_simp
  simp only [Act.put, List.setIfInBounds_toArray, List.set_cons_zero, List.set_cons_succ]
  go_big_quiet_on
  go_big_quiet_want
  refine ⟨.bool true, fun w' hw' => ?_, ?_⟩
  · obtain ⟨⟨v0, v1, v2⟩, ⟨m0, m1, m2, m3, m4, m5, m6, m7, m8, m9, m10⟩, ⟨h0, h1, h2, h3, h4, h5, h6, h7, h8, h9, h10⟩, ⟨n0, n1, n2, n3, n4, n5, n6, n7, n8, n9, n10⟩, ⟨k0, k1, k2, k3, k4, k5, k6, k7, k8, k9, k10⟩, _⟩ := hw'; simp only [Sp.none, Val.zero] at *
    go_simp
  simp only [Act.put, List.setIfInBounds_toArray, List.set_cons_zero, List.set_cons_succ]
  go_big_quiet_on
  go_big_quiet_want
  refine ⟨.bool false, fun w' hw' => ?_, ?_⟩
  · go_simp
  simp only [Act.put, List.setIfInBounds_toArray, List.set_cons_zero, List.set_cons_succ]
  go_big_quiet_on
  go_big_quiet_want
  go_big_quiet_op
  go_big_quiet_on
  go_big_quiet_want
  refine ⟨SV true false false false 0 ⟨#[]⟩ false false false 0 ⟨#[]⟩, fun w' hw' => ?_, ?_⟩
  · obtain ⟨⟨v0, v1, v2⟩, ⟨m0, m1, m2, m3, m4, m5, m6, m7, m8, m9, m10⟩, ⟨h0, h1, h2, h3, h4, h5, h6, h7, h8, h9, h10⟩, ⟨n0, n1, n2, n3, n4, n5, n6, n7, n8, n9, n10⟩, ⟨k0, k1, k2, k3, k4, k5, k6, k7, k8, k9, k10⟩, _⟩ := hw'; simp only [Sp.none, Val.zero] at *
    go_simp
  simp only [Act.put, List.setIfInBounds_toArray, List.set_cons_zero, List.set_cons_succ]
  go_big_quiet_on
  go_big_quiet_want
  refine ⟨SV true false false false 0 ⟨#[]⟩ false false false 0 ⟨#[]⟩, fun w' hw' => ?_, ?_⟩
  · go_simp
  simp only [Act.put, List.setIfInBounds_toArray, List.set_cons_zero, List.set_cons_succ]
  go_big_quiet_on
  go_big_quiet_want
  refine ⟨.bool true, fun w' hw' => ?_, ?_⟩
  · go_simp
  simp only [Act.put, List.setIfInBounds_toArray, List.set_cons_zero, List.set_cons_succ]
  go_big_quiet_on
  go_big_quiet_want
  refine ⟨.bool true, fun w' hw' => ?_, ?_⟩
  · go_simp
  simp only [Act.put, List.setIfInBounds_toArray, List.set_cons_zero, List.set_cons_succ]
  go_big_quiet_on
  go_big_quiet_want
  refine ⟨.bool true, fun w' hw' => ?_, ?_⟩
  · go_simp
  simp only [Act.put, List.setIfInBounds_toArray, List.set_cons_zero, List.set_cons_succ]
  go_big_quiet_on
  go_big_quiet_want
  go_big_quiet_op
  go_big_quiet_on
  refine wpQuiet_nil ?_
  intro w' hw'
  have HBz : Hid (Below w.heap.size w w') := hw'.2.2.2.2.2
  clear hw'
  go_wp2_with fail
  go_ret
  exact ⟨rfl, HBz.out⟩
set_option maxRecDepth 100000 in
set_option maxHeartbeats 8000000 in
theorem nmeets_010 (a b : Sp) (x : Val) (m h n k : Sp) (hm : m.no = false) (K : MK a b x false true true m h n k) (w : World) (hT : Tab w) : Calls Tryd.prog 7 #[a.val, b.val, V x.t x.n x.s] w fun e w' => e = .returned (.bool true) ∧ Below w.heap.size w w' := by
  have H0 : Hid (∀ w1, Below w.heap.size w w1 → Calls Tryd.prog 10 #[] w1 fun e w' => e = .returned (.bool true) ∧ Below w1.heap.size w1 w') := fun w1 hb => awake_any w1 (hT.below hb)
  have Kka : Hid (∀ w1, Calls Tryd.prog 17 #[a.val, V x.t x.n x.s] w1 fun e w' => e = .returned (.bool false) ∧ Below w1.heap.size w1 w') := K.ka
  have Kkb : Hid (∀ w1, Calls Tryd.prog 17 #[b.val, V x.t x.n x.s] w1 fun e w' => e = .returned (.bool true) ∧ Below w1.heap.size w1 w') := K.kb
  have Kkm : Hid (∀ w1, Calls Tryd.prog 19 #[a.val, b.val] w1 fun e w' => e = .returned m.val ∧ Below w1.heap.size w1 w') := K.km
  have Kkh : Hid (∀ w1, Calls Tryd.prog 21 #[a.val, b.val] w1 fun e w' => e = .returned h.val ∧ Below w1.heap.size w1 w') := K.kh
  have Kwm : Hid (∀ w1, Calls Tryd.prog 17 #[m.val, V x.t x.n x.s] w1 fun e w' => e = .returned (.bool false) ∧ Below w1.heap.size w1 w') := K.wm
  have Kwh : Hid (∀ w1, Calls Tryd.prog 17 #[h.val, V x.t x.n x.s] w1 fun e w' => e = .returned (.bool true) ∧ Below w1.heap.size w1 w') := K.wh
  have Kkn : Hid (∀ w1, Calls Tryd.prog 19 #[b.val, a.val] w1 fun e w' => e = .returned n.val ∧ Below w1.heap.size w1 w') := K.kn
  have Kkk : Hid (∀ w1, Calls Tryd.prog 21 #[b.val, a.val] w1 fun e w' => e = .returned k.val ∧ Below w1.heap.size w1 w') := K.kk
  have Kwn : Hid (∀ w1, Calls Tryd.prog 17 #[n.val, V x.t x.n x.s] w1 fun e w' => e = .returned (.bool false) ∧ Below w1.heap.size w1 w') := K.wn
  have Kwk : Hid (∀ w1, Calls Tryd.prog 17 #[k.val, V x.t x.n x.s] w1 fun e w' => e = .returned (.bool true) ∧ Below w1.heap.size w1 w') := K.wk
  have Qn : ∀ w1, (binOp .eql 35 (SV true false false false 0 ⟨#[]⟩ false false false 0 ⟨#[]⟩) (SV true false false false 0 ⟨#[]⟩ false false false 0 ⟨#[]⟩)).run Tryd.prog w1 = .ok (.bool true) w1 := fun w1 => eql_same Sp.none w1
  have HM : Hid (m.no = false) := hm
  clear hm
  clear hT K
  unfold Sp.val at *
  (try simp only [Sp.none, Val.zero] at Kkm Kwm)
  go_enter Tryd.func7, Tryd.ntmps7
  go_wp2_with fail
  refine Calls.mono (H0.out _ (back2 (alloc1 _ _))) ?_
  rintro e w1 ⟨rfl, hb⟩
  have Xa : Hid (SBox w1 (w.heap.size) a) := show SBox w1 (w.heap.size) a from ((((SBox.new w a 35).alloc _).alloc _)).below hb
  have Xb : Hid (SBox w1 (w.heap.size + 1) b) := show SBox w1 (w.heap.size + 1) b from by have := ((SBox.new (w.alloc (sobj a 35)) b 35).alloc _).below hb; simpa using this
  have Xv : Hid (VBox w1 (w.heap.size + 1 + 1) x) := show VBox w1 (w.heap.size + 1 + 1) x from by have := (VBox.new ((w.alloc (sobj a 35)).alloc (sobj b 35)) x 26).below hb; simpa using this
  have HB : Hid (Below w.heap.size w w1) := back3 hb
  clear hb
  obtain ⟨a0, a1, a2, a3, a4, a5, a6, a7, a8, a9, a10⟩ := Xa.out
  have la := Xa.out.lt
  obtain ⟨v0, v1, v2⟩ := Xv.out
  have lv := Xv.out.lt
  go_wp2_with fail
  refine Calls.mono (Kka.out _) ?_
  rintro e w2 ⟨rfl, hb⟩
  clear a0 a1 a2 a3 a4 a5 a6 a7 a8 a9 a10 la v0 v1 v2 lv
  replace Xa : Hid (SBox w2 (w.heap.size) a) := Xa.out.below hb
  replace Xb : Hid (SBox w2 (w.heap.size + 1) b) := Xb.out.below hb
  replace Xv : Hid (VBox w2 (w.heap.size + 1 + 1) x) := Xv.out.below hb
  replace HB : Hid (Below w.heap.size w w2) := on HB.out hb
  clear hb
  obtain ⟨b0, b1, b2, b3, b4, b5, b6, b7, b8, b9, b10⟩ := Xb.out
  have lb := Xb.out.lt
  obtain ⟨v0, v1, v2⟩ := Xv.out
  have lv := Xv.out.lt
  go_wp2_with fail
  refine Calls.mono (Kkb.out _) ?_
  rintro e w3 ⟨rfl, hb⟩
  clear b0 b1 b2 b3 b4 b5 b6 b7 b8 b9 b10 lb v0 v1 v2 lv
  replace Xa : Hid (SBox w3 (w.heap.size) a) := Xa.out.below hb
  replace Xb : Hid (SBox w3 (w.heap.size + 1) b) := Xb.out.below hb
  replace Xv : Hid (VBox w3 (w.heap.size + 1 + 1) x) := Xv.out.below hb
  replace HB : Hid (Below w.heap.size w w3) := on HB.out hb
  clear hb
  obtain ⟨a0, a1, a2, a3, a4, a5, a6, a7, a8, a9, a10⟩ := Xa.out
  have la := Xa.out.lt
  obtain ⟨b0, b1, b2, b3, b4, b5, b6, b7, b8, b9, b10⟩ := Xb.out
  have lb := Xb.out.lt
  go_wp2_with fail
  refine Calls.mono (Kkm.out _) ?_
  rintro e w4 ⟨rfl, hb⟩
  clear a0 a1 a2 a3 a4 a5 a6 a7 a8 a9 a10 la b0 b1 b2 b3 b4 b5 b6 b7 b8 b9 b10 lb
  replace Xa : Hid (SBox w4 (w.heap.size) a) := Xa.out.below hb
  replace Xb : Hid (SBox w4 (w.heap.size + 1) b) := Xb.out.below hb
  replace Xv : Hid (VBox w4 (w.heap.size + 1 + 1) x) := Xv.out.below hb
  replace HB : Hid (Below w.heap.size w w4) := on HB.out hb
  clear hb
  obtain ⟨a0, a1, a2, a3, a4, a5, a6, a7, a8, a9, a10⟩ := Xa.out
  have la := Xa.out.lt
  obtain ⟨b0, b1, b2, b3, b4, b5, b6, b7, b8, b9, b10⟩ := Xb.out
  have lb := Xb.out.lt
  go_wp2_with fail
  refine Calls.mono (Kkh.out _) ?_
  rintro e w5 ⟨rfl, hb⟩
  clear a0 a1 a2 a3 a4 a5 a6 a7 a8 a9 a10 la b0 b1 b2 b3 b4 b5 b6 b7 b8 b9 b10 lb
  replace Xa : Hid (SBox w5 (w.heap.size) a) := (Xa.out.alloc _).below hb
  replace Xb : Hid (SBox w5 (w.heap.size + 1) b) := (Xb.out.alloc _).below hb
  replace Xv : Hid (VBox w5 (w.heap.size + 1 + 1) x) := (Xv.out.alloc _).below hb
  have Xm : Hid (SBox w5 w4.heap.size m) := (SBox.new _ _ 35).below hb
  replace HB : Hid (Below w.heap.size w w5) := on HB.out (back1 hb)
  clear hb
  obtain ⟨v0, v1, v2⟩ := Xv.out
  have lv := Xv.out.lt
  obtain ⟨m0, m1, m2, m3, m4, m5, m6, m7, m8, m9, m10⟩ := Xm.out
  have lm := Xm.out.lt
  go_wp2_with fail
  refine Calls.mono (Kwm.out _) ?_
  rintro e w6 ⟨rfl, hb⟩
  clear v0 v1 v2 lv m0 m1 m2 m3 m4 m5 m6 m7 m8 m9 m10 lm
  replace Xa : Hid (SBox w6 (w.heap.size) a) := (Xa.out.alloc _).below hb
  replace Xb : Hid (SBox w6 (w.heap.size + 1) b) := (Xb.out.alloc _).below hb
  replace Xv : Hid (VBox w6 (w.heap.size + 1 + 1) x) := (Xv.out.alloc _).below hb
  replace Xm : Hid (SBox w6 (w4.heap.size) m) := (Xm.out.alloc _).below hb
  have Xh : Hid (SBox w6 w5.heap.size h) := (SBox.new _ _ 35).below hb
  replace HB : Hid (Below w.heap.size w w6) := on HB.out (back1 hb)
  clear hb
  obtain ⟨h0, h1, h2, h3, h4, h5, h6, h7, h8, h9, h10⟩ := Xh.out
  have lh := Xh.out.lt
  obtain ⟨v0, v1, v2⟩ := Xv.out
  have lv := Xv.out.lt
  go_wp2_with fail
  refine Calls.mono (Kwh.out _) ?_
  rintro e w7 ⟨rfl, hb⟩
  clear h0 h1 h2 h3 h4 h5 h6 h7 h8 h9 h10 lh v0 v1 v2 lv
  replace Xa : Hid (SBox w7 (w.heap.size) a) := Xa.out.below hb
  replace Xb : Hid (SBox w7 (w.heap.size + 1) b) := Xb.out.below hb
  replace Xv : Hid (VBox w7 (w.heap.size + 1 + 1) x) := Xv.out.below hb
  replace Xm : Hid (SBox w7 (w4.heap.size) m) := Xm.out.below hb
  replace Xh : Hid (SBox w7 (w5.heap.size) h) := Xh.out.below hb
  replace HB : Hid (Below w.heap.size w w7) := on HB.out hb
  clear hb
  obtain ⟨a0, a1, a2, a3, a4, a5, a6, a7, a8, a9, a10⟩ := Xa.out
  have la := Xa.out.lt
  obtain ⟨b0, b1, b2, b3, b4, b5, b6, b7, b8, b9, b10⟩ := Xb.out
  have lb := Xb.out.lt
  go_wp2_with fail
  refine Calls.mono (Kkn.out _) ?_
  rintro e w8 ⟨rfl, hb⟩
  clear a0 a1 a2 a3 a4 a5 a6 a7 a8 a9 a10 la b0 b1 b2 b3 b4 b5 b6 b7 b8 b9 b10 lb
  replace Xa : Hid (SBox w8 (w.heap.size) a) := Xa.out.below hb
  replace Xb : Hid (SBox w8 (w.heap.size + 1) b) := Xb.out.below hb
  replace Xv : Hid (VBox w8 (w.heap.size + 1 + 1) x) := Xv.out.below hb
  replace Xm : Hid (SBox w8 (w4.heap.size) m) := Xm.out.below hb
  replace Xh : Hid (SBox w8 (w5.heap.size) h) := Xh.out.below hb
  replace HB : Hid (Below w.heap.size w w8) := on HB.out hb
  clear hb
  obtain ⟨a0, a1, a2, a3, a4, a5, a6, a7, a8, a9, a10⟩ := Xa.out
  have la := Xa.out.lt
  obtain ⟨b0, b1, b2, b3, b4, b5, b6, b7, b8, b9, b10⟩ := Xb.out
  have lb := Xb.out.lt
  go_wp2_with fail
  refine Calls.mono (Kkk.out _) ?_
  rintro e w9 ⟨rfl, hb⟩
  clear a0 a1 a2 a3 a4 a5 a6 a7 a8 a9 a10 la b0 b1 b2 b3 b4 b5 b6 b7 b8 b9 b10 lb
  replace Xa : Hid (SBox w9 (w.heap.size) a) := (Xa.out.alloc _).below hb
  replace Xb : Hid (SBox w9 (w.heap.size + 1) b) := (Xb.out.alloc _).below hb
  replace Xv : Hid (VBox w9 (w.heap.size + 1 + 1) x) := (Xv.out.alloc _).below hb
  replace Xm : Hid (SBox w9 (w4.heap.size) m) := (Xm.out.alloc _).below hb
  replace Xh : Hid (SBox w9 (w5.heap.size) h) := (Xh.out.alloc _).below hb
  have Xn : Hid (SBox w9 w8.heap.size n) := (SBox.new _ _ 35).below hb
  replace HB : Hid (Below w.heap.size w w9) := on HB.out (back1 hb)
  clear hb
  have XK : Hid (∀ T, SBox (w9.alloc (sobj k T)) w9.heap.size k) := fun T => SBox.new _ _ T
  go_wp2_with fail
  (try simp only [List.append])
  refine region_cls (C := fun w' => VBox w' (w.heap.size + 1 + 1) x ∧ SBox w' (w4.heap.size) m ∧ SBox w' (w5.heap.size) h ∧ SBox w' (w8.heap.size) n ∧ SBox w' (w9.heap.size) k ∧ Below w.heap.size w w') (by kernel_rfl) (by kernel_rfl) ⟨(Xv.out.alloc _).below (Below.refl _ _).drew, (Xm.out.alloc _).below (Below.refl _ _).drew, (Xh.out.alloc _).below (Below.refl _ _).drew, (Xn.out.alloc _).below (Below.refl _ _).drew, (XK.out _).below (Below.refl _ _).drew, (on HB.out (alloc1 _ _)).drew⟩ ?_
  clear HB XK Xa Xb Xv Xm Xh Xn
  go_big_quiet_want
  refine ⟨SV n.no n.hl n.ol n.lo.t n.lo.n n.lo.s n.hh n.oh n.hi.t n.hi.n n.hi.s, fun w' hw' => ?_, ?_⟩
  · obtain ⟨⟨v0, v1, v2⟩, ⟨m0, m1, m2, m3, m4, m5, m6, m7, m8, m9, m10⟩, ⟨h0, h1, h2, h3, h4, h5, h6, h7, h8, h9, h10⟩, ⟨n0, n1, n2, n3, n4, n5, n6, n7, n8, n9, n10⟩, ⟨k0, k1, k2, k3, k4, k5, k6, k7, k8, k9, k10⟩, _⟩ := hw'; rw [HM.out] at m0
    go_simp
  simp only [Act.put, List.setIfInBounds_toArray, List.set_cons_zero, List.set_cons_succ]
  go_big_quiet_on
  go_big_quiet_want
  refine ⟨V x.t x.n x.s, fun w' hw' => ?_, ?_⟩
  · obtain ⟨⟨v0, v1, v2⟩, ⟨m0, m1, m2, m3, m4, m5, m6, m7, m8, m9, m10⟩, ⟨h0, h1, h2, h3, h4, h5, h6, h7, h8, h9, h10⟩, ⟨n0, n1, n2, n3, n4, n5, n6, n7, n8, n9, n10⟩, ⟨k0, k1, k2, k3, k4, k5, k6, k7, k8, k9, k10⟩, _⟩ := hw'; rw [HM.out] at m0
    go_simp
  simp only [Act.put, List.setIfInBounds_toArray, List.set_cons_zero, List.set_cons_succ]
  go_big_quiet_on
  go_big_quiet_want
  refine ⟨.bool false, fun w' hw' => ?_, ?_⟩
  · go_simp
    exact (Kwn.out w').mono fun e w'' h => ⟨h.1, ⟨(hw'.1).below h.2, (hw'.2.1).below h.2, (hw'.2.2.1).below h.2, (hw'.2.2.2.1).below h.2, (hw'.2.2.2.2.1).below h.2, on hw'.2.2.2.2.2 h.2⟩⟩
  simp only [Act.put, List.setIfInBounds_toArray, List.set_cons_zero, List.set_cons_succ]
  go_big_quiet_on
  go_big_quiet_want
  go_big_quiet_op
  go_big_quiet_on
  go_big_quiet_want
  go_big_quiet_op
  go_big_quiet_on
  go_big_quiet_skip
  go_big_quiet_want
  refine ⟨.bool false, fun w' hw' => ?_, ?_⟩
  · go_simp
  simp only [Act.put, List.setIfInBounds_toArray, List.set_cons_zero, List.set_cons_succ]
  go_big_quiet_on
  go_big_quiet_want
  refine ⟨.bool true, fun w' hw' => ?_, ?_⟩
  · go_simp
  simp only [Act.put, List.setIfInBounds_toArray, List.set_cons_zero, List.set_cons_succ]
  go_big_quiet_on
  go_big_quiet_want
  go_big_quiet_op
  go_big_quiet_on
  go_big_quiet_want
  refine ⟨SV k.no k.hl k.ol k.lo.t k.lo.n k.lo.s k.hh k.oh k.hi.t k.hi.n k.hi.s, fun w' hw' => ?_, ?_⟩
  · obtain ⟨⟨v0, v1, v2⟩, ⟨m0, m1, m2, m3, m4, m5, m6, m7, m8, m9, m10⟩, ⟨h0, h1, h2, h3, h4, h5, h6, h7, h8, h9, h10⟩, ⟨n0, n1, n2, n3, n4, n5, n6, n7, n8, n9, n10⟩, ⟨k0, k1, k2, k3, k4, k5, k6, k7, k8, k9, k10⟩, _⟩ := hw'; rw [HM.out] at m0
    go_simp
  simp only [Act.put, List.setIfInBounds_toArray, List.set_cons_zero, List.set_cons_succ]
  go_big_quiet_on
  go_big_quiet_want
  refine ⟨V x.t x.n x.s, fun w' hw' => ?_, ?_⟩
  · obtain ⟨⟨v0, v1, v2⟩, ⟨m0, m1, m2, m3, m4, m5, m6, m7, m8, m9, m10⟩, ⟨h0, h1, h2, h3, h4, h5, h6, h7, h8, h9, h10⟩, ⟨n0, n1, n2, n3, n4, n5, n6, n7, n8, n9, n10⟩, ⟨k0, k1, k2, k3, k4, k5, k6, k7, k8, k9, k10⟩, _⟩ := hw'; rw [HM.out] at m0
    go_simp
  simp only [Act.put, List.setIfInBounds_toArray, List.set_cons_zero, List.set_cons_succ]
  go_big_quiet_on
  go_big_quiet_want
  refine ⟨.bool true, fun w' hw' => ?_, ?_⟩
  · go_simp
    exact (Kwk.out w').mono fun e w'' h => ⟨h.1, ⟨(hw'.1).below h.2, (hw'.2.1).below h.2, (hw'.2.2.1).below h.2, (hw'.2.2.2.1).below h.2, (hw'.2.2.2.2.1).below h.2, on hw'.2.2.2.2.2 h.2⟩⟩
  simp only [Act.put, List.setIfInBounds_toArray, List.set_cons_zero, List.set_cons_succ]
  go_big_quiet_on
  go_big_quiet_want
  refine ⟨SV h.no h.hl h.ol h.lo.t h.lo.n h.lo.s h.hh h.oh h.hi.t h.hi.n h.hi.s, fun w' hw' => ?_, ?_⟩
  · obtain ⟨⟨v0, v1, v2⟩, ⟨m0, m1, m2, m3, m4, m5, m6, m7, m8, m9, m10⟩, ⟨h0, h1, h2, h3, h4, h5, h6, h7, h8, h9, h10⟩, ⟨n0, n1, n2, n3, n4, n5, n6, n7, n8, n9, n10⟩, ⟨k0, k1, k2, k3, k4, k5, k6, k7, k8, k9, k10⟩, _⟩ := hw'; rw [HM.out] at m0
    go_simp
  simp only [Act.put, List.setIfInBounds_toArray, List.set_cons_zero, List.set_cons_succ]
  go_big_quiet_on
  go_big_quiet_want
  refine ⟨V x.t x.n x.s, fun w' hw' => ?_, ?_⟩
  · obtain ⟨⟨v0, v1, v2⟩, ⟨m0, m1, m2, m3, m4, m5, m6, m7, m8, m9, m10⟩, ⟨h0, h1, h2, h3, h4, h5, h6, h7, h8, h9, h10⟩, ⟨n0, n1, n2, n3, n4, n5, n6, n7, n8, n9, n10⟩, ⟨k0, k1, k2, k3, k4, k5, k6, k7, k8, k9, k10⟩, _⟩ := hw'; rw [HM.out] at m0
    go_simp
  simp only [Act.put, List.setIfInBounds_toArray, List.set_cons_zero, List.set_cons_succ]
  go_big_quiet_on
  go_big_quiet_want
  refine ⟨.bool true, fun w' hw' => ?_, ?_⟩
  · go_simp
    exact (Kwh.out w').mono fun e w'' h => ⟨h.1, ⟨(hw'.1).below h.2, (hw'.2.1).below h.2, (hw'.2.2.1).below h.2, (hw'.2.2.2.1).below h.2, (hw'.2.2.2.2.1).below h.2, on hw'.2.2.2.2.2 h.2⟩⟩
  simp only [Act.put, List.setIfInBounds_toArray, List.set_cons_zero, List.set_cons_succ]
  go_big_quiet_on
  go_big_quiet_want
  refine ⟨.bool true, fun w' hw' => ?_, ?_⟩
  · go_simp
  simp only [Act.put, List.setIfInBounds_toArray, List.set_cons_zero, List.set_cons_succ]
  go_big_quiet_on
  go_big_quiet_want
  refine ⟨.bool true, fun w' hw' => ?_, ?_⟩
  · go_simp
  simp only [Act.put, List.setIfInBounds_toArray, List.set_cons_zero, List.set_cons_succ]
  go_big_quiet_on
  go_big_quiet_want
  go_big_quiet_op
  go_big_quiet_on
  go_big_quiet_want
  refine ⟨.pointer (some ⟨w4.heap.size, 0, none⟩), fun w' hw' => ?_, ?_⟩
  · go_simp
  simp only [Act.put, List.setIfInBounds_toArray, List.set_cons_zero, List.set_cons_succ]
  go_big_quiet_on
  go_big_quiet_want
  refine ⟨.bool false, fun w' hw' => ?_, ?_⟩
  · obtain ⟨⟨v0, v1, v2⟩, ⟨m0, m1, m2, m3, m4, m5, m6, m7, m8, m9, m10⟩, ⟨h0, h1, h2, h3, h4, h5, h6, h7, h8, h9, h10⟩, ⟨n0, n1, n2, n3, n4, n5, n6, n7, n8, n9, n10⟩, ⟨k0, k1, k2, k3, k4, k5, k6, k7, k8, k9, k10⟩, _⟩ := hw'; rw [HM.out] at m0
    go_simp
  simp only [Act.put, List.setIfInBounds_toArray, List.set_cons_zero, List.set_cons_succ]
  go_big_quiet_on
  go_big_quiet_want
  refine ⟨.bool true, fun w' hw' => ?_, ?_⟩
  · go_simp
  simp only [Act.put, List.setIfInBounds_toArray, List.set_cons_zero, List.set_cons_succ]
  go_big_quiet_on
  go_big_quiet_want
  go_big_quiet_op
  go_big_quiet_on
  go_big_quiet_skip
  go_big_quiet_skip
  go_big_quiet_skip
  go_big_quiet_want
  refine ⟨.bool true, fun w' hw' => ?_, ?_⟩
  · go_simp
  simp only [Act.put, List.setIfInBounds_toArray, List.set_cons_zero, List.set_cons_succ]
  go_big_quiet_on
  go_big_quiet_want
  refine ⟨.bool true, fun w' hw' => ?_, ?_⟩
  · go_simp
  simp only [Act.put, List.setIfInBounds_toArray, List.set_cons_zero, List.set_cons_succ]
  go_big_quiet_on
  go_big_quiet_want
  go_big_quiet_op
  go_big_quiet_on
  refine wpQuiet_nil ?_
  intro w' hw'
  have HBz : Hid (Below w.heap.size w w') := hw'.2.2.2.2.2
  clear hw'
  go_wp2_with fail
  go_ret
  exact ⟨rfl, HBz.out⟩
end Go.Proofs.YtfkhfplibhnceaaDoor.Val
/- The walk of the law NormalMeets: some of its cases. -/
namespace Go.Proofs.YtfkhfplibhnceaaDoor.Val
open Go.RowKit

set_option maxRecDepth 100000 in
set_option maxHeartbeats 8000000 in
theorem nmeets_011 (a b : Sp) (x : Val) (h n k : Sp) (K : MK a b x false true true Sp.none h n k) (w : World) (hT : Tab w) : Calls Tryd.prog 7 #[a.val, b.val, V x.t x.n x.s] w fun e w' => e = .returned (.bool true) ∧ Below w.heap.size w w' := by
  have H0 : Hid (∀ w1, Below w.heap.size w w1 → Calls Tryd.prog 10 #[] w1 fun e w' => e = .returned (.bool true) ∧ Below w1.heap.size w1 w') := fun w1 hb => awake_any w1 (hT.below hb)
  have Kka : Hid (∀ w1, Calls Tryd.prog 17 #[a.val, V x.t x.n x.s] w1 fun e w' => e = .returned (.bool false) ∧ Below w1.heap.size w1 w') := K.ka
  have Kkb : Hid (∀ w1, Calls Tryd.prog 17 #[b.val, V x.t x.n x.s] w1 fun e w' => e = .returned (.bool true) ∧ Below w1.heap.size w1 w') := K.kb
  have Kkm : Hid (∀ w1, Calls Tryd.prog 19 #[a.val, b.val] w1 fun e w' => e = .returned Sp.none.val ∧ Below w1.heap.size w1 w') := K.km
  have Kkh : Hid (∀ w1, Calls Tryd.prog 21 #[a.val, b.val] w1 fun e w' => e = .returned h.val ∧ Below w1.heap.size w1 w') := K.kh
  have Kwm : Hid (∀ w1, Calls Tryd.prog 17 #[Sp.none.val, V x.t x.n x.s] w1 fun e w' => e = .returned (.bool false) ∧ Below w1.heap.size w1 w') := K.wm
  have Kwh : Hid (∀ w1, Calls Tryd.prog 17 #[h.val, V x.t x.n x.s] w1 fun e w' => e = .returned (.bool true) ∧ Below w1.heap.size w1 w') := K.wh
  have Kkn : Hid (∀ w1, Calls Tryd.prog 19 #[b.val, a.val] w1 fun e w' => e = .returned n.val ∧ Below w1.heap.size w1 w') := K.kn
  have Kkk : Hid (∀ w1, Calls Tryd.prog 21 #[b.val, a.val] w1 fun e w' => e = .returned k.val ∧ Below w1.heap.size w1 w') := K.kk
  have Kwn : Hid (∀ w1, Calls Tryd.prog 17 #[n.val, V x.t x.n x.s] w1 fun e w' => e = .returned (.bool false) ∧ Below w1.heap.size w1 w') := K.wn
  have Kwk : Hid (∀ w1, Calls Tryd.prog 17 #[k.val, V x.t x.n x.s] w1 fun e w' => e = .returned (.bool true) ∧ Below w1.heap.size w1 w') := K.wk
  have Qn : ∀ w1, (binOp .eql 35 (SV true false false false 0 ⟨#[]⟩ false false false 0 ⟨#[]⟩) (SV true false false false 0 ⟨#[]⟩ false false false 0 ⟨#[]⟩)).run Tryd.prog w1 = .ok (.bool true) w1 := fun w1 => eql_same Sp.none w1
  clear hT K
  unfold Sp.val at *
  (try simp only [Sp.none, Val.zero] at Kkm Kwm)
  go_enter Tryd.func7, Tryd.ntmps7
  go_wp2_with fail
  refine Calls.mono (H0.out _ (back2 (alloc1 _ _))) ?_
  rintro e w1 ⟨rfl, hb⟩
  have Xa : Hid (SBox w1 (w.heap.size) a) := show SBox w1 (w.heap.size) a from ((((SBox.new w a 35).alloc _).alloc _)).below hb
  have Xb : Hid (SBox w1 (w.heap.size + 1) b) := show SBox w1 (w.heap.size + 1) b from by have := ((SBox.new (w.alloc (sobj a 35)) b 35).alloc _).below hb; simpa using this
  have Xv : Hid (VBox w1 (w.heap.size + 1 + 1) x) := show VBox w1 (w.heap.size + 1 + 1) x from by have := (VBox.new ((w.alloc (sobj a 35)).alloc (sobj b 35)) x 26).below hb; simpa using this
  have HB : Hid (Below w.heap.size w w1) := back3 hb
  clear hb
  obtain ⟨a0, a1, a2, a3, a4, a5, a6, a7, a8, a9, a10⟩ := Xa.out
  have la := Xa.out.lt
  obtain ⟨v0, v1, v2⟩ := Xv.out
  have lv := Xv.out.lt
  go_wp2_with fail
  refine Calls.mono (Kka.out _) ?_
  rintro e w2 ⟨rfl, hb⟩
  clear a0 a1 a2 a3 a4 a5 a6 a7 a8 a9 a10 la v0 v1 v2 lv
  replace Xa : Hid (SBox w2 (w.heap.size) a) := Xa.out.below hb
  replace Xb : Hid (SBox w2 (w.heap.size + 1) b) := Xb.out.below hb
  replace Xv : Hid (VBox w2 (w.heap.size + 1 + 1) x) := Xv.out.below hb
  replace HB : Hid (Below w.heap.size w w2) := on HB.out hb
  clear hb
  obtain ⟨b0, b1, b2, b3, b4, b5, b6, b7, b8, b9, b10⟩ := Xb.out
  have lb := Xb.out.lt
  obtain ⟨v0, v1, v2⟩ := Xv.out
  have lv := Xv.out.lt
  go_wp2_with fail
  refine Calls.mono (Kkb.out _) ?_
  rintro e w3 ⟨rfl, hb⟩
  clear b0 b1 b2 b3 b4 b5 b6 b7 b8 b9 b10 lb v0 v1 v2 lv
  replace Xa : Hid (SBox w3 (w.heap.size) a) := Xa.out.below hb
  replace Xb : Hid (SBox w3 (w.heap.size + 1) b) := Xb.out.below hb
  replace Xv : Hid (VBox w3 (w.heap.size + 1 + 1) x) := Xv.out.below hb
  replace HB : Hid (Below w.heap.size w w3) := on HB.out hb
  clear hb
  obtain ⟨a0, a1, a2, a3, a4, a5, a6, a7, a8, a9, a10⟩ := Xa.out
  have la := Xa.out.lt
  obtain ⟨b0, b1, b2, b3, b4, b5, b6, b7, b8, b9, b10⟩ := Xb.out
  have lb := Xb.out.lt
  go_wp2_with fail
  refine Calls.mono (Kkm.out _) ?_
  rintro e w4 ⟨rfl, hb⟩
  clear a0 a1 a2 a3 a4 a5 a6 a7 a8 a9 a10 la b0 b1 b2 b3 b4 b5 b6 b7 b8 b9 b10 lb
  replace Xa : Hid (SBox w4 (w.heap.size) a) := Xa.out.below hb
  replace Xb : Hid (SBox w4 (w.heap.size + 1) b) := Xb.out.below hb
  replace Xv : Hid (VBox w4 (w.heap.size + 1 + 1) x) := Xv.out.below hb
  replace HB : Hid (Below w.heap.size w w4) := on HB.out hb
  clear hb
  obtain ⟨a0, a1, a2, a3, a4, a5, a6, a7, a8, a9, a10⟩ := Xa.out
  have la := Xa.out.lt
  obtain ⟨b0, b1, b2, b3, b4, b5, b6, b7, b8, b9, b10⟩ := Xb.out
  have lb := Xb.out.lt
  go_wp2_with fail
  refine Calls.mono (Kkh.out _) ?_
  rintro e w5 ⟨rfl, hb⟩
  clear a0 a1 a2 a3 a4 a5 a6 a7 a8 a9 a10 la b0 b1 b2 b3 b4 b5 b6 b7 b8 b9 b10 lb
  replace Xa : Hid (SBox w5 (w.heap.size) a) := (Xa.out.alloc _).below hb
  replace Xb : Hid (SBox w5 (w.heap.size + 1) b) := (Xb.out.alloc _).below hb
  replace Xv : Hid (VBox w5 (w.heap.size + 1 + 1) x) := (Xv.out.alloc _).below hb
  have Xm : Hid (SBox w5 w4.heap.size Sp.none) := (SBox.new _ _ 35).below hb
  replace HB : Hid (Below w.heap.size w w5) := on HB.out (back1 hb)
  clear hb
  obtain ⟨v0, v1, v2⟩ := Xv.out
  have lv := Xv.out.lt
  obtain ⟨m0, m1, m2, m3, m4, m5, m6, m7, m8, m9, m10⟩ := Xm.out
  have lm := Xm.out.lt
  simp only [Sp.none, Val.zero] at m0 m1 m2 m3 m4 m5 m6 m7 m8 m9 m10
  go_wp2_with fail
  refine Calls.mono (Kwm.out _) ?_
  rintro e w6 ⟨rfl, hb⟩
  clear v0 v1 v2 lv m0 m1 m2 m3 m4 m5 m6 m7 m8 m9 m10 lm
  replace Xa : Hid (SBox w6 (w.heap.size) a) := (Xa.out.alloc _).below hb
  replace Xb : Hid (SBox w6 (w.heap.size + 1) b) := (Xb.out.alloc _).below hb
  replace Xv : Hid (VBox w6 (w.heap.size + 1 + 1) x) := (Xv.out.alloc _).below hb
  replace Xm : Hid (SBox w6 (w4.heap.size) Sp.none) := (Xm.out.alloc _).below hb
  have Xh : Hid (SBox w6 w5.heap.size h) := (SBox.new _ _ 35).below hb
  replace HB : Hid (Below w.heap.size w w6) := on HB.out (back1 hb)
  clear hb
  obtain ⟨h0, h1, h2, h3, h4, h5, h6, h7, h8, h9, h10⟩ := Xh.out
  have lh := Xh.out.lt
  obtain ⟨v0, v1, v2⟩ := Xv.out
  have lv := Xv.out.lt
  go_wp2_with fail
  refine Calls.mono (Kwh.out _) ?_
  rintro e w7 ⟨rfl, hb⟩
  clear h0 h1 h2 h3 h4 h5 h6 h7 h8 h9 h10 lh v0 v1 v2 lv
  replace Xa : Hid (SBox w7 (w.heap.size) a) := Xa.out.below hb
  replace Xb : Hid (SBox w7 (w.heap.size + 1) b) := Xb.out.below hb
  replace Xv : Hid (VBox w7 (w.heap.size + 1 + 1) x) := Xv.out.below hb
  replace Xm : Hid (SBox w7 (w4.heap.size) Sp.none) := Xm.out.below hb
  replace Xh : Hid (SBox w7 (w5.heap.size) h) := Xh.out.below hb
  replace HB : Hid (Below w.heap.size w w7) := on HB.out hb
  clear hb
  obtain ⟨a0, a1, a2, a3, a4, a5, a6, a7, a8, a9, a10⟩ := Xa.out
  have la := Xa.out.lt
  obtain ⟨b0, b1, b2, b3, b4, b5, b6, b7, b8, b9, b10⟩ := Xb.out
  have lb := Xb.out.lt
  go_wp2_with fail
  refine Calls.mono (Kkn.out _) ?_
  rintro e w8 ⟨rfl, hb⟩
  clear a0 a1 a2 a3 a4 a5 a6 a7 a8 a9 a10 la b0 b1 b2 b3 b4 b5 b6 b7 b8 b9 b10 lb
  replace Xa : Hid (SBox w8 (w.heap.size) a) := Xa.out.below hb
  replace Xb : Hid (SBox w8 (w.heap.size + 1) b) := Xb.out.below hb
  replace Xv : Hid (VBox w8 (w.heap.size + 1 + 1) x) := Xv.out.below hb
  replace Xm : Hid (SBox w8 (w4.heap.size) Sp.none) := Xm.out.below hb
  replace Xh : Hid (SBox w8 (w5.heap.size) h) := Xh.out.below hb
  replace HB : Hid (Below w.heap.size w w8) := on HB.out hb
  clear hb
  obtain ⟨a0, a1, a2, a3, a4, a5, a6, a7, a8, a9, a10⟩ := Xa.out
  have la := Xa.out.lt
  obtain ⟨b0, b1, b2, b3, b4, b5, b6, b7, b8, b9, b10⟩ := Xb.out
  have lb := Xb.out.lt
  go_wp2_with fail
  refine Calls.mono (Kkk.out _) ?_
  rintro e w9 ⟨rfl, hb⟩
  clear a0 a1 a2 a3 a4 a5 a6 a7 a8 a9 a10 la b0 b1 b2 b3 b4 b5 b6 b7 b8 b9 b10 lb
  replace Xa : Hid (SBox w9 (w.heap.size) a) := (Xa.out.alloc _).below hb
  replace Xb : Hid (SBox w9 (w.heap.size + 1) b) := (Xb.out.alloc _).below hb
  replace Xv : Hid (VBox w9 (w.heap.size + 1 + 1) x) := (Xv.out.alloc _).below hb
  replace Xm : Hid (SBox w9 (w4.heap.size) Sp.none) := (Xm.out.alloc _).below hb
  replace Xh : Hid (SBox w9 (w5.heap.size) h) := (Xh.out.alloc _).below hb
  have Xn : Hid (SBox w9 w8.heap.size n) := (SBox.new _ _ 35).below hb
  replace HB : Hid (Below w.heap.size w w9) := on HB.out (back1 hb)
  clear hb
  have XK : Hid (∀ T, SBox (w9.alloc (sobj k T)) w9.heap.size k) := fun T => SBox.new _ _ T
  go_wp2_with fail
  (try simp only [List.append])
  refine region_cls (C := fun w' => VBox w' (w.heap.size + 1 + 1) x ∧ SBox w' (w4.heap.size) Sp.none ∧ SBox w' (w5.heap.size) h ∧ SBox w' (w8.heap.size) n ∧ SBox w' (w9.heap.size) k ∧ Below w.heap.size w w') (by kernel_rfl) (by kernel_rfl) ⟨(Xv.out.alloc _).below (Below.refl _ _).drew, (Xm.out.alloc _).below (Below.refl _ _).drew, (Xh.out.alloc _).below (Below.refl _ _).drew, (Xn.out.alloc _).below (Below.refl _ _).drew, (XK.out _).below (Below.refl _ _).drew, (on HB.out (alloc1 _ _)).drew⟩ ?_
  clear HB XK Xa Xb Xv Xm Xh Xn
  go_big_quiet_want
  refine ⟨SV n.no n.hl n.ol n.lo.t n.lo.n n.lo.s n.hh n.oh n.hi.t n.hi.n n.hi.s, fun w' hw' => ?_, ?_⟩
  · obtain ⟨⟨v0, v1, v2⟩, ⟨m0, m1, m2, m3, m4, m5, m6, m7, m8, m9, m10⟩, ⟨h0, h1, h2, h3, h4, h5, h6, h7, h8, h9, h10⟩, ⟨n0, n1, n2, n3, n4, n5, n6, n7, n8, n9, n10⟩, ⟨k0, k1, k2, k3, k4, k5, k6, k7, k8, k9, k10⟩, _⟩ := hw'; simp only [Sp.none, Val.zero] at *
    go_simp
  simp only [Act.put, List.setIfInBounds_toArray, List.set_cons_zero, List.set_cons_succ]
  go_big_quiet_on
  go_big_quiet_want
  refine ⟨V x.t x.n x.s, fun w' hw' => ?_, ?_⟩
  · obtain ⟨⟨v0, v1, v2⟩, ⟨m0, m1, m2, m3, m4, m5, m6, m7, m8, m9, m10⟩, ⟨h0, h1, h2, h3, h4, h5, h6, h7, h8, h9, h10⟩, ⟨n0, n1, n2, n3, n4, n5, n6, n7, n8, n9, n10⟩, ⟨k0, k1, k2, k3, k4, k5, k6, k7, k8, k9, k10⟩, _⟩ := hw'; simp only [Sp.none, Val.zero] at *
    go_simp
  simp only [Act.put, List.setIfInBounds_toArray, List.set_cons_zero, List.set_cons_succ]
  go_big_quiet_on
  go_big_quiet_want
  refine ⟨.bool false, fun w' hw' => ?_, ?_⟩
  · go_simp
    exact (Kwn.out w').mono fun e w'' h => ⟨h.1, ⟨(hw'.1).below h.2, (hw'.2.1).below h.2, (hw'.2.2.1).below h.2, (hw'.2.2.2.1).below h.2, (hw'.2.2.2.2.1).below h.2, on hw'.2.2.2.2.2 h.2⟩⟩
  simp only [Act.put, List.setIfInBounds_toArray, List.set_cons_zero, List.set_cons_succ]
  go_big_quiet_on
  go_big_quiet_want
  go_big_quiet_op
  go_big_quiet_on
  go_big_quiet_want
  go_big_quiet_op
  go_big_quiet_on
  go_big_quiet_skip
  go_big_quiet_want
  refine ⟨.bool false, fun w' hw' => ?_, ?_⟩
  · go_simp
  simp only [Act.put, List.setIfInBounds_toArray, List.set_cons_zero, List.set_cons_succ]
  go_big_quiet_on
  go_big_quiet_want
  refine ⟨.bool true, fun w' hw' => ?_, ?_⟩
  · go_simp
  simp only [Act.put, List.setIfInBounds_toArray, List.set_cons_zero, List.set_cons_succ]
  go_big_quiet_on
  go_big_quiet_want
  go_big_quiet_op
  go_big_quiet_on
  go_big_quiet_want
  refine ⟨SV k.no k.hl k.ol k.lo.t k.lo.n k.lo.s k.hh k.oh k.hi.t k.hi.n k.hi.s, fun w' hw' => ?_, ?_⟩
  · obtain ⟨⟨v0, v1, v2⟩, ⟨m0, m1, m2, m3, m4, m5, m6, m7, m8, m9, m10⟩, ⟨h0, h1, h2, h3, h4, h5, h6, h7, h8, h9, h10⟩, ⟨n0, n1, n2, n3, n4, n5, n6, n7, n8, n9, n10⟩, ⟨k0, k1, k2, k3, k4, k5, k6, k7, k8, k9, k10⟩, _⟩ := hw'; simp only [Sp.none, Val.zero] at *
    go_simp
  simp only [Act.put, List.setIfInBounds_toArray, List.set_cons_zero, List.set_cons_succ]
  go_big_quiet_on
  go_big_quiet_want
  refine ⟨V x.t x.n x.s, fun w' hw' => ?_, ?_⟩
  · obtain ⟨⟨v0, v1, v2⟩, ⟨m0, m1, m2, m3, m4, m5, m6, m7, m8, m9, m10⟩, ⟨h0, h1, h2, h3, h4, h5, h6, h7, h8, h9, h10⟩, ⟨n0, n1, n2, n3, n4, n5, n6, n7, n8, n9, n10⟩, ⟨k0, k1, k2, k3, k4, k5, k6, k7, k8, k9, k10⟩, _⟩ := hw'; simp only [Sp.none, Val.zero] at *
    go_simp
  simp only [Act.put, List.setIfInBounds_toArray, List.set_cons_zero, List.set_cons_succ]
  go_big_quiet_on
  go_big_quiet_want
  refine ⟨.bool true, fun w' hw' => ?_, ?_⟩
  · go_simp
    exact (Kwk.out w').mono fun e w'' h => ⟨h.1, ⟨(hw'.1).below h.2, (hw'.2.1).below h.2, (hw'.2.2.1).below h.2, (hw'.2.2.2.1).below h.2, (hw'.2.2.2.2.1).below h.2, on hw'.2.2.2.2.2 h.2⟩⟩
  simp only [Act.put, List.setIfInBounds_toArray, List.set_cons_zero, List.set_cons_succ]
  go_big_quiet_on
  go_big_quiet_want
  refine ⟨SV h.no h.hl h.ol h.lo.t h.lo.n h.lo.s h.hh h.oh h.hi.t h.hi.n h.hi.s, fun w' hw' => ?_, ?_⟩
  · obtain ⟨⟨v0, v1, v2⟩, ⟨m0, m1, m2, m3, m4, m5, m6, m7, m8, m9, m10⟩, ⟨h0, h1, h2, h3, h4, h5, h6, h7, h8, h9, h10⟩, ⟨n0, n1, n2, n3, n4, n5, n6, n7, n8, n9, n10⟩, ⟨k0, k1, k2, k3, k4, k5, k6, k7, k8, k9, k10⟩, _⟩ := hw'; simp only [Sp.none, Val.zero] at *
    go_simp
  simp only [Act.put, List.setIfInBounds_toArray, List.set_cons_zero, List.set_cons_succ]
  go_big_quiet_on
  go_big_quiet_want
  refine ⟨V x.t x.n x.s, fun w' hw' => ?_, ?_⟩
  · obtain ⟨⟨v0, v1, v2⟩, ⟨m0, m1, m2, m3, m4, m5, m6, m7, m8, m9, m10⟩, ⟨h0, h1, h2, h3, h4, h5, h6, h7, h8, h9, h10⟩, ⟨n0, n1, n2, n3, n4, n5, n6, n7, n8, n9, n10⟩, ⟨k0, k1, k2, k3, k4, k5, k6, k7, k8, k9, k10⟩, _⟩ := hw'; simp only [Sp.none, Val.zero] at *
    go_simp
  simp only [Act.put, List.setIfInBounds_toArray, List.set_cons_zero, List.set_cons_succ]
  go_big_quiet_on
  go_big_quiet_want
  refine ⟨.bool true, fun w' hw' => ?_, ?_⟩
  · go_simp
    exact (Kwh.out w').mono fun e w'' h => ⟨h.1, ⟨(hw'.1).below h.2, (hw'.2.1).below h.2, (hw'.2.2.1).below h.2, (hw'.2.2.2.1).below h.2, (hw'.2.2.2.2.1).below h.2, on hw'.2.2.2.2.2 h.2⟩⟩
  simp only [Act.put, List.setIfInBounds_toArray, List.set_cons_zero, List.set_cons_succ]
  go_big_quiet_on
  go_big_quiet_want
  refine ⟨.bool true, fun w' hw' => ?_, ?_⟩
  · go_simp
  simp only [Act.put, List.setIfInBounds_toArray, List.set_cons_zero, List.set_cons_succ]
  go_big_quiet_on
  go_big_quiet_want
  refine ⟨.bool true, fun w' hw' => ?_, ?_⟩
  · go_simp
  simp only [Act.put, List.setIfInBounds_toArray, List.set_cons_zero, List.set_cons_succ]
  go_big_quiet_on
  go_big_quiet_want
  go_big_quiet_op
  go_big_quiet_on
  go_big_quiet_want
  refine ⟨.pointer (some ⟨w4.heap.size, 0, none⟩), fun w' hw' => ?_, ?_⟩
  · go_simp
  simp only [Act.put, List.setIfInBounds_toArray, List.set_cons_zero, List.set_cons_succ]
  go_big_quiet_on
  go_big_quiet_want
  refine ⟨.bool true, fun w' hw' => ?_, ?_⟩
  · obtain ⟨⟨v0, v1, v2⟩, ⟨m0, m1, m2, m3, m4, m5, m6, m7, m8, m9, m10⟩, ⟨h0, h1, h2, h3, h4, h5, h6, h7, h8, h9, h10⟩, ⟨n0, n1, n2, n3, n4, n5, n6, n7, n8, n9, n10⟩, ⟨k0, k1, k2, k3, k4, k5, k6, k7, k8, k9, k10⟩, _⟩ := hw'; simp only [Sp.none, Val.zero] at *
    go_simp
  simp only [Act.put, List.setIfInBounds_toArray, List.set_cons_zero, List.set_cons_succ]
  go_big_quiet_on
  go_big_quiet_want
  refine ⟨.bool false, fun w' hw' => ?_, ?_⟩
  · go_simp
  simp only [Act.put, List.setIfInBounds_toArray, List.set_cons_zero, List.set_cons_succ]
  go_big_quiet_on
  go_big_quiet_want
  go_big_quiet_op
  go_big_quiet_on
  go_big_quiet_want
  refine ⟨SV true false false false 0 ⟨#[]⟩ false false false 0 ⟨#[]⟩, fun w' hw' => ?_, ?_⟩
  · obtain ⟨⟨v0, v1, v2⟩, ⟨m0, m1, m2, m3, m4, m5, m6, m7, m8, m9, m10⟩, ⟨h0, h1, h2, h3, h4, h5, h6, h7, h8, h9, h10⟩, ⟨n0, n1, n2, n3, n4, n5, n6, n7, n8, n9, n10⟩, ⟨k0, k1, k2, k3, k4, k5, k6, k7, k8, k9, k10⟩, _⟩ := hw'; simp only [Sp.none, Val.zero] at *
    go_simp
  simp only [Act.put, List.setIfInBounds_toArray, List.set_cons_zero, List.set_cons_succ]
  go_big_quiet_on
  go_big_quiet_want
  refine ⟨SV true false false false 0 ⟨#[]⟩ false false false 0 ⟨#[]⟩, fun w' hw' => ?_, ?_⟩
  · go_simp
  simp only [Act.put, List.setIfInBounds_toArray, List.set_cons_zero, List.set_cons_succ]
  go_big_quiet_on
  go_big_quiet_want
  refine ⟨.bool true, fun w' hw' => ?_, ?_⟩
  · go_simp
  simp only [Act.put, List.setIfInBounds_toArray, List.set_cons_zero, List.set_cons_succ]
  go_big_quiet_on
  go_big_quiet_want
  refine ⟨.bool true, fun w' hw' => ?_, ?_⟩
  · go_simp
  simp only [Act.put, List.setIfInBounds_toArray, List.set_cons_zero, List.set_cons_succ]
  go_big_quiet_on
  go_big_quiet_want
  refine ⟨.bool true, fun w' hw' => ?_, ?_⟩
  · go_simp
  simp only [Act.put, List.setIfInBounds_toArray, List.set_cons_zero, List.set_cons_succ]
  go_big_quiet_on
  go_big_quiet_want
  go_big_quiet_op
  go_big_quiet_on
  refine wpQuiet_nil ?_
  intro w' hw'
  have HBz : Hid (Below w.heap.size w w') := hw'.2.2.2.2.2
  clear hw'
  go_wp2_with fail
  go_ret
  exact ⟨rfl, HBz.out⟩
set_option maxRecDepth 100000 in
set_option maxHeartbeats 8000000 in
theorem nmeets_000 (a b : Sp) (x : Val) (g : Bool) (m h n k : Sp) (hm : m.no = false) (K : MK a b x false false g m h n k) (w : World) (hT : Tab w) : Calls Tryd.prog 7 #[a.val, b.val, V x.t x.n x.s] w fun e w' => e = .returned (.bool true) ∧ Below w.heap.size w w' := by
  have H0 : Hid (∀ w1, Below w.heap.size w w1 → Calls Tryd.prog 10 #[] w1 fun e w' => e = .returned (.bool true) ∧ Below w1.heap.size w1 w') := fun w1 hb => awake_any w1 (hT.below hb)
  have Kka : Hid (∀ w1, Calls Tryd.prog 17 #[a.val, V x.t x.n x.s] w1 fun e w' => e = .returned (.bool false) ∧ Below w1.heap.size w1 w') := K.ka
  have Kkb : Hid (∀ w1, Calls Tryd.prog 17 #[b.val, V x.t x.n x.s] w1 fun e w' => e = .returned (.bool false) ∧ Below w1.heap.size w1 w') := K.kb
  have Kkm : Hid (∀ w1, Calls Tryd.prog 19 #[a.val, b.val] w1 fun e w' => e = .returned m.val ∧ Below w1.heap.size w1 w') := K.km
  have Kkh : Hid (∀ w1, Calls Tryd.prog 21 #[a.val, b.val] w1 fun e w' => e = .returned h.val ∧ Below w1.heap.size w1 w') := K.kh
  have Kwm : Hid (∀ w1, Calls Tryd.prog 17 #[m.val, V x.t x.n x.s] w1 fun e w' => e = .returned (.bool false) ∧ Below w1.heap.size w1 w') := K.wm
  have Kwh : Hid (∀ w1, Calls Tryd.prog 17 #[h.val, V x.t x.n x.s] w1 fun e w' => e = .returned (.bool g) ∧ Below w1.heap.size w1 w') := K.wh
  have Kkn : Hid (∀ w1, Calls Tryd.prog 19 #[b.val, a.val] w1 fun e w' => e = .returned n.val ∧ Below w1.heap.size w1 w') := K.kn
  have Kkk : Hid (∀ w1, Calls Tryd.prog 21 #[b.val, a.val] w1 fun e w' => e = .returned k.val ∧ Below w1.heap.size w1 w') := K.kk
  have Kwn : Hid (∀ w1, Calls Tryd.prog 17 #[n.val, V x.t x.n x.s] w1 fun e w' => e = .returned (.bool false) ∧ Below w1.heap.size w1 w') := K.wn
  have Kwk : Hid (∀ w1, Calls Tryd.prog 17 #[k.val, V x.t x.n x.s] w1 fun e w' => e = .returned (.bool g) ∧ Below w1.heap.size w1 w') := K.wk
  have Qn : ∀ w1, (binOp .eql 35 (SV true false false false 0 ⟨#[]⟩ false false false 0 ⟨#[]⟩) (SV true false false false 0 ⟨#[]⟩ false false false 0 ⟨#[]⟩)).run Tryd.prog w1 = .ok (.bool true) w1 := fun w1 => eql_same Sp.none w1
  have HM : Hid (m.no = false) := hm
  clear hm
  clear hT K
  unfold Sp.val at *
  (try simp only [Sp.none, Val.zero] at Kkm Kwm)
  go_enter Tryd.func7, Tryd.ntmps7
  go_wp2_with fail
  refine Calls.mono (H0.out _ (back2 (alloc1 _ _))) ?_
  rintro e w1 ⟨rfl, hb⟩
  have Xa : Hid (SBox w1 (w.heap.size) a) := show SBox w1 (w.heap.size) a from ((((SBox.new w a 35).alloc _).alloc _)).below hb
  have Xb : Hid (SBox w1 (w.heap.size + 1) b) := show SBox w1 (w.heap.size + 1) b from by have := ((SBox.new (w.alloc (sobj a 35)) b 35).alloc _).below hb; simpa using this
  have Xv : Hid (VBox w1 (w.heap.size + 1 + 1) x) := show VBox w1 (w.heap.size + 1 + 1) x from by have := (VBox.new ((w.alloc (sobj a 35)).alloc (sobj b 35)) x 26).below hb; simpa using this
  have HB : Hid (Below w.heap.size w w1) := back3 hb
  clear hb
  obtain ⟨a0, a1, a2, a3, a4, a5, a6, a7, a8, a9, a10⟩ := Xa.out
  have la := Xa.out.lt
  obtain ⟨v0, v1, v2⟩ := Xv.out
  have lv := Xv.out.lt
  go_wp2_with fail
  refine Calls.mono (Kka.out _) ?_
  rintro e w2 ⟨rfl, hb⟩
  clear a0 a1 a2 a3 a4 a5 a6 a7 a8 a9 a10 la v0 v1 v2 lv
  replace Xa : Hid (SBox w2 (w.heap.size) a) := Xa.out.below hb
  replace Xb : Hid (SBox w2 (w.heap.size + 1) b) := Xb.out.below hb
  replace Xv : Hid (VBox w2 (w.heap.size + 1 + 1) x) := Xv.out.below hb
  replace HB : Hid (Below w.heap.size w w2) := on HB.out hb
  clear hb
  obtain ⟨b0, b1, b2, b3, b4, b5, b6, b7, b8, b9, b10⟩ := Xb.out
  have lb := Xb.out.lt
  obtain ⟨v0, v1, v2⟩ := Xv.out
  have lv := Xv.out.lt
  go_wp2_with fail
  refine Calls.mono (Kkb.out _) ?_
  rintro e w3 ⟨rfl, hb⟩
  clear b0 b1 b2 b3 b4 b5 b6 b7 b8 b9 b10 lb v0 v1 v2 lv
  replace Xa : Hid (SBox w3 (w.heap.size) a) := Xa.out.below hb
  replace Xb : Hid (SBox w3 (w.heap.size + 1) b) := Xb.out.below hb
  replace Xv : Hid (VBox w3 (w.heap.size + 1 + 1) x) := Xv.out.below hb
  replace HB : Hid (Below w.heap.size w w3) := on HB.out hb
  clear hb
  obtain ⟨a0, a1, a2, a3, a4, a5, a6, a7, a8, a9, a10⟩ := Xa.out
  have la := Xa.out.lt
  obtain ⟨b0, b1, b2, b3, b4, b5, b6, b7, b8, b9, b10⟩ := Xb.out
  have lb := Xb.out.lt
  go_wp2_with fail
  refine Calls.mono (Kkm.out _) ?_
  rintro e w4 ⟨rfl, hb⟩
  clear a0 a1 a2 a3 a4 a5 a6 a7 a8 a9 a10 la b0 b1 b2 b3 b4 b5 b6 b7 b8 b9 b10 lb
  replace Xa : Hid (SBox w4 (w.heap.size) a) := Xa.out.below hb
  replace Xb : Hid (SBox w4 (w.heap.size + 1) b) := Xb.out.below hb
  replace Xv : Hid (VBox w4 (w.heap.size + 1 + 1) x) := Xv.out.below hb
  replace HB : Hid (Below w.heap.size w w4) := on HB.out hb
  clear hb
  obtain ⟨a0, a1, a2, a3, a4, a5, a6, a7, a8, a9, a10⟩ := Xa.out
  have la := Xa.out.lt
  obtain ⟨b0, b1, b2, b3, b4, b5, b6, b7, b8, b9, b10⟩ := Xb.out
  have lb := Xb.out.lt
  go_wp2_with fail
  refine Calls.mono (Kkh.out _) ?_
  rintro e w5 ⟨rfl, hb⟩
  clear a0 a1 a2 a3 a4 a5 a6 a7 a8 a9 a10 la b0 b1 b2 b3 b4 b5 b6 b7 b8 b9 b10 lb
  replace Xa : Hid (SBox w5 (w.heap.size) a) := (Xa.out.alloc _).below hb
  replace Xb : Hid (SBox w5 (w.heap.size + 1) b) := (Xb.out.alloc _).below hb
  replace Xv : Hid (VBox w5 (w.heap.size + 1 + 1) x) := (Xv.out.alloc _).below hb
  have Xm : Hid (SBox w5 w4.heap.size m) := (SBox.new _ _ 35).below hb
  replace HB : Hid (Below w.heap.size w w5) := on HB.out (back1 hb)
  clear hb
  obtain ⟨v0, v1, v2⟩ := Xv.out
  have lv := Xv.out.lt
  obtain ⟨m0, m1, m2, m3, m4, m5, m6, m7, m8, m9, m10⟩ := Xm.out
  have lm := Xm.out.lt
  go_wp2_with fail
  refine Calls.mono (Kwm.out _) ?_
  rintro e w6 ⟨rfl, hb⟩
  clear v0 v1 v2 lv m0 m1 m2 m3 m4 m5 m6 m7 m8 m9 m10 lm
  replace Xa : Hid (SBox w6 (w.heap.size) a) := (Xa.out.alloc _).below hb
  replace Xb : Hid (SBox w6 (w.heap.size + 1) b) := (Xb.out.alloc _).below hb
  replace Xv : Hid (VBox w6 (w.heap.size + 1 + 1) x) := (Xv.out.alloc _).below hb
  replace Xm : Hid (SBox w6 (w4.heap.size) m) := (Xm.out.alloc _).below hb
  have Xh : Hid (SBox w6 w5.heap.size h) := (SBox.new _ _ 35).below hb
  replace HB : Hid (Below w.heap.size w w6) := on HB.out (back1 hb)
  clear hb
  obtain ⟨a0, a1, a2, a3, a4, a5, a6, a7, a8, a9, a10⟩ := Xa.out
  have la := Xa.out.lt
  obtain ⟨b0, b1, b2, b3, b4, b5, b6, b7, b8, b9, b10⟩ := Xb.out
  have lb := Xb.out.lt
  go_wp2_with fail
  refine Calls.mono (Kkn.out _) ?_
  rintro e w7 ⟨rfl, hb⟩
  clear a0 a1 a2 a3 a4 a5 a6 a7 a8 a9 a10 la b0 b1 b2 b3 b4 b5 b6 b7 b8 b9 b10 lb
  replace Xa : Hid (SBox w7 (w.heap.size) a) := Xa.out.below hb
  replace Xb : Hid (SBox w7 (w.heap.size + 1) b) := Xb.out.below hb
  replace Xv : Hid (VBox w7 (w.heap.size + 1 + 1) x) := Xv.out.below hb
  replace Xm : Hid (SBox w7 (w4.heap.size) m) := Xm.out.below hb
  replace Xh : Hid (SBox w7 (w5.heap.size) h) := Xh.out.below hb
  replace HB : Hid (Below w.heap.size w w7) := on HB.out hb
  clear hb
  obtain ⟨a0, a1, a2, a3, a4, a5, a6, a7, a8, a9, a10⟩ := Xa.out
  have la := Xa.out.lt
  obtain ⟨b0, b1, b2, b3, b4, b5, b6, b7, b8, b9, b10⟩ := Xb.out
  have lb := Xb.out.lt
  go_wp2_with fail
  refine Calls.mono (Kkk.out _) ?_
  rintro e w8 ⟨rfl, hb⟩
  clear a0 a1 a2 a3 a4 a5 a6 a7 a8 a9 a10 la b0 b1 b2 b3 b4 b5 b6 b7 b8 b9 b10 lb
  replace Xa : Hid (SBox w8 (w.heap.size) a) := (Xa.out.alloc _).below hb
  replace Xb : Hid (SBox w8 (w.heap.size + 1) b) := (Xb.out.alloc _).below hb
  replace Xv : Hid (VBox w8 (w.heap.size + 1 + 1) x) := (Xv.out.alloc _).below hb
  replace Xm : Hid (SBox w8 (w4.heap.size) m) := (Xm.out.alloc _).below hb
  replace Xh : Hid (SBox w8 (w5.heap.size) h) := (Xh.out.alloc _).below hb
  have Xn : Hid (SBox w8 w7.heap.size n) := (SBox.new _ _ 35).below hb
  replace HB : Hid (Below w.heap.size w w8) := on HB.out (back1 hb)
  clear hb
  have XK : Hid (∀ T, SBox (w8.alloc (sobj k T)) w8.heap.size k) := fun T => SBox.new _ _ T
  go_wp2_with fail
  (try simp only [List.append])
  refine region_cls (C := fun w' => VBox w' (w.heap.size + 1 + 1) x ∧ SBox w' (w4.heap.size) m ∧ SBox w' (w5.heap.size) h ∧ SBox w' (w7.heap.size) n ∧ SBox w' (w8.heap.size) k ∧ Below w.heap.size w w') (by kernel_rfl) (by kernel_rfl) ⟨(Xv.out.alloc _).below (Below.refl _ _).drew, (Xm.out.alloc _).below (Below.refl _ _).drew, (Xh.out.alloc _).below (Below.refl _ _).drew, (Xn.out.alloc _).below (Below.refl _ _).drew, (XK.out _).below (Below.refl _ _).drew, (on HB.out (alloc1 _ _)).drew⟩ ?_
  clear HB XK Xa Xb Xv Xm Xh Xn
  go_big_quiet_want
  refine ⟨SV n.no n.hl n.ol n.lo.t n.lo.n n.lo.s n.hh n.oh n.hi.t n.hi.n n.hi.s, fun w' hw' => ?_, ?_⟩
  · obtain ⟨⟨v0, v1, v2⟩, ⟨m0, m1, m2, m3, m4, m5, m6, m7, m8, m9, m10⟩, ⟨h0, h1, h2, h3, h4, h5, h6, h7, h8, h9, h10⟩, ⟨n0, n1, n2, n3, n4, n5, n6, n7, n8, n9, n10⟩, ⟨k0, k1, k2, k3, k4, k5, k6, k7, k8, k9, k10⟩, _⟩ := hw'; rw [HM.out] at m0
    go_simp
  simp only [Act.put, List.setIfInBounds_toArray, List.set_cons_zero, List.set_cons_succ]
  go_big_quiet_on
  go_big_quiet_want
  refine ⟨V x.t x.n x.s, fun w' hw' => ?_, ?_⟩
  · obtain ⟨⟨v0, v1, v2⟩, ⟨m0, m1, m2, m3, m4, m5, m6, m7, m8, m9, m10⟩, ⟨h0, h1, h2, h3, h4, h5, h6, h7, h8, h9, h10⟩, ⟨n0, n1, n2, n3, n4, n5, n6, n7, n8, n9, n10⟩, ⟨k0, k1, k2, k3, k4, k5, k6, k7, k8, k9, k10⟩, _⟩ := hw'; rw [HM.out] at m0
    go_simp
  simp only [Act.put, List.setIfInBounds_toArray, List.set_cons_zero, List.set_cons_succ]
  go_big_quiet_on
  go_big_quiet_want
  refine ⟨.bool false, fun w' hw' => ?_, ?_⟩
  · go_simp
    exact (Kwn.out w').mono fun e w'' h => ⟨h.1, ⟨(hw'.1).below h.2, (hw'.2.1).below h.2, (hw'.2.2.1).below h.2, (hw'.2.2.2.1).below h.2, (hw'.2.2.2.2.1).below h.2, on hw'.2.2.2.2.2 h.2⟩⟩
  simp only [Act.put, List.setIfInBounds_toArray, List.set_cons_zero, List.set_cons_succ]
  go_big_quiet_on
  go_big_quiet_want
  go_big_quiet_op
  go_big_quiet_on
  go_big_quiet_want
  go_big_quiet_op
  go_big_quiet_on
  go_big_quiet_skip
  go_big_quiet_want
  refine ⟨.bool false, fun w' hw' => ?_, ?_⟩
  · go_simp
  simp only [Act.put, List.setIfInBounds_toArray, List.set_cons_zero, List.set_cons_succ]
  go_big_quiet_on
  go_big_quiet_want
  refine ⟨.bool true, fun w' hw' => ?_, ?_⟩
  · go_simp
  simp only [Act.put, List.setIfInBounds_toArray, List.set_cons_zero, List.set_cons_succ]
  go_big_quiet_on
  go_big_quiet_want
  go_big_quiet_op
  go_big_quiet_on
  go_big_quiet_want
  refine ⟨SV k.no k.hl k.ol k.lo.t k.lo.n k.lo.s k.hh k.oh k.hi.t k.hi.n k.hi.s, fun w' hw' => ?_, ?_⟩
  · obtain ⟨⟨v0, v1, v2⟩, ⟨m0, m1, m2, m3, m4, m5, m6, m7, m8, m9, m10⟩, ⟨h0, h1, h2, h3, h4, h5, h6, h7, h8, h9, h10⟩, ⟨n0, n1, n2, n3, n4, n5, n6, n7, n8, n9, n10⟩, ⟨k0, k1, k2, k3, k4, k5, k6, k7, k8, k9, k10⟩, _⟩ := hw'; rw [HM.out] at m0
    go_simp
  simp only [Act.put, List.setIfInBounds_toArray, List.set_cons_zero, List.set_cons_succ]
  go_big_quiet_on
  go_big_quiet_want
  refine ⟨V x.t x.n x.s, fun w' hw' => ?_, ?_⟩
  · obtain ⟨⟨v0, v1, v2⟩, ⟨m0, m1, m2, m3, m4, m5, m6, m7, m8, m9, m10⟩, ⟨h0, h1, h2, h3, h4, h5, h6, h7, h8, h9, h10⟩, ⟨n0, n1, n2, n3, n4, n5, n6, n7, n8, n9, n10⟩, ⟨k0, k1, k2, k3, k4, k5, k6, k7, k8, k9, k10⟩, _⟩ := hw'; rw [HM.out] at m0
    go_simp
  simp only [Act.put, List.setIfInBounds_toArray, List.set_cons_zero, List.set_cons_succ]
  go_big_quiet_on
  go_big_quiet_want
  refine ⟨.bool g, fun w' hw' => ?_, ?_⟩
  · go_simp
    exact (Kwk.out w').mono fun e w'' h => ⟨h.1, ⟨(hw'.1).below h.2, (hw'.2.1).below h.2, (hw'.2.2.1).below h.2, (hw'.2.2.2.1).below h.2, (hw'.2.2.2.2.1).below h.2, on hw'.2.2.2.2.2 h.2⟩⟩
  simp only [Act.put, List.setIfInBounds_toArray, List.set_cons_zero, List.set_cons_succ]
  go_big_quiet_on
  go_big_quiet_want
  refine ⟨SV h.no h.hl h.ol h.lo.t h.lo.n h.lo.s h.hh h.oh h.hi.t h.hi.n h.hi.s, fun w' hw' => ?_, ?_⟩
  · obtain ⟨⟨v0, v1, v2⟩, ⟨m0, m1, m2, m3, m4, m5, m6, m7, m8, m9, m10⟩, ⟨h0, h1, h2, h3, h4, h5, h6, h7, h8, h9, h10⟩, ⟨n0, n1, n2, n3, n4, n5, n6, n7, n8, n9, n10⟩, ⟨k0, k1, k2, k3, k4, k5, k6, k7, k8, k9, k10⟩, _⟩ := hw'; rw [HM.out] at m0
    go_simp
  simp only [Act.put, List.setIfInBounds_toArray, List.set_cons_zero, List.set_cons_succ]
  go_big_quiet_on
  go_big_quiet_want
  refine ⟨V x.t x.n x.s, fun w' hw' => ?_, ?_⟩
  · obtain ⟨⟨v0, v1, v2⟩, ⟨m0, m1, m2, m3, m4, m5, m6, m7, m8, m9, m10⟩, ⟨h0, h1, h2, h3, h4, h5, h6, h7, h8, h9, h10⟩, ⟨n0, n1, n2, n3, n4, n5, n6, n7, n8, n9, n10⟩, ⟨k0, k1, k2, k3, k4, k5, k6, k7, k8, k9, k10⟩, _⟩ := hw'; rw [HM.out] at m0
    go_simp
  simp only [Act.put, List.setIfInBounds_toArray, List.set_cons_zero, List.set_cons_succ]
  go_big_quiet_on
  go_big_quiet_want
  refine ⟨.bool g, fun w' hw' => ?_, ?_⟩
  · go_simp
    exact (Kwh.out w').mono fun e w'' h => ⟨h.1, ⟨(hw'.1).below h.2, (hw'.2.1).below h.2, (hw'.2.2.1).below h.2, (hw'.2.2.2.1).below h.2, (hw'.2.2.2.2.1).below h.2, on hw'.2.2.2.2.2 h.2⟩⟩
  simp only [Act.put, List.setIfInBounds_toArray, List.set_cons_zero, List.set_cons_succ]
  go_big_quiet_on
  go_big_quiet_want
  refine ⟨.bool true, fun w' hw' => ?_, ?_⟩
  · go_simp
  simp only [Act.put, List.setIfInBounds_toArray, List.set_cons_zero, List.set_cons_succ]
  go_big_quiet_on
  go_big_quiet_want
  refine ⟨.bool true, fun w' hw' => ?_, ?_⟩
  · go_simp
  simp only [Act.put, List.setIfInBounds_toArray, List.set_cons_zero, List.set_cons_succ]
  go_big_quiet_on
  go_big_quiet_want
  go_big_quiet_op
  go_big_quiet_on
  go_big_quiet_want
  refine ⟨.pointer (some ⟨w4.heap.size, 0, none⟩), fun w' hw' => ?_, ?_⟩
  · go_simp
  simp only [Act.put, List.setIfInBounds_toArray, List.set_cons_zero, List.set_cons_succ]
  go_big_quiet_on
  go_big_quiet_want
  refine ⟨.bool false, fun w' hw' => ?_, ?_⟩
  · obtain ⟨⟨v0, v1, v2⟩, ⟨m0, m1, m2, m3, m4, m5, m6, m7, m8, m9, m10⟩, ⟨h0, h1, h2, h3, h4, h5, h6, h7, h8, h9, h10⟩, ⟨n0, n1, n2, n3, n4, n5, n6, n7, n8, n9, n10⟩, ⟨k0, k1, k2, k3, k4, k5, k6, k7, k8, k9, k10⟩, _⟩ := hw'; rw [HM.out] at m0
    go_simp
  simp only [Act.put, List.setIfInBounds_toArray, List.set_cons_zero, List.set_cons_succ]
  go_big_quiet_on
  go_big_quiet_want
  refine ⟨.bool true, fun w' hw' => ?_, ?_⟩
  · go_simp
  simp only [Act.put, List.setIfInBounds_toArray, List.set_cons_zero, List.set_cons_succ]
  go_big_quiet_on
  go_big_quiet_want
  go_big_quiet_op
  go_big_quiet_on
  go_big_quiet_skip
  go_big_quiet_skip
  go_big_quiet_skip
  go_big_quiet_want
  refine ⟨.bool true, fun w' hw' => ?_, ?_⟩
  · go_simp
  simp only [Act.put, List.setIfInBounds_toArray, List.set_cons_zero, List.set_cons_succ]
  go_big_quiet_on
  go_big_quiet_want
  refine ⟨.bool true, fun w' hw' => ?_, ?_⟩
  · go_simp
  simp only [Act.put, List.setIfInBounds_toArray, List.set_cons_zero, List.set_cons_succ]
  go_big_quiet_on
  go_big_quiet_want
  go_big_quiet_op
  go_big_quiet_on
  refine wpQuiet_nil ?_
  intro w' hw'
  have HBz : Hid (Below w.heap.size w w') := hw'.2.2.2.2.2
  clear hw'
  go_wp2_with fail
  go_ret
  exact ⟨rfl, HBz.out⟩
end Go.Proofs.YtfkhfplibhnceaaDoor.Val
/- The walk of the law NormalMeets: some of its cases. -/
namespace Go.Proofs.YtfkhfplibhnceaaDoor.Val
open Go.RowKit

set_option maxRecDepth 100000 in
set_option maxHeartbeats 8000000 in
theorem nmeets_001 (a b : Sp) (x : Val) (g : Bool) (h n k : Sp) (K : MK a b x false false g Sp.none h n k) (w : World) (hT : Tab w) : Calls Tryd.prog 7 #[a.val, b.val, V x.t x.n x.s] w fun e w' => e = .returned (.bool true) ∧ Below w.heap.size w w' := by
  have H0 : Hid (∀ w1, Below w.heap.size w w1 → Calls Tryd.prog 10 #[] w1 fun e w' => e = .returned (.bool true) ∧ Below w1.heap.size w1 w') := fun w1 hb => awake_any w1 (hT.below hb)
  have Kka : Hid (∀ w1, Calls Tryd.prog 17 #[a.val, V x.t x.n x.s] w1 fun e w' => e = .returned (.bool false) ∧ Below w1.heap.size w1 w') := K.ka
  have Kkb : Hid (∀ w1, Calls Tryd.prog 17 #[b.val, V x.t x.n x.s] w1 fun e w' => e = .returned (.bool false) ∧ Below w1.heap.size w1 w') := K.kb
  have Kkm : Hid (∀ w1, Calls Tryd.prog 19 #[a.val, b.val] w1 fun e w' => e = .returned Sp.none.val ∧ Below w1.heap.size w1 w') := K.km
  have Kkh : Hid (∀ w1, Calls Tryd.prog 21 #[a.val, b.val] w1 fun e w' => e = .returned h.val ∧ Below w1.heap.size w1 w') := K.kh
  have Kwm : Hid (∀ w1, Calls Tryd.prog 17 #[Sp.none.val, V x.t x.n x.s] w1 fun e w' => e = .returned (.bool false) ∧ Below w1.heap.size w1 w') := K.wm
  have Kwh : Hid (∀ w1, Calls Tryd.prog 17 #[h.val, V x.t x.n x.s] w1 fun e w' => e = .returned (.bool g) ∧ Below w1.heap.size w1 w') := K.wh
  have Kkn : Hid (∀ w1, Calls Tryd.prog 19 #[b.val, a.val] w1 fun e w' => e = .returned n.val ∧ Below w1.heap.size w1 w') := K.kn
  have Kkk : Hid (∀ w1, Calls Tryd.prog 21 #[b.val, a.val] w1 fun e w' => e = .returned k.val ∧ Below w1.heap.size w1 w') := K.kk
  have Kwn : Hid (∀ w1, Calls Tryd.prog 17 #[n.val, V x.t x.n x.s] w1 fun e w' => e = .returned (.bool false) ∧ Below w1.heap.size w1 w') := K.wn
  have Kwk : Hid (∀ w1, Calls Tryd.prog 17 #[k.val, V x.t x.n x.s] w1 fun e w' => e = .returned (.bool g) ∧ Below w1.heap.size w1 w') := K.wk
  have Qn : ∀ w1, (binOp .eql 35 (SV true false false false 0 ⟨#[]⟩ false false false 0 ⟨#[]⟩) (SV true false false false 0 ⟨#[]⟩ false false false 0 ⟨#[]⟩)).run Tryd.prog w1 = .ok (.bool true) w1 := fun w1 => eql_same Sp.none w1
  clear hT K
  unfold Sp.val at *
  (try simp only [Sp.none, Val.zero] at Kkm Kwm)
  go_enter Tryd.func7, Tryd.ntmps7
  go_wp2_with fail
  refine Calls.mono (H0.out _ (back2 (alloc1 _ _))) ?_
  rintro e w1 ⟨rfl, hb⟩
  have Xa : Hid (SBox w1 (w.heap.size) a) := show SBox w1 (w.heap.size) a from ((((SBox.new w a 35).alloc _).alloc _)).below hb
  have Xb : Hid (SBox w1 (w.heap.size + 1) b) := show SBox w1 (w.heap.size + 1) b from by have := ((SBox.new (w.alloc (sobj a 35)) b 35).alloc _).below hb; simpa using this
  have Xv : Hid (VBox w1 (w.heap.size + 1 + 1) x) := show VBox w1 (w.heap.size + 1 + 1) x from by have := (VBox.new ((w.alloc (sobj a 35)).alloc (sobj b 35)) x 26).below hb; simpa using this
  have HB : Hid (Below w.heap.size w w1) := back3 hb
  clear hb
  obtain ⟨a0, a1, a2, a3, a4, a5, a6, a7, a8, a9, a10⟩ := Xa.out
  have la := Xa.out.lt
  obtain ⟨v0, v1, v2⟩ := Xv.out
  have lv := Xv.out.lt
  go_wp2_with fail
  refine Calls.mono (Kka.out _) ?_
  rintro e w2 ⟨rfl, hb⟩
  clear a0 a1 a2 a3 a4 a5 a6 a7 a8 a9 a10 la v0 v1 v2 lv
  replace Xa : Hid (SBox w2 (w.heap.size) a) := Xa.out.below hb
  replace Xb : Hid (SBox w2 (w.heap.size + 1) b) := Xb.out.below hb
  replace Xv : Hid (VBox w2 (w.heap.size + 1 + 1) x) := Xv.out.below hb
  replace HB : Hid (Below w.heap.size w w2) := on HB.out hb
  clear hb
  obtain ⟨b0, b1, b2, b3, b4, b5, b6, b7, b8, b9, b10⟩ := Xb.out
  have lb := Xb.out.lt
  obtain ⟨v0, v1, v2⟩ := Xv.out
  have lv := Xv.out.lt
  go_wp2_with fail
  refine Calls.mono (Kkb.out _) ?_
  rintro e w3 ⟨rfl, hb⟩
  clear b0 b1 b2 b3 b4 b5 b6 b7 b8 b9 b10 lb v0 v1 v2 lv
  replace Xa : Hid (SBox w3 (w.heap.size) a) := Xa.out.below hb
  replace Xb : Hid (SBox w3 (w.heap.size + 1) b) := Xb.out.below hb
  replace Xv : Hid (VBox w3 (w.heap.size + 1 + 1) x) := Xv.out.below hb
  replace HB : Hid (Below w.heap.size w w3) := on HB.out hb
  clear hb
  obtain ⟨a0, a1, a2, a3, a4, a5, a6, a7, a8, a9, a10⟩ := Xa.out
  have la := Xa.out.lt
  obtain ⟨b0, b1, b2, b3, b4, b5, b6, b7, b8, b9, b10⟩ := Xb.out
  have lb := Xb.out.lt
  go_wp2_with fail
  refine Calls.mono (Kkm.out _) ?_
  rintro e w4 ⟨rfl, hb⟩
  clear a0 a1 a2 a3 a4 a5 a6 a7 a8 a9 a10 la b0 b1 b2 b3 b4 b5 b6 b7 b8 b9 b10 lb
  replace Xa : Hid (SBox w4 (w.heap.size) a) := Xa.out.below hb
  replace Xb : Hid (SBox w4 (w.heap.size + 1) b) := Xb.out.below hb
  replace Xv : Hid (VBox w4 (w.heap.size + 1 + 1) x) := Xv.out.below hb
  replace HB : Hid (Below w.heap.size w w4) := on HB.out hb
  clear hb
  obtain ⟨a0, a1, a2, a3, a4, a5, a6, a7, a8, a9, a10⟩ := Xa.out
  have la := Xa.out.lt
  obtain ⟨b0, b1, b2, b3, b4, b5, b6, b7, b8, b9, b10⟩ := Xb.out
  have lb := Xb.out.lt
  go_wp2_with fail
  refine Calls.mono (Kkh.out _) ?_
  rintro e w5 ⟨rfl, hb⟩
  clear a0 a1 a2 a3 a4 a5 a6 a7 a8 a9 a10 la b0 b1 b2 b3 b4 b5 b6 b7 b8 b9 b10 lb
  replace Xa : Hid (SBox w5 (w.heap.size) a) := (Xa.out.alloc _).below hb
  replace Xb : Hid (SBox w5 (w.heap.size + 1) b) := (Xb.out.alloc _).below hb
  replace Xv : Hid (VBox w5 (w.heap.size + 1 + 1) x) := (Xv.out.alloc _).below hb
  have Xm : Hid (SBox w5 w4.heap.size Sp.none) := (SBox.new _ _ 35).below hb
  replace HB : Hid (Below w.heap.size w w5) := on HB.out (back1 hb)
  clear hb
  obtain ⟨v0, v1, v2⟩ := Xv.out
  have lv := Xv.out.lt
  obtain ⟨m0, m1, m2, m3, m4, m5, m6, m7, m8, m9, m10⟩ := Xm.out
  have lm := Xm.out.lt
  simp only [Sp.none, Val.zero] at m0 m1 m2 m3 m4 m5 m6 m7 m8 m9 m10
  go_wp2_with fail
  refine Calls.mono (Kwm.out _) ?_
  rintro e w6 ⟨rfl, hb⟩
  clear v0 v1 v2 lv m0 m1 m2 m3 m4 m5 m6 m7 m8 m9 m10 lm
  replace Xa : Hid (SBox w6 (w.heap.size) a) := (Xa.out.alloc _).below hb
  replace Xb : Hid (SBox w6 (w.heap.size + 1) b) := (Xb.out.alloc _).below hb
  replace Xv : Hid (VBox w6 (w.heap.size + 1 + 1) x) := (Xv.out.alloc _).below hb
  replace Xm : Hid (SBox w6 (w4.heap.size) Sp.none) := (Xm.out.alloc _).below hb
  have Xh : Hid (SBox w6 w5.heap.size h) := (SBox.new _ _ 35).below hb
  replace HB : Hid (Below w.heap.size w w6) := on HB.out (back1 hb)
  clear hb
  obtain ⟨a0, a1, a2, a3, a4, a5, a6, a7, a8, a9, a10⟩ := Xa.out
  have la := Xa.out.lt
  obtain ⟨b0, b1, b2, b3, b4, b5, b6, b7, b8, b9, b10⟩ := Xb.out
  have lb := Xb.out.lt
  go_wp2_with fail
  refine Calls.mono (Kkn.out _) ?_
  rintro e w7 ⟨rfl, hb⟩
  clear a0 a1 a2 a3 a4 a5 a6 a7 a8 a9 a10 la b0 b1 b2 b3 b4 b5 b6 b7 b8 b9 b10 lb
  replace Xa : Hid (SBox w7 (w.heap.size) a) := Xa.out.below hb
  replace Xb : Hid (SBox w7 (w.heap.size + 1) b) := Xb.out.below hb
  replace Xv : Hid (VBox w7 (w.heap.size + 1 + 1) x) := Xv.out.below hb
  replace Xm : Hid (SBox w7 (w4.heap.size) Sp.none) := Xm.out.below hb
  replace Xh : Hid (SBox w7 (w5.heap.size) h) := Xh.out.below hb
  replace HB : Hid (Below w.heap.size w w7) := on HB.out hb
  clear hb
  obtain ⟨a0, a1, a2, a3, a4, a5, a6, a7, a8, a9, a10⟩ := Xa.out
  have la := Xa.out.lt
  obtain ⟨b0, b1, b2, b3, b4, b5, b6, b7, b8, b9, b10⟩ := Xb.out
  have lb := Xb.out.lt
  go_wp2_with fail
  refine Calls.mono (Kkk.out _) ?_
  rintro e w8 ⟨rfl, hb⟩
  clear a0 a1 a2 a3 a4 a5 a6 a7 a8 a9 a10 la b0 b1 b2 b3 b4 b5 b6 b7 b8 b9 b10 lb
  replace Xa : Hid (SBox w8 (w.heap.size) a) := (Xa.out.alloc _).below hb
  replace Xb : Hid (SBox w8 (w.heap.size + 1) b) := (Xb.out.alloc _).below hb
  replace Xv : Hid (VBox w8 (w.heap.size + 1 + 1) x) := (Xv.out.alloc _).below hb
  replace Xm : Hid (SBox w8 (w4.heap.size) Sp.none) := (Xm.out.alloc _).below hb
  replace Xh : Hid (SBox w8 (w5.heap.size) h) := (Xh.out.alloc _).below hb
  have Xn : Hid (SBox w8 w7.heap.size n) := (SBox.new _ _ 35).below hb
  replace HB : Hid (Below w.heap.size w w8) := on HB.out (back1 hb)
  clear hb
  have XK : Hid (∀ T, SBox (w8.alloc (sobj k T)) w8.heap.size k) := fun T => SBox.new _ _ T
  go_wp2_with fail
  (try simp only [List.append])
  refine region_cls (C := fun w' => VBox w' (w.heap.size + 1 + 1) x ∧ SBox w' (w4.heap.size) Sp.none ∧ SBox w' (w5.heap.size) h ∧ SBox w' (w7.heap.size) n ∧ SBox w' (w8.heap.size) k ∧ Below w.heap.size w w') (by kernel_rfl) (by kernel_rfl) ⟨(Xv.out.alloc _).below (Below.refl _ _).drew, (Xm.out.alloc _).below (Below.refl _ _).drew, (Xh.out.alloc _).below (Below.refl _ _).drew, (Xn.out.alloc _).below (Below.refl _ _).drew, (XK.out _).below (Below.refl _ _).drew, (on HB.out (alloc1 _ _)).drew⟩ ?_
  clear HB XK Xa Xb Xv Xm Xh Xn
  go_big_quiet_want
  refine ⟨SV n.no n.hl n.ol n.lo.t n.lo.n n.lo.s n.hh n.oh n.hi.t n.hi.n n.hi.s, fun w' hw' => ?_, ?_⟩
  · obtain ⟨⟨v0, v1, v2⟩, ⟨m0, m1, m2, m3, m4, m5, m6, m7, m8, m9, m10⟩, ⟨h0, h1, h2, h3, h4, h5, h6, h7, h8, h9, h10⟩, ⟨n0, n1, n2, n3, n4, n5, n6, n7, n8, n9, n10⟩, ⟨k0, k1, k2, k3, k4, k5, k6, k7, k8, k9, k10⟩, _⟩ := hw'; simp only [Sp.none, Val.zero] at *
    go_simp
  simp only [Act.put, List.setIfInBounds_toArray, List.set_cons_zero, List.set_cons_succ]
  go_big_quiet_on
  go_big_quiet_want
  refine ⟨V x.t x.n x.s, fun w' hw' => ?_, ?_⟩
  · obtain ⟨⟨v0, v1, v2⟩, ⟨m0, m1, m2, m3, m4, m5, m6, m7, m8, m9, m10⟩, ⟨h0, h1, h2, h3, h4, h5, h6, h7, h8, h9, h10⟩, ⟨n0, n1, n2, n3, n4, n5, n6, n7, n8, n9, n10⟩, ⟨k0, k1, k2, k3, k4, k5, k6, k7, k8, k9, k10⟩, _⟩ := hw'; simp only [Sp.none, Val.zero] at *
    go_simp
  simp only [Act.put, List.setIfInBounds_toArray, List.set_cons_zero, List.set_cons_succ]
  go_big_quiet_on
  go_big_quiet_want
  refine ⟨.bool false, fun w' hw' => ?_, ?_⟩
  · go_simp
    exact (Kwn.out w').mono fun e w'' h => ⟨h.1, ⟨(hw'.1).below h.2, (hw'.2.1).below h.2, (hw'.2.2.1).below h.2, (hw'.2.2.2.1).below h.2, (hw'.2.2.2.2.1).below h.2, on hw'.2.2.2.2.2 h.2⟩⟩
  simp only [Act.put, List.setIfInBounds_toArray, List.set_cons_zero, List.set_cons_succ]
  go_big_quiet_on
  go_big_quiet_want
  go_big_quiet_op
  go_big_quiet_on
  go_big_quiet_want
  go_big_quiet_op
  go_big_quiet_on
  go_big_quiet_skip
  go_big_quiet_want
  refine ⟨.bool false, fun w' hw' => ?_, ?_⟩
  · go_simp
  simp only [Act.put, List.setIfInBounds_toArray, List.set_cons_zero, List.set_cons_succ]
  go_big_quiet_on
  go_big_quiet_want
  refine ⟨.bool true, fun w' hw' => ?_, ?_⟩
  · go_simp
  simp only [Act.put, List.setIfInBounds_toArray, List.set_cons_zero, List.set_cons_succ]
  go_big_quiet_on
  go_big_quiet_want
  go_big_quiet_op
  go_big_quiet_on
  go_big_quiet_want
  refine ⟨SV k.no k.hl k.ol k.lo.t k.lo.n k.lo.s k.hh k.oh k.hi.t k.hi.n k.hi.s, fun w' hw' => ?_, ?_⟩
  · obtain ⟨⟨v0, v1, v2⟩, ⟨m0, m1, m2, m3, m4, m5, m6, m7, m8, m9, m10⟩, ⟨h0, h1, h2, h3, h4, h5, h6, h7, h8, h9, h10⟩, ⟨n0, n1, n2, n3, n4, n5, n6, n7, n8, n9, n10⟩, ⟨k0, k1, k2, k3, k4, k5, k6, k7, k8, k9, k10⟩, _⟩ := hw'; simp only [Sp.none, Val.zero] at *
    go_simp
  simp only [Act.put, List.setIfInBounds_toArray, List.set_cons_zero, List.set_cons_succ]
  go_big_quiet_on
  go_big_quiet_want
  refine ⟨V x.t x.n x.s, fun w' hw' => ?_, ?_⟩
  · obtain ⟨⟨v0, v1, v2⟩, ⟨m0, m1, m2, m3, m4, m5, m6, m7, m8, m9, m10⟩, ⟨h0, h1, h2, h3, h4, h5, h6, h7, h8, h9, h10⟩, ⟨n0, n1, n2, n3, n4, n5, n6, n7, n8, n9, n10⟩, ⟨k0, k1, k2, k3, k4, k5, k6, k7, k8, k9, k10⟩, _⟩ := hw'; simp only [Sp.none, Val.zero] at *
    go_simp
  simp only [Act.put, List.setIfInBounds_toArray, List.set_cons_zero, List.set_cons_succ]
  go_big_quiet_on
  go_big_quiet_want
  refine ⟨.bool g, fun w' hw' => ?_, ?_⟩
  · go_simp
    exact (Kwk.out w').mono fun e w'' h => ⟨h.1, ⟨(hw'.1).below h.2, (hw'.2.1).below h.2, (hw'.2.2.1).below h.2, (hw'.2.2.2.1).below h.2, (hw'.2.2.2.2.1).below h.2, on hw'.2.2.2.2.2 h.2⟩⟩
  simp only [Act.put, List.setIfInBounds_toArray, List.set_cons_zero, List.set_cons_succ]
  go_big_quiet_on
  go_big_quiet_want
  refine ⟨SV h.no h.hl h.ol h.lo.t h.lo.n h.lo.s h.hh h.oh h.hi.t h.hi.n h.hi.s, fun w' hw' => ?_, ?_⟩
  · obtain ⟨⟨v0, v1, v2⟩, ⟨m0, m1, m2, m3, m4, m5, m6, m7, m8, m9, m10⟩, ⟨h0, h1, h2, h3, h4, h5, h6, h7, h8, h9, h10⟩, ⟨n0, n1, n2, n3, n4, n5, n6, n7, n8, n9, n10⟩, ⟨k0, k1, k2, k3, k4, k5, k6, k7, k8, k9, k10⟩, _⟩ := hw'; simp only [Sp.none, Val.zero] at *
    go_simp
  simp only [Act.put, List.setIfInBounds_toArray, List.set_cons_zero, List.set_cons_succ]
  go_big_quiet_on
  go_big_quiet_want
  refine ⟨V x.t x.n x.s, fun w' hw' => ?_, ?_⟩
  · obtain ⟨⟨v0, v1, v2⟩, ⟨m0, m1, m2, m3, m4, m5, m6, m7, m8, m9, m10⟩, ⟨h0, h1, h2, h3, h4, h5, h6, h7, h8, h9, h10⟩, ⟨n0, n1, n2, n3, n4, n5, n6, n7, n8, n9, n10⟩, ⟨k0, k1, k2, k3, k4, k5, k6, k7, k8, k9, k10⟩, _⟩ := hw'; simp only [Sp.none, Val.zero] at *
    go_simp
  simp only [Act.put, List.setIfInBounds_toArray, List.set_cons_zero, List.set_cons_succ]
  go_big_quiet_on
  go_big_quiet_want
  refine ⟨.bool g, fun w' hw' => ?_, ?_⟩
  · go_simp
    exact (Kwh.out w').mono fun e w'' h => ⟨h.1, ⟨(hw'.1).below h.2, (hw'.2.1).below h.2, (hw'.2.2.1).below h.2, (hw'.2.2.2.1).below h.2, (hw'.2.2.2.2.1).below h.2, on hw'.2.2.2.2.2 h.2⟩⟩
  simp only [Act.put, List.setIfInBounds_toArray, List.set_cons_zero, List.set_cons_succ]
  go_big_quiet_on
  go_big_quiet_want
  refine ⟨.bool true, fun w' hw' => ?_, ?_⟩
  · go_simp
  simp only [Act.put, List.setIfInBounds_toArray, List.set_cons_zero, List.set_cons_succ]
  go_big_quiet_on
  go_big_quiet_want
  refine ⟨.bool true, fun w' hw' => ?_, ?_⟩
  · go_simp
  simp only [Act.put, List.setIfInBounds_toArray, List.set_cons_zero, List.set_cons_succ]
  go_big_quiet_on
  go_big_quiet_want
  go_big_quiet_op
  go_big_quiet_on
  go_big_quiet_want
  refine ⟨.pointer (some ⟨w4.heap.size, 0, none⟩), fun w' hw' => ?_, ?_⟩
  · go_simp
  simp only [Act.put, List.setIfInBounds_toArray, List.set_cons_zero, List.set_cons_succ]
  go_big_quiet_on
  go_big_quiet_want
  refine ⟨.bool true, fun w' hw' => ?_, ?_⟩
  · obtain ⟨⟨v0, v1, v2⟩, ⟨m0, m1, m2, m3, m4, m5, m6, m7, m8, m9, m10⟩, ⟨h0, h1, h2, h3, h4, h5, h6, h7, h8, h9, h10⟩, ⟨n0, n1, n2, n3, n4, n5, n6, n7, n8, n9, n10⟩, ⟨k0, k1, k2, k3, k4, k5, k6, k7, k8, k9, k10⟩, _⟩ := hw'; simp only [Sp.none, Val.zero] at *
    go_simp
  simp only [Act.put, List.setIfInBounds_toArray, List.set_cons_zero, List.set_cons_succ]
  go_big_quiet_on
  go_big_quiet_want
  refine ⟨.bool false, fun w' hw' => ?_, ?_⟩
  · go_simp
  simp only [Act.put, List.setIfInBounds_toArray, List.set_cons_zero, List.set_cons_succ]
  go_big_quiet_on
  go_big_quiet_want
  go_big_quiet_op
  go_big_quiet_on
  go_big_quiet_want
  refine ⟨SV true false false false 0 ⟨#[]⟩ false false false 0 ⟨#[]⟩, fun w' hw' => ?_, ?_⟩
  · obtain ⟨⟨v0, v1, v2⟩, ⟨m0, m1, m2, m3, m4, m5, m6, m7, m8, m9, m10⟩, ⟨h0, h1, h2, h3, h4, h5, h6, h7, h8, h9, h10⟩, ⟨n0, n1, n2, n3, n4, n5, n6, n7, n8, n9, n10⟩, ⟨k0, k1, k2, k3, k4, k5, k6, k7, k8, k9, k10⟩, _⟩ := hw'; simp only [Sp.none, Val.zero] at *
    go_simp
  simp only [Act.put, List.setIfInBounds_toArray, List.set_cons_zero, List.set_cons_succ]
  go_big_quiet_on
  go_big_quiet_want
  refine ⟨SV true false false false 0 ⟨#[]⟩ false false false 0 ⟨#[]⟩, fun w' hw' => ?_, ?_⟩
  · go_simp
  simp only [Act.put, List.setIfInBounds_toArray, List.set_cons_zero, List.set_cons_succ]
  go_big_quiet_on
  go_big_quiet_want
  refine ⟨.bool true, fun w' hw' => ?_, ?_⟩
  · go_simp
  simp only [Act.put, List.setIfInBounds_toArray, List.set_cons_zero, List.set_cons_succ]
  go_big_quiet_on
  go_big_quiet_want
  refine ⟨.bool true, fun w' hw' => ?_, ?_⟩
  · go_simp
  simp only [Act.put, List.setIfInBounds_toArray, List.set_cons_zero, List.set_cons_succ]
  go_big_quiet_on
  go_big_quiet_want
  refine ⟨.bool true, fun w' hw' => ?_, ?_⟩
  · go_simp
  simp only [Act.put, List.setIfInBounds_toArray, List.set_cons_zero, List.set_cons_succ]
  go_big_quiet_on
  go_big_quiet_want
  go_big_quiet_op
  go_big_quiet_on
  refine wpQuiet_nil ?_
  intro w' hw'
  have HBz : Hid (Below w.heap.size w w') := hw'.2.2.2.2.2
  clear hw'
  go_wp2_with fail
  go_ret
  exact ⟨rfl, HBz.out⟩
end Go.Proofs.YtfkhfplibhnceaaDoor.Val
/- The walk of the law NormalMeets. -/
namespace Go.Proofs.YtfkhfplibhnceaaDoor.Val
open Go.RowKit

theorem nmeets_walk (a b : Sp) (x : Val) (w : World) (hT : Tab w) : Calls Tryd.prog 7 #[a.val, b.val, V x.t x.n x.s] w fun e w' => e = .returned (.bool true) ∧ Below w.heap.size w w' := by
  have K := MK.of a b x
  have hg : withinS a x = true ∨ withinS b x = true → withinS (hullS a b) x = true := fun h => hull_has a b x (by rcases h with h | h <;> simp [h])
  have hm := meet_no (a := a) (b := b)
  have hw : withinS a x = true → withinS b x = true → (meetS a b).no = false := fun h1 h2 => by
    have h := within_meet a b x
    rw [h1, h2, within_eq] at h
    cases hn : (meetS a b).no
    · rfl
    · rw [hn] at h; exact h.symm
  cases h1 : withinS a x <;> cases h2 : withinS b x <;> rw [h1, h2] at K <;> cases h3 : (meetS a b).no
  · exact nmeets_000 a b x _ _ _ _ _ h3 K w hT
  · rw [hm h3] at K; exact nmeets_001 a b x _ _ _ _ K w hT
  · rw [hg (by simp [h1, h2])] at K; exact nmeets_010 a b x _ _ _ _ h3 K w hT
  · rw [hg (by simp [h1, h2])] at K; rw [hm h3] at K; exact nmeets_011 a b x _ _ _ K w hT
  · rw [hg (by simp [h1, h2])] at K; exact nmeets_100 a b x _ _ _ _ h3 K w hT
  · rw [hg (by simp [h1, h2])] at K; rw [hm h3] at K; exact nmeets_101 a b x _ _ _ K w hT
  · rw [hg (by simp [h1, h2])] at K; exact nmeets_110 a b x _ _ _ _ h3 K w hT
  · rw [hw h1 h2] at h3; cases h3
end Go.Proofs.YtfkhfplibhnceaaDoor.Val
/- The law NormalMeets holds: what lies in both of two spans lies where they meet and nothing else, what lies in one lies in the hull, and turned about it is the same. Conditions: the listed package-level variables lie as the program's text lays them (the card ties them). -/
namespace Go.Proofs.YtfkhfplibhnceaaDoor.Val
open Go.ChangeShapes Go.WideShapes Go.ChangeAt Go.RowKit
open Go.ChangeMaps (open_string)

theorem nmeets_contract (H : Type) (enc : TypeId × Value → H) (W : World) (base : Nat) (args : Array Value) (ds gs : List (DataW H)) (before : List MemPlace)
    (hval : ∀ (j : Nat) t v, Tryd.f7.params[j]? = some t → args[j]? = some v → Value.okWide Tryd.prog W .any base t v)
    (hW : DataW.Whole enc Tryd.prog Tryd.f7.params.toList Rows.normalMeetsSpec.vars false W args.toList ds gs before) (hL : laidMetH Tryd.prog Rows.normalMeetsRow.laid W) :
    Calls Tryd.prog 7 args W fun e W' => ∃ v, e = .returned v ∧ Rows.normalMeetsSpec.post enc Tryd.prog Tryd.f7 false true false false W args v W' := by
  have hW' := hW
  obtain ⟨p, q, hA0, hV, rfl, hfz, hnd⟩ := hW
  have hA : DataW.TrodAll enc Tryd.prog W 0 (fun _ => true) true Tryd.f7.params.toList args.toList ds p := hA0
  rw [Tryd.params7] at hA hval
  obtain ⟨v0, vs0, d0, ds0, p0, q0, hargs, rfl, rfl, h0, r0⟩ := trodAll_cons hA
  obtain ⟨v1, vs1, d1, ds1, p1, q1, rfl, rfl, rfl, h1, r1⟩ := trodAll_cons r0
  obtain ⟨v2, vs2, d2, ds2, p2, q2, rfl, rfl, rfl, h2, r2⟩ := trodAll_cons r1
  obtain ⟨rfl, rfl, rfl⟩ := trodAll_nil r2
  obtain rfl : args = #[v0, v1, v2] := by cases args; simp_all
  obtain ⟨rfl, rfl⟩ := trodVars_none hV
  have k0 := h0
  have lt0 : ∀ x ∈ p0, x.block < W.heap.size := by obtain ⟨m, hm⟩ := k0; exact DataW.trod_lt m _ _ _ hm
  obtain ⟨x0, rfl, o0⟩ := open_span (hval 0 35 v0 rfl rfl) h0
  have k1 := h1
  have lt1 : ∀ x ∈ p1, x.block < W.heap.size := by obtain ⟨m, hm⟩ := k1; exact DataW.trod_lt m _ _ _ hm
  obtain ⟨x1, rfl, o1⟩ := open_span (hval 1 35 v1 rfl rfl) h1
  have k2 := h2
  have lt2 : ∀ x ∈ p2, x.block < W.heap.size := by obtain ⟨m, hm⟩ := k2; exact DataW.trod_lt m _ _ _ hm
  obtain ⟨x2, rfl, o2⟩ := open_value (hval 2 26 v2 rfl rfl) h2
  clear hA0
  have hT := tabOf hL
  refine (nmeets_walk x0 x1 x2 W hT).mono fun e W' ⟨he, bel⟩ => ?_
  subst he
  exact ⟨_, rfl, _, _, _, [], _, [], hW', trodAll_mk1 (shut_bool Tryd.underlying4 _), (trodAll_cons_mk (Below.trod laidOut (by kernel_rfl) (of_decide_eq_true (by kernel_rfl)) k0 bel lt0) (trodAll_cons_mk (Below.trod laidOut (by kernel_rfl) (of_decide_eq_true (by kernel_rfl)) k1 bel lt1) (trodAll_cons_mk (Below.trod laidOut (by kernel_rfl) (of_decide_eq_true (by kernel_rfl)) k2 bel lt2) trodAll_mk0))), rfl, bel.frame _, fun h => by cases h⟩

set_option maxRecDepth 100000 in
theorem nmeets_lifted (os : Os) (started : os.Started) (H : Type) (enc : TypeId × Value → H) (F : Stop.Interp) :
    ReturnsInHanded {} Tryd.checked os 7 .any ((OpenSpec.ofChange Rows.normalMeetsSpec).preRow enc Tryd.prog Tryd.f7 Rows.normalMeetsRow.domain false Rows.normalMeetsRow.laid) (((OpenSpec.ofChange Rows.normalMeetsSpec).at F).post enc Tryd.prog Tryd.f7 false true false false) := by
  refine returnsInHanded_of_row (C := Tryd.checked) (s := OpenSpec.ofChange Rows.normalMeetsSpec) own started (by kernel_rfl) Tryd.func7
    (witness_row_at (enc := enc) (C := Tryd.checked) false
      { World.holding Tryd.prog os ⟨#[], #[], []⟩ with heap := ((World.holding Tryd.prog os ⟨#[], #[], []⟩).heap.modify 0 (putCells (dataCells .i64 oppTab))) }
      #[.agg #[.bool false, .bool false, .bool false, .bool false, .int .i64 0, .string ⟨#[]⟩, .bool false, .bool false, .bool false, .int .i64 0, .string ⟨#[]⟩], .agg #[.bool false, .bool false, .bool false, .bool false, .int .i64 0, .string ⟨#[]⟩, .bool false, .bool false, .bool false, .int .i64 0, .string ⟨#[]⟩], .agg #[.bool false, .int .i64 0, .string ⟨#[]⟩]] rfl (by kernel_rfl) (by kernel_rfl) (by kernel_rfl)
      (OpenSpec.preRow_of_cond 8 (x := ([.agg [.lit (.bool false), .lit (.bool false), .lit (.bool false), .agg [.lit (.bool false), .lit (.int .i64 0), .lit (.string [])], .lit (.bool false), .lit (.bool false), .agg [.lit (.bool false), .lit (.int .i64 0), .lit (.string [])]], .agg [.lit (.bool false), .lit (.bool false), .lit (.bool false), .agg [.lit (.bool false), .lit (.int .i64 0), .lit (.string [])], .lit (.bool false), .lit (.bool false), .agg [.lit (.bool false), .lit (.int .i64 0), .lit (.string [])]], .agg [.lit (.bool false), .lit (.int .i64 0), .lit (.string [])]], [], [])) (by kernel_rfl) (by kernel_rfl) (fun k hk => by cases hk) (by kernel_rfl) (laidMet_of_run' 8 (by kernel_rfl) (by kernel_rfl)))) ?_
  intro W base args ds gs before hval hW _ _ _ hL _ _
  exact nmeets_contract H enc W base args ds gs before hval hW hL

theorem nmeets_said : Rows.NormalMeetsSaid :=
  OpenClaim.holds_of_cond 7 Tryd.f7 rfl rfl rfl rfl rfl rfl rfl ⟨rfl, rfl, rfl, rfl, rfl⟩ rfl rfl rfl rfl rfl (by kernel_rfl) Tryd.func7 (by kernel_rfl)
    (of_decide_eq_true (by kernel_rfl)) (by unfold Func.isWrapper; first | (rw [if_pos (by decide +kernel)]; kernel_rfl) | (rw [if_neg (by decide +kernel)]; exact ⟨rfl, rfl⟩))
    (fun os started H enc _ F => by rw [OpenClaim.pre_eq_preRow]; exact nmeets_lifted os started H enc F)

theorem nmeets_plain (f : FuncId) (fn : Func) (hf : Tryd.pinned.checked.prog.funcNamed "ratline/ratlinelaw04.NormalMeets" = some f) (hfn : Tryd.pinned.checked.prog.funcs[f]? = some fn) :
    false = Tryd.pinned.checked.prog.looks [] ∧ ∀ (j : Nat) t, fn.params[j]? = some t → Tryd.pinned.checked.prog.wantsStandIn t = false := by
  obtain rfl : f = 7 := Option.some.inj ((show Tryd.prog.funcNamed "ratline/ratlinelaw04.NormalMeets" = some 7 by kernel_rfl).symm.trans hf) |>.symm
  obtain rfl : fn = Tryd.f7 := (Option.some.inj (Tryd.func7.symm.trans hfn)).symm
  refine ⟨by kernel_rfl, fun j t ht => ?_⟩
  rw [Tryd.params7] at ht
  have hm : t = 35 ∨ t = 35 ∨ t = 26 := by simpa using Array.mem_of_getElem? ht
  rcases hm with rfl | rfl | rfl
  · exact (show Tryd.prog.wantsStandIn 35 = false by kernel_rfl)
  · exact (show Tryd.prog.wantsStandIn 35 = false by kernel_rfl)
  · exact (show Tryd.prog.wantsStandIn 26 = false by kernel_rfl)

/-- The card. -/
theorem nmeets_card : Rows.NormalMeetsCardSaid :=
  Claim7.holds_tied_plain_at .later [] _ _ _ _ nmeets_said (fun _ h => by cases h) (by kernel_rfl) (fun _ h => by cases h) normalMeets_row_tie rfl ⟨rfl, rfl⟩ (by kernel_rfl) rfl nmeets_plain (by kernel_rfl)
end Go.Proofs.YtfkhfplibhnceaaDoor.Val
