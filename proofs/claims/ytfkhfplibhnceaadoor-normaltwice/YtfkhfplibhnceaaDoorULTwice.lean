/- The walk of the law NormalTwice. -/
import Derived.Test.YtfkhfplibhnceaaDoorU12
import Derived.Test.YtfkhfplibhnceaaDoorU11
import Derived.Test.YtfkhfplibhnceaaDoorU8
namespace Go.Proofs.YtfkhfplibhnceaaDoor.Val
open Go.RowKit

set_option maxRecDepth 100000 in
set_option maxHeartbeats 8000000 in
theorem ntwice_walk (vc : Value) (cols : List Bool) (p : PT) (w : World) (hbo : BoolsIn w vc cols) (hi : In w p) (hT : Tab w) :
    Calls Tryd.prog 8 #[.agg #[vc], p.val] w fun e w' => e = .returned (.bool true) ∧ Below w.heap.size w w' := by
  have H0 : Hid (∀ w1, Below w.heap.size w w1 → Calls Tryd.prog 10 #[] w1 fun e w' => e = .returned (.bool true) ∧ Below w1.heap.size w1 w') := fun w1 hb => awake_any w1 (hT.below hb)
  have H1 : Hid (∀ w1, Below w.heap.size w w1 → Calls Tryd.prog 11 #[p.val, .int .i64 0] w1 fun e w' => ∃ b, e = .returned (.bool b) ∧ (b = true → p.size ≤ 100) ∧ Below w1.heap.size w1 w') := fun w1 hb => few_any p w1 (hi.keep hb)
  have HNrm : Hid (∀ x : PT, x.size ≤ 1000 → ∀ w1, In w1 x → Below w.heap.size w w1 → Calls Tryd.prog 13 #[.agg #[vc], x.val] w1 fun e w' => ∃ q : PT, e = .returned q.val ∧ (q.bare = normP cols x ∧ In w' q) ∧ Below w1.heap.size w1 w') := fun x hs w1 hx hb => (normal_any vc cols x w1 (hbo.below hb) hx (hT.below hb) (by omega)).mono fun e w' ⟨q, h1, h2, h3, h4⟩ => ⟨q, h1, ⟨h2, h3.isIn⟩, h4⟩
  obtain ⟨m, hm⟩ : ∃ m, (mayT cols && mayP cols p) = m := ⟨_, rfl⟩
  have H4 : Hid (p.size ≤ 100 → ∀ w1, Below w.heap.size w w1 → Calls Tryd.prog 24 #[.agg #[vc], p.val] w1 fun e w' => e = .returned (.bool m) ∧ Below w1.heap.size w1 w') := fun hs w1 hb => by rw [← hm]; exact rmayP_any vc cols p w1 (hbo.below hb) (hi.keep hb) (by omega)
  have H3 : Hid (p.size ≤ 100 → ∀ w1, Below w.heap.size w w1 → Calls Tryd.prog 27 #[p.val] w1 fun e w' => e = .returned (.int .i64 (p.size : Int)) ∧ Below w1.heap.size w1 w') := fun hs w1 hb => rsize_any p w1 (hi.keep hb) (by omega)
  have HC : Hid (m = true → checkN cols p = 0) := fun h => check_may.2 (hm.trans h)
  have HIN : Hid (∀ w1, Below w.heap.size w w1 → In w1 p) := fun w1 hb => hi.keep hb
  obtain ⟨ap, cp, hlp, _⟩ := hi.lies.slice
  obtain ⟨ac, cc, rfl, _⟩ := hbo.slice
  have HLP : Hid (p.lv = .slice ap p.l.length cp) := hlp
  have HPN : Hid (∀ w0 : World, Box (w0.alloc (.cells #[.int .i64 p.op, .int .i64 p.col, .bool p.v.t, .int .i64 p.v.n, .string p.v.s, .bool p.w.t, .int .i64 p.w.n, .string p.w.s, .slice ap p.l.length cp] 29)) w0.heap.size p) := fun w0 => by have := Box.new w0 p 29; rw [pobj, hlp] at this; exact this
  have HPL : Hid (∀ w0 : World, Lies (w0.alloc (.cells #[.int .i64 p.op, .int .i64 p.col, .bool p.v.t, .int .i64 p.v.n, .string p.v.s, .bool p.w.t, .int .i64 p.w.n, .string p.w.s, .slice ap p.l.length cp] 29)) (.slice (some ⟨w0.heap.size, 0, none⟩) 1 1) 1 (([p] : List PT).flatMap PT.cells)) := fun w0 => by have := lies_new w0 _ rfl (([p] : List PT).flatMap PT.cells) 1 29 (by decide); simpa [PT.cells, Val.cells, hlp] using this
  clear hi hbo hT hm
  unfold PT.val at H1 H3 H4 ⊢
  rw [hlp] at H1 H3 H4 ⊢
  clear hlp
  go_enter Tryd.func8, Tryd.ntmps8
  go_wp2_with fail
  refine Calls.mono (H0.out _ (back1 (alloc1 _ _))) ?_
  rintro e w1 ⟨rfl, hb⟩
  have Xt : Hid (CBox w1 (w.heap.size) (.slice ac cols.length cc)) := show CBox w1 (w.heap.size) (.slice ac cols.length cc) from ((CBox.new w _ _).alloc _).below hb
  have Xp : Hid (Box w1 (w.heap.size + 1) p) := show Box w1 (w.heap.size + 1) p from by have := (HPN.out _).below hb; simpa using this
  have HB : Hid (Below w.heap.size w w1) := back2 hb
  clear hb
  clear H0 HPN
  obtain ⟨t0⟩ := Xt.out
  have lt := Xt.out.lt
  obtain ⟨p0, p1, p2, p3, p4, p5, p6, p7, p8⟩ := Xp.out
  have lp := Xp.out.lt
  rw [HLP.out] at p8
  go_wp2_with fail
  refine Calls.mono (H1.out _ HB.out) ?_
  rintro e w2 ⟨b, rfl, hsz, hb⟩
  clear t0 lt p0 p1 p2 p3 p4 p5 p6 p7 p8 lp
  replace Xt : Hid (CBox w2 (w.heap.size) (.slice ac cols.length cc)) := Xt.out.below hb
  replace Xp : Hid (Box w2 (w.heap.size + 1) p) := Xp.out.below hb
  replace HB : Hid (Below w.heap.size w w2) := on HB.out hb
  have HS : Hid (b = true → p.size ≤ 100) := hsz
  clear hsz
  clear hb
  clear H1
  cases b
  · clear Xt Xp HNrm H3 H4 HC HIN HPL
    go_wp2_with fail
    go_ret
    exact ⟨rfl, HB.out⟩
  have K4 : Hid _ := H4.out (HS.out rfl)
  have K3 : Hid _ := H3.out (HS.out rfl)
  have K2 : Hid (∀ w1, Below w.heap.size w w1 → Calls Tryd.prog 13 #[.agg #[.slice ac cols.length cc], p.val] w1 fun e w' => ∃ q : PT, e = .returned q.val ∧ (q.bare = normP cols p ∧ In w' q) ∧ Below w1.heap.size w1 w') := fun w1 hb => HNrm.out p (by have := HS.out rfl; omega) w1 (HIN.out w1 hb) hb
  have HSZ : Hid (p.size ≤ 100) := HS.out rfl
  clear H3 H4 HS
  unfold PT.val at K2
  rw [HLP.out] at K2
  by_cases h1 : 100 < cols.length
  · have e1 : (100 : Int) < (cols.length : Int) := by omega
    obtain ⟨t0⟩ := Xt.out
    clear Xt Xp HNrm K2 K3 K4 HC HIN HPL
    go_wp2_with fail
    go_ret
    exact ⟨rfl, HB.out⟩
  have e1 : decide ((100 : Int) < (cols.length : Int)) = false := by simp; omega
  clear h1
  obtain ⟨t0⟩ := Xt.out
  have lt := Xt.out.lt
  obtain ⟨p0, p1, p2, p3, p4, p5, p6, p7, p8⟩ := Xp.out
  have lp := Xp.out.lt
  rw [HLP.out] at p8
  go_wp2_with fail
  refine Calls.mono (K2.out _ HB.out) ?_
  rintro e w3 ⟨q, rfl, ⟨hqb, hqi⟩, hb⟩
  clear t0 lt p0 p1 p2 p3 p4 p5 p6 p7 p8 lp
  replace Xt : Hid (CBox w3 (w.heap.size) (.slice ac cols.length cc)) := Xt.out.below hb
  replace Xp : Hid (Box w3 (w.heap.size + 1) p) := Xp.out.below hb
  replace HB : Hid (Below w.heap.size w w3) := on HB.out hb
  obtain ⟨aq, cq, hlq, _⟩ := hqi.lies.slice
  have HQ : Hid (q.bare = normP cols p) := hqb
  have HQ3 : Hid (In w3 q) := hqi
  have HLQ : Hid (q.lv = .slice aq q.l.length cq) := hlq
  have HQN : Hid (Box (w3.alloc (.cells #[.int .i64 q.op, .int .i64 q.col, .bool q.v.t, .int .i64 q.v.n, .string q.v.s, .bool q.w.t, .int .i64 q.w.n, .string q.w.s, .slice aq q.l.length cq] 29)) w3.heap.size q) := by have := Box.new w3 q 29; rw [pobj, hlq] at this; exact this
  (try unfold PT.val)
  rw [hlq]
  clear hqb hqi hlq K2
  clear hb
  have KN : Hid (∀ w1, In w1 (nnP (w3.heap.size + 1) p) → Below w.heap.size w w1 → Calls Tryd.prog 13 #[.agg #[.slice ac cols.length cc], (nnP (w3.heap.size + 1) p).val] w1 fun e w' => ∃ q : PT, e = .returned q.val ∧ (q.bare = normP cols (nnP (w3.heap.size + 1) p) ∧ In w' q) ∧ Below w1.heap.size w1 w') := fun w1 h hb => HNrm.out _ (by have := HSZ.out; rw [nn_size]; omega) w1 h hb
  have HIn : Hid (∀ w1 : World, Below w.heap.size w w1 → Lies w1 (.slice (some ⟨w3.heap.size + 1, 0, none⟩) 1 1) 1 (([p] : List PT).flatMap PT.cells) → Lies w1 (.slice (some ⟨w3.heap.size + 1 + 1, 0, none⟩) 1 1) 1 (([.mk 10 0 Val.zero Val.zero (.slice (some ⟨w3.heap.size + 1, 0, none⟩) 1 1) [p]] : List PT).flatMap PT.cells) → In w1 (nnP (w3.heap.size + 1) p)) := fun w1 hb h1 h2 =>
    .mk (by decide) (by decide) h2 fun x hx => by
      have : x = .mk 10 0 Val.zero Val.zero (.slice (some ⟨w3.heap.size + 1, 0, none⟩) 1 1) [p] := by simpa using hx
      subst this
      exact .mk (by decide) (by decide) h1 fun y hy => by
        have : y = p := by simpa using hy
        subst this
        exact HIN.out w1 hb
  unfold PT.val nnP at KN
  simp only [Val.zero] at KN
  obtain ⟨t0⟩ := Xt.out
  have lt := Xt.out.lt
  obtain ⟨p0, p1, p2, p3, p4, p5, p6, p7, p8⟩ := Xp.out
  have lp := Xp.out.lt
  rw [HLP.out] at p8
  go_wp2_with fail
  refine Calls.mono (KN.out _ (HIn.out _ (on HB.out (back2 (alloc1 _ _))) ?_ ?_) (on HB.out (back2 (alloc1 _ _)))) ?_
  · have := (HPL.out (w3.alloc (.cells #[.int .i64 q.op, .int .i64 q.col, .bool q.v.t, .int .i64 q.v.n, .string q.v.s, .bool q.w.t, .int .i64 q.w.n, .string q.w.s, .slice aq q.l.length cq] 29))).alloc (.cells #[.int .i64 10, .int .i64 0, .bool false, .int .i64 0, .string ⟨#[]⟩, .bool false, .int .i64 0, .string ⟨#[]⟩, .slice (some ⟨w3.heap.size + 1, 0, none⟩) 1 1] 29)
    simpa using this
  · have := lies_new ((w3.alloc (.cells #[.int .i64 q.op, .int .i64 q.col, .bool q.v.t, .int .i64 q.v.n, .string q.v.s, .bool q.w.t, .int .i64 q.w.n, .string q.w.s, .slice aq q.l.length cq] 29)).alloc (.cells #[.int .i64 p.op, .int .i64 p.col, .bool p.v.t, .int .i64 p.v.n, .string p.v.s, .bool p.w.t, .int .i64 p.w.n, .string p.w.s, .slice ap p.l.length cp] 29)) _ rfl (([.mk 10 0 Val.zero Val.zero (.slice (some ⟨w3.heap.size + 1, 0, none⟩) 1 1) [p]] : List PT).flatMap PT.cells) 1 29 (by decide)
    simpa [PT.cells, Val.cells, Val.zero] using this
  rintro e w4 ⟨d, rfl, ⟨hdb, hdi⟩, hb⟩
  clear t0 lt p0 p1 p2 p3 p4 p5 p6 p7 p8 lp
  obtain ⟨ad, cd, hld, _⟩ := hdi.lies.slice
  replace Xt : Hid (CBox w4 (w.heap.size) (.slice ac cols.length cc)) := (((Xt.out.alloc _).alloc _).alloc _).below hb
  replace Xp : Hid (Box w4 (w.heap.size + 1) p) := (((Xp.out.alloc _).alloc _).alloc _).below hb
  have Xq : Hid (Box w4 w3.heap.size q) := ((HQN.out.alloc _).alloc _).below hb
  have HQ4 : Hid (In w4 q) := HQ3.out.keep (back3 hb)
  have HD4 : Hid (In w4 d) := hdi
  have HDB : Hid (d.bare = normP cols (nnP (w3.heap.size + 1) p)) := hdb
  have HLD : Hid (d.lv = .slice ad d.l.length cd) := hld
  have HDN : Hid (Box (w4.alloc (.cells #[.int .i64 d.op, .int .i64 d.col, .bool d.v.t, .int .i64 d.v.n, .string d.v.s, .bool d.w.t, .int .i64 d.w.n, .string d.w.s, .slice ad d.l.length cd] 29)) w4.heap.size d) := by have := Box.new w4 d 29; rw [pobj, hld] at this; exact this
  replace HB : Hid (Below w.heap.size w w4) := on HB.out (back3 hb)
  (try unfold PT.val)
  rw [hld]
  clear hb hdb hdi hld HQN HQ3 KN HIn HPL
  obtain ⟨p0, p1, p2, p3, p4, p5, p6, p7, p8⟩ := Xp.out
  have lp := Xp.out.lt
  rw [HLP.out] at p8
  go_wp2_with fail
  refine Calls.mono (K3.out _ (on HB.out (alloc1 _ _))) ?_
  rintro e w5 ⟨rfl, hb⟩
  clear p0 p1 p2 p3 p4 p5 p6 p7 p8 lp
  replace Xt : Hid (CBox w5 (w.heap.size) (.slice ac cols.length cc)) := (Xt.out.alloc _).below hb
  replace Xp : Hid (Box w5 (w.heap.size + 1) p) := (Xp.out.alloc _).below hb
  replace Xq : Hid (Box w5 w3.heap.size q) := (Xq.out.alloc _).below hb
  have Xd : Hid (Box w5 w4.heap.size d) := HDN.out.below hb
  replace HQ4 : Hid (In w5 q) := HQ4.out.keep (back1 hb)
  replace HD4 : Hid (In w5 d) := HD4.out.keep (back1 hb)
  replace HB : Hid (Below w.heap.size w w5) := on HB.out (back1 hb)
  clear hb K3 HDN
  by_cases h13 : 13 < p.size
  · have e13 : (13 : Int) < (p.size : Int) := by omega
    clear Xt Xp Xq Xd HQ4 HD4 K4 HNrm HC
    go_wp2_with fail
    go_ret
    exact ⟨rfl, HB.out⟩
  have e13 : decide ((13 : Int) < (p.size : Int)) = false := by simp; omega
  have H13 : Hid (p.size ≤ 13) := Nat.not_lt.1 h13
  clear h13
  obtain ⟨t0⟩ := Xt.out
  have lt := Xt.out.lt
  obtain ⟨p0, p1, p2, p3, p4, p5, p6, p7, p8⟩ := Xp.out
  have lp := Xp.out.lt
  rw [HLP.out] at p8
  go_wp2_with fail
  refine Calls.mono (K4.out _ HB.out) ?_
  rintro e w6 ⟨rfl, hb⟩
  clear t0 lt p0 p1 p2 p3 p4 p5 p6 p7 p8 lp
  replace Xt : Hid (CBox w6 (w.heap.size) (.slice ac cols.length cc)) := Xt.out.below hb
  replace Xp : Hid (Box w6 (w.heap.size + 1) p) := Xp.out.below hb
  replace Xq : Hid (Box w6 (w3.heap.size) q) := Xq.out.below hb
  replace Xd : Hid (Box w6 (w4.heap.size) d) := Xd.out.below hb
  replace HB : Hid (Below w.heap.size w w6) := on HB.out hb
  replace HQ4 : Hid (In w6 q) := HQ4.out.keep hb
  replace HD4 : Hid (In w6 d) := HD4.out.keep hb
  clear hb
  clear K4 e13
  cases m
  · clear Xt Xp Xq Xd HQ4 HD4 HNrm HC
    go_wp2_with fail
    go_ret
    exact ⟨rfl, HB.out⟩
  have HCK : Hid (checkN cols p = 0) := HC.out (by trivial)
  have KS : Hid (∀ w1, In w1 d → In w1 q → Calls Tryd.prog 12 #[d.val, q.val] w1 fun e w' => e = .returned (.bool true) ∧ Below w1.heap.size w1 w') := fun w1 h1 h2 => (rsame_any d q w1 h1 h2).mono fun e w' ⟨b, h3, h4, h5⟩ => by
    have hb : b = true := h4.2 (by rw [HDB.out, HQ.out, nn_norm _ HCK.out H13.out])
    subst hb; exact ⟨h3, h5⟩
  unfold PT.val at KS
  rw [HLD.out, HLQ.out] at KS
  clear HC HDB
  obtain ⟨d0, d1, d2, d3, d4, d5, d6, d7, d8⟩ := Xd.out
  have ld := Xd.out.lt
  obtain ⟨q0, q1, q2, q3, q4, q5, q6, q7, q8⟩ := Xq.out
  have lq := Xq.out.lt
  rw [HLD.out] at d8
  rw [HLQ.out] at q8
  go_wp2_with fail
  refine Calls.mono (KS.out _ HD4.out HQ4.out) ?_
  rintro e w7 ⟨rfl, hb⟩
  clear d0 d1 d2 d3 d4 d5 d6 d7 d8 ld q0 q1 q2 q3 q4 q5 q6 q7 q8 lq
  replace Xt : Hid (CBox w7 (w.heap.size) (.slice ac cols.length cc)) := Xt.out.below hb
  replace Xp : Hid (Box w7 (w.heap.size + 1) p) := Xp.out.below hb
  replace Xq : Hid (Box w7 (w3.heap.size) q) := Xq.out.below hb
  replace Xd : Hid (Box w7 (w4.heap.size) d) := Xd.out.below hb
  replace HB : Hid (Below w.heap.size w w7) := on HB.out hb
  replace HQ4 : Hid (In w7 q) := HQ4.out.keep hb
  clear hb
  clear KS HD4 Xd
  have hqs : q.size ≤ 300 := by
    have h1 : q.bare = (normP cols p).bare := by rw [norm_bare]; exact HQ.out
    have h2 := norm_size cols p
    have h3 := HSZ.out
    rw [size_of_bare h1]; omega
  have KZ : Hid (∀ w1, In w1 q → Calls Tryd.prog 27 #[q.val] w1 fun e w' => e = .returned (.int .i64 (q.size : Int)) ∧ Below w1.heap.size w1 w') := fun w1 h => rsize_any q w1 h (by omega)
  have KM : Hid (∀ w1, In w1 q → Below w.heap.size w w1 → Calls Tryd.prog 13 #[.agg #[.slice ac cols.length cc], q.val] w1 fun e w' => ∃ x : PT, e = .returned x.val ∧ (x.bare = normP cols q ∧ In w' x) ∧ Below w1.heap.size w1 w') := fun w1 h hb => HNrm.out q (by omega) w1 h hb
  have KE : Hid (q.size ≤ 15 → ∀ x : PT, x.bare = normP cols q → ∀ w1, In w1 x → In w1 q → Calls Tryd.prog 12 #[x.val, q.val] w1 fun e w' => e = .returned (.bool true) ∧ Below w1.heap.size w1 w') := fun h15 x hx w1 h1 h2 => (rsame_any x q w1 h1 h2).mono fun e w' ⟨b, h3, h4, h5⟩ => by
    have hb : b = true := h4.2 (by rw [hx]; exact norm_norm HCK.out HQ.out h15)
    subst hb; exact ⟨h3, h5⟩
  unfold PT.val at KZ KM KE
  rw [HLQ.out] at KZ KM KE
  clear HNrm HCK HQ HSZ H13 HIN hqs Xp
  go_wp2_with fail
  have B0 : Box w7.drew w3.heap.size q := Xq.out.below (Below.refl _ _).drew
  have T0 : CBox w7.drew w.heap.size (.slice ac cols.length cc) := Xt.out.below (Below.refl _ _).drew
  have I0 : In w7.drew q := HQ4.out.keep (Below.refl _ _).drew
  have Z0 : Below w.heap.size w w7.drew := HB.out.drew
  clear Xq Xt HQ4 HB
  refine wp_region_held_drew (S := fun w' => w'.cell? ⟨w3.heap.size, 0, none⟩ = some (.int .i64 q.op) ∧ w'.cell? ⟨w3.heap.size, 1, none⟩ = some (.int .i64 q.col) ∧ w'.cell? ⟨w3.heap.size, 2, none⟩ = some (.bool q.v.t) ∧ w'.cell? ⟨w3.heap.size, 3, none⟩ = some (.int .i64 q.v.n) ∧ w'.cell? ⟨w3.heap.size, 4, none⟩ = some (.string q.v.s) ∧ w'.cell? ⟨w3.heap.size, 5, none⟩ = some (.bool q.w.t) ∧ w'.cell? ⟨w3.heap.size, 6, none⟩ = some (.int .i64 q.w.n) ∧ w'.cell? ⟨w3.heap.size, 7, none⟩ = some (.string q.w.s) ∧ w'.cell? ⟨w3.heap.size, 8, none⟩ = some (.slice aq q.l.length cq) ∧ w'.cell? ⟨w.heap.size, 0, none⟩ = some (.slice ac cols.length cc)) (by kernel_rfl) ?_ (fun hHeld => ?_)
  · exact ⟨B0.c0, B0.c1, B0.c2, B0.c3, B0.c4, B0.c5, B0.c6, B0.c7, by rw [← HLQ.out]; exact B0.c8, T0.c0⟩
  (try clear hK K)
  refine wpAnyH_take (i := 0) (v := ?_) rfl (by kernel_rfl) (by kernel_rfl) (by kernel_rfl) (fun _ _ _ h => h) (Or.inl ⟨by rfl, ?_⟩) (by assumption) ?_
  rotate_left
  · intro w hSw; (try dsimp only at hSw); go_simp; (try with_reducible rfl)
  (try simp only [Act.put, List.getElem_toArray, List.getElem_cons_zero, List.setIfInBounds_toArray, List.set_cons_zero, List.set_cons_succ])
  (try clear hK K)
  refine wpAnyH_ready (rs := [1]) (by kernel_rfl) (by simp) ?_
  refine AllReadyH.cons rfl (fun K hK => ?_) AllReadyH.nil
  go_simp
  (refine Calls.mono (KZ.out _ I0) ?_; rintro e w8 ⟨rfl, hb⟩; have B1 := B0.below hb; have T1 := T0.below hb; have I1 := I0.keep hb; have Z1 := on Z0 hb)
  refine hK.out _ _ ?_ (fun hHeld => ?_)
  · exact ⟨B1.c0, B1.c1, B1.c2, B1.c3, B1.c4, B1.c5, B1.c6, B1.c7, by rw [← HLQ.out]; exact B1.c8, T1.c0⟩
  clear hb B0 T0 I0 Z0
  by_cases h15 : 15 < q.size
  · have e15 : (15 : Int) < (q.size : Int) := by omega
    (try clear hK K)
    refine wpAnyH_take (i := 2) (v := ?_) rfl (by kernel_rfl) (by kernel_rfl) (by kernel_rfl) (fun _ _ _ h => h) (Or.inl ⟨by rfl, ?_⟩) (by assumption) ?_
    rotate_left
    · intro w hSw; (try dsimp only at hSw); go_simp; (try with_reducible rfl)
    (try simp only [Act.put, List.getElem_toArray, List.getElem_cons_succ, List.getElem_cons_zero, List.setIfInBounds_toArray, List.set_cons_zero, List.set_cons_succ])
    refine wpAnyH_take (i := 3) (v := ?_) rfl (by kernel_rfl) (by kernel_rfl) (by kernel_rfl) (fun _ _ _ h => h) (Or.inl ⟨by rfl, ?_⟩) (by assumption) ?_
    rotate_left
    · intro w hSw; (try dsimp only at hSw); go_simp; (try with_reducible rfl)
    (try simp only [Act.put, List.getElem_toArray, List.getElem_cons_succ, List.getElem_cons_zero, List.setIfInBounds_toArray, List.set_cons_zero, List.set_cons_succ])
    (try clear hK K)
    refine wpAnyH_take (i := 4) (v := undef) rfl (by kernel_rfl) (by kernel_rfl) (by kernel_rfl) (fun _ _ _ h => h) (Or.inr ⟨by rfl, rfl⟩) (by assumption) ?_
    (try simp only [Act.put, List.getElem_toArray, List.getElem_cons_succ, List.getElem_cons_zero, List.setIfInBounds_toArray, List.set_cons_zero, List.set_cons_succ])
    refine wpAnyH_take (i := 5) (v := undef) rfl (by kernel_rfl) (by kernel_rfl) (by kernel_rfl) (fun _ _ _ h => h) (Or.inr ⟨by rfl, rfl⟩) (by assumption) ?_
    (try simp only [Act.put, List.getElem_toArray, List.getElem_cons_succ, List.getElem_cons_zero, List.setIfInBounds_toArray, List.set_cons_zero, List.set_cons_succ])
    refine wpAnyH_take (i := 6) (v := undef) rfl (by kernel_rfl) (by kernel_rfl) (by kernel_rfl) (fun _ _ _ h => h) (Or.inr ⟨by rfl, rfl⟩) (by assumption) ?_
    (try simp only [Act.put, List.getElem_toArray, List.getElem_cons_succ, List.getElem_cons_zero, List.setIfInBounds_toArray, List.set_cons_zero, List.set_cons_succ])
    refine wpAnyH_take (i := 7) (v := undef) rfl (by kernel_rfl) (by kernel_rfl) (by kernel_rfl) (fun _ _ _ h => h) (Or.inr ⟨by rfl, rfl⟩) (by assumption) ?_
    (try simp only [Act.put, List.getElem_toArray, List.getElem_cons_succ, List.getElem_cons_zero, List.setIfInBounds_toArray, List.set_cons_zero, List.set_cons_succ])
    refine wpAnyH_take (i := 8) (v := undef) rfl (by kernel_rfl) (by kernel_rfl) (by kernel_rfl) (fun _ _ _ h => h) (Or.inr ⟨by rfl, rfl⟩) (by assumption) ?_
    (try simp only [Act.put, List.getElem_toArray, List.getElem_cons_succ, List.getElem_cons_zero, List.setIfInBounds_toArray, List.set_cons_zero, List.set_cons_succ])
    (try clear hK K)
    refine wpAnyH_take (i := 9) (v := ?_) rfl (by kernel_rfl) (by kernel_rfl) (by kernel_rfl) (fun _ _ _ h => h) (Or.inl ⟨by rfl, ?_⟩) (by assumption) ?_
    rotate_left
    · intro w hSw; (try dsimp only at hSw); go_simp; (try with_reducible rfl)
    (try simp only [Act.put, List.getElem_toArray, List.getElem_cons_succ, List.getElem_cons_zero, List.setIfInBounds_toArray, List.set_cons_zero, List.set_cons_succ])
    refine wpAnyH_take (i := 10) (v := ?_) rfl (by kernel_rfl) (by kernel_rfl) (by kernel_rfl) (fun _ _ _ h => h) (Or.inl ⟨by rfl, ?_⟩) (by assumption) ?_
    rotate_left
    · intro w hSw; (try dsimp only at hSw); go_simp; (try with_reducible rfl)
    (try simp only [Act.put, List.getElem_toArray, List.getElem_cons_succ, List.getElem_cons_zero, List.setIfInBounds_toArray, List.set_cons_zero, List.set_cons_succ])
    (try clear hK K)
    refine wpAnyH_done (by kernel_rfl) ?_ _
    go_wp2_with fail
    go_ret
    exact ⟨rfl, Z1⟩
  have e15 : decide ((15 : Int) < (q.size : Int)) = false := by simp; omega
  have KE' : Hid _ := KE.out (Nat.not_lt.1 h15)
  clear KE h15
  (try clear hK K)
  refine wpAnyH_take (i := 2) (v := ?_) rfl (by kernel_rfl) (by kernel_rfl) (by kernel_rfl) (fun _ _ _ h => h) (Or.inl ⟨by rfl, ?_⟩) (by assumption) ?_
  rotate_left
  · intro w hSw; (try dsimp only at hSw); go_simp; (try with_reducible rfl)
  (try simp only [Act.put, List.getElem_toArray, List.getElem_cons_succ, List.getElem_cons_zero, List.setIfInBounds_toArray, List.set_cons_zero, List.set_cons_succ])
  refine wpAnyH_take (i := 3) (v := ?_) rfl (by kernel_rfl) (by kernel_rfl) (by kernel_rfl) (fun _ _ _ h => h) (Or.inl ⟨by rfl, ?_⟩) (by assumption) ?_
  rotate_left
  · intro w hSw; (try dsimp only at hSw); go_simp; (try with_reducible rfl)
  (try simp only [Act.put, List.getElem_toArray, List.getElem_cons_succ, List.getElem_cons_zero, List.setIfInBounds_toArray, List.set_cons_zero, List.set_cons_succ])
  refine wpAnyH_take (i := 4) (v := ?_) rfl (by kernel_rfl) (by kernel_rfl) (by kernel_rfl) (fun _ _ _ h => h) (Or.inl ⟨by rfl, ?_⟩) (by assumption) ?_
  rotate_left
  · intro w hSw; (try dsimp only at hSw); go_simp; (try with_reducible rfl)
  (try simp only [Act.put, List.getElem_toArray, List.getElem_cons_succ, List.getElem_cons_zero, List.setIfInBounds_toArray, List.set_cons_zero, List.set_cons_succ])
  refine wpAnyH_take (i := 5) (v := ?_) rfl (by kernel_rfl) (by kernel_rfl) (by kernel_rfl) (fun _ _ _ h => h) (Or.inl ⟨by rfl, ?_⟩) (by assumption) ?_
  rotate_left
  · intro w hSw; (try dsimp only at hSw); go_simp; (try with_reducible rfl)
  (try simp only [Act.put, List.getElem_toArray, List.getElem_cons_succ, List.getElem_cons_zero, List.setIfInBounds_toArray, List.set_cons_zero, List.set_cons_succ])
  refine wpAnyH_take (i := 7) (v := ?_) rfl (by kernel_rfl) (by kernel_rfl) (by kernel_rfl) (fun _ _ _ h => h) (Or.inl ⟨by rfl, ?_⟩) (by assumption) ?_
  rotate_left
  · intro w hSw; (try dsimp only at hSw); go_simp; (try with_reducible rfl)
  (try simp only [Act.put, List.getElem_toArray, List.getElem_cons_succ, List.getElem_cons_zero, List.setIfInBounds_toArray, List.set_cons_zero, List.set_cons_succ])
  (try clear hK K)
  refine wpAnyH_ready (rs := [6]) (by kernel_rfl) (by simp) ?_
  refine AllReadyH.cons rfl (fun K hK => ?_) AllReadyH.nil
  go_simp
  (refine Calls.mono (KM.out _ I1 Z1) ?_; rintro e w9 ⟨x, rfl, ⟨hxb, hxi⟩, hb⟩; have B2 := B1.below hb; have T2 := T1.below hb; have I2 := I1.keep hb; have Z2 := on Z1 hb)
  refine hK.out _ _ ?_ (fun hHeld => ?_)
  · exact ⟨B2.c0, B2.c1, B2.c2, B2.c3, B2.c4, B2.c5, B2.c6, B2.c7, by rw [← HLQ.out]; exact B2.c8, T2.c0⟩
  have KX : Hid _ := KE'.out x hxb
  (try clear hK K)
  refine wpAnyH_ready (rs := [8]) (by kernel_rfl) (by simp) ?_
  refine AllReadyH.cons rfl (fun K hK => ?_) AllReadyH.nil
  go_simp
  (refine Calls.mono (KX.out _ hxi I2) ?_; rintro e w10 ⟨rfl, hb2⟩; have B3 := B2.below hb2; have T3 := T2.below hb2; have Z3 := on Z2 hb2)
  refine hK.out _ _ ?_ (fun hHeld => ?_)
  · exact ⟨B3.c0, B3.c1, B3.c2, B3.c3, B3.c4, B3.c5, B3.c6, B3.c7, by rw [← HLQ.out]; exact B3.c8, T3.c0⟩
  (try clear hK K)
  refine wpAnyH_take (i := 9) (v := ?_) rfl (by kernel_rfl) (by kernel_rfl) (by kernel_rfl) (fun _ _ _ h => h) (Or.inl ⟨by rfl, ?_⟩) (by assumption) ?_
  rotate_left
  · intro w hSw; (try dsimp only at hSw); go_simp; (try with_reducible rfl)
  (try simp only [Act.put, List.getElem_toArray, List.getElem_cons_succ, List.getElem_cons_zero, List.setIfInBounds_toArray, List.set_cons_zero, List.set_cons_succ])
  refine wpAnyH_take (i := 10) (v := ?_) rfl (by kernel_rfl) (by kernel_rfl) (by kernel_rfl) (fun _ _ _ h => h) (Or.inl ⟨by rfl, ?_⟩) (by assumption) ?_
  rotate_left
  · intro w hSw; (try dsimp only at hSw); go_simp; (try with_reducible rfl)
  (try simp only [Act.put, List.getElem_toArray, List.getElem_cons_succ, List.getElem_cons_zero, List.setIfInBounds_toArray, List.set_cons_zero, List.set_cons_succ])
  (try clear hK K)
  refine wpAnyH_done (by kernel_rfl) ?_ _
  go_wp2_with fail
  go_ret
  exact ⟨rfl, Z3⟩
end Go.Proofs.YtfkhfplibhnceaaDoor.Val
/- The law NormalTwice holds: what is normal stays so, and not of not is the same. Conditions: the listed package-level variables lie as the program's text lays them (the card ties them). -/
namespace Go.Proofs.YtfkhfplibhnceaaDoor.Val
open Go.ChangeShapes Go.WideShapes Go.ChangeAt Go.RowKit
open Go.ChangeMaps (open_string)

theorem ntwice_contract (H : Type) (enc : TypeId × Value → H) (W : World) (base : Nat) (args : Array Value) (ds gs : List (DataW H)) (before : List MemPlace)
    (hval : ∀ (j : Nat) t v, Tryd.f8.params[j]? = some t → args[j]? = some v → Value.okWide Tryd.prog W .any base t v)
    (hW : DataW.Whole enc Tryd.prog Tryd.f8.params.toList Rows.normalTwiceSpec.vars false W args.toList ds gs before) (hL : laidMetH Tryd.prog Rows.normalTwiceRow.laid W) :
    Calls Tryd.prog 8 args W fun e W' => ∃ v, e = .returned v ∧ Rows.normalTwiceSpec.post enc Tryd.prog Tryd.f8 false true false false W args v W' := by
  have hW' := hW
  obtain ⟨p, q, hA0, hV, rfl, hfz, hnd⟩ := hW
  have hA : DataW.TrodAll enc Tryd.prog W 0 (fun _ => true) true Tryd.f8.params.toList args.toList ds p := hA0
  rw [Tryd.params8] at hA hval
  obtain ⟨v0, vs0, d0, ds0, p0, q0, hargs, rfl, rfl, h0, r0⟩ := trodAll_cons hA
  obtain ⟨v1, vs1, d1, ds1, p1, q1, rfl, rfl, rfl, h1, r1⟩ := trodAll_cons r0
  obtain ⟨rfl, rfl, rfl⟩ := trodAll_nil r1
  obtain rfl : args = #[v0, v1] := by cases args; simp_all
  obtain ⟨rfl, rfl⟩ := trodVars_none hV
  have k0 := h0
  have lt0 : ∀ x ∈ p0, x.block < W.heap.size := by obtain ⟨m, hm⟩ := k0; exact DataW.trod_lt m _ _ _ hm
  obtain ⟨c0, cols0, rfl, w0⟩ := open_table (hval 0 24 v0 rfl rfl) h0
  have k1 := h1
  have lt1 : ∀ x ∈ p1, x.block < W.heap.size := by obtain ⟨m, hm⟩ := k1; exact DataW.trod_lt m _ _ _ hm
  obtain ⟨x1, rfl, o1⟩ := open_pred (hval 1 29 v1 rfl rfl) h1
  clear hA0
  have hT := tabOf hL
  refine (ntwice_walk _ _ _ W w0 o1 hT).mono fun e W' ⟨he, bel⟩ => ?_
  subst he
  exact ⟨_, rfl, _, _, _, [], _, [], hW', trodAll_mk1 (shut_bool Tryd.underlying4 _), (trodAll_cons_mk (Below.trod laidOut (by kernel_rfl) (of_decide_eq_true (by kernel_rfl)) k0 bel lt0) (trodAll_cons_mk (Below.trod laidOut (by kernel_rfl) (of_decide_eq_true (by kernel_rfl)) k1 bel lt1) trodAll_mk0)), rfl, bel.frame _, fun h => by cases h⟩

set_option maxRecDepth 100000 in
theorem ntwice_lifted (os : Os) (started : os.Started) (H : Type) (enc : TypeId × Value → H) (F : Stop.Interp) :
    ReturnsInHanded {} Tryd.checked os 8 .any ((OpenSpec.ofChange Rows.normalTwiceSpec).preRow enc Tryd.prog Tryd.f8 Rows.normalTwiceRow.domain false Rows.normalTwiceRow.laid) (((OpenSpec.ofChange Rows.normalTwiceSpec).at F).post enc Tryd.prog Tryd.f8 false true false false) := by
  refine returnsInHanded_of_row (C := Tryd.checked) (s := OpenSpec.ofChange Rows.normalTwiceSpec) own started (by kernel_rfl) Tryd.func8
    (witness_row_at (enc := enc) (C := Tryd.checked) false
      { World.holding Tryd.prog os ⟨#[], #[], []⟩ with heap := ((World.holding Tryd.prog os ⟨#[], #[], []⟩).heap.modify 0 (putCells (dataCells .i64 oppTab))) }
      #[.agg #[.slice none 0 0], .agg #[.int .i64 0, .int .i64 0, .bool false, .int .i64 0, .string ⟨#[]⟩, .bool false, .int .i64 0, .string ⟨#[]⟩, .slice none 0 0]] rfl (by kernel_rfl) (by kernel_rfl) (by kernel_rfl)
      (OpenSpec.preRow_of_cond 8 (x := ([.agg [.nil], .agg [.lit (.int .i64 0), .lit (.int .i64 0), .agg [.lit (.bool false), .lit (.int .i64 0), .lit (.string [])], .agg [.lit (.bool false), .lit (.int .i64 0), .lit (.string [])], .nil]], [], [])) (by kernel_rfl) (by kernel_rfl) (fun k hk => by cases hk) (by kernel_rfl) (laidMet_of_run' 8 (by kernel_rfl) (by kernel_rfl)))) ?_
  intro W base args ds gs before hval hW _ _ _ hL _ _
  exact ntwice_contract H enc W base args ds gs before hval hW hL

theorem ntwice_said : Rows.NormalTwiceSaid :=
  OpenClaim.holds_of_cond 8 Tryd.f8 rfl rfl rfl rfl rfl rfl rfl ⟨rfl, rfl, rfl, rfl, rfl⟩ rfl rfl rfl rfl rfl (by kernel_rfl) Tryd.func8 (by kernel_rfl)
    (of_decide_eq_true (by kernel_rfl)) (by unfold Func.isWrapper; first | (rw [if_pos (by decide +kernel)]; kernel_rfl) | (rw [if_neg (by decide +kernel)]; exact ⟨rfl, rfl⟩))
    (fun os started H enc _ F => by rw [OpenClaim.pre_eq_preRow]; exact ntwice_lifted os started H enc F)

theorem ntwice_plain (f : FuncId) (fn : Func) (hf : Tryd.pinned.checked.prog.funcNamed "ratline/ratlinelaw04.NormalTwice" = some f) (hfn : Tryd.pinned.checked.prog.funcs[f]? = some fn) :
    false = Tryd.pinned.checked.prog.looks [] ∧ ∀ (j : Nat) t, fn.params[j]? = some t → Tryd.pinned.checked.prog.wantsStandIn t = false := by
  obtain rfl : f = 8 := Option.some.inj ((show Tryd.prog.funcNamed "ratline/ratlinelaw04.NormalTwice" = some 8 by kernel_rfl).symm.trans hf) |>.symm
  obtain rfl : fn = Tryd.f8 := (Option.some.inj (Tryd.func8.symm.trans hfn)).symm
  refine ⟨by kernel_rfl, fun j t ht => ?_⟩
  rw [Tryd.params8] at ht
  have hm : t = 24 ∨ t = 29 := by simpa using Array.mem_of_getElem? ht
  rcases hm with rfl | rfl
  · exact (show Tryd.prog.wantsStandIn 24 = false by kernel_rfl)
  · exact (show Tryd.prog.wantsStandIn 29 = false by kernel_rfl)

/-- The card. -/
theorem ntwice_card : Rows.NormalTwiceCardSaid :=
  Claim7.holds_tied_plain_at .later [] _ _ _ _ ntwice_said (fun _ h => by cases h) (by kernel_rfl) (fun _ h => by cases h) normalTwice_row_tie rfl ⟨rfl, rfl⟩ (by kernel_rfl) rfl ntwice_plain (by kernel_rfl)
end Go.Proofs.YtfkhfplibhnceaaDoor.Val
