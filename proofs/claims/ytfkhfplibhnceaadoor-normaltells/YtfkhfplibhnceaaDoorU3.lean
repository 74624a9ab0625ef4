/- What Meet and Hull of package normal answer. -/
import Derived.Test.YtfkhfplibhnceaaDoorU2
import Derived.Deep.CutRange
namespace Go.Proofs.YtfkhfplibhnceaaDoor.Val
open Go.RowKit

/-- A span is written into a block. -/
abbrev setS (w : World) (b : Nat) (t : Sp) : World := (((((((((((w.setCell ⟨b, 0, none⟩ (.bool t.no)).setCell ⟨b, 1, none⟩ (.bool t.hl)).setCell ⟨b, 2, none⟩ (.bool t.ol)).setCell ⟨b, 3, none⟩ (.bool t.lo.t)).setCell ⟨b, 4, none⟩ (.int .i64 t.lo.n)).setCell ⟨b, 5, none⟩ (.string t.lo.s)).setCell ⟨b, 6, none⟩ (.bool t.hh)).setCell ⟨b, 7, none⟩ (.bool t.oh)).setCell ⟨b, 8, none⟩ (.bool t.hi.t)).setCell ⟨b, 9, none⟩ (.int .i64 t.hi.n)).setCell ⟨b, 10, none⟩ (.string t.hi.s))
theorem SBox.put {w : World} {b : Nat} {s : Sp} (h : SBox w b s) (t : Sp) : SBox (setS w b t) b t := by
  obtain ⟨c0, c1, c2, c3, c4, c5, c6, c7, c8, c9, c10⟩ := h
  constructor <;> simp [go_sem, c0, c1, c2, c3, c4, c5, c6, c7, c8, c9, c10]
theorem SBox.offS {w : World} {b c : Nat} {s : Sp} (h : SBox w b s) (t : Sp) (hne : c ≠ b) : SBox (setS w c t) b s := by
  repeat (refine SBox.far ?_ hne)
  exact h
theorem Fr.set {w : World} {b c j : Nat} {u : Value} (h : Fr w b) : Fr (w.setCell ⟨c, j, none⟩ u) b := ⟨by simpa [World.setCell] using h.1, fun k => by rw [World.frozen?_setCell]; exact h.2 k⟩
theorem Fr.setS {w : World} {b c : Nat} (h : Fr w b) (t : Sp) : Fr (setS w c t) b := by
  repeat (refine Fr.set ?_)
  exact h
theorem below_setS {w w' : World} {B b : Nat} (h : Below B w w') (hb : B ≤ b) (t : Sp) : Below B w (setS w' b t) := by
  repeat (refine set_below ?_ hb _)
  exact h
/-- Two spans' boxes, and the answer's. -/
structure PM (w0 : World) (a b : Sp) (w : World) : Prop where
  pa : SBox w w0.heap.size a
  pb : SBox w (w0.heap.size + 1) b
  pz : SBox w (w0.heap.size + 1 + 1) Sp.all
  fa : Fr w w0.heap.size
  fb : Fr w (w0.heap.size + 1)
  fz : Fr w (w0.heap.size + 1 + 1)
  be : Below w0.heap.size w0 w
theorem PM.below {w0 w w' : World} {a b : Sp} (h : PM w0 a b w) (hb : Below w.heap.size w w') : PM w0 a b w' := ⟨h.pa.below hb, h.pb.below hb, h.pz.below hb, h.fa.below hb, h.fb.below hb, h.fz.below hb, on h.be hb⟩
theorem PM.new (w : World) (a b : Sp) (T1 T2 T3 : TypeId) : PM w a b (((w.alloc (sobj a T1)).alloc (sobj b T2)).alloc (sobj Sp.all T3)) := by
  refine ⟨((SBox.new w a T1).alloc _).alloc _, ?_, ?_, ((Fr.new w _ T1).alloc _).alloc _, ?_, ?_, back2 (alloc1 _ _)⟩
  · have := (SBox.new (w.alloc (sobj a T1)) b T2).alloc (sobj Sp.all T3); simpa using this
  · have := SBox.new ((w.alloc (sobj a T1)).alloc (sobj b T2)) Sp.all T3; simpa using this
  · have := (Fr.new (w.alloc (sobj a T1)) #[.bool b.no, .bool b.hl, .bool b.ol, .bool b.lo.t, .int .i64 b.lo.n, .string b.lo.s, .bool b.hh, .bool b.oh, .bool b.hi.t, .int .i64 b.hi.n, .string b.hi.s] T2).alloc (sobj Sp.all T3); simpa using this
  · have := Fr.new ((w.alloc (sobj a T1)).alloc (sobj b T2)) #[.bool Sp.all.no, .bool Sp.all.hl, .bool Sp.all.ol, .bool Sp.all.lo.t, .int .i64 Sp.all.lo.n, .string Sp.all.lo.s, .bool Sp.all.hh, .bool Sp.all.oh, .bool Sp.all.hi.t, .int .i64 Sp.all.hi.n, .string Sp.all.hi.s] T3; simpa using this
theorem PM.put12 {w0 w : World} {a b : Sp} (h : PM w0 a b w) (x y : Sp) : PM w0 x y (setS (setS w w0.heap.size x) (w0.heap.size + 1) y) :=
  ⟨(h.pa.put x).offS y (by omega), (h.pb.offS x (by omega)).put y, (h.pz.offS x (by omega)).offS y (by omega), (h.fa.setS x).setS y, (h.fb.setS x).setS y, (h.fz.setS x).setS y, below_setS (below_setS h.be (Nat.le_refl _) x) (by omega) y⟩
theorem PM.put21 {w0 w : World} {a b : Sp} (h : PM w0 a b w) (x y : Sp) : PM w0 x y (setS (setS w (w0.heap.size + 1) y) w0.heap.size x) :=
  ⟨(h.pa.offS y (by omega)).put x, (h.pb.put y).offS x (by omega), (h.pz.offS y (by omega)).offS x (by omega), (h.fa.setS y).setS x, (h.fb.setS y).setS x, (h.fz.setS y).setS x, below_setS (below_setS h.be (by omega) y) (Nat.le_refl _) x⟩
set_option maxHeartbeats 4000000 in
theorem meet_any (a b : Sp) (w : World) : Calls Tryd.prog 19 #[a.val, b.val] w fun e w' => e = .returned (meetS a b).val ∧ Below w.heap.size w w' := by
  have HA : Hid (meetS a b = meetC (cleanS a) (cleanS b)) := rfl
  have CC : Hid (∀ (s : Sp) w1, PM w a b w1 → Calls Tryd.prog 38 #[s.val] w1 fun e w' => e = .returned (cleanS s).val ∧ PM w a b w') := fun s w1 h => (clean_any s w1).mono fun e w' h' => ⟨h'.1, h.below h'.2⟩
  obtain ⟨ca, hca⟩ : ∃ s, cleanS a = s := ⟨_, rfl⟩
  obtain ⟨cb, hcb⟩ : ∃ s, cleanS b = s := ⟨_, rfl⟩
  rw [hca, hcb] at HA
  have HM : Hid (meetC ca cb = if ca.no || cb.no then Sp.none else btw (innerE (lowE ca) (lowE cb) 1) (innerE (uppE ca) (uppE cb) (-1))) := rfl
  have LA : Hid (∀ w1, Calls Tryd.prog 34 #[ca.val] w1 fun e w' => e = .returned (lowE ca).val ∧ Below w1.heap.size w1 w') := fun w1 => lower_any ca w1
  have LB : Hid (∀ w1, Calls Tryd.prog 34 #[cb.val] w1 fun e w' => e = .returned (lowE cb).val ∧ Below w1.heap.size w1 w') := fun w1 => lower_any cb w1
  have UA : Hid (∀ w1, Calls Tryd.prog 36 #[ca.val] w1 fun e w' => e = .returned (uppE ca).val ∧ Below w1.heap.size w1 w') := fun w1 => upper_any ca w1
  have UB : Hid (∀ w1, Calls Tryd.prog 36 #[cb.val] w1 fun e w' => e = .returned (uppE cb).val ∧ Below w1.heap.size w1 w') := fun w1 => upper_any cb w1
  have IL : Hid (∀ w1, Calls Tryd.prog 40 #[(lowE ca).val, (lowE cb).val, .int .i64 1] w1 fun e w' => e = .returned (innerE (lowE ca) (lowE cb) 1).val ∧ Below w1.heap.size w1 w') := fun w1 => inner_any _ _ _ w1 (by decide)
  have IU : Hid (∀ w1, Calls Tryd.prog 40 #[(uppE ca).val, (uppE cb).val, .int .i64 (-1)] w1 fun e w' => e = .returned (innerE (uppE ca) (uppE cb) (-1)).val ∧ Below w1.heap.size w1 w') := fun w1 => inner_any _ _ _ w1 (by decide)
  have BT : Hid (∀ w1, Calls Tryd.prog 39 #[(innerE (lowE ca) (lowE cb) 1).val, (innerE (uppE ca) (uppE cb) (-1)).val] w1 fun e w' => e = .returned (btw (innerE (lowE ca) (lowE cb) 1) (innerE (uppE ca) (uppE cb) (-1))).val ∧ Below w1.heap.size w1 w') := fun w1 => between_any _ _ w1
  generalize btw (innerE (lowE ca) (lowE cb) 1) (innerE (uppE ca) (uppE cb) (-1)) = r1 at *
  generalize innerE (lowE ca) (lowE cb) 1 = i1 at *
  generalize innerE (uppE ca) (uppE cb) (-1) = i2 at *
  generalize lowE ca = l1 at *
  generalize lowE cb = l2 at *
  generalize uppE ca = u1' at *
  generalize uppE cb = u2' at *
  generalize meetC ca cb = r at *
  generalize meetS a b = r' at *
  have HN : Hid _ := PM.new w a b 35 35 35
  unfold Sp.val En.val at *
  go_enter Tryd.func19, Tryd.ntmps19
  go_upto_region 1 with fail
  go_cut [] from 5 to 8 (fun wx => Hid (PM w ca cb wx))
  case first =>
    clear LA LB UA UB IL IU BT HA HM
    have X0 : PM w a b _ := HN.out.below (Below.refl _ _).drew
    clear HN
    obtain ⟨⟨a0, a1, a2, a3, a4, a5, a6, a7, a8, a9, a10⟩, ⟨b0, b1, b2, b3, b4, b5, b6, b7, b8, b9, b10⟩, _, ⟨la, fa⟩, ⟨lb, fb⟩, _, _⟩ := id X0
    go_region_with (go_at_call 38; refine Calls.mono (CC.out _ _ ‹PM w a b _›) ?_; rintro e wk ⟨rfl, hk⟩; obtain ⟨⟨a0, a1, a2, a3, a4, a5, a6, a7, a8, a9, a10⟩, ⟨b0, b1, b2, b3, b4, b5, b6, b7, b8, b9, b10⟩, _, ⟨la, fa⟩, ⟨lb, fb⟩, _, _⟩ := id hk)
    all_goals
      go_wp2_with fail
      go_meet
      rw [← hca, ← hcb]
      exact PM.put12 ‹PM w a b _› (cleanS a) (cleanS b)
  case rest =>
  skip
  obtain ⟨na, hna⟩ : ∃ o, ca.no = o := ⟨_, rfl⟩
  obtain ⟨nb, hnb⟩ : ∃ o, cb.no = o := ⟨_, rfl⟩
  rw [hna, hnb] at HM
  have HXc : Hid (PM w ca cb wc) := hcut.out
  have HBc : Hid (Below w.heap.size w wc) := hcut.out.be
  obtain ⟨⟨a0, a1, a2, a3, a4, a5, a6, a7, a8, a9, a10⟩, ⟨b0, b1, b2, b3, b4, b5, b6, b7, b8, b9, b10⟩, ⟨z0, z1, z2, z3, z4, z5, z6, z7, z8, z9, z10⟩, _, _, ⟨lz, fz⟩, _⟩ := hcut.out
  clear hcut HN CC hca hcb
  rw [hna] at a0
  rw [hnb] at b0
  cases na
  case true =>
    clear HXc LA LB UA UB IL IU BT hna hnb
    go_wp2_with fail
    refine bodyPost_ret (v := Sp.none.val) (by simp [results, Tryd.results19, go_sem, Sp.val, Sp.none, Val.zero, z0, z1, z2, z3, z4, z5, z6, z7, z8, z9, z10]) rfl ⟨by rw [HA.out, HM.out]; rfl, ?_⟩
    repeat (refine set_below ?_ (by omega) _)
    exact HBc.out
  cases nb
  case true =>
    clear HXc LA LB UA UB IL IU BT hna hnb
    go_wp2_with fail
    refine bodyPost_ret (v := Sp.none.val) (by simp [results, Tryd.results19, go_sem, Sp.val, Sp.none, Val.zero, z0, z1, z2, z3, z4, z5, z6, z7, z8, z9, z10]) rfl ⟨by rw [HA.out, HM.out]; rfl, ?_⟩
    repeat (refine set_below ?_ (by omega) _)
    exact HBc.out
  have HR : Hid (r = r1) := HM.out
  have HD : Hid (∀ w1, PM w ca cb w1 → SBox w1 w.heap.size ⟨false, ca.hl, ca.ol, ca.lo, ca.hh, ca.oh, ca.hi⟩ ∧ SBox w1 (w.heap.size + 1) ⟨false, cb.hl, cb.ol, cb.lo, cb.hh, cb.oh, cb.hi⟩) := fun w1 h => by
    have h1 := h.pa
    have h2 := h.pb
    rw [show ca = ⟨false, ca.hl, ca.ol, ca.lo, ca.hh, ca.oh, ca.hi⟩ from by rw [← hna]] at h1
    rw [show cb = ⟨false, cb.hl, cb.ol, cb.lo, cb.hh, cb.oh, cb.hi⟩ from by rw [← hnb]] at h2
    exact ⟨h1, h2⟩
  rw [hna] at LA UA
  rw [hnb] at LB UB
  clear HM hna hnb
  go_wp2_with fail
  have X0 : PM w ca cb _ := HXc.out.below (Below.refl _ _).drew
  clear a0 a1 a2 a3 a4 a5 a6 a7 a8 a9 a10 b0 b1 b2 b3 b4 b5 b6 b7 b8 b9 b10 z0 z1 z2 z3 z4 z5 z6 z7 z8 z9 z10 lz fz HXc HBc

  refine wp_region_held_drew (S := fun w' => (w'.cell? ⟨w.heap.size, 0, none⟩ = some (.bool false) ∧ w'.cell? ⟨w.heap.size, 1, none⟩ = some (.bool ca.hl) ∧ w'.cell? ⟨w.heap.size, 2, none⟩ = some (.bool ca.ol) ∧ w'.cell? ⟨w.heap.size, 3, none⟩ = some (.bool ca.lo.t) ∧ w'.cell? ⟨w.heap.size, 4, none⟩ = some (.int .i64 ca.lo.n) ∧ w'.cell? ⟨w.heap.size, 5, none⟩ = some (.string ca.lo.s) ∧ w'.cell? ⟨w.heap.size, 6, none⟩ = some (.bool ca.hh) ∧ w'.cell? ⟨w.heap.size, 7, none⟩ = some (.bool ca.oh) ∧ w'.cell? ⟨w.heap.size, 8, none⟩ = some (.bool ca.hi.t) ∧ w'.cell? ⟨w.heap.size, 9, none⟩ = some (.int .i64 ca.hi.n) ∧ w'.cell? ⟨w.heap.size, 10, none⟩ = some (.string ca.hi.s)) ∧ (w'.cell? ⟨w.heap.size + 1, 0, none⟩ = some (.bool false) ∧ w'.cell? ⟨w.heap.size + 1, 1, none⟩ = some (.bool cb.hl) ∧ w'.cell? ⟨w.heap.size + 1, 2, none⟩ = some (.bool cb.ol) ∧ w'.cell? ⟨w.heap.size + 1, 3, none⟩ = some (.bool cb.lo.t) ∧ w'.cell? ⟨w.heap.size + 1, 4, none⟩ = some (.int .i64 cb.lo.n) ∧ w'.cell? ⟨w.heap.size + 1, 5, none⟩ = some (.string cb.lo.s) ∧ w'.cell? ⟨w.heap.size + 1, 6, none⟩ = some (.bool cb.hh) ∧ w'.cell? ⟨w.heap.size + 1, 7, none⟩ = some (.bool cb.oh) ∧ w'.cell? ⟨w.heap.size + 1, 8, none⟩ = some (.bool cb.hi.t) ∧ w'.cell? ⟨w.heap.size + 1, 9, none⟩ = some (.int .i64 cb.hi.n) ∧ w'.cell? ⟨w.heap.size + 1, 10, none⟩ = some (.string cb.hi.s))) (by kernel_rfl) ?_ (fun hHeld => ?_)
  · exact ⟨⟨(HD.out _ X0).1.c0, (HD.out _ X0).1.c1, (HD.out _ X0).1.c2, (HD.out _ X0).1.c3, (HD.out _ X0).1.c4, (HD.out _ X0).1.c5, (HD.out _ X0).1.c6, (HD.out _ X0).1.c7, (HD.out _ X0).1.c8, (HD.out _ X0).1.c9, (HD.out _ X0).1.c10⟩, ⟨(HD.out _ X0).2.c0, (HD.out _ X0).2.c1, (HD.out _ X0).2.c2, (HD.out _ X0).2.c3, (HD.out _ X0).2.c4, (HD.out _ X0).2.c5, (HD.out _ X0).2.c6, (HD.out _ X0).2.c7, (HD.out _ X0).2.c8, (HD.out _ X0).2.c9, (HD.out _ X0).2.c10⟩⟩
  (try clear hK K)
  refine wpAnyH_take (i := 0) (v := ?_) rfl (by kernel_rfl) (by kernel_rfl) (by kernel_rfl) (fun _ _ _ h => h) (Or.inl ⟨by rfl, ?_⟩) (by assumption) ?_
  rotate_left
  · intro w hSw; (try dsimp only at hSw); go_simp; (try with_reducible rfl)
  (try simp only [Act.put, List.getElem_toArray, List.getElem_cons_zero, List.setIfInBounds_toArray, List.set_cons_zero, List.set_cons_succ])
  refine wpAnyH_take (i := 2) (v := ?_) rfl (by kernel_rfl) (by kernel_rfl) (by kernel_rfl) (fun _ _ _ h => h) (Or.inl ⟨by rfl, ?_⟩) (by assumption) ?_
  rotate_left
  · intro w hSw; (try dsimp only at hSw); go_simp; (try with_reducible rfl)
  (try simp only [Act.put, List.getElem_toArray, List.getElem_cons_succ, List.getElem_cons_zero, List.setIfInBounds_toArray, List.set_cons_zero, List.set_cons_succ])
  refine wpAnyH_take (i := 5) (v := ?_) rfl (by kernel_rfl) (by kernel_rfl) (by kernel_rfl) (fun _ _ _ h => h) (Or.inl ⟨by rfl, ?_⟩) (by assumption) ?_
  rotate_left
  · intro w hSw; (try dsimp only at hSw); go_simp; (try with_reducible rfl)
  (try simp only [Act.put, List.getElem_toArray, List.getElem_cons_succ, List.getElem_cons_zero, List.setIfInBounds_toArray, List.set_cons_zero, List.set_cons_succ])
  refine wpAnyH_take (i := 7) (v := ?_) rfl (by kernel_rfl) (by kernel_rfl) (by kernel_rfl) (fun _ _ _ h => h) (Or.inl ⟨by rfl, ?_⟩) (by assumption) ?_
  rotate_left
  · intro w hSw; (try dsimp only at hSw); go_simp; (try with_reducible rfl)
  (try simp only [Act.put, List.getElem_toArray, List.getElem_cons_succ, List.getElem_cons_zero, List.setIfInBounds_toArray, List.set_cons_zero, List.set_cons_succ])
  (try clear hK K)
  refine wpAnyH_ready (rs := [1]) (by kernel_rfl) (by simp) ?_
  refine AllReadyH.cons rfl (fun K hK => ?_) AllReadyH.nil
  go_simp
  (refine Calls.mono (LA.out _) ?_; rintro e w1 ⟨rfl, hb1⟩; have X1 := X0.below hb1)
  refine hK.out _ _ ?_ (fun hHeld => ?_)
  · exact ⟨⟨(HD.out _ X1).1.c0, (HD.out _ X1).1.c1, (HD.out _ X1).1.c2, (HD.out _ X1).1.c3, (HD.out _ X1).1.c4, (HD.out _ X1).1.c5, (HD.out _ X1).1.c6, (HD.out _ X1).1.c7, (HD.out _ X1).1.c8, (HD.out _ X1).1.c9, (HD.out _ X1).1.c10⟩, ⟨(HD.out _ X1).2.c0, (HD.out _ X1).2.c1, (HD.out _ X1).2.c2, (HD.out _ X1).2.c3, (HD.out _ X1).2.c4, (HD.out _ X1).2.c5, (HD.out _ X1).2.c6, (HD.out _ X1).2.c7, (HD.out _ X1).2.c8, (HD.out _ X1).2.c9, (HD.out _ X1).2.c10⟩⟩
  (try clear hK K)
  refine wpAnyH_ready (rs := [3]) (by kernel_rfl) (by simp) ?_
  refine AllReadyH.cons rfl (fun K hK => ?_) AllReadyH.nil
  go_simp
  (refine Calls.mono (LB.out _) ?_; rintro e w2 ⟨rfl, hb2⟩; have X2 := X1.below hb2)
  refine hK.out _ _ ?_ (fun hHeld => ?_)
  · exact ⟨⟨(HD.out _ X2).1.c0, (HD.out _ X2).1.c1, (HD.out _ X2).1.c2, (HD.out _ X2).1.c3, (HD.out _ X2).1.c4, (HD.out _ X2).1.c5, (HD.out _ X2).1.c6, (HD.out _ X2).1.c7, (HD.out _ X2).1.c8, (HD.out _ X2).1.c9, (HD.out _ X2).1.c10⟩, ⟨(HD.out _ X2).2.c0, (HD.out _ X2).2.c1, (HD.out _ X2).2.c2, (HD.out _ X2).2.c3, (HD.out _ X2).2.c4, (HD.out _ X2).2.c5, (HD.out _ X2).2.c6, (HD.out _ X2).2.c7, (HD.out _ X2).2.c8, (HD.out _ X2).2.c9, (HD.out _ X2).2.c10⟩⟩
  (try clear hK K)
  refine wpAnyH_ready (rs := [4]) (by kernel_rfl) (by simp) ?_
  refine AllReadyH.cons rfl (fun K hK => ?_) AllReadyH.nil
  go_simp
  (refine Calls.mono (IL.out _) ?_; rintro e w3 ⟨rfl, hb3⟩; have X3 := X2.below hb3)
  refine hK.out _ _ ?_ (fun hHeld => ?_)
  · exact ⟨⟨(HD.out _ X3).1.c0, (HD.out _ X3).1.c1, (HD.out _ X3).1.c2, (HD.out _ X3).1.c3, (HD.out _ X3).1.c4, (HD.out _ X3).1.c5, (HD.out _ X3).1.c6, (HD.out _ X3).1.c7, (HD.out _ X3).1.c8, (HD.out _ X3).1.c9, (HD.out _ X3).1.c10⟩, ⟨(HD.out _ X3).2.c0, (HD.out _ X3).2.c1, (HD.out _ X3).2.c2, (HD.out _ X3).2.c3, (HD.out _ X3).2.c4, (HD.out _ X3).2.c5, (HD.out _ X3).2.c6, (HD.out _ X3).2.c7, (HD.out _ X3).2.c8, (HD.out _ X3).2.c9, (HD.out _ X3).2.c10⟩⟩
  (try clear hK K)
  refine wpAnyH_ready (rs := [6]) (by kernel_rfl) (by simp) ?_
  refine AllReadyH.cons rfl (fun K hK => ?_) AllReadyH.nil
  go_simp
  (refine Calls.mono (UA.out _) ?_; rintro e w4 ⟨rfl, hb4⟩; have X4 := X3.below hb4)
  refine hK.out _ _ ?_ (fun hHeld => ?_)
  · exact ⟨⟨(HD.out _ X4).1.c0, (HD.out _ X4).1.c1, (HD.out _ X4).1.c2, (HD.out _ X4).1.c3, (HD.out _ X4).1.c4, (HD.out _ X4).1.c5, (HD.out _ X4).1.c6, (HD.out _ X4).1.c7, (HD.out _ X4).1.c8, (HD.out _ X4).1.c9, (HD.out _ X4).1.c10⟩, ⟨(HD.out _ X4).2.c0, (HD.out _ X4).2.c1, (HD.out _ X4).2.c2, (HD.out _ X4).2.c3, (HD.out _ X4).2.c4, (HD.out _ X4).2.c5, (HD.out _ X4).2.c6, (HD.out _ X4).2.c7, (HD.out _ X4).2.c8, (HD.out _ X4).2.c9, (HD.out _ X4).2.c10⟩⟩
  (try clear hK K)
  refine wpAnyH_ready (rs := [8]) (by kernel_rfl) (by simp) ?_
  refine AllReadyH.cons rfl (fun K hK => ?_) AllReadyH.nil
  go_simp
  (refine Calls.mono (UB.out _) ?_; rintro e w5 ⟨rfl, hb5⟩; have X5 := X4.below hb5)
  refine hK.out _ _ ?_ (fun hHeld => ?_)
  · exact ⟨⟨(HD.out _ X5).1.c0, (HD.out _ X5).1.c1, (HD.out _ X5).1.c2, (HD.out _ X5).1.c3, (HD.out _ X5).1.c4, (HD.out _ X5).1.c5, (HD.out _ X5).1.c6, (HD.out _ X5).1.c7, (HD.out _ X5).1.c8, (HD.out _ X5).1.c9, (HD.out _ X5).1.c10⟩, ⟨(HD.out _ X5).2.c0, (HD.out _ X5).2.c1, (HD.out _ X5).2.c2, (HD.out _ X5).2.c3, (HD.out _ X5).2.c4, (HD.out _ X5).2.c5, (HD.out _ X5).2.c6, (HD.out _ X5).2.c7, (HD.out _ X5).2.c8, (HD.out _ X5).2.c9, (HD.out _ X5).2.c10⟩⟩
  (try clear hK K)
  refine wpAnyH_ready (rs := [9]) (by kernel_rfl) (by simp) ?_
  refine AllReadyH.cons rfl (fun K hK => ?_) AllReadyH.nil
  go_simp
  (refine Calls.mono (IU.out _) ?_; rintro e w6 ⟨rfl, hb6⟩; have X6 := X5.below hb6)
  refine hK.out _ _ ?_ (fun hHeld => ?_)
  · exact ⟨⟨(HD.out _ X6).1.c0, (HD.out _ X6).1.c1, (HD.out _ X6).1.c2, (HD.out _ X6).1.c3, (HD.out _ X6).1.c4, (HD.out _ X6).1.c5, (HD.out _ X6).1.c6, (HD.out _ X6).1.c7, (HD.out _ X6).1.c8, (HD.out _ X6).1.c9, (HD.out _ X6).1.c10⟩, ⟨(HD.out _ X6).2.c0, (HD.out _ X6).2.c1, (HD.out _ X6).2.c2, (HD.out _ X6).2.c3, (HD.out _ X6).2.c4, (HD.out _ X6).2.c5, (HD.out _ X6).2.c6, (HD.out _ X6).2.c7, (HD.out _ X6).2.c8, (HD.out _ X6).2.c9, (HD.out _ X6).2.c10⟩⟩
  (try clear hK K)
  refine wpAnyH_ready (rs := [10]) (by kernel_rfl) (by simp) ?_
  refine AllReadyH.cons rfl (fun K hK => ?_) AllReadyH.nil
  go_simp
  (refine Calls.mono (BT.out _) ?_; rintro e w7 ⟨rfl, hb7⟩; have X7 := X6.below hb7)
  refine hK.out _ _ ?_ (fun hHeld => ?_)
  · exact ⟨⟨(HD.out _ X7).1.c0, (HD.out _ X7).1.c1, (HD.out _ X7).1.c2, (HD.out _ X7).1.c3, (HD.out _ X7).1.c4, (HD.out _ X7).1.c5, (HD.out _ X7).1.c6, (HD.out _ X7).1.c7, (HD.out _ X7).1.c8, (HD.out _ X7).1.c9, (HD.out _ X7).1.c10⟩, ⟨(HD.out _ X7).2.c0, (HD.out _ X7).2.c1, (HD.out _ X7).2.c2, (HD.out _ X7).2.c3, (HD.out _ X7).2.c4, (HD.out _ X7).2.c5, (HD.out _ X7).2.c6, (HD.out _ X7).2.c7, (HD.out _ X7).2.c8, (HD.out _ X7).2.c9, (HD.out _ X7).2.c10⟩⟩
  obtain ⟨z0, z1, z2, z3, z4, z5, z6, z7, z8, z9, z10⟩ := X7.pz
  obtain ⟨lz, fz⟩ := X7.fz
  have HX : Hid (PM w ca cb w7) := X7
  clear X0 X1 X2 X3 X4 X5 X6 X7 hb1 hb2 hb3 hb4 hb5 hb6 hb7 LA LB UA UB IL IU BT
  (try clear hK K)
  refine wpAnyH_ready (rs := [11]) (by kernel_rfl) (by simp) ?_
  refine AllReadyH.cons rfl (fun K hK => ?_) AllReadyH.nil
  go_simp
  refine hK.out _ _ ?_ (fun hHeld => ?_)
  · refine ⟨SBox.conj (s := ⟨false, ca.hl, ca.ol, ca.lo, ca.hh, ca.oh, ca.hi⟩) ?_, SBox.conj (s := ⟨false, cb.hl, cb.ol, cb.lo, cb.hh, cb.oh, cb.hi⟩) ?_⟩
    · repeat (refine SBox.far ?_ (by omega))
      exact (HD.out _ HX.out).1
    · repeat (refine SBox.far ?_ (by omega))
      exact (HD.out _ HX.out).2
  (try clear hK K)
  refine wpAnyH_done (by kernel_rfl) ?_ _
  go_wp2_with fail
  refine bodyPost_ret (v := r1.val) (by simp [results, Tryd.results19, go_sem, Sp.val, z0, z1, z2, z3, z4, z5, z6, z7, z8, z9, z10]) rfl ⟨by rw [HA.out, HR.out]; rfl, ?_⟩
  repeat (refine set_below ?_ (by omega) _)
  exact HX.out.be
end Go.Proofs.YtfkhfplibhnceaaDoor.Val
/- What Hull of package normal answers. -/
namespace Go.Proofs.YtfkhfplibhnceaaDoor.Val
open Go.RowKit

set_option maxHeartbeats 4000000 in
theorem hull_any (a b : Sp) (w : World) : Calls Tryd.prog 21 #[a.val, b.val] w fun e w' => e = .returned (hullS a b).val ∧ Below w.heap.size w w' := by
  have HA : Hid (hullS a b = hullC (cleanS a) (cleanS b)) := rfl
  have CC : Hid (∀ (s : Sp) w1, PM w a b w1 → Calls Tryd.prog 38 #[s.val] w1 fun e w' => e = .returned (cleanS s).val ∧ PM w a b w') := fun s w1 h => (clean_any s w1).mono fun e w' h' => ⟨h'.1, h.below h'.2⟩
  obtain ⟨ca, hca⟩ : ∃ s, cleanS a = s := ⟨_, rfl⟩
  obtain ⟨cb, hcb⟩ : ∃ s, cleanS b = s := ⟨_, rfl⟩
  rw [hca, hcb] at HA
  have HM : Hid (hullC ca cb = if ca.no then cb else if cb.no then ca else btw (outerE (lowE ca) (lowE cb) (-1)) (outerE (uppE ca) (uppE cb) 1)) := rfl
  have LA : Hid (∀ w1, Calls Tryd.prog 34 #[ca.val] w1 fun e w' => e = .returned (lowE ca).val ∧ Below w1.heap.size w1 w') := fun w1 => lower_any ca w1
  have LB : Hid (∀ w1, Calls Tryd.prog 34 #[cb.val] w1 fun e w' => e = .returned (lowE cb).val ∧ Below w1.heap.size w1 w') := fun w1 => lower_any cb w1
  have UA : Hid (∀ w1, Calls Tryd.prog 36 #[ca.val] w1 fun e w' => e = .returned (uppE ca).val ∧ Below w1.heap.size w1 w') := fun w1 => upper_any ca w1
  have UB : Hid (∀ w1, Calls Tryd.prog 36 #[cb.val] w1 fun e w' => e = .returned (uppE cb).val ∧ Below w1.heap.size w1 w') := fun w1 => upper_any cb w1
  have IL : Hid (∀ w1, Calls Tryd.prog 42 #[(lowE ca).val, (lowE cb).val, .int .i64 (-1)] w1 fun e w' => e = .returned (outerE (lowE ca) (lowE cb) (-1)).val ∧ Below w1.heap.size w1 w') := fun w1 => outer_any _ _ _ w1 (by decide)
  have IU : Hid (∀ w1, Calls Tryd.prog 42 #[(uppE ca).val, (uppE cb).val, .int .i64 1] w1 fun e w' => e = .returned (outerE (uppE ca) (uppE cb) 1).val ∧ Below w1.heap.size w1 w') := fun w1 => outer_any _ _ _ w1 (by decide)
  have BT : Hid (∀ w1, Calls Tryd.prog 39 #[(outerE (lowE ca) (lowE cb) (-1)).val, (outerE (uppE ca) (uppE cb) 1).val] w1 fun e w' => e = .returned (btw (outerE (lowE ca) (lowE cb) (-1)) (outerE (uppE ca) (uppE cb) 1)).val ∧ Below w1.heap.size w1 w') := fun w1 => between_any _ _ w1
  generalize btw (outerE (lowE ca) (lowE cb) (-1)) (outerE (uppE ca) (uppE cb) 1) = r1 at *
  generalize outerE (lowE ca) (lowE cb) (-1) = i1 at *
  generalize outerE (uppE ca) (uppE cb) 1 = i2 at *
  generalize lowE ca = l1 at *
  generalize lowE cb = l2 at *
  generalize uppE ca = u1' at *
  generalize uppE cb = u2' at *
  generalize hullC ca cb = r at *
  generalize hullS a b = r' at *
  have HN : Hid _ := PM.new w a b 35 35 35
  unfold Sp.val En.val at *
  go_enter Tryd.func21, Tryd.ntmps21
  go_upto_region 1 with fail
  go_cut [] from 5 to 8 (fun wx => Hid (PM w ca cb wx))
  case first =>
    clear LA LB UA UB IL IU BT HA HM
    have X0 : PM w a b _ := HN.out.below (Below.refl _ _).drew
    clear HN
    obtain ⟨⟨a0, a1, a2, a3, a4, a5, a6, a7, a8, a9, a10⟩, ⟨b0, b1, b2, b3, b4, b5, b6, b7, b8, b9, b10⟩, _, ⟨la, fa⟩, ⟨lb, fb⟩, _, _⟩ := id X0
    go_region_with (go_at_call 38; refine Calls.mono (CC.out _ _ ‹PM w a b _›) ?_; rintro e wk ⟨rfl, hk⟩; obtain ⟨⟨a0, a1, a2, a3, a4, a5, a6, a7, a8, a9, a10⟩, ⟨b0, b1, b2, b3, b4, b5, b6, b7, b8, b9, b10⟩, _, ⟨la, fa⟩, ⟨lb, fb⟩, _, _⟩ := id hk)
    all_goals
      go_wp2_with fail
      go_meet
      rw [← hca, ← hcb]
      exact PM.put12 ‹PM w a b _› (cleanS a) (cleanS b)
  case rest =>
  skip
  obtain ⟨na, hna⟩ : ∃ o, ca.no = o := ⟨_, rfl⟩
  obtain ⟨nb, hnb⟩ : ∃ o, cb.no = o := ⟨_, rfl⟩
  rw [hna, hnb] at HM
  have HXc : Hid (PM w ca cb wc) := hcut.out
  have HBc : Hid (Below w.heap.size w wc) := hcut.out.be
  obtain ⟨⟨a0, a1, a2, a3, a4, a5, a6, a7, a8, a9, a10⟩, ⟨b0, b1, b2, b3, b4, b5, b6, b7, b8, b9, b10⟩, ⟨z0, z1, z2, z3, z4, z5, z6, z7, z8, z9, z10⟩, _, _, ⟨lz, fz⟩, _⟩ := hcut.out
  clear hcut HN CC hca hcb
  rw [hna] at a0
  rw [hnb] at b0
  cases na
  case true =>
    clear HXc LA LB UA UB IL IU BT hna
    go_wp2_with fail
    refine bodyPost_ret (v := cb.val) (by simp [results, Tryd.results21, go_sem, Sp.val, hnb, z0, z1, z2, z3, z4, z5, z6, z7, z8, z9, z10]) rfl ⟨by rw [HA.out, HM.out]; rfl, ?_⟩
    repeat (refine set_below ?_ (by omega) _)
    exact HBc.out
  cases nb
  case true =>
    clear HXc LA LB UA UB IL IU BT hnb
    go_wp2_with fail
    refine bodyPost_ret (v := ca.val) (by simp [results, Tryd.results21, go_sem, Sp.val, hna, z0, z1, z2, z3, z4, z5, z6, z7, z8, z9, z10]) rfl ⟨by rw [HA.out, HM.out]; rfl, ?_⟩
    repeat (refine set_below ?_ (by omega) _)
    exact HBc.out
  have HR : Hid (r = r1) := HM.out
  have HD : Hid (∀ w1, PM w ca cb w1 → SBox w1 w.heap.size ⟨false, ca.hl, ca.ol, ca.lo, ca.hh, ca.oh, ca.hi⟩ ∧ SBox w1 (w.heap.size + 1) ⟨false, cb.hl, cb.ol, cb.lo, cb.hh, cb.oh, cb.hi⟩) := fun w1 h => by
    have h1 := h.pa
    have h2 := h.pb
    rw [show ca = ⟨false, ca.hl, ca.ol, ca.lo, ca.hh, ca.oh, ca.hi⟩ from by rw [← hna]] at h1
    rw [show cb = ⟨false, cb.hl, cb.ol, cb.lo, cb.hh, cb.oh, cb.hi⟩ from by rw [← hnb]] at h2
    exact ⟨h1, h2⟩
  rw [hna] at LA UA
  rw [hnb] at LB UB
  clear HM hna hnb
  go_wp2_with fail
  have X0 : PM w ca cb _ := HXc.out.below (Below.refl _ _).drew
  clear a0 a1 a2 a3 a4 a5 a6 a7 a8 a9 a10 b0 b1 b2 b3 b4 b5 b6 b7 b8 b9 b10 z0 z1 z2 z3 z4 z5 z6 z7 z8 z9 z10 lz fz HXc HBc

  refine wp_region_held_drew (S := fun w' => (w'.cell? ⟨w.heap.size, 0, none⟩ = some (.bool false) ∧ w'.cell? ⟨w.heap.size, 1, none⟩ = some (.bool ca.hl) ∧ w'.cell? ⟨w.heap.size, 2, none⟩ = some (.bool ca.ol) ∧ w'.cell? ⟨w.heap.size, 3, none⟩ = some (.bool ca.lo.t) ∧ w'.cell? ⟨w.heap.size, 4, none⟩ = some (.int .i64 ca.lo.n) ∧ w'.cell? ⟨w.heap.size, 5, none⟩ = some (.string ca.lo.s) ∧ w'.cell? ⟨w.heap.size, 6, none⟩ = some (.bool ca.hh) ∧ w'.cell? ⟨w.heap.size, 7, none⟩ = some (.bool ca.oh) ∧ w'.cell? ⟨w.heap.size, 8, none⟩ = some (.bool ca.hi.t) ∧ w'.cell? ⟨w.heap.size, 9, none⟩ = some (.int .i64 ca.hi.n) ∧ w'.cell? ⟨w.heap.size, 10, none⟩ = some (.string ca.hi.s)) ∧ (w'.cell? ⟨w.heap.size + 1, 0, none⟩ = some (.bool false) ∧ w'.cell? ⟨w.heap.size + 1, 1, none⟩ = some (.bool cb.hl) ∧ w'.cell? ⟨w.heap.size + 1, 2, none⟩ = some (.bool cb.ol) ∧ w'.cell? ⟨w.heap.size + 1, 3, none⟩ = some (.bool cb.lo.t) ∧ w'.cell? ⟨w.heap.size + 1, 4, none⟩ = some (.int .i64 cb.lo.n) ∧ w'.cell? ⟨w.heap.size + 1, 5, none⟩ = some (.string cb.lo.s) ∧ w'.cell? ⟨w.heap.size + 1, 6, none⟩ = some (.bool cb.hh) ∧ w'.cell? ⟨w.heap.size + 1, 7, none⟩ = some (.bool cb.oh) ∧ w'.cell? ⟨w.heap.size + 1, 8, none⟩ = some (.bool cb.hi.t) ∧ w'.cell? ⟨w.heap.size + 1, 9, none⟩ = some (.int .i64 cb.hi.n) ∧ w'.cell? ⟨w.heap.size + 1, 10, none⟩ = some (.string cb.hi.s))) (by kernel_rfl) ?_ (fun hHeld => ?_)
  · exact ⟨⟨(HD.out _ X0).1.c0, (HD.out _ X0).1.c1, (HD.out _ X0).1.c2, (HD.out _ X0).1.c3, (HD.out _ X0).1.c4, (HD.out _ X0).1.c5, (HD.out _ X0).1.c6, (HD.out _ X0).1.c7, (HD.out _ X0).1.c8, (HD.out _ X0).1.c9, (HD.out _ X0).1.c10⟩, ⟨(HD.out _ X0).2.c0, (HD.out _ X0).2.c1, (HD.out _ X0).2.c2, (HD.out _ X0).2.c3, (HD.out _ X0).2.c4, (HD.out _ X0).2.c5, (HD.out _ X0).2.c6, (HD.out _ X0).2.c7, (HD.out _ X0).2.c8, (HD.out _ X0).2.c9, (HD.out _ X0).2.c10⟩⟩
  (try clear hK K)
  refine wpAnyH_take (i := 0) (v := ?_) rfl (by kernel_rfl) (by kernel_rfl) (by kernel_rfl) (fun _ _ _ h => h) (Or.inl ⟨by rfl, ?_⟩) (by assumption) ?_
  rotate_left
  · intro w hSw; (try dsimp only at hSw); go_simp; (try with_reducible rfl)
  (try simp only [Act.put, List.getElem_toArray, List.getElem_cons_zero, List.setIfInBounds_toArray, List.set_cons_zero, List.set_cons_succ])
  refine wpAnyH_take (i := 2) (v := ?_) rfl (by kernel_rfl) (by kernel_rfl) (by kernel_rfl) (fun _ _ _ h => h) (Or.inl ⟨by rfl, ?_⟩) (by assumption) ?_
  rotate_left
  · intro w hSw; (try dsimp only at hSw); go_simp; (try with_reducible rfl)
  (try simp only [Act.put, List.getElem_toArray, List.getElem_cons_succ, List.getElem_cons_zero, List.setIfInBounds_toArray, List.set_cons_zero, List.set_cons_succ])
  refine wpAnyH_take (i := 5) (v := ?_) rfl (by kernel_rfl) (by kernel_rfl) (by kernel_rfl) (fun _ _ _ h => h) (Or.inl ⟨by rfl, ?_⟩) (by assumption) ?_
  rotate_left
  · intro w hSw; (try dsimp only at hSw); go_simp; (try with_reducible rfl)
  (try simp only [Act.put, List.getElem_toArray, List.getElem_cons_succ, List.getElem_cons_zero, List.setIfInBounds_toArray, List.set_cons_zero, List.set_cons_succ])
  refine wpAnyH_take (i := 7) (v := ?_) rfl (by kernel_rfl) (by kernel_rfl) (by kernel_rfl) (fun _ _ _ h => h) (Or.inl ⟨by rfl, ?_⟩) (by assumption) ?_
  rotate_left
  · intro w hSw; (try dsimp only at hSw); go_simp; (try with_reducible rfl)
  (try simp only [Act.put, List.getElem_toArray, List.getElem_cons_succ, List.getElem_cons_zero, List.setIfInBounds_toArray, List.set_cons_zero, List.set_cons_succ])
  (try clear hK K)
  refine wpAnyH_ready (rs := [1]) (by kernel_rfl) (by simp) ?_
  refine AllReadyH.cons rfl (fun K hK => ?_) AllReadyH.nil
  go_simp
  (refine Calls.mono (LA.out _) ?_; rintro e w1 ⟨rfl, hb1⟩; have X1 := X0.below hb1)
  refine hK.out _ _ ?_ (fun hHeld => ?_)
  · exact ⟨⟨(HD.out _ X1).1.c0, (HD.out _ X1).1.c1, (HD.out _ X1).1.c2, (HD.out _ X1).1.c3, (HD.out _ X1).1.c4, (HD.out _ X1).1.c5, (HD.out _ X1).1.c6, (HD.out _ X1).1.c7, (HD.out _ X1).1.c8, (HD.out _ X1).1.c9, (HD.out _ X1).1.c10⟩, ⟨(HD.out _ X1).2.c0, (HD.out _ X1).2.c1, (HD.out _ X1).2.c2, (HD.out _ X1).2.c3, (HD.out _ X1).2.c4, (HD.out _ X1).2.c5, (HD.out _ X1).2.c6, (HD.out _ X1).2.c7, (HD.out _ X1).2.c8, (HD.out _ X1).2.c9, (HD.out _ X1).2.c10⟩⟩
  (try clear hK K)
  refine wpAnyH_ready (rs := [3]) (by kernel_rfl) (by simp) ?_
  refine AllReadyH.cons rfl (fun K hK => ?_) AllReadyH.nil
  go_simp
  (refine Calls.mono (LB.out _) ?_; rintro e w2 ⟨rfl, hb2⟩; have X2 := X1.below hb2)
  refine hK.out _ _ ?_ (fun hHeld => ?_)
  · exact ⟨⟨(HD.out _ X2).1.c0, (HD.out _ X2).1.c1, (HD.out _ X2).1.c2, (HD.out _ X2).1.c3, (HD.out _ X2).1.c4, (HD.out _ X2).1.c5, (HD.out _ X2).1.c6, (HD.out _ X2).1.c7, (HD.out _ X2).1.c8, (HD.out _ X2).1.c9, (HD.out _ X2).1.c10⟩, ⟨(HD.out _ X2).2.c0, (HD.out _ X2).2.c1, (HD.out _ X2).2.c2, (HD.out _ X2).2.c3, (HD.out _ X2).2.c4, (HD.out _ X2).2.c5, (HD.out _ X2).2.c6, (HD.out _ X2).2.c7, (HD.out _ X2).2.c8, (HD.out _ X2).2.c9, (HD.out _ X2).2.c10⟩⟩
  (try clear hK K)
  refine wpAnyH_ready (rs := [4]) (by kernel_rfl) (by simp) ?_
  refine AllReadyH.cons rfl (fun K hK => ?_) AllReadyH.nil
  go_simp
  (refine Calls.mono (IL.out _) ?_; rintro e w3 ⟨rfl, hb3⟩; have X3 := X2.below hb3)
  refine hK.out _ _ ?_ (fun hHeld => ?_)
  · exact ⟨⟨(HD.out _ X3).1.c0, (HD.out _ X3).1.c1, (HD.out _ X3).1.c2, (HD.out _ X3).1.c3, (HD.out _ X3).1.c4, (HD.out _ X3).1.c5, (HD.out _ X3).1.c6, (HD.out _ X3).1.c7, (HD.out _ X3).1.c8, (HD.out _ X3).1.c9, (HD.out _ X3).1.c10⟩, ⟨(HD.out _ X3).2.c0, (HD.out _ X3).2.c1, (HD.out _ X3).2.c2, (HD.out _ X3).2.c3, (HD.out _ X3).2.c4, (HD.out _ X3).2.c5, (HD.out _ X3).2.c6, (HD.out _ X3).2.c7, (HD.out _ X3).2.c8, (HD.out _ X3).2.c9, (HD.out _ X3).2.c10⟩⟩
  (try clear hK K)
  refine wpAnyH_ready (rs := [6]) (by kernel_rfl) (by simp) ?_
  refine AllReadyH.cons rfl (fun K hK => ?_) AllReadyH.nil
  go_simp
  (refine Calls.mono (UA.out _) ?_; rintro e w4 ⟨rfl, hb4⟩; have X4 := X3.below hb4)
  refine hK.out _ _ ?_ (fun hHeld => ?_)
  · exact ⟨⟨(HD.out _ X4).1.c0, (HD.out _ X4).1.c1, (HD.out _ X4).1.c2, (HD.out _ X4).1.c3, (HD.out _ X4).1.c4, (HD.out _ X4).1.c5, (HD.out _ X4).1.c6, (HD.out _ X4).1.c7, (HD.out _ X4).1.c8, (HD.out _ X4).1.c9, (HD.out _ X4).1.c10⟩, ⟨(HD.out _ X4).2.c0, (HD.out _ X4).2.c1, (HD.out _ X4).2.c2, (HD.out _ X4).2.c3, (HD.out _ X4).2.c4, (HD.out _ X4).2.c5, (HD.out _ X4).2.c6, (HD.out _ X4).2.c7, (HD.out _ X4).2.c8, (HD.out _ X4).2.c9, (HD.out _ X4).2.c10⟩⟩
  (try clear hK K)
  refine wpAnyH_ready (rs := [8]) (by kernel_rfl) (by simp) ?_
  refine AllReadyH.cons rfl (fun K hK => ?_) AllReadyH.nil
  go_simp
  (refine Calls.mono (UB.out _) ?_; rintro e w5 ⟨rfl, hb5⟩; have X5 := X4.below hb5)
  refine hK.out _ _ ?_ (fun hHeld => ?_)
  · exact ⟨⟨(HD.out _ X5).1.c0, (HD.out _ X5).1.c1, (HD.out _ X5).1.c2, (HD.out _ X5).1.c3, (HD.out _ X5).1.c4, (HD.out _ X5).1.c5, (HD.out _ X5).1.c6, (HD.out _ X5).1.c7, (HD.out _ X5).1.c8, (HD.out _ X5).1.c9, (HD.out _ X5).1.c10⟩, ⟨(HD.out _ X5).2.c0, (HD.out _ X5).2.c1, (HD.out _ X5).2.c2, (HD.out _ X5).2.c3, (HD.out _ X5).2.c4, (HD.out _ X5).2.c5, (HD.out _ X5).2.c6, (HD.out _ X5).2.c7, (HD.out _ X5).2.c8, (HD.out _ X5).2.c9, (HD.out _ X5).2.c10⟩⟩
  (try clear hK K)
  refine wpAnyH_ready (rs := [9]) (by kernel_rfl) (by simp) ?_
  refine AllReadyH.cons rfl (fun K hK => ?_) AllReadyH.nil
  go_simp
  (refine Calls.mono (IU.out _) ?_; rintro e w6 ⟨rfl, hb6⟩; have X6 := X5.below hb6)
  refine hK.out _ _ ?_ (fun hHeld => ?_)
  · exact ⟨⟨(HD.out _ X6).1.c0, (HD.out _ X6).1.c1, (HD.out _ X6).1.c2, (HD.out _ X6).1.c3, (HD.out _ X6).1.c4, (HD.out _ X6).1.c5, (HD.out _ X6).1.c6, (HD.out _ X6).1.c7, (HD.out _ X6).1.c8, (HD.out _ X6).1.c9, (HD.out _ X6).1.c10⟩, ⟨(HD.out _ X6).2.c0, (HD.out _ X6).2.c1, (HD.out _ X6).2.c2, (HD.out _ X6).2.c3, (HD.out _ X6).2.c4, (HD.out _ X6).2.c5, (HD.out _ X6).2.c6, (HD.out _ X6).2.c7, (HD.out _ X6).2.c8, (HD.out _ X6).2.c9, (HD.out _ X6).2.c10⟩⟩
  (try clear hK K)
  refine wpAnyH_ready (rs := [10]) (by kernel_rfl) (by simp) ?_
  refine AllReadyH.cons rfl (fun K hK => ?_) AllReadyH.nil
  go_simp
  (refine Calls.mono (BT.out _) ?_; rintro e w7 ⟨rfl, hb7⟩; have X7 := X6.below hb7)
  refine hK.out _ _ ?_ (fun hHeld => ?_)
  · exact ⟨⟨(HD.out _ X7).1.c0, (HD.out _ X7).1.c1, (HD.out _ X7).1.c2, (HD.out _ X7).1.c3, (HD.out _ X7).1.c4, (HD.out _ X7).1.c5, (HD.out _ X7).1.c6, (HD.out _ X7).1.c7, (HD.out _ X7).1.c8, (HD.out _ X7).1.c9, (HD.out _ X7).1.c10⟩, ⟨(HD.out _ X7).2.c0, (HD.out _ X7).2.c1, (HD.out _ X7).2.c2, (HD.out _ X7).2.c3, (HD.out _ X7).2.c4, (HD.out _ X7).2.c5, (HD.out _ X7).2.c6, (HD.out _ X7).2.c7, (HD.out _ X7).2.c8, (HD.out _ X7).2.c9, (HD.out _ X7).2.c10⟩⟩
  obtain ⟨z0, z1, z2, z3, z4, z5, z6, z7, z8, z9, z10⟩ := X7.pz
  obtain ⟨lz, fz⟩ := X7.fz
  have HX : Hid (PM w ca cb w7) := X7
  clear X0 X1 X2 X3 X4 X5 X6 X7 hb1 hb2 hb3 hb4 hb5 hb6 hb7 LA LB UA UB IL IU BT
  (try clear hK K)
  refine wpAnyH_ready (rs := [11]) (by kernel_rfl) (by simp) ?_
  refine AllReadyH.cons rfl (fun K hK => ?_) AllReadyH.nil
  go_simp
  refine hK.out _ _ ?_ (fun hHeld => ?_)
  · refine ⟨SBox.conj (s := ⟨false, ca.hl, ca.ol, ca.lo, ca.hh, ca.oh, ca.hi⟩) ?_, SBox.conj (s := ⟨false, cb.hl, cb.ol, cb.lo, cb.hh, cb.oh, cb.hi⟩) ?_⟩
    · repeat (refine SBox.far ?_ (by omega))
      exact (HD.out _ HX.out).1
    · repeat (refine SBox.far ?_ (by omega))
      exact (HD.out _ HX.out).2
  (try clear hK K)
  refine wpAnyH_done (by kernel_rfl) ?_ _
  go_wp2_with fail
  refine bodyPost_ret (v := r1.val) (by simp [results, Tryd.results21, go_sem, Sp.val, z0, z1, z2, z3, z4, z5, z6, z7, z8, z9, z10]) rfl ⟨by rw [HA.out, HR.out]; rfl, ?_⟩
  repeat (refine set_below ?_ (by omega) _)
  exact HX.out.be
end Go.Proofs.YtfkhfplibhnceaaDoor.Val
