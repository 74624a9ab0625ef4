/- What clean, Within, Meet, Hull of package normal answer. -/
import Derived.Test.YtfkhfplibhnceaaDoorNormChosen
import Derived.Deep.CutRange
namespace Go.Proofs.YtfkhfplibhnceaaDoor.Val
open Go.RowKit

/-- A span's box, and the answer's. -/
structure S2 (w0 : World) (s : Sp) (w : World) : Prop where
  pa : SBox w w0.heap.size s
  pz : SBox w (w0.heap.size + 1) Sp.all
  fz : Fr w (w0.heap.size + 1)
  be : Below w0.heap.size w0 w
theorem S2.below {w0 w w' : World} {s : Sp} (h : S2 w0 s w) (hb : Below w.heap.size w w') : S2 w0 s w' := ⟨h.pa.below hb, h.pz.below hb, h.fz.below hb, on h.be hb⟩
theorem S2.new (w : World) (s : Sp) (T1 T2 : TypeId) : S2 w s ((w.alloc (sobj s T1)).alloc (sobj Sp.all T2)) := by
  refine ⟨(SBox.new w s T1).alloc _, ?_, ?_, back1 (alloc1 _ _)⟩
  · have := SBox.new (w.alloc (sobj s T1)) Sp.all T2; simpa using this
  · have := Fr.new (w.alloc (sobj s T1)) #[.bool Sp.all.no, .bool Sp.all.hl, .bool Sp.all.ol, .bool Sp.all.lo.t, .int .i64 Sp.all.lo.n, .string Sp.all.lo.s, .bool Sp.all.hh, .bool Sp.all.oh, .bool Sp.all.hi.t, .int .i64 Sp.all.hi.n, .string Sp.all.hi.s] T2; simpa using this
theorem cell_far {w : World} {b o c j : Nat} {u x : Value} (h : w.cell? ⟨b, o, none⟩ = some x) (hne : c ≠ b) : (w.setCell ⟨c, j, none⟩ u).cell? ⟨b, o, none⟩ = some x := by rw [World.cell?_setCell_far _ _ _ _ hne]; exact h
theorem SBox.far {w : World} {b c j : Nat} {s : Sp} {u : Value} (h : SBox w b s) (hne : c ≠ b) : SBox (w.setCell ⟨c, j, none⟩ u) b s :=
  ⟨cell_far h.c0 hne, cell_far h.c1 hne, cell_far h.c2 hne, cell_far h.c3 hne, cell_far h.c4 hne, cell_far h.c5 hne, cell_far h.c6 hne, cell_far h.c7 hne, cell_far h.c8 hne, cell_far h.c9 hne, cell_far h.c10 hne⟩
theorem SBox.conj {w' : World} {b : Nat} {s : Sp} (h : SBox w' b s) : w'.cell? ⟨b, 0, none⟩ = some (.bool s.no) ∧ w'.cell? ⟨b, 1, none⟩ = some (.bool s.hl) ∧ w'.cell? ⟨b, 2, none⟩ = some (.bool s.ol) ∧ w'.cell? ⟨b, 3, none⟩ = some (.bool s.lo.t) ∧ w'.cell? ⟨b, 4, none⟩ = some (.int .i64 s.lo.n) ∧ w'.cell? ⟨b, 5, none⟩ = some (.string s.lo.s) ∧ w'.cell? ⟨b, 6, none⟩ = some (.bool s.hh) ∧ w'.cell? ⟨b, 7, none⟩ = some (.bool s.oh) ∧ w'.cell? ⟨b, 8, none⟩ = some (.bool s.hi.t) ∧ w'.cell? ⟨b, 9, none⟩ = some (.int .i64 s.hi.n) ∧ w'.cell? ⟨b, 10, none⟩ = some (.string s.hi.s) := ⟨h.c0, h.c1, h.c2, h.c3, h.c4, h.c5, h.c6, h.c7, h.c8, h.c9, h.c10⟩
set_option maxHeartbeats 2000000 in
theorem clean_any (s : Sp) (w : World) : Calls Tryd.prog 38 #[s.val] w fun e w' => e = .returned (cleanS s).val ∧ Below w.heap.size w w' := by
  have HA : Hid (cleanS s = if s.no then Sp.none else btw (lowE s) (uppE s)) := rfl
  have HL : Hid (∀ w1, Calls Tryd.prog 34 #[s.val] w1 fun e w' => e = .returned (lowE s).val ∧ Below w1.heap.size w1 w') := fun w1 => lower_any s w1
  have HU : Hid (∀ w1, Calls Tryd.prog 36 #[s.val] w1 fun e w' => e = .returned (uppE s).val ∧ Below w1.heap.size w1 w') := fun w1 => upper_any s w1
  have HW : Hid (∀ w1, Calls Tryd.prog 39 #[(lowE s).val, (uppE s).val] w1 fun e w' => e = .returned (btw (lowE s) (uppE s)).val ∧ Below w1.heap.size w1 w') := fun w1 => between_any _ _ w1
  generalize btw (lowE s) (uppE s) = r1 at *
  generalize lowE s = lo at *
  generalize uppE s = up at *
  generalize cleanS s = r at *
  obtain ⟨no, hno⟩ : ∃ o, s.no = o := ⟨_, rfl⟩
  rw [hno] at HA
  have HN : Hid _ := S2.new w s 35 35
  unfold Sp.val En.val at *
  rw [hno] at HL HU ⊢
  cases no
  case true =>
    clear HL HU HW HN hno
    go_enter Tryd.func38, Tryd.ntmps38
    go_wp2_with fail
    refine bodyPost_ret (v := Sp.none.val) (by simp [results, Tryd.results38, go_sem, Sp.val, Sp.none, Val.zero]) rfl ⟨by rw [HA.out]; rfl, ?_⟩
    exact back1 (alloc1 _ _)
  have HR : Hid (r = r1) := HA.out
  have HNO : Hid (s.no = false) := hno
  clear HA
  go_enter Tryd.func38, Tryd.ntmps38
  go_wp2_with fail
  have X0 : S2 w s _ := HN.out.below (Below.refl _ _).drew
  rw [sobj, hno] at X0
  clear hno HN
  have D : ∀ w1, S2 w s w1 → SBox w1 w.heap.size ⟨false, s.hl, s.ol, s.lo, s.hh, s.oh, s.hi⟩ := fun w1 h => by have := h.pa; rw [show s = ⟨false, s.hl, s.ol, s.lo, s.hh, s.oh, s.hi⟩ from by rw [← HNO.out]] at this; exact this
  have HD : Hid _ := D
  clear D
  refine wp_region_held_drew (S := fun w' => w'.cell? ⟨w.heap.size, 0, none⟩ = some (.bool false) ∧ w'.cell? ⟨w.heap.size, 1, none⟩ = some (.bool s.hl) ∧ w'.cell? ⟨w.heap.size, 2, none⟩ = some (.bool s.ol) ∧ w'.cell? ⟨w.heap.size, 3, none⟩ = some (.bool s.lo.t) ∧ w'.cell? ⟨w.heap.size, 4, none⟩ = some (.int .i64 s.lo.n) ∧ w'.cell? ⟨w.heap.size, 5, none⟩ = some (.string s.lo.s) ∧ w'.cell? ⟨w.heap.size, 6, none⟩ = some (.bool s.hh) ∧ w'.cell? ⟨w.heap.size, 7, none⟩ = some (.bool s.oh) ∧ w'.cell? ⟨w.heap.size, 8, none⟩ = some (.bool s.hi.t) ∧ w'.cell? ⟨w.heap.size, 9, none⟩ = some (.int .i64 s.hi.n) ∧ w'.cell? ⟨w.heap.size, 10, none⟩ = some (.string s.hi.s)) (by kernel_rfl) ?_ (fun hHeld => ?_)
  · exact ⟨(HD.out _ X0).c0, (HD.out _ X0).c1, (HD.out _ X0).c2, (HD.out _ X0).c3, (HD.out _ X0).c4, (HD.out _ X0).c5, (HD.out _ X0).c6, (HD.out _ X0).c7, (HD.out _ X0).c8, (HD.out _ X0).c9, (HD.out _ X0).c10⟩
  (try clear hK K)
  refine wpAnyH_take (i := 0) (v := ?_) rfl (by kernel_rfl) (by kernel_rfl) (by kernel_rfl) (fun _ _ _ h => h) (Or.inl ⟨by rfl, ?_⟩) (by assumption) ?_
  rotate_left
  · intro w hSw; (try dsimp only at hSw); go_simp; (try with_reducible rfl)
  (try simp only [Act.put, List.getElem_toArray, List.getElem_cons_zero, List.setIfInBounds_toArray, List.set_cons_zero, List.set_cons_succ])
  refine wpAnyH_take (i := 2) (v := ?_) rfl (by kernel_rfl) (by kernel_rfl) (by kernel_rfl) (fun _ _ _ h => h) (Or.inl ⟨by rfl, ?_⟩) (by assumption) ?_
  rotate_left
  · intro w hSw; (try dsimp only at hSw); go_simp; (try with_reducible rfl)
  (try simp only [Act.put, List.getElem_toArray, List.getElem_cons_succ, List.getElem_cons_zero, List.setIfInBounds_toArray, List.set_cons_zero, List.set_cons_succ])
  (try clear hK K)
  refine wpAnyH_ready (rs := [1]) (by kernel_rfl) (by simp) ?_
  refine AllReadyH.cons rfl (fun K hK => ?_) AllReadyH.nil
  go_simp
  (refine Calls.mono (HL.out _) ?_; rintro e w1 ⟨rfl, hb1⟩; have X1 := X0.below hb1)
  refine hK.out _ _ ?_ (fun hHeld => ?_)
  · exact ⟨(HD.out _ X1).c0, (HD.out _ X1).c1, (HD.out _ X1).c2, (HD.out _ X1).c3, (HD.out _ X1).c4, (HD.out _ X1).c5, (HD.out _ X1).c6, (HD.out _ X1).c7, (HD.out _ X1).c8, (HD.out _ X1).c9, (HD.out _ X1).c10⟩
  (try clear hK K)
  refine wpAnyH_ready (rs := [3]) (by kernel_rfl) (by simp) ?_
  refine AllReadyH.cons rfl (fun K hK => ?_) AllReadyH.nil
  go_simp
  (refine Calls.mono (HU.out _) ?_; rintro e w2 ⟨rfl, hb2⟩; have X2 := X1.below hb2)
  refine hK.out _ _ ?_ (fun hHeld => ?_)
  · exact ⟨(HD.out _ X2).c0, (HD.out _ X2).c1, (HD.out _ X2).c2, (HD.out _ X2).c3, (HD.out _ X2).c4, (HD.out _ X2).c5, (HD.out _ X2).c6, (HD.out _ X2).c7, (HD.out _ X2).c8, (HD.out _ X2).c9, (HD.out _ X2).c10⟩
  (try clear hK K)
  refine wpAnyH_ready (rs := [4]) (by kernel_rfl) (by simp) ?_
  refine AllReadyH.cons rfl (fun K hK => ?_) AllReadyH.nil
  go_simp
  (refine Calls.mono (HW.out _) ?_; rintro e w3 ⟨rfl, hb3⟩; have X3 := X2.below hb3)
  refine hK.out _ _ ?_ (fun hHeld => ?_)
  · exact ⟨(HD.out _ X3).c0, (HD.out _ X3).c1, (HD.out _ X3).c2, (HD.out _ X3).c3, (HD.out _ X3).c4, (HD.out _ X3).c5, (HD.out _ X3).c6, (HD.out _ X3).c7, (HD.out _ X3).c8, (HD.out _ X3).c9, (HD.out _ X3).c10⟩
  obtain ⟨z0, z1, z2, z3, z4, z5, z6, z7, z8, z9, z10⟩ := X3.pz
  obtain ⟨lz, fz⟩ := X3.fz
  have HX : Hid (S2 w s w3) := X3
  clear X0 X1 X2 X3 hb1 hb2 hb3 HL HU HW
  (try clear hK K)
  refine wpAnyH_ready (rs := [5]) (by kernel_rfl) (by simp) ?_
  refine AllReadyH.cons rfl (fun K hK => ?_) AllReadyH.nil
  go_simp
  refine hK.out _ _ ?_ (fun hHeld => ?_)
  · refine SBox.conj (s := ⟨false, s.hl, s.ol, s.lo, s.hh, s.oh, s.hi⟩) ?_
    repeat (refine SBox.far ?_ (by omega))
    exact HD.out _ HX.out
  (try clear hK K)
  refine wpAnyH_done (by kernel_rfl) ?_ _
  go_wp2_with fail
  refine bodyPost_ret (v := r1.val) (by simp [results, Tryd.results38, go_sem, Sp.val, z0, z1, z2, z3, z4, z5, z6, z7, z8, z9, z10]) rfl ⟨by rw [HR.out]; rfl, ?_⟩
  repeat (refine set_below ?_ (by omega) _)
  exact HX.out.be
/-- A span's box, and a value's. -/
structure SVB (w0 : World) (s : Sp) (x : Val) (w : World) : Prop where
  pa : SBox w w0.heap.size s
  pv : VBox w (w0.heap.size + 1) x
  be : Below w0.heap.size w0 w
theorem SVB.below {w0 w w' : World} {s : Sp} {x : Val} (h : SVB w0 s x w) (hb : Below w.heap.size w w') : SVB w0 s x w' := ⟨h.pa.below hb, h.pv.below hb, on h.be hb⟩
theorem SVB.new (w : World) (s : Sp) (x : Val) (T1 T2 : TypeId) : SVB w s x ((w.alloc (sobj s T1)).alloc (vobj x T2)) := by
  refine ⟨(SBox.new w s T1).alloc _, ?_, back1 (alloc1 _ _)⟩
  have := VBox.new (w.alloc (sobj s T1)) x T2; simpa using this
set_option maxHeartbeats 2000000 in
theorem within_any (s : Sp) (x : Val) (w : World) : Calls Tryd.prog 17 #[s.val, V x.t x.n x.s] w fun e w' => e = .returned (.bool (withinS s x)) ∧ Below w.heap.size w w' := by
  have HA : Hid (withinS s x = (!s.no && (!apartE (lowE s) (closedE x) && !apartE (closedE x) (uppE s)))) := rfl
  have HL : Hid (∀ w1, Calls Tryd.prog 34 #[s.val] w1 fun e w' => e = .returned (lowE s).val ∧ Below w1.heap.size w1 w') := fun w1 => lower_any s w1
  have HU : Hid (∀ w1, Calls Tryd.prog 36 #[s.val] w1 fun e w' => e = .returned (uppE s).val ∧ Below w1.heap.size w1 w') := fun w1 => upper_any s w1
  have HV : Hid (∀ w1, Calls Tryd.prog 35 #[V x.t x.n x.s] w1 fun e w' => e = .returned (closedE x).val ∧ Below w1.heap.size w1 w') := fun w1 => closed_any x w1
  have HP : Hid (∀ w1, Calls Tryd.prog 33 #[(lowE s).val, (closedE x).val] w1 fun e w' => e = .returned (.bool (apartE (lowE s) (closedE x))) ∧ Below w1.heap.size w1 w') := fun w1 => apart_any _ _ w1
  have HQ : Hid (∀ w1, Calls Tryd.prog 33 #[(closedE x).val, (uppE s).val] w1 fun e w' => e = .returned (.bool (apartE (closedE x) (uppE s))) ∧ Below w1.heap.size w1 w') := fun w1 => apart_any _ _ w1
  generalize apartE (lowE s) (closedE x) = p1 at *
  generalize apartE (closedE x) (uppE s) = p2 at *
  generalize lowE s = lo at *
  generalize uppE s = up at *
  generalize closedE x = cl at *
  generalize withinS s x = r at *
  obtain ⟨no, hno⟩ : ∃ o, s.no = o := ⟨_, rfl⟩
  rw [hno] at HA
  have HN : Hid _ := SVB.new w s x 35 26
  unfold Sp.val En.val at *
  have HD : Hid (∀ w1, SVB w s x w1 → SBox w1 w.heap.size ⟨no, s.hl, s.ol, s.lo, s.hh, s.oh, s.hi⟩) := fun w1 h => by have := h.pa; rw [show s = ⟨no, s.hl, s.ol, s.lo, s.hh, s.oh, s.hi⟩ from by rw [← hno]] at this; exact this
  rw [hno] at HL HU ⊢
  have HNO : Hid (s.no = no) := hno
  clear hno
  go_enter Tryd.func17, Tryd.ntmps17
  go_wp2_with fail
  have X0 : SVB w s x _ := HN.out.below (Below.refl _ _).drew
  rw [sobj, HNO.out] at X0
  clear HN HNO
  cases no
  case true =>
    clear HL HU HV HP HQ
    have H1 : Hid (Below w.heap.size w _) := X0.be
    refine wp_region_held_drew (S := fun w' => (w'.cell? ⟨w.heap.size, 0, none⟩ = some (.bool true) ∧ w'.cell? ⟨w.heap.size, 1, none⟩ = some (.bool s.hl) ∧ w'.cell? ⟨w.heap.size, 2, none⟩ = some (.bool s.ol) ∧ w'.cell? ⟨w.heap.size, 3, none⟩ = some (.bool s.lo.t) ∧ w'.cell? ⟨w.heap.size, 4, none⟩ = some (.int .i64 s.lo.n) ∧ w'.cell? ⟨w.heap.size, 5, none⟩ = some (.string s.lo.s) ∧ w'.cell? ⟨w.heap.size, 6, none⟩ = some (.bool s.hh) ∧ w'.cell? ⟨w.heap.size, 7, none⟩ = some (.bool s.oh) ∧ w'.cell? ⟨w.heap.size, 8, none⟩ = some (.bool s.hi.t) ∧ w'.cell? ⟨w.heap.size, 9, none⟩ = some (.int .i64 s.hi.n) ∧ w'.cell? ⟨w.heap.size, 10, none⟩ = some (.string s.hi.s)) ∧ w'.cell? ⟨w.heap.size + 1, 0, none⟩ = some (.bool x.t) ∧ w'.cell? ⟨w.heap.size + 1, 1, none⟩ = some (.int .i64 x.n) ∧ w'.cell? ⟨w.heap.size + 1, 2, none⟩ = some (.string x.s)) (by kernel_rfl) ?_ (fun hHeld => ?_)
    · exact ⟨⟨(HD.out _ X0).c0, (HD.out _ X0).c1, (HD.out _ X0).c2, (HD.out _ X0).c3, (HD.out _ X0).c4, (HD.out _ X0).c5, (HD.out _ X0).c6, (HD.out _ X0).c7, (HD.out _ X0).c8, (HD.out _ X0).c9, (HD.out _ X0).c10⟩, ⟨X0.pv.c0, X0.pv.c1, X0.pv.c2⟩⟩
    (try clear hK K)
    refine wpAnyH_take (i := 0) (v := ?_) rfl (by kernel_rfl) (by kernel_rfl) (by kernel_rfl) (fun _ _ _ h => h) (Or.inl ⟨by rfl, ?_⟩) (by assumption) ?_
    rotate_left
    · intro w hSw; (try dsimp only at hSw); go_simp; (try with_reducible rfl)
    (try simp only [Act.put, List.getElem_toArray, List.getElem_cons_zero, List.setIfInBounds_toArray, List.set_cons_zero, List.set_cons_succ])
    refine wpAnyH_take (i := 1) (v := ?_) rfl (by kernel_rfl) (by kernel_rfl) (by kernel_rfl) (fun _ _ _ h => h) (Or.inl ⟨by rfl, ?_⟩) (by assumption) ?_
    rotate_left
    · intro w hSw; (try dsimp only at hSw); go_simp; (try with_reducible rfl)
    (try simp only [Act.put, List.getElem_toArray, List.getElem_cons_succ, List.getElem_cons_zero, List.setIfInBounds_toArray, List.set_cons_zero, List.set_cons_succ])
    refine wpAnyH_take (i := 2) (v := ?_) rfl (by kernel_rfl) (by kernel_rfl) (by kernel_rfl) (fun _ _ _ h => h) (Or.inl ⟨by rfl, ?_⟩) (by assumption) ?_
    rotate_left
    · intro w hSw; (try dsimp only at hSw); go_simp; (try with_reducible rfl)
    (try simp only [Act.put, List.getElem_toArray, List.getElem_cons_succ, List.getElem_cons_zero, List.setIfInBounds_toArray, List.set_cons_zero, List.set_cons_succ])
    refine wpAnyH_take (i := 3) (v := ?_) rfl (by kernel_rfl) (by kernel_rfl) (by kernel_rfl) (fun _ _ _ h => h) (Or.inl ⟨by rfl, ?_⟩) (by assumption) ?_
    rotate_left
    · intro w hSw; (try dsimp only at hSw); go_simp; (try with_reducible rfl)
    (try simp only [Act.put, List.getElem_toArray, List.getElem_cons_succ, List.getElem_cons_zero, List.setIfInBounds_toArray, List.set_cons_zero, List.set_cons_succ])
    (try clear hK K)
    refine wpAnyH_take (i := 4) (v := undef) rfl (by kernel_rfl) (by kernel_rfl) (by kernel_rfl) (fun _ _ _ h => h) (Or.inr ⟨by rfl, rfl⟩) (by assumption) ?_
    (try simp only [Act.put, List.getElem_toArray, List.getElem_cons_succ, List.getElem_cons_zero, List.setIfInBounds_toArray, List.set_cons_zero, List.set_cons_succ])
    refine wpAnyH_take (i := 5) (v := undef) rfl (by kernel_rfl) (by kernel_rfl) (by kernel_rfl) (fun _ _ _ h => h) (Or.inr ⟨by rfl, rfl⟩) (by assumption) ?_
    (try simp only [Act.put, List.getElem_toArray, List.getElem_cons_succ, List.getElem_cons_zero, List.setIfInBounds_toArray, List.set_cons_zero, List.set_cons_succ])
    refine wpAnyH_take (i := 6) (v := undef) rfl (by kernel_rfl) (by kernel_rfl) (by kernel_rfl) (fun _ _ _ h => h) (Or.inr ⟨by rfl, rfl⟩) (by assumption) ?_
    (try simp only [Act.put, List.getElem_toArray, List.getElem_cons_succ, List.getElem_cons_zero, List.setIfInBounds_toArray, List.set_cons_zero, List.set_cons_succ])
    refine wpAnyH_take (i := 7) (v := undef) rfl (by kernel_rfl) (by kernel_rfl) (by kernel_rfl) (fun _ _ _ h => h) (Or.inr ⟨by rfl, rfl⟩) (by assumption) ?_
    (try simp only [Act.put, List.getElem_toArray, List.getElem_cons_succ, List.getElem_cons_zero, List.setIfInBounds_toArray, List.set_cons_zero, List.set_cons_succ])
    refine wpAnyH_take (i := 8) (v := undef) rfl (by kernel_rfl) (by kernel_rfl) (by kernel_rfl) (fun _ _ _ h => h) (Or.inr ⟨by rfl, rfl⟩) (by assumption) ?_
    (try simp only [Act.put, List.getElem_toArray, List.getElem_cons_succ, List.getElem_cons_zero, List.setIfInBounds_toArray, List.set_cons_zero, List.set_cons_succ])
    refine wpAnyH_take (i := 9) (v := undef) rfl (by kernel_rfl) (by kernel_rfl) (by kernel_rfl) (fun _ _ _ h => h) (Or.inr ⟨by rfl, rfl⟩) (by assumption) ?_
    (try simp only [Act.put, List.getElem_toArray, List.getElem_cons_succ, List.getElem_cons_zero, List.setIfInBounds_toArray, List.set_cons_zero, List.set_cons_succ])
    (try clear hK K)
    refine wpAnyH_take (i := 10) (v := ?_) rfl (by kernel_rfl) (by kernel_rfl) (by kernel_rfl) (fun _ _ _ h => h) (Or.inl ⟨by rfl, ?_⟩) (by assumption) ?_
    rotate_left
    · intro w hSw; (try dsimp only at hSw); go_simp; (try with_reducible rfl)
    (try simp only [Act.put, List.getElem_toArray, List.getElem_cons_succ, List.getElem_cons_zero, List.setIfInBounds_toArray, List.set_cons_zero, List.set_cons_succ])
    refine wpAnyH_take (i := 11) (v := ?_) rfl (by kernel_rfl) (by kernel_rfl) (by kernel_rfl) (fun _ _ _ h => h) (Or.inl ⟨by rfl, ?_⟩) (by assumption) ?_
    rotate_left
    · intro w hSw; (try dsimp only at hSw); go_simp; (try with_reducible rfl)
    (try simp only [Act.put, List.getElem_toArray, List.getElem_cons_succ, List.getElem_cons_zero, List.setIfInBounds_toArray, List.set_cons_zero, List.set_cons_succ])
    (try clear hK K)
    refine wpAnyH_take (i := 12) (v := undef) rfl (by kernel_rfl) (by kernel_rfl) (by kernel_rfl) (fun _ _ _ h => h) (Or.inr ⟨by rfl, rfl⟩) (by assumption) ?_
    (try simp only [Act.put, List.getElem_toArray, List.getElem_cons_succ, List.getElem_cons_zero, List.setIfInBounds_toArray, List.set_cons_zero, List.set_cons_succ])
    refine wpAnyH_take (i := 13) (v := undef) rfl (by kernel_rfl) (by kernel_rfl) (by kernel_rfl) (fun _ _ _ h => h) (Or.inr ⟨by rfl, rfl⟩) (by assumption) ?_
    (try simp only [Act.put, List.getElem_toArray, List.getElem_cons_succ, List.getElem_cons_zero, List.setIfInBounds_toArray, List.set_cons_zero, List.set_cons_succ])
    refine wpAnyH_take (i := 14) (v := undef) rfl (by kernel_rfl) (by kernel_rfl) (by kernel_rfl) (fun _ _ _ h => h) (Or.inr ⟨by rfl, rfl⟩) (by assumption) ?_
    (try simp only [Act.put, List.getElem_toArray, List.getElem_cons_succ, List.getElem_cons_zero, List.setIfInBounds_toArray, List.set_cons_zero, List.set_cons_succ])
    refine wpAnyH_take (i := 15) (v := undef) rfl (by kernel_rfl) (by kernel_rfl) (by kernel_rfl) (fun _ _ _ h => h) (Or.inr ⟨by rfl, rfl⟩) (by assumption) ?_
    (try simp only [Act.put, List.getElem_toArray, List.getElem_cons_succ, List.getElem_cons_zero, List.setIfInBounds_toArray, List.set_cons_zero, List.set_cons_succ])
    refine wpAnyH_take (i := 16) (v := undef) rfl (by kernel_rfl) (by kernel_rfl) (by kernel_rfl) (fun _ _ _ h => h) (Or.inr ⟨by rfl, rfl⟩) (by assumption) ?_
    (try simp only [Act.put, List.getElem_toArray, List.getElem_cons_succ, List.getElem_cons_zero, List.setIfInBounds_toArray, List.set_cons_zero, List.set_cons_succ])
    refine wpAnyH_take (i := 17) (v := undef) rfl (by kernel_rfl) (by kernel_rfl) (by kernel_rfl) (fun _ _ _ h => h) (Or.inr ⟨by rfl, rfl⟩) (by assumption) ?_
    (try simp only [Act.put, List.getElem_toArray, List.getElem_cons_succ, List.getElem_cons_zero, List.setIfInBounds_toArray, List.set_cons_zero, List.set_cons_succ])
    (try clear hK K)
    refine wpAnyH_take (i := 18) (v := ?_) rfl (by kernel_rfl) (by kernel_rfl) (by kernel_rfl) (fun _ _ _ h => h) (Or.inl ⟨by rfl, ?_⟩) (by assumption) ?_
    rotate_left
    · intro w hSw; (try dsimp only at hSw); go_simp; (try with_reducible rfl)
    (try simp only [Act.put, List.getElem_toArray, List.getElem_cons_succ, List.getElem_cons_zero, List.setIfInBounds_toArray, List.set_cons_zero, List.set_cons_succ])
    refine wpAnyH_take (i := 19) (v := ?_) rfl (by kernel_rfl) (by kernel_rfl) (by kernel_rfl) (fun _ _ _ h => h) (Or.inl ⟨by rfl, ?_⟩) (by assumption) ?_
    rotate_left
    · intro w hSw; (try dsimp only at hSw); go_simp; (try with_reducible rfl)
    (try simp only [Act.put, List.getElem_toArray, List.getElem_cons_succ, List.getElem_cons_zero, List.setIfInBounds_toArray, List.set_cons_zero, List.set_cons_succ])
    (try clear hK K)
    refine wpAnyH_done (by kernel_rfl) ?_ _
    clear X0
    go_wp2_with fail
    go_ret
    exact ⟨by rw [HA.out]; rfl, H1.out⟩
  refine wp_region_held_drew (S := fun w' => (w'.cell? ⟨w.heap.size, 0, none⟩ = some (.bool false) ∧ w'.cell? ⟨w.heap.size, 1, none⟩ = some (.bool s.hl) ∧ w'.cell? ⟨w.heap.size, 2, none⟩ = some (.bool s.ol) ∧ w'.cell? ⟨w.heap.size, 3, none⟩ = some (.bool s.lo.t) ∧ w'.cell? ⟨w.heap.size, 4, none⟩ = some (.int .i64 s.lo.n) ∧ w'.cell? ⟨w.heap.size, 5, none⟩ = some (.string s.lo.s) ∧ w'.cell? ⟨w.heap.size, 6, none⟩ = some (.bool s.hh) ∧ w'.cell? ⟨w.heap.size, 7, none⟩ = some (.bool s.oh) ∧ w'.cell? ⟨w.heap.size, 8, none⟩ = some (.bool s.hi.t) ∧ w'.cell? ⟨w.heap.size, 9, none⟩ = some (.int .i64 s.hi.n) ∧ w'.cell? ⟨w.heap.size, 10, none⟩ = some (.string s.hi.s)) ∧ w'.cell? ⟨w.heap.size + 1, 0, none⟩ = some (.bool x.t) ∧ w'.cell? ⟨w.heap.size + 1, 1, none⟩ = some (.int .i64 x.n) ∧ w'.cell? ⟨w.heap.size + 1, 2, none⟩ = some (.string x.s)) (by kernel_rfl) ?_ (fun hHeld => ?_)
  · exact ⟨⟨(HD.out _ X0).c0, (HD.out _ X0).c1, (HD.out _ X0).c2, (HD.out _ X0).c3, (HD.out _ X0).c4, (HD.out _ X0).c5, (HD.out _ X0).c6, (HD.out _ X0).c7, (HD.out _ X0).c8, (HD.out _ X0).c9, (HD.out _ X0).c10⟩, ⟨X0.pv.c0, X0.pv.c1, X0.pv.c2⟩⟩
  (try clear hK K)
  refine wpAnyH_take (i := 0) (v := ?_) rfl (by kernel_rfl) (by kernel_rfl) (by kernel_rfl) (fun _ _ _ h => h) (Or.inl ⟨by rfl, ?_⟩) (by assumption) ?_
  rotate_left
  · intro w hSw; (try dsimp only at hSw); go_simp; (try with_reducible rfl)
  (try simp only [Act.put, List.getElem_toArray, List.getElem_cons_zero, List.setIfInBounds_toArray, List.set_cons_zero, List.set_cons_succ])
  refine wpAnyH_take (i := 1) (v := ?_) rfl (by kernel_rfl) (by kernel_rfl) (by kernel_rfl) (fun _ _ _ h => h) (Or.inl ⟨by rfl, ?_⟩) (by assumption) ?_
  rotate_left
  · intro w hSw; (try dsimp only at hSw); go_simp; (try with_reducible rfl)
  (try simp only [Act.put, List.getElem_toArray, List.getElem_cons_succ, List.getElem_cons_zero, List.setIfInBounds_toArray, List.set_cons_zero, List.set_cons_succ])
  refine wpAnyH_take (i := 2) (v := ?_) rfl (by kernel_rfl) (by kernel_rfl) (by kernel_rfl) (fun _ _ _ h => h) (Or.inl ⟨by rfl, ?_⟩) (by assumption) ?_
  rotate_left
  · intro w hSw; (try dsimp only at hSw); go_simp; (try with_reducible rfl)
  (try simp only [Act.put, List.getElem_toArray, List.getElem_cons_succ, List.getElem_cons_zero, List.setIfInBounds_toArray, List.set_cons_zero, List.set_cons_succ])
  refine wpAnyH_take (i := 3) (v := ?_) rfl (by kernel_rfl) (by kernel_rfl) (by kernel_rfl) (fun _ _ _ h => h) (Or.inl ⟨by rfl, ?_⟩) (by assumption) ?_
  rotate_left
  · intro w hSw; (try dsimp only at hSw); go_simp; (try with_reducible rfl)
  (try simp only [Act.put, List.getElem_toArray, List.getElem_cons_succ, List.getElem_cons_zero, List.setIfInBounds_toArray, List.set_cons_zero, List.set_cons_succ])
  refine wpAnyH_take (i := 4) (v := ?_) rfl (by kernel_rfl) (by kernel_rfl) (by kernel_rfl) (fun _ _ _ h => h) (Or.inl ⟨by rfl, ?_⟩) (by assumption) ?_
  rotate_left
  · intro w hSw; (try dsimp only at hSw); go_simp; (try with_reducible rfl)
  (try simp only [Act.put, List.getElem_toArray, List.getElem_cons_succ, List.getElem_cons_zero, List.setIfInBounds_toArray, List.set_cons_zero, List.set_cons_succ])
  refine wpAnyH_take (i := 6) (v := ?_) rfl (by kernel_rfl) (by kernel_rfl) (by kernel_rfl) (fun _ _ _ h => h) (Or.inl ⟨by rfl, ?_⟩) (by assumption) ?_
  rotate_left
  · intro w hSw; (try dsimp only at hSw); go_simp; (try with_reducible rfl)
  (try simp only [Act.put, List.getElem_toArray, List.getElem_cons_succ, List.getElem_cons_zero, List.setIfInBounds_toArray, List.set_cons_zero, List.set_cons_succ])
  (try clear hK K)
  refine wpAnyH_ready (rs := [5]) (by kernel_rfl) (by simp) ?_
  refine AllReadyH.cons rfl (fun K hK => ?_) AllReadyH.nil
  go_simp
  (refine Calls.mono (HL.out _) ?_; rintro e w1 ⟨rfl, hb1⟩; have X1 := X0.below hb1)
  refine hK.out _ _ ?_ (fun hHeld => ?_)
  · exact ⟨⟨(HD.out _ X1).c0, (HD.out _ X1).c1, (HD.out _ X1).c2, (HD.out _ X1).c3, (HD.out _ X1).c4, (HD.out _ X1).c5, (HD.out _ X1).c6, (HD.out _ X1).c7, (HD.out _ X1).c8, (HD.out _ X1).c9, (HD.out _ X1).c10⟩, ⟨X1.pv.c0, X1.pv.c1, X1.pv.c2⟩⟩
  (try clear hK K)
  refine wpAnyH_ready (rs := [7]) (by kernel_rfl) (by simp) ?_
  refine AllReadyH.cons rfl (fun K hK => ?_) AllReadyH.nil
  go_simp
  (refine Calls.mono (HV.out _) ?_; rintro e w2 ⟨rfl, hb2⟩; have X2 := X1.below hb2)
  refine hK.out _ _ ?_ (fun hHeld => ?_)
  · exact ⟨⟨(HD.out _ X2).c0, (HD.out _ X2).c1, (HD.out _ X2).c2, (HD.out _ X2).c3, (HD.out _ X2).c4, (HD.out _ X2).c5, (HD.out _ X2).c6, (HD.out _ X2).c7, (HD.out _ X2).c8, (HD.out _ X2).c9, (HD.out _ X2).c10⟩, ⟨X2.pv.c0, X2.pv.c1, X2.pv.c2⟩⟩
  (try clear hK K)
  refine wpAnyH_ready (rs := [8]) (by kernel_rfl) (by simp) ?_
  refine AllReadyH.cons rfl (fun K hK => ?_) AllReadyH.nil
  go_simp
  (refine Calls.mono (HP.out _) ?_; rintro e w3 ⟨rfl, hb3⟩; have X3 := X2.below hb3)
  refine hK.out _ _ ?_ (fun hHeld => ?_)
  · exact ⟨⟨(HD.out _ X3).c0, (HD.out _ X3).c1, (HD.out _ X3).c2, (HD.out _ X3).c3, (HD.out _ X3).c4, (HD.out _ X3).c5, (HD.out _ X3).c6, (HD.out _ X3).c7, (HD.out _ X3).c8, (HD.out _ X3).c9, (HD.out _ X3).c10⟩, ⟨X3.pv.c0, X3.pv.c1, X3.pv.c2⟩⟩
  clear X0 X1 X2 hb1 hb2 hb3
  cases p1
  case true =>
    have H1 : Hid (Below w.heap.size w w3) := X3.be
    (try clear hK K)
    refine wpAnyH_take (i := 9) (v := ?_) rfl (by kernel_rfl) (by kernel_rfl) (by kernel_rfl) (fun _ _ _ h => h) (Or.inl ⟨by rfl, ?_⟩) (by assumption) ?_
    rotate_left
    · intro w hSw; (try dsimp only at hSw); go_simp; (try with_reducible rfl)
    (try simp only [Act.put, List.getElem_toArray, List.getElem_cons_succ, List.getElem_cons_zero, List.setIfInBounds_toArray, List.set_cons_zero, List.set_cons_succ])
    refine wpAnyH_take (i := 10) (v := ?_) rfl (by kernel_rfl) (by kernel_rfl) (by kernel_rfl) (fun _ _ _ h => h) (Or.inl ⟨by rfl, ?_⟩) (by assumption) ?_
    rotate_left
    · intro w hSw; (try dsimp only at hSw); go_simp; (try with_reducible rfl)
    (try simp only [Act.put, List.getElem_toArray, List.getElem_cons_succ, List.getElem_cons_zero, List.setIfInBounds_toArray, List.set_cons_zero, List.set_cons_succ])
    refine wpAnyH_take (i := 11) (v := ?_) rfl (by kernel_rfl) (by kernel_rfl) (by kernel_rfl) (fun _ _ _ h => h) (Or.inl ⟨by rfl, ?_⟩) (by assumption) ?_
    rotate_left
    · intro w hSw; (try dsimp only at hSw); go_simp; (try with_reducible rfl)
    (try simp only [Act.put, List.getElem_toArray, List.getElem_cons_succ, List.getElem_cons_zero, List.setIfInBounds_toArray, List.set_cons_zero, List.set_cons_succ])
    (try clear hK K)
    refine wpAnyH_take (i := 12) (v := undef) rfl (by kernel_rfl) (by kernel_rfl) (by kernel_rfl) (fun _ _ _ h => h) (Or.inr ⟨by rfl, rfl⟩) (by assumption) ?_
    (try simp only [Act.put, List.getElem_toArray, List.getElem_cons_succ, List.getElem_cons_zero, List.setIfInBounds_toArray, List.set_cons_zero, List.set_cons_succ])
    refine wpAnyH_take (i := 13) (v := undef) rfl (by kernel_rfl) (by kernel_rfl) (by kernel_rfl) (fun _ _ _ h => h) (Or.inr ⟨by rfl, rfl⟩) (by assumption) ?_
    (try simp only [Act.put, List.getElem_toArray, List.getElem_cons_succ, List.getElem_cons_zero, List.setIfInBounds_toArray, List.set_cons_zero, List.set_cons_succ])
    refine wpAnyH_take (i := 14) (v := undef) rfl (by kernel_rfl) (by kernel_rfl) (by kernel_rfl) (fun _ _ _ h => h) (Or.inr ⟨by rfl, rfl⟩) (by assumption) ?_
    (try simp only [Act.put, List.getElem_toArray, List.getElem_cons_succ, List.getElem_cons_zero, List.setIfInBounds_toArray, List.set_cons_zero, List.set_cons_succ])
    refine wpAnyH_take (i := 15) (v := undef) rfl (by kernel_rfl) (by kernel_rfl) (by kernel_rfl) (fun _ _ _ h => h) (Or.inr ⟨by rfl, rfl⟩) (by assumption) ?_
    (try simp only [Act.put, List.getElem_toArray, List.getElem_cons_succ, List.getElem_cons_zero, List.setIfInBounds_toArray, List.set_cons_zero, List.set_cons_succ])
    refine wpAnyH_take (i := 16) (v := undef) rfl (by kernel_rfl) (by kernel_rfl) (by kernel_rfl) (fun _ _ _ h => h) (Or.inr ⟨by rfl, rfl⟩) (by assumption) ?_
    (try simp only [Act.put, List.getElem_toArray, List.getElem_cons_succ, List.getElem_cons_zero, List.setIfInBounds_toArray, List.set_cons_zero, List.set_cons_succ])
    refine wpAnyH_take (i := 17) (v := undef) rfl (by kernel_rfl) (by kernel_rfl) (by kernel_rfl) (fun _ _ _ h => h) (Or.inr ⟨by rfl, rfl⟩) (by assumption) ?_
    (try simp only [Act.put, List.getElem_toArray, List.getElem_cons_succ, List.getElem_cons_zero, List.setIfInBounds_toArray, List.set_cons_zero, List.set_cons_succ])
    (try clear hK K)
    refine wpAnyH_take (i := 18) (v := ?_) rfl (by kernel_rfl) (by kernel_rfl) (by kernel_rfl) (fun _ _ _ h => h) (Or.inl ⟨by rfl, ?_⟩) (by assumption) ?_
    rotate_left
    · intro w hSw; (try dsimp only at hSw); go_simp; (try with_reducible rfl)
    (try simp only [Act.put, List.getElem_toArray, List.getElem_cons_succ, List.getElem_cons_zero, List.setIfInBounds_toArray, List.set_cons_zero, List.set_cons_succ])
    refine wpAnyH_take (i := 19) (v := ?_) rfl (by kernel_rfl) (by kernel_rfl) (by kernel_rfl) (fun _ _ _ h => h) (Or.inl ⟨by rfl, ?_⟩) (by assumption) ?_
    rotate_left
    · intro w hSw; (try dsimp only at hSw); go_simp; (try with_reducible rfl)
    (try simp only [Act.put, List.getElem_toArray, List.getElem_cons_succ, List.getElem_cons_zero, List.setIfInBounds_toArray, List.set_cons_zero, List.set_cons_succ])
    (try clear hK K)
    refine wpAnyH_done (by kernel_rfl) ?_ _
    clear X3
    go_wp2_with fail
    go_ret
    exact ⟨by rw [HA.out]; rfl, H1.out⟩
  (try clear hK K)
  refine wpAnyH_take (i := 9) (v := ?_) rfl (by kernel_rfl) (by kernel_rfl) (by kernel_rfl) (fun _ _ _ h => h) (Or.inl ⟨by rfl, ?_⟩) (by assumption) ?_
  rotate_left
  · intro w hSw; (try dsimp only at hSw); go_simp; (try with_reducible rfl)
  (try simp only [Act.put, List.getElem_toArray, List.getElem_cons_succ, List.getElem_cons_zero, List.setIfInBounds_toArray, List.set_cons_zero, List.set_cons_succ])
  refine wpAnyH_take (i := 10) (v := ?_) rfl (by kernel_rfl) (by kernel_rfl) (by kernel_rfl) (fun _ _ _ h => h) (Or.inl ⟨by rfl, ?_⟩) (by assumption) ?_
  rotate_left
  · intro w hSw; (try dsimp only at hSw); go_simp; (try with_reducible rfl)
  (try simp only [Act.put, List.getElem_toArray, List.getElem_cons_succ, List.getElem_cons_zero, List.setIfInBounds_toArray, List.set_cons_zero, List.set_cons_succ])
  refine wpAnyH_take (i := 11) (v := ?_) rfl (by kernel_rfl) (by kernel_rfl) (by kernel_rfl) (fun _ _ _ h => h) (Or.inl ⟨by rfl, ?_⟩) (by assumption) ?_
  rotate_left
  · intro w hSw; (try dsimp only at hSw); go_simp; (try with_reducible rfl)
  (try simp only [Act.put, List.getElem_toArray, List.getElem_cons_succ, List.getElem_cons_zero, List.setIfInBounds_toArray, List.set_cons_zero, List.set_cons_succ])
  refine wpAnyH_take (i := 12) (v := ?_) rfl (by kernel_rfl) (by kernel_rfl) (by kernel_rfl) (fun _ _ _ h => h) (Or.inl ⟨by rfl, ?_⟩) (by assumption) ?_
  rotate_left
  · intro w hSw; (try dsimp only at hSw); go_simp; (try with_reducible rfl)
  (try simp only [Act.put, List.getElem_toArray, List.getElem_cons_succ, List.getElem_cons_zero, List.setIfInBounds_toArray, List.set_cons_zero, List.set_cons_succ])
  refine wpAnyH_take (i := 14) (v := ?_) rfl (by kernel_rfl) (by kernel_rfl) (by kernel_rfl) (fun _ _ _ h => h) (Or.inl ⟨by rfl, ?_⟩) (by assumption) ?_
  rotate_left
  · intro w hSw; (try dsimp only at hSw); go_simp; (try with_reducible rfl)
  (try simp only [Act.put, List.getElem_toArray, List.getElem_cons_succ, List.getElem_cons_zero, List.setIfInBounds_toArray, List.set_cons_zero, List.set_cons_succ])
  (try clear hK K)
  refine wpAnyH_ready (rs := [13]) (by kernel_rfl) (by simp) ?_
  refine AllReadyH.cons rfl (fun K hK => ?_) AllReadyH.nil
  go_simp
  (refine Calls.mono (HV.out _) ?_; rintro e w4 ⟨rfl, hb4⟩; have X4 := X3.below hb4)
  refine hK.out _ _ ?_ (fun hHeld => ?_)
  · exact ⟨⟨(HD.out _ X4).c0, (HD.out _ X4).c1, (HD.out _ X4).c2, (HD.out _ X4).c3, (HD.out _ X4).c4, (HD.out _ X4).c5, (HD.out _ X4).c6, (HD.out _ X4).c7, (HD.out _ X4).c8, (HD.out _ X4).c9, (HD.out _ X4).c10⟩, ⟨X4.pv.c0, X4.pv.c1, X4.pv.c2⟩⟩
  (try clear hK K)
  refine wpAnyH_ready (rs := [15]) (by kernel_rfl) (by simp) ?_
  refine AllReadyH.cons rfl (fun K hK => ?_) AllReadyH.nil
  go_simp
  (refine Calls.mono (HU.out _) ?_; rintro e w5 ⟨rfl, hb5⟩; have X5 := X4.below hb5)
  refine hK.out _ _ ?_ (fun hHeld => ?_)
  · exact ⟨⟨(HD.out _ X5).c0, (HD.out _ X5).c1, (HD.out _ X5).c2, (HD.out _ X5).c3, (HD.out _ X5).c4, (HD.out _ X5).c5, (HD.out _ X5).c6, (HD.out _ X5).c7, (HD.out _ X5).c8, (HD.out _ X5).c9, (HD.out _ X5).c10⟩, ⟨X5.pv.c0, X5.pv.c1, X5.pv.c2⟩⟩
  (try clear hK K)
  refine wpAnyH_ready (rs := [16]) (by kernel_rfl) (by simp) ?_
  refine AllReadyH.cons rfl (fun K hK => ?_) AllReadyH.nil
  go_simp
  (refine Calls.mono (HQ.out _) ?_; rintro e w6 ⟨rfl, hb6⟩; have X6 := X5.below hb6)
  refine hK.out _ _ ?_ (fun hHeld => ?_)
  · exact ⟨⟨(HD.out _ X6).c0, (HD.out _ X6).c1, (HD.out _ X6).c2, (HD.out _ X6).c3, (HD.out _ X6).c4, (HD.out _ X6).c5, (HD.out _ X6).c6, (HD.out _ X6).c7, (HD.out _ X6).c8, (HD.out _ X6).c9, (HD.out _ X6).c10⟩, ⟨X6.pv.c0, X6.pv.c1, X6.pv.c2⟩⟩
  have H1 : Hid (Below w.heap.size w w6) := X6.be
  clear X3 X4 X5 X6 hb4 hb5 hb6
  (try clear hK K)
  refine wpAnyH_take (i := 17) (v := ?_) rfl (by kernel_rfl) (by kernel_rfl) (by kernel_rfl) (fun _ _ _ h => h) (Or.inl ⟨by rfl, ?_⟩) (by assumption) ?_
  rotate_left
  · intro w hSw; (try dsimp only at hSw); go_simp; (try with_reducible rfl)
  (try simp only [Act.put, List.getElem_toArray, List.getElem_cons_succ, List.getElem_cons_zero, List.setIfInBounds_toArray, List.set_cons_zero, List.set_cons_succ])
  refine wpAnyH_take (i := 18) (v := ?_) rfl (by kernel_rfl) (by kernel_rfl) (by kernel_rfl) (fun _ _ _ h => h) (Or.inl ⟨by rfl, ?_⟩) (by assumption) ?_
  rotate_left
  · intro w hSw; (try dsimp only at hSw); go_simp; (try with_reducible rfl)
  (try simp only [Act.put, List.getElem_toArray, List.getElem_cons_succ, List.getElem_cons_zero, List.setIfInBounds_toArray, List.set_cons_zero, List.set_cons_succ])
  refine wpAnyH_take (i := 19) (v := ?_) rfl (by kernel_rfl) (by kernel_rfl) (by kernel_rfl) (fun _ _ _ h => h) (Or.inl ⟨by rfl, ?_⟩) (by assumption) ?_
  rotate_left
  · intro w hSw; (try dsimp only at hSw); go_simp; (try with_reducible rfl)
  (try simp only [Act.put, List.getElem_toArray, List.getElem_cons_succ, List.getElem_cons_zero, List.setIfInBounds_toArray, List.set_cons_zero, List.set_cons_succ])
  (try clear hK K)
  refine wpAnyH_done (by kernel_rfl) ?_ _
  go_wp2_with fail
  go_ret
  exact ⟨by rw [HA.out]; simp, H1.out⟩
end Go.Proofs.YtfkhfplibhnceaaDoor.Val
