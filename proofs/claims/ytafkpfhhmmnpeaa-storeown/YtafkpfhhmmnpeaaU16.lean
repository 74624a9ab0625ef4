/- What chosen, inner, outer of package normal answer. -/
import Derived.Test.YtafkpfhhmmnpeaaU3
import Derived.Deep.CutRange
namespace Go.Proofs.Ytafkpfhhmmnpeaa.Val
open Go.RowKit

/-- Two ends' boxes, and the answer's. -/
structure E3 (w0 : World) (a b : En) (w : World) : Prop where
  pa : EBox w w0.heap.size a
  pb : EBox w (w0.heap.size + 1) b
  pz : EBox w (w0.heap.size + 1 + 1) En.zero
  fa : Fr w w0.heap.size
  fz : Fr w (w0.heap.size + 1 + 1)
  be : Below w0.heap.size w0 w
theorem E3.below {w0 w w' : World} {a b : En} (h : E3 w0 a b w) (hb : Below w.heap.size w w') : E3 w0 a b w' := ⟨h.pa.below hb, h.pb.below hb, h.pz.below hb, h.fa.below hb, h.fz.below hb, on h.be hb⟩
theorem E3.new (w : World) (a b : En) (T1 T2 T3 : TypeId) : E3 w a b (((w.alloc (eobj a T1)).alloc (eobj b T2)).alloc (eobj En.zero T3)) := by
  refine ⟨((EBox.new w a T1).alloc _).alloc _, ?_, ?_, ((Fr.new w _ T1).alloc _).alloc _, ?_, back2 (alloc1 _ _)⟩
  · have := (EBox.new (w.alloc (eobj a T1)) b T2).alloc (eobj En.zero T3); simpa using this
  · have := EBox.new ((w.alloc (eobj a T1)).alloc (eobj b T2)) En.zero T3; simpa using this
  · have := Fr.new ((w.alloc (eobj a T1)).alloc (eobj b T2)) #[.bool En.zero.has, .bool En.zero.op, .bool En.zero.x.t, .int .i64 En.zero.x.n, .string En.zero.x.s] T3; simpa using this
set_option maxHeartbeats 2000000 in
theorem chosen_any (a b : En) (side : Int) (o : Bool) (w : World) (hs : side = 1 ∨ side = -1) : Calls Try.prog 92 #[a.val, b.val, .int .i64 side, .bool o] w fun e w' => e = .returned (chosenE a b side o).val ∧ Below w.heap.size w w' := by
  have HA : Hid (chosenE a b side o = if cmpX a.x b.x = side then a else if cmpX a.x b.x = -side then b else ⟨a.has, o, a.x⟩) := rfl
  have HC : Hid (∀ w1, Calls Try.prog 71 #[V a.x.t a.x.n a.x.s, V b.x.t b.x.n b.x.s] w1 fun e w' => e = .returned (.int .i64 (cmpX a.x b.x)) ∧ Below w1.heap.size w1 w') := fun w1 => cmpX_any a.x b.x w1
  generalize cmpX a.x b.x = c at *
  generalize chosenE a b side o = r at *
  have HN : Hid _ := E3.new w a b 134 134 134
  unfold En.val at *
  go_enter Try.func92, Try.ntmps92
  go_wp2_with fail
  refine Calls.mono (HC.out _) ?_
  rintro e w1 ⟨rfl, hb⟩
  have HX : Hid _ := HN.out.below hb
  have HB : Hid (Below w.heap.size w w1) := HX.out.be
  obtain ⟨⟨a0, a1, a2, a3, a4⟩, ⟨b0, b1, b2, b3, b4⟩, ⟨z0, z1, z2, z3, z4⟩, ⟨la, fa⟩, ⟨lz, fz⟩, _⟩ := HX.out
  clear hb HC HN HX
  by_cases h1 : c = side
  · subst h1
    have e1 : (c == c) = true := by simp
    clear hs
    go_wp2_with fail
    refine bodyPost_ret (v := a.val) (by simp [results, Try.results92, go_sem, En.val, z0, z1, z2, z3, z4]) rfl ⟨by rw [HA.out]; simp [En.val], ?_⟩
    repeat (refine set_below ?_ (by omega) _)
    exact HB.out
  have e1 : (c == side) = false := by simpa using h1
  by_cases h2 : c = -side
  · have e2 : (c == -side) = true := by simpa using h2
    have HH : Hid (c ≠ side ∧ c = -side) := ⟨h1, h2⟩
    clear h1 h2
    rcases hs with rfl | rfl
    · go_wp2_with fail
      refine bodyPost_ret (v := b.val) (by simp [results, Try.results92, go_sem, En.val, z0, z1, z2, z3, z4]) rfl ⟨by rw [HA.out, if_neg HH.out.1, if_pos HH.out.2]; rfl, ?_⟩
      repeat (refine set_below ?_ (by omega) _)
      exact HB.out
    · go_wp2_with fail
      refine bodyPost_ret (v := b.val) (by simp [results, Try.results92, go_sem, En.val, z0, z1, z2, z3, z4]) rfl ⟨by rw [HA.out, if_neg HH.out.1, if_pos HH.out.2]; rfl, ?_⟩
      repeat (refine set_below ?_ (by omega) _)
      exact HB.out
  · have e2 : (c == -side) = false := by simpa using h2
    have HH : Hid (c ≠ side ∧ c ≠ -side) := ⟨h1, h2⟩
    clear h1 h2
    rcases hs with rfl | rfl
    · go_wp2_with fail
      refine bodyPost_ret (v := (En.mk a.has o a.x).val) (by simp [results, Try.results92, go_sem, En.val, z0, z1, z2, z3, z4]) rfl ⟨by rw [HA.out, if_neg HH.out.1, if_neg HH.out.2]; rfl, ?_⟩
      repeat (refine set_below ?_ (by omega) _)
      exact HB.out
    · go_wp2_with fail
      refine bodyPost_ret (v := (En.mk a.has o a.x).val) (by simp [results, Try.results92, go_sem, En.val, z0, z1, z2, z3, z4]) rfl ⟨by rw [HA.out, if_neg HH.out.1, if_neg HH.out.2]; rfl, ?_⟩
      repeat (refine set_below ?_ (by omega) _)
      exact HB.out
set_option maxHeartbeats 2000000 in
theorem inner_any (a b : En) (side : Int) (w : World) (hs : side = 1 ∨ side = -1) : Calls Try.prog 87 #[a.val, b.val, .int .i64 side] w fun e w' => e = .returned (innerE a b side).val ∧ Below w.heap.size w w' := by
  have HA : Hid (innerE a b side = if isZ a then b else if isZ b then a else chosenE a b side (a.op || b.op)) := rfl
  have q1 : ∀ w1, (binOp .eql 134 (EV a.has a.op a.x.t a.x.n a.x.s) (EV false false false 0 ⟨#[]⟩)).run Try.prog w1 = .ok (.bool (isZ a)) w1 := fun w1 => eql_E a En.zero w1
  have q2 : ∀ w1, (binOp .eql 134 (EV b.has b.op b.x.t b.x.n b.x.s) (EV false false false 0 ⟨#[]⟩)).run Try.prog w1 = .ok (.bool (isZ b)) w1 := fun w1 => eql_E b En.zero w1
  obtain ⟨oa, hoa⟩ : ∃ o, a.op = o := ⟨_, rfl⟩
  have HC : Hid (∀ w1, Calls Try.prog 92 #[a.val, b.val, .int .i64 side, .bool (a.op || b.op)] w1 fun e w' => e = .returned (chosenE a b side (a.op || b.op)).val ∧ Below w1.heap.size w1 w') := fun w1 => chosen_any a b side _ w1 hs
  generalize isZ a = za at *
  generalize isZ b = zb at *
  generalize innerE a b side = r at *
  have HN : Hid _ := E3.new w a b 134 134 134
  clear hs
  cases za
  case true =>
    clear HC HN hoa
    unfold En.val at *
    go_enter Try.func87, Try.ntmps87
    go_wp2_with fail
    refine bodyPost_ret (v := b.val) (by simp [results, Try.results87, go_sem, En.val]) rfl ⟨by rw [HA.out]; rfl, ?_⟩
    exact back2 (alloc1 _ _)
  cases zb
  case true =>
    clear HC HN hoa
    unfold En.val at *
    go_enter Try.func87, Try.ntmps87
    go_wp2_with fail
    refine bodyPost_ret (v := a.val) (by simp [results, Try.results87, go_sem, En.val]) rfl ⟨by rw [HA.out]; rfl, ?_⟩
    exact back2 (alloc1 _ _)
  generalize hr : chosenE a b side (a.op || b.op) = r' at *
  have HR : Hid (r = r') := HA.out
  clear HA hr
  have HO : Hid (a.op = oa) := hoa
  rw [hoa] at HC
  unfold En.val at *
  rw [hoa] at q1 HC ⊢
  have HN' : Hid (∀ w1, Below (((w.alloc (.cells #[.bool a.has, .bool oa, .bool a.x.t, .int .i64 a.x.n, .string a.x.s] 134)).alloc (eobj b 134)).alloc (eobj En.zero 134)).heap.size (((w.alloc (.cells #[.bool a.has, .bool oa, .bool a.x.t, .int .i64 a.x.n, .string a.x.s] 134)).alloc (eobj b 134)).alloc (eobj En.zero 134)) w1 → E3 w a b w1) := fun w1 h => by rw [← hoa] at h; exact HN.out.below h
  clear hoa HN
  cases oa
  all_goals
    go_enter Try.func87, Try.ntmps87
    go_wp2_with fail
    refine Calls.mono (HC.out _) ?_
    rintro e w1 ⟨rfl, hb⟩
    have HX : Hid _ := HN'.out _ hb
    have HB : Hid (Below w.heap.size w w1) := HX.out.be
    obtain ⟨_, _, ⟨z0, z1, z2, z3, z4⟩, _, ⟨lz, fz⟩, _⟩ := HX.out
    clear hb HC HX HN'
    go_wp2_with fail
    refine bodyPost_ret (v := r'.val) (by simp [results, Try.results87, go_sem, En.val, z0, z1, z2, z3, z4]) rfl ⟨by rw [HR.out]; rfl, ?_⟩
    repeat (refine set_below ?_ (by omega) _)
    exact HB.out
end Go.Proofs.Ytafkpfhhmmnpeaa.Val
/- What clean, Within, Meet, Hull of package normal answer. -/
namespace Go.Proofs.Ytafkpfhhmmnpeaa.Val
open Go.RowKit

/-- A span's box, and the answer's. -/
structure S2 (w0 : World) (s : Sp) (w : World) : Prop where
  pa : SBox w w0.heap.size s
  pz : SBox w (w0.heap.size + 1) Sp.all
  fz : Fr w (w0.heap.size + 1)
  be : Below w0.heap.size w0 w
theorem S2.below {w0 w w' : World} {s : Sp} (h : S2 w0 s w) (hb : Below w.heap.size w w') : S2 w0 s w' := ⟨h.pa.below hb, h.pz.below hb, h.fz.below hb, on h.be hb⟩
theorem S2.new (w : World) (s : Sp) (T1 T2 : TypeId) : S2 w s ((w.alloc (sobj s T1)).alloc (sobj Sp.all T2)) := by
  refine ⟨(SBox.new w s T1).alloc _, ?_, ?_, back1 (alloc1 _ _)⟩
  · have := SBox.new (w.alloc (sobj s T1)) Sp.all T2; simpa using this
  · have := Fr.new (w.alloc (sobj s T1)) #[.bool Sp.all.no, .bool Sp.all.hl, .bool Sp.all.ol, .bool Sp.all.lo.t, .int .i64 Sp.all.lo.n, .string Sp.all.lo.s, .bool Sp.all.hh, .bool Sp.all.oh, .bool Sp.all.hi.t, .int .i64 Sp.all.hi.n, .string Sp.all.hi.s] T2; simpa using this
theorem cell_far {w : World} {b o c j : Nat} {u x : Value} (h : w.cell? ⟨b, o, none⟩ = some x) (hne : c ≠ b) : (w.setCell ⟨c, j, none⟩ u).cell? ⟨b, o, none⟩ = some x := by rw [World.cell?_setCell_far _ _ _ _ hne]; exact h
theorem SBox.far {w : World} {b c j : Nat} {s : Sp} {u : Value} (h : SBox w b s) (hne : c ≠ b) : SBox (w.setCell ⟨c, j, none⟩ u) b s :=
  ⟨cell_far h.c0 hne, cell_far h.c1 hne, cell_far h.c2 hne, cell_far h.c3 hne, cell_far h.c4 hne, cell_far h.c5 hne, cell_far h.c6 hne, cell_far h.c7 hne, cell_far h.c8 hne, cell_far h.c9 hne, cell_far h.c10 hne⟩
theorem SBox.conj {w' : World} {b : Nat} {s : Sp} (h : SBox w' b s) : w'.cell? ⟨b, 0, none⟩ = some (.bool s.no) ∧ w'.cell? ⟨b, 1, none⟩ = some (.bool s.hl) ∧ w'.cell? ⟨b, 2, none⟩ = some (.bool s.ol) ∧ w'.cell? ⟨b, 3, none⟩ = some (.bool s.lo.t) ∧ w'.cell? ⟨b, 4, none⟩ = some (.int .i64 s.lo.n) ∧ w'.cell? ⟨b, 5, none⟩ = some (.string s.lo.s) ∧ w'.cell? ⟨b, 6, none⟩ = some (.bool s.hh) ∧ w'.cell? ⟨b, 7, none⟩ = some (.bool s.oh) ∧ w'.cell? ⟨b, 8, none⟩ = some (.bool s.hi.t) ∧ w'.cell? ⟨b, 9, none⟩ = some (.int .i64 s.hi.n) ∧ w'.cell? ⟨b, 10, none⟩ = some (.string s.hi.s) := ⟨h.c0, h.c1, h.c2, h.c3, h.c4, h.c5, h.c6, h.c7, h.c8, h.c9, h.c10⟩
set_option maxHeartbeats 2000000 in
theorem clean_any (s : Sp) (w : World) : Calls Try.prog 85 #[s.val] w fun e w' => e = .returned (cleanS s).val ∧ Below w.heap.size w w' := by
  have HA : Hid (cleanS s = if s.no then Sp.none else btw (lowE s) (uppE s)) := rfl
  have HL : Hid (∀ w1, Calls Try.prog 88 #[s.val] w1 fun e w' => e = .returned (lowE s).val ∧ Below w1.heap.size w1 w') := fun w1 => lower_any s w1
  have HU : Hid (∀ w1, Calls Try.prog 89 #[s.val] w1 fun e w' => e = .returned (uppE s).val ∧ Below w1.heap.size w1 w') := fun w1 => upper_any s w1
  have HW : Hid (∀ w1, Calls Try.prog 86 #[(lowE s).val, (uppE s).val] w1 fun e w' => e = .returned (btw (lowE s) (uppE s)).val ∧ Below w1.heap.size w1 w') := fun w1 => between_any _ _ w1
  generalize btw (lowE s) (uppE s) = r1 at *
  generalize lowE s = lo at *
  generalize uppE s = up at *
  generalize cleanS s = r at *
  obtain ⟨no, hno⟩ : ∃ o, s.no = o := ⟨_, rfl⟩
  rw [hno] at HA
  have HN : Hid _ := S2.new w s 36 36
  unfold Sp.val En.val at *
  rw [hno] at HL HU ⊢
  cases no
  case true =>
    clear HL HU HW HN hno
    go_enter Try.func85, Try.ntmps85
    go_wp2_with fail
    refine bodyPost_ret (v := Sp.none.val) (by simp [results, Try.results85, go_sem, Sp.val, Sp.none, Val.zero]) rfl ⟨by rw [HA.out]; rfl, ?_⟩
    exact back1 (alloc1 _ _)
  have HR : Hid (r = r1) := HA.out
  have HNO : Hid (s.no = false) := hno
  clear HA
  go_enter Try.func85, Try.ntmps85
  go_wp2_with fail
  have X0 : S2 w s _ := HN.out.below (Below.refl _ _).drew
  rw [sobj, hno] at X0
  clear hno HN
  have D : ∀ w1, S2 w s w1 → SBox w1 w.heap.size ⟨false, s.hl, s.ol, s.lo, s.hh, s.oh, s.hi⟩ := fun w1 h => by have := h.pa; rw [show s = ⟨false, s.hl, s.ol, s.lo, s.hh, s.oh, s.hi⟩ from by rw [← HNO.out]] at this; exact this
  have HD : Hid _ := D
  clear D
  refine wp_region_held_drew (S := fun w' => w'.cell? ⟨w.heap.size, 0, none⟩ = some (.bool false) ∧ w'.cell? ⟨w.heap.size, 1, none⟩ = some (.bool s.hl) ∧ w'.cell? ⟨w.heap.size, 2, none⟩ = some (.bool s.ol) ∧ w'.cell? ⟨w.heap.size, 3, none⟩ = some (.bool s.lo.t) ∧ w'.cell? ⟨w.heap.size, 4, none⟩ = some (.int .i64 s.lo.n) ∧ w'.cell? ⟨w.heap.size, 5, none⟩ = some (.string s.lo.s) ∧ w'.cell? ⟨w.heap.size, 6, none⟩ = some (.bool s.hh) ∧ w'.cell? ⟨w.heap.size, 7, none⟩ = some (.bool s.oh) ∧ w'.cell? ⟨w.heap.size, 8, none⟩ = some (.bool s.hi.t) ∧ w'.cell? ⟨w.heap.size, 9, none⟩ = some (.int .i64 s.hi.n) ∧ w'.cell? ⟨w.heap.size, 10, none⟩ = some (.string s.hi.s)) (by kernel_rfl) ?_ (fun hHeld => ?_)
  · exact ⟨(HD.out _ X0).c0, (HD.out _ X0).c1, (HD.out _ X0).c2, (HD.out _ X0).c3, (HD.out _ X0).c4, (HD.out _ X0).c5, (HD.out _ X0).c6, (HD.out _ X0).c7, (HD.out _ X0).c8, (HD.out _ X0).c9, (HD.out _ X0).c10⟩
  (try clear hK K)
  refine wpAnyH_take (i := 0) (v := ?_) rfl (by kernel_rfl) (by kernel_rfl) (by kernel_rfl) (fun _ _ _ h => h) (Or.inl ⟨by rfl, ?_⟩) (by assumption) ?_
  rotate_left
  · intro w hSw; (try dsimp only at hSw); go_simp; (try with_reducible rfl)
  (try simp only [Act.put, List.getElem_toArray, List.getElem_cons_zero, List.setIfInBounds_toArray, List.set_cons_zero, List.set_cons_succ])
  refine wpAnyH_take (i := 2) (v := ?_) rfl (by kernel_rfl) (by kernel_rfl) (by kernel_rfl) (fun _ _ _ h => h) (Or.inl ⟨by rfl, ?_⟩) (by assumption) ?_
  rotate_left
  · intro w hSw; (try dsimp only at hSw); go_simp; (try with_reducible rfl)
  (try simp only [Act.put, List.getElem_toArray, List.getElem_cons_succ, List.getElem_cons_zero, List.setIfInBounds_toArray, List.set_cons_zero, List.set_cons_succ])
  (try clear hK K)
  refine wpAnyH_ready (rs := [1]) (by kernel_rfl) (by simp) ?_
  refine AllReadyH.cons rfl (fun K hK => ?_) AllReadyH.nil
  go_simp
  (refine Calls.mono (HL.out _) ?_; rintro e w1 ⟨rfl, hb1⟩; have X1 := X0.below hb1)
  refine hK.out _ _ ?_ (fun hHeld => ?_)
  · exact ⟨(HD.out _ X1).c0, (HD.out _ X1).c1, (HD.out _ X1).c2, (HD.out _ X1).c3, (HD.out _ X1).c4, (HD.out _ X1).c5, (HD.out _ X1).c6, (HD.out _ X1).c7, (HD.out _ X1).c8, (HD.out _ X1).c9, (HD.out _ X1).c10⟩
  (try clear hK K)
  refine wpAnyH_ready (rs := [3]) (by kernel_rfl) (by simp) ?_
  refine AllReadyH.cons rfl (fun K hK => ?_) AllReadyH.nil
  go_simp
  (refine Calls.mono (HU.out _) ?_; rintro e w2 ⟨rfl, hb2⟩; have X2 := X1.below hb2)
  refine hK.out _ _ ?_ (fun hHeld => ?_)
  · exact ⟨(HD.out _ X2).c0, (HD.out _ X2).c1, (HD.out _ X2).c2, (HD.out _ X2).c3, (HD.out _ X2).c4, (HD.out _ X2).c5, (HD.out _ X2).c6, (HD.out _ X2).c7, (HD.out _ X2).c8, (HD.out _ X2).c9, (HD.out _ X2).c10⟩
  (try clear hK K)
  refine wpAnyH_ready (rs := [4]) (by kernel_rfl) (by simp) ?_
  refine AllReadyH.cons rfl (fun K hK => ?_) AllReadyH.nil
  go_simp
  (refine Calls.mono (HW.out _) ?_; rintro e w3 ⟨rfl, hb3⟩; have X3 := X2.below hb3)
  refine hK.out _ _ ?_ (fun hHeld => ?_)
  · exact ⟨(HD.out _ X3).c0, (HD.out _ X3).c1, (HD.out _ X3).c2, (HD.out _ X3).c3, (HD.out _ X3).c4, (HD.out _ X3).c5, (HD.out _ X3).c6, (HD.out _ X3).c7, (HD.out _ X3).c8, (HD.out _ X3).c9, (HD.out _ X3).c10⟩
  obtain ⟨z0, z1, z2, z3, z4, z5, z6, z7, z8, z9, z10⟩ := X3.pz
  obtain ⟨lz, fz⟩ := X3.fz
  have HX : Hid (S2 w s w3) := X3
  clear X0 X1 X2 X3 hb1 hb2 hb3 HL HU HW
  (try clear hK K)
  refine wpAnyH_ready (rs := [5]) (by kernel_rfl) (by simp) ?_
  refine AllReadyH.cons rfl (fun K hK => ?_) AllReadyH.nil
  go_simp
  refine hK.out _ _ ?_ (fun hHeld => ?_)
  · refine SBox.conj (s := ⟨false, s.hl, s.ol, s.lo, s.hh, s.oh, s.hi⟩) ?_
    repeat (refine SBox.far ?_ (by omega))
    exact HD.out _ HX.out
  (try clear hK K)
  refine wpAnyH_done (by kernel_rfl) ?_ _
  go_wp2_with fail
  refine bodyPost_ret (v := r1.val) (by simp [results, Try.results85, go_sem, Sp.val, z0, z1, z2, z3, z4, z5, z6, z7, z8, z9, z10]) rfl ⟨by rw [HR.out]; rfl, ?_⟩
  repeat (refine set_below ?_ (by omega) _)
  exact HX.out.be
/-- A span's box, and a value's. -/
structure SVB (w0 : World) (s : Sp) (x : Val) (w : World) : Prop where
  pa : SBox w w0.heap.size s
  pv : VBox w (w0.heap.size + 1) x
  be : Below w0.heap.size w0 w
theorem SVB.below {w0 w w' : World} {s : Sp} {x : Val} (h : SVB w0 s x w) (hb : Below w.heap.size w w') : SVB w0 s x w' := ⟨h.pa.below hb, h.pv.below hb, on h.be hb⟩
theorem SVB.new (w : World) (s : Sp) (x : Val) (T1 T2 : TypeId) : SVB w s x ((w.alloc (sobj s T1)).alloc (vobj x T2)) := by
  refine ⟨(SBox.new w s T1).alloc _, ?_, back1 (alloc1 _ _)⟩
  have := VBox.new (w.alloc (sobj s T1)) x T2; simpa using this
set_option maxHeartbeats 2000000 in
theorem within_any (s : Sp) (x : Val) (w : World) : Calls Try.prog 83 #[s.val, V x.t x.n x.s] w fun e w' => e = .returned (.bool (withinS s x)) ∧ Below w.heap.size w w' := by
  have HA : Hid (withinS s x = (!s.no && (!apartE (lowE s) (closedE x) && !apartE (closedE x) (uppE s)))) := rfl
  have HL : Hid (∀ w1, Calls Try.prog 88 #[s.val] w1 fun e w' => e = .returned (lowE s).val ∧ Below w1.heap.size w1 w') := fun w1 => lower_any s w1
  have HU : Hid (∀ w1, Calls Try.prog 89 #[s.val] w1 fun e w' => e = .returned (uppE s).val ∧ Below w1.heap.size w1 w') := fun w1 => upper_any s w1
  have HV : Hid (∀ w1, Calls Try.prog 91 #[V x.t x.n x.s] w1 fun e w' => e = .returned (closedE x).val ∧ Below w1.heap.size w1 w') := fun w1 => closed_any x w1
  have HP : Hid (∀ w1, Calls Try.prog 90 #[(lowE s).val, (closedE x).val] w1 fun e w' => e = .returned (.bool (apartE (lowE s) (closedE x))) ∧ Below w1.heap.size w1 w') := fun w1 => apart_any _ _ w1
  have HQ : Hid (∀ w1, Calls Try.prog 90 #[(closedE x).val, (uppE s).val] w1 fun e w' => e = .returned (.bool (apartE (closedE x) (uppE s))) ∧ Below w1.heap.size w1 w') := fun w1 => apart_any _ _ w1
  generalize apartE (lowE s) (closedE x) = p1 at *
  generalize apartE (closedE x) (uppE s) = p2 at *
  generalize lowE s = lo at *
  generalize uppE s = up at *
  generalize closedE x = cl at *
  generalize withinS s x = r at *
  obtain ⟨no, hno⟩ : ∃ o, s.no = o := ⟨_, rfl⟩
  rw [hno] at HA
  have HN : Hid _ := SVB.new w s x 36 32
  unfold Sp.val En.val at *
  have HD : Hid (∀ w1, SVB w s x w1 → SBox w1 w.heap.size ⟨no, s.hl, s.ol, s.lo, s.hh, s.oh, s.hi⟩) := fun w1 h => by have := h.pa; rw [show s = ⟨no, s.hl, s.ol, s.lo, s.hh, s.oh, s.hi⟩ from by rw [← hno]] at this; exact this
  rw [hno] at HL HU ⊢
  have HNO : Hid (s.no = no) := hno
  clear hno
  go_enter Try.func83, Try.ntmps83
  go_wp2_with fail
  have X0 : SVB w s x _ := HN.out.below (Below.refl _ _).drew
  rw [sobj, HNO.out] at X0
  clear HN HNO
  cases no
  case true =>
    clear HL HU HV HP HQ
    have H1 : Hid (Below w.heap.size w _) := X0.be
    refine wp_region_held_drew (S := fun w' => (w'.cell? ⟨w.heap.size, 0, none⟩ = some (.bool true) ∧ w'.cell? ⟨w.heap.size, 1, none⟩ = some (.bool s.hl) ∧ w'.cell? ⟨w.heap.size, 2, none⟩ = some (.bool s.ol) ∧ w'.cell? ⟨w.heap.size, 3, none⟩ = some (.bool s.lo.t) ∧ w'.cell? ⟨w.heap.size, 4, none⟩ = some (.int .i64 s.lo.n) ∧ w'.cell? ⟨w.heap.size, 5, none⟩ = some (.string s.lo.s) ∧ w'.cell? ⟨w.heap.size, 6, none⟩ = some (.bool s.hh) ∧ w'.cell? ⟨w.heap.size, 7, none⟩ = some (.bool s.oh) ∧ w'.cell? ⟨w.heap.size, 8, none⟩ = some (.bool s.hi.t) ∧ w'.cell? ⟨w.heap.size, 9, none⟩ = some (.int .i64 s.hi.n) ∧ w'.cell? ⟨w.heap.size, 10, none⟩ = some (.string s.hi.s)) ∧ w'.cell? ⟨w.heap.size + 1, 0, none⟩ = some (.bool x.t) ∧ w'.cell? ⟨w.heap.size + 1, 1, none⟩ = some (.int .i64 x.n) ∧ w'.cell? ⟨w.heap.size + 1, 2, none⟩ = some (.string x.s)) (by kernel_rfl) ?_ (fun hHeld => ?_)
    · exact ⟨⟨(HD.out _ X0).c0, (HD.out _ X0).c1, (HD.out _ X0).c2, (HD.out _ X0).c3, (HD.out _ X0).c4, (HD.out _ X0).c5, (HD.out _ X0).c6, (HD.out _ X0).c7, (HD.out _ X0).c8, (HD.out _ X0).c9, (HD.out _ X0).c10⟩, ⟨X0.pv.c0, X0.pv.c1, X0.pv.c2⟩⟩
    (try clear hK K)
    refine wpAnyH_take (i := 0) (v := ?_) rfl (by kernel_rfl) (by kernel_rfl) (by kernel_rfl) (fun _ _ _ h => h) (Or.inl ⟨by rfl, ?_⟩) (by assumption) ?_
    rotate_left
    · intro w hSw; (try dsimp only at hSw); go_simp; (try with_reducible rfl)
    (try simp only [Act.put, List.getElem_toArray, List.getElem_cons_zero, List.setIfInBounds_toArray, List.set_cons_zero, List.set_cons_succ])
    refine wpAnyH_take (i := 1) (v := ?_) rfl (by kernel_rfl) (by kernel_rfl) (by kernel_rfl) (fun _ _ _ h => h) (Or.inl ⟨by rfl, ?_⟩) (by assumption) ?_
    rotate_left
    · intro w hSw; (try dsimp only at hSw); go_simp; (try with_reducible rfl)
    (try simp only [Act.put, List.getElem_toArray, List.getElem_cons_succ, List.getElem_cons_zero, List.setIfInBounds_toArray, List.set_cons_zero, List.set_cons_succ])
    refine wpAnyH_take (i := 2) (v := ?_) rfl (by kernel_rfl) (by kernel_rfl) (by kernel_rfl) (fun _ _ _ h => h) (Or.inl ⟨by rfl, ?_⟩) (by assumption) ?_
    rotate_left
    · intro w hSw; (try dsimp only at hSw); go_simp; (try with_reducible rfl)
    (try simp only [Act.put, List.getElem_toArray, List.getElem_cons_succ, List.getElem_cons_zero, List.setIfInBounds_toArray, List.set_cons_zero, List.set_cons_succ])
    refine wpAnyH_take (i := 3) (v := ?_) rfl (by kernel_rfl) (by kernel_rfl) (by kernel_rfl) (fun _ _ _ h => h) (Or.inl ⟨by rfl, ?_⟩) (by assumption) ?_
    rotate_left
    · intro w hSw; (try dsimp only at hSw); go_simp; (try with_reducible rfl)
    (try simp only [Act.put, List.getElem_toArray, List.getElem_cons_succ, List.getElem_cons_zero, List.setIfInBounds_toArray, List.set_cons_zero, List.set_cons_succ])
    (try clear hK K)
    refine wpAnyH_take (i := 4) (v := undef) rfl (by kernel_rfl) (by kernel_rfl) (by kernel_rfl) (fun _ _ _ h => h) (Or.inr ⟨by rfl, rfl⟩) (by assumption) ?_
    (try simp only [Act.put, List.getElem_toArray, List.getElem_cons_succ, List.getElem_cons_zero, List.setIfInBounds_toArray, List.set_cons_zero, List.set_cons_succ])
    refine wpAnyH_take (i := 5) (v := undef) rfl (by kernel_rfl) (by kernel_rfl) (by kernel_rfl) (fun _ _ _ h => h) (Or.inr ⟨by rfl, rfl⟩) (by assumption) ?_
    (try simp only [Act.put, List.getElem_toArray, List.getElem_cons_succ, List.getElem_cons_zero, List.setIfInBounds_toArray, List.set_cons_zero, List.set_cons_succ])
    refine wpAnyH_take (i := 6) (v := undef) rfl (by kernel_rfl) (by kernel_rfl) (by kernel_rfl) (fun _ _ _ h => h) (Or.inr ⟨by rfl, rfl⟩) (by assumption) ?_
    (try simp only [Act.put, List.getElem_toArray, List.getElem_cons_succ, List.getElem_cons_zero, List.setIfInBounds_toArray, List.set_cons_zero, List.set_cons_succ])
    refine wpAnyH_take (i := 7) (v := undef) rfl (by kernel_rfl) (by kernel_rfl) (by kernel_rfl) (fun _ _ _ h => h) (Or.inr ⟨by rfl, rfl⟩) (by assumption) ?_
    (try simp only [Act.put, List.getElem_toArray, List.getElem_cons_succ, List.getElem_cons_zero, List.setIfInBounds_toArray, List.set_cons_zero, List.set_cons_succ])
    refine wpAnyH_take (i := 8) (v := undef) rfl (by kernel_rfl) (by kernel_rfl) (by kernel_rfl) (fun _ _ _ h => h) (Or.inr ⟨by rfl, rfl⟩) (by assumption) ?_
    (try simp only [Act.put, List.getElem_toArray, List.getElem_cons_succ, List.getElem_cons_zero, List.setIfInBounds_toArray, List.set_cons_zero, List.set_cons_succ])
    refine wpAnyH_take (i := 9) (v := undef) rfl (by kernel_rfl) (by kernel_rfl) (by kernel_rfl) (fun _ _ _ h => h) (Or.inr ⟨by rfl, rfl⟩) (by assumption) ?_
    (try simp only [Act.put, List.getElem_toArray, List.getElem_cons_succ, List.getElem_cons_zero, List.setIfInBounds_toArray, List.set_cons_zero, List.set_cons_succ])
    (try clear hK K)
    refine wpAnyH_take (i := 10) (v := ?_) rfl (by kernel_rfl) (by kernel_rfl) (by kernel_rfl) (fun _ _ _ h => h) (Or.inl ⟨by rfl, ?_⟩) (by assumption) ?_
    rotate_left
    · intro w hSw; (try dsimp only at hSw); go_simp; (try with_reducible rfl)
    (try simp only [Act.put, List.getElem_toArray, List.getElem_cons_succ, List.getElem_cons_zero, List.setIfInBounds_toArray, List.set_cons_zero, List.set_cons_succ])
    refine wpAnyH_take (i := 11) (v := ?_) rfl (by kernel_rfl) (by kernel_rfl) (by kernel_rfl) (fun _ _ _ h => h) (Or.inl ⟨by rfl, ?_⟩) (by assumption) ?_
    rotate_left
    · intro w hSw; (try dsimp only at hSw); go_simp; (try with_reducible rfl)
    (try simp only [Act.put, List.getElem_toArray, List.getElem_cons_succ, List.getElem_cons_zero, List.setIfInBounds_toArray, List.set_cons_zero, List.set_cons_succ])
    (try clear hK K)
    refine wpAnyH_take (i := 12) (v := undef) rfl (by kernel_rfl) (by kernel_rfl) (by kernel_rfl) (fun _ _ _ h => h) (Or.inr ⟨by rfl, rfl⟩) (by assumption) ?_
    (try simp only [Act.put, List.getElem_toArray, List.getElem_cons_succ, List.getElem_cons_zero, List.setIfInBounds_toArray, List.set_cons_zero, List.set_cons_succ])
    refine wpAnyH_take (i := 13) (v := undef) rfl (by kernel_rfl) (by kernel_rfl) (by kernel_rfl) (fun _ _ _ h => h) (Or.inr ⟨by rfl, rfl⟩) (by assumption) ?_
    (try simp only [Act.put, List.getElem_toArray, List.getElem_cons_succ, List.getElem_cons_zero, List.setIfInBounds_toArray, List.set_cons_zero, List.set_cons_succ])
    refine wpAnyH_take (i := 14) (v := undef) rfl (by kernel_rfl) (by kernel_rfl) (by kernel_rfl) (fun _ _ _ h => h) (Or.inr ⟨by rfl, rfl⟩) (by assumption) ?_
    (try simp only [Act.put, List.getElem_toArray, List.getElem_cons_succ, List.getElem_cons_zero, List.setIfInBounds_toArray, List.set_cons_zero, List.set_cons_succ])
    refine wpAnyH_take (i := 15) (v := undef) rfl (by kernel_rfl) (by kernel_rfl) (by kernel_rfl) (fun _ _ _ h => h) (Or.inr ⟨by rfl, rfl⟩) (by assumption) ?_
    (try simp only [Act.put, List.getElem_toArray, List.getElem_cons_succ, List.getElem_cons_zero, List.setIfInBounds_toArray, List.set_cons_zero, List.set_cons_succ])
    refine wpAnyH_take (i := 16) (v := undef) rfl (by kernel_rfl) (by kernel_rfl) (by kernel_rfl) (fun _ _ _ h => h) (Or.inr ⟨by rfl, rfl⟩) (by assumption) ?_
    (try simp only [Act.put, List.getElem_toArray, List.getElem_cons_succ, List.getElem_cons_zero, List.setIfInBounds_toArray, List.set_cons_zero, List.set_cons_succ])
    refine wpAnyH_take (i := 17) (v := undef) rfl (by kernel_rfl) (by kernel_rfl) (by kernel_rfl) (fun _ _ _ h => h) (Or.inr ⟨by rfl, rfl⟩) (by assumption) ?_
    (try simp only [Act.put, List.getElem_toArray, List.getElem_cons_succ, List.getElem_cons_zero, List.setIfInBounds_toArray, List.set_cons_zero, List.set_cons_succ])
    (try clear hK K)
    refine wpAnyH_take (i := 18) (v := ?_) rfl (by kernel_rfl) (by kernel_rfl) (by kernel_rfl) (fun _ _ _ h => h) (Or.inl ⟨by rfl, ?_⟩) (by assumption) ?_
    rotate_left
    · intro w hSw; (try dsimp only at hSw); go_simp; (try with_reducible rfl)
    (try simp only [Act.put, List.getElem_toArray, List.getElem_cons_succ, List.getElem_cons_zero, List.setIfInBounds_toArray, List.set_cons_zero, List.set_cons_succ])
    refine wpAnyH_take (i := 19) (v := ?_) rfl (by kernel_rfl) (by kernel_rfl) (by kernel_rfl) (fun _ _ _ h => h) (Or.inl ⟨by rfl, ?_⟩) (by assumption) ?_
    rotate_left
    · intro w hSw; (try dsimp only at hSw); go_simp; (try with_reducible rfl)
    (try simp only [Act.put, List.getElem_toArray, List.getElem_cons_succ, List.getElem_cons_zero, List.setIfInBounds_toArray, List.set_cons_zero, List.set_cons_succ])
    (try clear hK K)
    refine wpAnyH_done (by kernel_rfl) ?_ _
    clear X0
    go_wp2_with fail
    go_ret
    exact ⟨by rw [HA.out]; rfl, H1.out⟩
  refine wp_region_held_drew (S := fun w' => (w'.cell? ⟨w.heap.size, 0, none⟩ = some (.bool false) ∧ w'.cell? ⟨w.heap.size, 1, none⟩ = some (.bool s.hl) ∧ w'.cell? ⟨w.heap.size, 2, none⟩ = some (.bool s.ol) ∧ w'.cell? ⟨w.heap.size, 3, none⟩ = some (.bool s.lo.t) ∧ w'.cell? ⟨w.heap.size, 4, none⟩ = some (.int .i64 s.lo.n) ∧ w'.cell? ⟨w.heap.size, 5, none⟩ = some (.string s.lo.s) ∧ w'.cell? ⟨w.heap.size, 6, none⟩ = some (.bool s.hh) ∧ w'.cell? ⟨w.heap.size, 7, none⟩ = some (.bool s.oh) ∧ w'.cell? ⟨w.heap.size, 8, none⟩ = some (.bool s.hi.t) ∧ w'.cell? ⟨w.heap.size, 9, none⟩ = some (.int .i64 s.hi.n) ∧ w'.cell? ⟨w.heap.size, 10, none⟩ = some (.string s.hi.s)) ∧ w'.cell? ⟨w.heap.size + 1, 0, none⟩ = some (.bool x.t) ∧ w'.cell? ⟨w.heap.size + 1, 1, none⟩ = some (.int .i64 x.n) ∧ w'.cell? ⟨w.heap.size + 1, 2, none⟩ = some (.string x.s)) (by kernel_rfl) ?_ (fun hHeld => ?_)
  · exact ⟨⟨(HD.out _ X0).c0, (HD.out _ X0).c1, (HD.out _ X0).c2, (HD.out _ X0).c3, (HD.out _ X0).c4, (HD.out _ X0).c5, (HD.out _ X0).c6, (HD.out _ X0).c7, (HD.out _ X0).c8, (HD.out _ X0).c9, (HD.out _ X0).c10⟩, ⟨X0.pv.c0, X0.pv.c1, X0.pv.c2⟩⟩
  (try clear hK K)
  refine wpAnyH_take (i := 0) (v := ?_) rfl (by kernel_rfl) (by kernel_rfl) (by kernel_rfl) (fun _ _ _ h => h) (Or.inl ⟨by rfl, ?_⟩) (by assumption) ?_
  rotate_left
  · intro w hSw; (try dsimp only at hSw); go_simp; (try with_reducible rfl)
  (try simp only [Act.put, List.getElem_toArray, List.getElem_cons_zero, List.setIfInBounds_toArray, List.set_cons_zero, List.set_cons_succ])
  refine wpAnyH_take (i := 1) (v := ?_) rfl (by kernel_rfl) (by kernel_rfl) (by kernel_rfl) (fun _ _ _ h => h) (Or.inl ⟨by rfl, ?_⟩) (by assumption) ?_
  rotate_left
  · intro w hSw; (try dsimp only at hSw); go_simp; (try with_reducible rfl)
  (try simp only [Act.put, List.getElem_toArray, List.getElem_cons_succ, List.getElem_cons_zero, List.setIfInBounds_toArray, List.set_cons_zero, List.set_cons_succ])
  refine wpAnyH_take (i := 2) (v := ?_) rfl (by kernel_rfl) (by kernel_rfl) (by kernel_rfl) (fun _ _ _ h => h) (Or.inl ⟨by rfl, ?_⟩) (by assumption) ?_
  rotate_left
  · intro w hSw; (try dsimp only at hSw); go_simp; (try with_reducible rfl)
  (try simp only [Act.put, List.getElem_toArray, List.getElem_cons_succ, List.getElem_cons_zero, List.setIfInBounds_toArray, List.set_cons_zero, List.set_cons_succ])
  refine wpAnyH_take (i := 3) (v := ?_) rfl (by kernel_rfl) (by kernel_rfl) (by kernel_rfl) (fun _ _ _ h => h) (Or.inl ⟨by rfl, ?_⟩) (by assumption) ?_
  rotate_left
  · intro w hSw; (try dsimp only at hSw); go_simp; (try with_reducible rfl)
  (try simp only [Act.put, List.getElem_toArray, List.getElem_cons_succ, List.getElem_cons_zero, List.setIfInBounds_toArray, List.set_cons_zero, List.set_cons_succ])
  refine wpAnyH_take (i := 4) (v := ?_) rfl (by kernel_rfl) (by kernel_rfl) (by kernel_rfl) (fun _ _ _ h => h) (Or.inl ⟨by rfl, ?_⟩) (by assumption) ?_
  rotate_left
  · intro w hSw; (try dsimp only at hSw); go_simp; (try with_reducible rfl)
  (try simp only [Act.put, List.getElem_toArray, List.getElem_cons_succ, List.getElem_cons_zero, List.setIfInBounds_toArray, List.set_cons_zero, List.set_cons_succ])
  refine wpAnyH_take (i := 6) (v := ?_) rfl (by kernel_rfl) (by kernel_rfl) (by kernel_rfl) (fun _ _ _ h => h) (Or.inl ⟨by rfl, ?_⟩) (by assumption) ?_
  rotate_left
  · intro w hSw; (try dsimp only at hSw); go_simp; (try with_reducible rfl)
  (try simp only [Act.put, List.getElem_toArray, List.getElem_cons_succ, List.getElem_cons_zero, List.setIfInBounds_toArray, List.set_cons_zero, List.set_cons_succ])
  (try clear hK K)
  refine wpAnyH_ready (rs := [5]) (by kernel_rfl) (by simp) ?_
  refine AllReadyH.cons rfl (fun K hK => ?_) AllReadyH.nil
  go_simp
  (refine Calls.mono (HL.out _) ?_; rintro e w1 ⟨rfl, hb1⟩; have X1 := X0.below hb1)
  refine hK.out _ _ ?_ (fun hHeld => ?_)
  · exact ⟨⟨(HD.out _ X1).c0, (HD.out _ X1).c1, (HD.out _ X1).c2, (HD.out _ X1).c3, (HD.out _ X1).c4, (HD.out _ X1).c5, (HD.out _ X1).c6, (HD.out _ X1).c7, (HD.out _ X1).c8, (HD.out _ X1).c9, (HD.out _ X1).c10⟩, ⟨X1.pv.c0, X1.pv.c1, X1.pv.c2⟩⟩
  (try clear hK K)
  refine wpAnyH_ready (rs := [7]) (by kernel_rfl) (by simp) ?_
  refine AllReadyH.cons rfl (fun K hK => ?_) AllReadyH.nil
  go_simp
  (refine Calls.mono (HV.out _) ?_; rintro e w2 ⟨rfl, hb2⟩; have X2 := X1.below hb2)
  refine hK.out _ _ ?_ (fun hHeld => ?_)
  · exact ⟨⟨(HD.out _ X2).c0, (HD.out _ X2).c1, (HD.out _ X2).c2, (HD.out _ X2).c3, (HD.out _ X2).c4, (HD.out _ X2).c5, (HD.out _ X2).c6, (HD.out _ X2).c7, (HD.out _ X2).c8, (HD.out _ X2).c9, (HD.out _ X2).c10⟩, ⟨X2.pv.c0, X2.pv.c1, X2.pv.c2⟩⟩
  (try clear hK K)
  refine wpAnyH_ready (rs := [8]) (by kernel_rfl) (by simp) ?_
  refine AllReadyH.cons rfl (fun K hK => ?_) AllReadyH.nil
  go_simp
  (refine Calls.mono (HP.out _) ?_; rintro e w3 ⟨rfl, hb3⟩; have X3 := X2.below hb3)
  refine hK.out _ _ ?_ (fun hHeld => ?_)
  · exact ⟨⟨(HD.out _ X3).c0, (HD.out _ X3).c1, (HD.out _ X3).c2, (HD.out _ X3).c3, (HD.out _ X3).c4, (HD.out _ X3).c5, (HD.out _ X3).c6, (HD.out _ X3).c7, (HD.out _ X3).c8, (HD.out _ X3).c9, (HD.out _ X3).c10⟩, ⟨X3.pv.c0, X3.pv.c1, X3.pv.c2⟩⟩
  clear X0 X1 X2 hb1 hb2 hb3
  cases p1
  case true =>
    have H1 : Hid (Below w.heap.size w w3) := X3.be
    (try clear hK K)
    refine wpAnyH_take (i := 9) (v := ?_) rfl (by kernel_rfl) (by kernel_rfl) (by kernel_rfl) (fun _ _ _ h => h) (Or.inl ⟨by rfl, ?_⟩) (by assumption) ?_
    rotate_left
    · intro w hSw; (try dsimp only at hSw); go_simp; (try with_reducible rfl)
    (try simp only [Act.put, List.getElem_toArray, List.getElem_cons_succ, List.getElem_cons_zero, List.setIfInBounds_toArray, List.set_cons_zero, List.set_cons_succ])
    refine wpAnyH_take (i := 10) (v := ?_) rfl (by kernel_rfl) (by kernel_rfl) (by kernel_rfl) (fun _ _ _ h => h) (Or.inl ⟨by rfl, ?_⟩) (by assumption) ?_
    rotate_left
    · intro w hSw; (try dsimp only at hSw); go_simp; (try with_reducible rfl)
    (try simp only [Act.put, List.getElem_toArray, List.getElem_cons_succ, List.getElem_cons_zero, List.setIfInBounds_toArray, List.set_cons_zero, List.set_cons_succ])
    refine wpAnyH_take (i := 11) (v := ?_) rfl (by kernel_rfl) (by kernel_rfl) (by kernel_rfl) (fun _ _ _ h => h) (Or.inl ⟨by rfl, ?_⟩) (by assumption) ?_
    rotate_left
    · intro w hSw; (try dsimp only at hSw); go_simp; (try with_reducible rfl)
    (try simp only [Act.put, List.getElem_toArray, List.getElem_cons_succ, List.getElem_cons_zero, List.setIfInBounds_toArray, List.set_cons_zero, List.set_cons_succ])
    (try clear hK K)
    refine wpAnyH_take (i := 12) (v := undef) rfl (by kernel_rfl) (by kernel_rfl) (by kernel_rfl) (fun _ _ _ h => h) (Or.inr ⟨by rfl, rfl⟩) (by assumption) ?_
    (try simp only [Act.put, List.getElem_toArray, List.getElem_cons_succ, List.getElem_cons_zero, List.setIfInBounds_toArray, List.set_cons_zero, List.set_cons_succ])
    refine wpAnyH_take (i := 13) (v := undef) rfl (by kernel_rfl) (by kernel_rfl) (by kernel_rfl) (fun _ _ _ h => h) (Or.inr ⟨by rfl, rfl⟩) (by assumption) ?_
    (try simp only [Act.put, List.getElem_toArray, List.getElem_cons_succ, List.getElem_cons_zero, List.setIfInBounds_toArray, List.set_cons_zero, List.set_cons_succ])
    refine wpAnyH_take (i := 14) (v := undef) rfl (by kernel_rfl) (by kernel_rfl) (by kernel_rfl) (fun _ _ _ h => h) (Or.inr ⟨by rfl, rfl⟩) (by assumption) ?_
    (try simp only [Act.put, List.getElem_toArray, List.getElem_cons_succ, List.getElem_cons_zero, List.setIfInBounds_toArray, List.set_cons_zero, List.set_cons_succ])
    refine wpAnyH_take (i := 15) (v := undef) rfl (by kernel_rfl) (by kernel_rfl) (by kernel_rfl) (fun _ _ _ h => h) (Or.inr ⟨by rfl, rfl⟩) (by assumption) ?_
    (try simp only [Act.put, List.getElem_toArray, List.getElem_cons_succ, List.getElem_cons_zero, List.setIfInBounds_toArray, List.set_cons_zero, List.set_cons_succ])
    refine wpAnyH_take (i := 16) (v := undef) rfl (by kernel_rfl) (by kernel_rfl) (by kernel_rfl) (fun _ _ _ h => h) (Or.inr ⟨by rfl, rfl⟩) (by assumption) ?_
    (try simp only [Act.put, List.getElem_toArray, List.getElem_cons_succ, List.getElem_cons_zero, List.setIfInBounds_toArray, List.set_cons_zero, List.set_cons_succ])
    refine wpAnyH_take (i := 17) (v := undef) rfl (by kernel_rfl) (by kernel_rfl) (by kernel_rfl) (fun _ _ _ h => h) (Or.inr ⟨by rfl, rfl⟩) (by assumption) ?_
    (try simp only [Act.put, List.getElem_toArray, List.getElem_cons_succ, List.getElem_cons_zero, List.setIfInBounds_toArray, List.set_cons_zero, List.set_cons_succ])
    (try clear hK K)
    refine wpAnyH_take (i := 18) (v := ?_) rfl (by kernel_rfl) (by kernel_rfl) (by kernel_rfl) (fun _ _ _ h => h) (Or.inl ⟨by rfl, ?_⟩) (by assumption) ?_
    rotate_left
    · intro w hSw; (try dsimp only at hSw); go_simp; (try with_reducible rfl)
    (try simp only [Act.put, List.getElem_toArray, List.getElem_cons_succ, List.getElem_cons_zero, List.setIfInBounds_toArray, List.set_cons_zero, List.set_cons_succ])
    refine wpAnyH_take (i := 19) (v := ?_) rfl (by kernel_rfl) (by kernel_rfl) (by kernel_rfl) (fun _ _ _ h => h) (Or.inl ⟨by rfl, ?_⟩) (by assumption) ?_
    rotate_left
    · intro w hSw; (try dsimp only at hSw); go_simp; (try with_reducible rfl)
    (try simp only [Act.put, List.getElem_toArray, List.getElem_cons_succ, List.getElem_cons_zero, List.setIfInBounds_toArray, List.set_cons_zero, List.set_cons_succ])
    (try clear hK K)
    refine wpAnyH_done (by kernel_rfl) ?_ _
    clear X3
    go_wp2_with fail
    go_ret
    exact ⟨by rw [HA.out]; rfl, H1.out⟩
  (try clear hK K)
  refine wpAnyH_take (i := 9) (v := ?_) rfl (by kernel_rfl) (by kernel_rfl) (by kernel_rfl) (fun _ _ _ h => h) (Or.inl ⟨by rfl, ?_⟩) (by assumption) ?_
  rotate_left
  · intro w hSw; (try dsimp only at hSw); go_simp; (try with_reducible rfl)
  (try simp only [Act.put, List.getElem_toArray, List.getElem_cons_succ, List.getElem_cons_zero, List.setIfInBounds_toArray, List.set_cons_zero, List.set_cons_succ])
  refine wpAnyH_take (i := 10) (v := ?_) rfl (by kernel_rfl) (by kernel_rfl) (by kernel_rfl) (fun _ _ _ h => h) (Or.inl ⟨by rfl, ?_⟩) (by assumption) ?_
  rotate_left
  · intro w hSw; (try dsimp only at hSw); go_simp; (try with_reducible rfl)
  (try simp only [Act.put, List.getElem_toArray, List.getElem_cons_succ, List.getElem_cons_zero, List.setIfInBounds_toArray, List.set_cons_zero, List.set_cons_succ])
  refine wpAnyH_take (i := 11) (v := ?_) rfl (by kernel_rfl) (by kernel_rfl) (by kernel_rfl) (fun _ _ _ h => h) (Or.inl ⟨by rfl, ?_⟩) (by assumption) ?_
  rotate_left
  · intro w hSw; (try dsimp only at hSw); go_simp; (try with_reducible rfl)
  (try simp only [Act.put, List.getElem_toArray, List.getElem_cons_succ, List.getElem_cons_zero, List.setIfInBounds_toArray, List.set_cons_zero, List.set_cons_succ])
  refine wpAnyH_take (i := 12) (v := ?_) rfl (by kernel_rfl) (by kernel_rfl) (by kernel_rfl) (fun _ _ _ h => h) (Or.inl ⟨by rfl, ?_⟩) (by assumption) ?_
  rotate_left
  · intro w hSw; (try dsimp only at hSw); go_simp; (try with_reducible rfl)
  (try simp only [Act.put, List.getElem_toArray, List.getElem_cons_succ, List.getElem_cons_zero, List.setIfInBounds_toArray, List.set_cons_zero, List.set_cons_succ])
  refine wpAnyH_take (i := 14) (v := ?_) rfl (by kernel_rfl) (by kernel_rfl) (by kernel_rfl) (fun _ _ _ h => h) (Or.inl ⟨by rfl, ?_⟩) (by assumption) ?_
  rotate_left
  · intro w hSw; (try dsimp only at hSw); go_simp; (try with_reducible rfl)
  (try simp only [Act.put, List.getElem_toArray, List.getElem_cons_succ, List.getElem_cons_zero, List.setIfInBounds_toArray, List.set_cons_zero, List.set_cons_succ])
  (try clear hK K)
  refine wpAnyH_ready (rs := [13]) (by kernel_rfl) (by simp) ?_
  refine AllReadyH.cons rfl (fun K hK => ?_) AllReadyH.nil
  go_simp
  (refine Calls.mono (HV.out _) ?_; rintro e w4 ⟨rfl, hb4⟩; have X4 := X3.below hb4)
  refine hK.out _ _ ?_ (fun hHeld => ?_)
  · exact ⟨⟨(HD.out _ X4).c0, (HD.out _ X4).c1, (HD.out _ X4).c2, (HD.out _ X4).c3, (HD.out _ X4).c4, (HD.out _ X4).c5, (HD.out _ X4).c6, (HD.out _ X4).c7, (HD.out _ X4).c8, (HD.out _ X4).c9, (HD.out _ X4).c10⟩, ⟨X4.pv.c0, X4.pv.c1, X4.pv.c2⟩⟩
  (try clear hK K)
  refine wpAnyH_ready (rs := [15]) (by kernel_rfl) (by simp) ?_
  refine AllReadyH.cons rfl (fun K hK => ?_) AllReadyH.nil
  go_simp
  (refine Calls.mono (HU.out _) ?_; rintro e w5 ⟨rfl, hb5⟩; have X5 := X4.below hb5)
  refine hK.out _ _ ?_ (fun hHeld => ?_)
  · exact ⟨⟨(HD.out _ X5).c0, (HD.out _ X5).c1, (HD.out _ X5).c2, (HD.out _ X5).c3, (HD.out _ X5).c4, (HD.out _ X5).c5, (HD.out _ X5).c6, (HD.out _ X5).c7, (HD.out _ X5).c8, (HD.out _ X5).c9, (HD.out _ X5).c10⟩, ⟨X5.pv.c0, X5.pv.c1, X5.pv.c2⟩⟩
  (try clear hK K)
  refine wpAnyH_ready (rs := [16]) (by kernel_rfl) (by simp) ?_
  refine AllReadyH.cons rfl (fun K hK => ?_) AllReadyH.nil
  go_simp
  (refine Calls.mono (HQ.out _) ?_; rintro e w6 ⟨rfl, hb6⟩; have X6 := X5.below hb6)
  refine hK.out _ _ ?_ (fun hHeld => ?_)
  · exact ⟨⟨(HD.out _ X6).c0, (HD.out _ X6).c1, (HD.out _ X6).c2, (HD.out _ X6).c3, (HD.out _ X6).c4, (HD.out _ X6).c5, (HD.out _ X6).c6, (HD.out _ X6).c7, (HD.out _ X6).c8, (HD.out _ X6).c9, (HD.out _ X6).c10⟩, ⟨X6.pv.c0, X6.pv.c1, X6.pv.c2⟩⟩
  have H1 : Hid (Below w.heap.size w w6) := X6.be
  clear X3 X4 X5 X6 hb4 hb5 hb6
  (try clear hK K)
  refine wpAnyH_take (i := 17) (v := ?_) rfl (by kernel_rfl) (by kernel_rfl) (by kernel_rfl) (fun _ _ _ h => h) (Or.inl ⟨by rfl, ?_⟩) (by assumption) ?_
  rotate_left
  · intro w hSw; (try dsimp only at hSw); go_simp; (try with_reducible rfl)
  (try simp only [Act.put, List.getElem_toArray, List.getElem_cons_succ, List.getElem_cons_zero, List.setIfInBounds_toArray, List.set_cons_zero, List.set_cons_succ])
  refine wpAnyH_take (i := 18) (v := ?_) rfl (by kernel_rfl) (by kernel_rfl) (by kernel_rfl) (fun _ _ _ h => h) (Or.inl ⟨by rfl, ?_⟩) (by assumption) ?_
  rotate_left
  · intro w hSw; (try dsimp only at hSw); go_simp; (try with_reducible rfl)
  (try simp only [Act.put, List.getElem_toArray, List.getElem_cons_succ, List.getElem_cons_zero, List.setIfInBounds_toArray, List.set_cons_zero, List.set_cons_succ])
  refine wpAnyH_take (i := 19) (v := ?_) rfl (by kernel_rfl) (by kernel_rfl) (by kernel_rfl) (fun _ _ _ h => h) (Or.inl ⟨by rfl, ?_⟩) (by assumption) ?_
  rotate_left
  · intro w hSw; (try dsimp only at hSw); go_simp; (try with_reducible rfl)
  (try simp only [Act.put, List.getElem_toArray, List.getElem_cons_succ, List.getElem_cons_zero, List.setIfInBounds_toArray, List.set_cons_zero, List.set_cons_succ])
  (try clear hK K)
  refine wpAnyH_done (by kernel_rfl) ?_ _
  go_wp2_with fail
  go_ret
  exact ⟨by rw [HA.out]; simp, H1.out⟩
end Go.Proofs.Ytafkpfhhmmnpeaa.Val
/- What Meet and Hull of package normal answer. -/
namespace Go.Proofs.Ytafkpfhhmmnpeaa.Val
open Go.RowKit

/-- A span is written into a block. -/
abbrev setS (w : World) (b : Nat) (t : Sp) : World := (((((((((((w.setCell ⟨b, 0, none⟩ (.bool t.no)).setCell ⟨b, 1, none⟩ (.bool t.hl)).setCell ⟨b, 2, none⟩ (.bool t.ol)).setCell ⟨b, 3, none⟩ (.bool t.lo.t)).setCell ⟨b, 4, none⟩ (.int .i64 t.lo.n)).setCell ⟨b, 5, none⟩ (.string t.lo.s)).setCell ⟨b, 6, none⟩ (.bool t.hh)).setCell ⟨b, 7, none⟩ (.bool t.oh)).setCell ⟨b, 8, none⟩ (.bool t.hi.t)).setCell ⟨b, 9, none⟩ (.int .i64 t.hi.n)).setCell ⟨b, 10, none⟩ (.string t.hi.s))
theorem SBox.put {w : World} {b : Nat} {s : Sp} (h : SBox w b s) (t : Sp) : SBox (setS w b t) b t := by
  obtain ⟨c0, c1, c2, c3, c4, c5, c6, c7, c8, c9, c10⟩ := h
  constructor <;> simp [go_sem, c0, c1, c2, c3, c4, c5, c6, c7, c8, c9, c10]
theorem SBox.offS {w : World} {b c : Nat} {s : Sp} (h : SBox w b s) (t : Sp) (hne : c ≠ b) : SBox (setS w c t) b s := by
  repeat (refine SBox.far ?_ hne)
  exact h
theorem Fr.set {w : World} {b c j : Nat} {u : Value} (h : Fr w b) : Fr (w.setCell ⟨c, j, none⟩ u) b := ⟨by simpa [World.setCell] using h.1, fun k => by rw [World.frozen?_setCell]; exact h.2 k⟩
theorem Fr.setS {w : World} {b c : Nat} (h : Fr w b) (t : Sp) : Fr (setS w c t) b := by
  repeat (refine Fr.set ?_)
  exact h
theorem below_setS {w w' : World} {B b : Nat} (h : Below B w w') (hb : B ≤ b) (t : Sp) : Below B w (setS w' b t) := by
  repeat (refine set_below ?_ hb _)
  exact h
/-- Two spans' boxes, and the answer's. -/
structure PM (w0 : World) (a b : Sp) (w : World) : Prop where
  pa : SBox w w0.heap.size a
  pb : SBox w (w0.heap.size + 1) b
  pz : SBox w (w0.heap.size + 1 + 1) Sp.all
  fa : Fr w w0.heap.size
  fb : Fr w (w0.heap.size + 1)
  fz : Fr w (w0.heap.size + 1 + 1)
  be : Below w0.heap.size w0 w
theorem PM.below {w0 w w' : World} {a b : Sp} (h : PM w0 a b w) (hb : Below w.heap.size w w') : PM w0 a b w' := ⟨h.pa.below hb, h.pb.below hb, h.pz.below hb, h.fa.below hb, h.fb.below hb, h.fz.below hb, on h.be hb⟩
theorem PM.new (w : World) (a b : Sp) (T1 T2 T3 : TypeId) : PM w a b (((w.alloc (sobj a T1)).alloc (sobj b T2)).alloc (sobj Sp.all T3)) := by
  refine ⟨((SBox.new w a T1).alloc _).alloc _, ?_, ?_, ((Fr.new w _ T1).alloc _).alloc _, ?_, ?_, back2 (alloc1 _ _)⟩
  · have := (SBox.new (w.alloc (sobj a T1)) b T2).alloc (sobj Sp.all T3); simpa using this
  · have := SBox.new ((w.alloc (sobj a T1)).alloc (sobj b T2)) Sp.all T3; simpa using this
  · have := (Fr.new (w.alloc (sobj a T1)) #[.bool b.no, .bool b.hl, .bool b.ol, .bool b.lo.t, .int .i64 b.lo.n, .string b.lo.s, .bool b.hh, .bool b.oh, .bool b.hi.t, .int .i64 b.hi.n, .string b.hi.s] T2).alloc (sobj Sp.all T3); simpa using this
  · have := Fr.new ((w.alloc (sobj a T1)).alloc (sobj b T2)) #[.bool Sp.all.no, .bool Sp.all.hl, .bool Sp.all.ol, .bool Sp.all.lo.t, .int .i64 Sp.all.lo.n, .string Sp.all.lo.s, .bool Sp.all.hh, .bool Sp.all.oh, .bool Sp.all.hi.t, .int .i64 Sp.all.hi.n, .string Sp.all.hi.s] T3; simpa using this
theorem PM.put12 {w0 w : World} {a b : Sp} (h : PM w0 a b w) (x y : Sp) : PM w0 x y (setS (setS w w0.heap.size x) (w0.heap.size + 1) y) :=
  ⟨(h.pa.put x).offS y (by omega), (h.pb.offS x (by omega)).put y, (h.pz.offS x (by omega)).offS y (by omega), (h.fa.setS x).setS y, (h.fb.setS x).setS y, (h.fz.setS x).setS y, below_setS (below_setS h.be (Nat.le_refl _) x) (by omega) y⟩
theorem PM.put21 {w0 w : World} {a b : Sp} (h : PM w0 a b w) (x y : Sp) : PM w0 x y (setS (setS w (w0.heap.size + 1) y) w0.heap.size x) :=
  ⟨(h.pa.offS y (by omega)).put x, (h.pb.put y).offS x (by omega), (h.pz.offS y (by omega)).offS x (by omega), (h.fa.setS y).setS x, (h.fb.setS y).setS x, (h.fz.setS y).setS x, below_setS (below_setS h.be (by omega) y) (Nat.le_refl _) x⟩
set_option maxHeartbeats 4000000 in
theorem meet_any (a b : Sp) (w : World) : Calls Try.prog 81 #[a.val, b.val] w fun e w' => e = .returned (meetS a b).val ∧ Below w.heap.size w w' := by
  have HA : Hid (meetS a b = meetC (cleanS a) (cleanS b)) := rfl
  have CC : Hid (∀ (s : Sp) w1, PM w a b w1 → Calls Try.prog 85 #[s.val] w1 fun e w' => e = .returned (cleanS s).val ∧ PM w a b w') := fun s w1 h => (clean_any s w1).mono fun e w' h' => ⟨h'.1, h.below h'.2⟩
  obtain ⟨ca, hca⟩ : ∃ s, cleanS a = s := ⟨_, rfl⟩
  obtain ⟨cb, hcb⟩ : ∃ s, cleanS b = s := ⟨_, rfl⟩
  rw [hca, hcb] at HA
  have HM : Hid (meetC ca cb = if ca.no || cb.no then Sp.none else btw (innerE (lowE ca) (lowE cb) 1) (innerE (uppE ca) (uppE cb) (-1))) := rfl
  have LA : Hid (∀ w1, Calls Try.prog 88 #[ca.val] w1 fun e w' => e = .returned (lowE ca).val ∧ Below w1.heap.size w1 w') := fun w1 => lower_any ca w1
  have LB : Hid (∀ w1, Calls Try.prog 88 #[cb.val] w1 fun e w' => e = .returned (lowE cb).val ∧ Below w1.heap.size w1 w') := fun w1 => lower_any cb w1
  have UA : Hid (∀ w1, Calls Try.prog 89 #[ca.val] w1 fun e w' => e = .returned (uppE ca).val ∧ Below w1.heap.size w1 w') := fun w1 => upper_any ca w1
  have UB : Hid (∀ w1, Calls Try.prog 89 #[cb.val] w1 fun e w' => e = .returned (uppE cb).val ∧ Below w1.heap.size w1 w') := fun w1 => upper_any cb w1
  have IL : Hid (∀ w1, Calls Try.prog 87 #[(lowE ca).val, (lowE cb).val, .int .i64 1] w1 fun e w' => e = .returned (innerE (lowE ca) (lowE cb) 1).val ∧ Below w1.heap.size w1 w') := fun w1 => inner_any _ _ _ w1 (by decide)
  have IU : Hid (∀ w1, Calls Try.prog 87 #[(uppE ca).val, (uppE cb).val, .int .i64 (-1)] w1 fun e w' => e = .returned (innerE (uppE ca) (uppE cb) (-1)).val ∧ Below w1.heap.size w1 w') := fun w1 => inner_any _ _ _ w1 (by decide)
  have BT : Hid (∀ w1, Calls Try.prog 86 #[(innerE (lowE ca) (lowE cb) 1).val, (innerE (uppE ca) (uppE cb) (-1)).val] w1 fun e w' => e = .returned (btw (innerE (lowE ca) (lowE cb) 1) (innerE (uppE ca) (uppE cb) (-1))).val ∧ Below w1.heap.size w1 w') := fun w1 => between_any _ _ w1
  generalize btw (innerE (lowE ca) (lowE cb) 1) (innerE (uppE ca) (uppE cb) (-1)) = r1 at *
  generalize innerE (lowE ca) (lowE cb) 1 = i1 at *
  generalize innerE (uppE ca) (uppE cb) (-1) = i2 at *
  generalize lowE ca = l1 at *
  generalize lowE cb = l2 at *
  generalize uppE ca = u1' at *
  generalize uppE cb = u2' at *
  generalize meetC ca cb = r at *
  generalize meetS a b = r' at *
  have HN : Hid _ := PM.new w a b 36 36 36
  unfold Sp.val En.val at *
  go_enter Try.func81, Try.ntmps81
  go_upto_region 1 with fail
  go_cut [] from 5 to 8 (fun wx => Hid (PM w ca cb wx))
  case first =>
    clear LA LB UA UB IL IU BT HA HM
    have X0 : PM w a b _ := HN.out.below (Below.refl _ _).drew
    clear HN
    obtain ⟨⟨a0, a1, a2, a3, a4, a5, a6, a7, a8, a9, a10⟩, ⟨b0, b1, b2, b3, b4, b5, b6, b7, b8, b9, b10⟩, _, ⟨la, fa⟩, ⟨lb, fb⟩, _, _⟩ := id X0
    go_region_with (go_at_call 85; refine Calls.mono (CC.out _ _ ‹PM w a b _›) ?_; rintro e wk ⟨rfl, hk⟩; obtain ⟨⟨a0, a1, a2, a3, a4, a5, a6, a7, a8, a9, a10⟩, ⟨b0, b1, b2, b3, b4, b5, b6, b7, b8, b9, b10⟩, _, ⟨la, fa⟩, ⟨lb, fb⟩, _, _⟩ := id hk)
    all_goals
      go_wp2_with fail
      go_meet
      rw [← hca, ← hcb]
      exact PM.put12 ‹PM w a b _› (cleanS a) (cleanS b)
  case rest =>
  skip
  obtain ⟨na, hna⟩ : ∃ o, ca.no = o := ⟨_, rfl⟩
  obtain ⟨nb, hnb⟩ : ∃ o, cb.no = o := ⟨_, rfl⟩
  rw [hna, hnb] at HM
  have HXc : Hid (PM w ca cb wc) := hcut.out
  have HBc : Hid (Below w.heap.size w wc) := hcut.out.be
  obtain ⟨⟨a0, a1, a2, a3, a4, a5, a6, a7, a8, a9, a10⟩, ⟨b0, b1, b2, b3, b4, b5, b6, b7, b8, b9, b10⟩, ⟨z0, z1, z2, z3, z4, z5, z6, z7, z8, z9, z10⟩, _, _, ⟨lz, fz⟩, _⟩ := hcut.out
  clear hcut HN CC hca hcb
  rw [hna] at a0
  rw [hnb] at b0
  cases na
  case true =>
    clear HXc LA LB UA UB IL IU BT hna hnb
    go_wp2_with fail
    refine bodyPost_ret (v := Sp.none.val) (by simp [results, Try.results81, go_sem, Sp.val, Sp.none, Val.zero, z0, z1, z2, z3, z4, z5, z6, z7, z8, z9, z10]) rfl ⟨by rw [HA.out, HM.out]; rfl, ?_⟩
    repeat (refine set_below ?_ (by omega) _)
    exact HBc.out
  cases nb
  case true =>
    clear HXc LA LB UA UB IL IU BT hna hnb
    go_wp2_with fail
    refine bodyPost_ret (v := Sp.none.val) (by simp [results, Try.results81, go_sem, Sp.val, Sp.none, Val.zero, z0, z1, z2, z3, z4, z5, z6, z7, z8, z9, z10]) rfl ⟨by rw [HA.out, HM.out]; rfl, ?_⟩
    repeat (refine set_below ?_ (by omega) _)
    exact HBc.out
  have HR : Hid (r = r1) := HM.out
  have HD : Hid (∀ w1, PM w ca cb w1 → SBox w1 w.heap.size ⟨false, ca.hl, ca.ol, ca.lo, ca.hh, ca.oh, ca.hi⟩ ∧ SBox w1 (w.heap.size + 1) ⟨false, cb.hl, cb.ol, cb.lo, cb.hh, cb.oh, cb.hi⟩) := fun w1 h => by
    have h1 := h.pa
    have h2 := h.pb
    rw [show ca = ⟨false, ca.hl, ca.ol, ca.lo, ca.hh, ca.oh, ca.hi⟩ from by rw [← hna]] at h1
    rw [show cb = ⟨false, cb.hl, cb.ol, cb.lo, cb.hh, cb.oh, cb.hi⟩ from by rw [← hnb]] at h2
    exact ⟨h1, h2⟩
  rw [hna] at LA UA
  rw [hnb] at LB UB
  clear HM hna hnb
  go_wp2_with fail
  have X0 : PM w ca cb _ := HXc.out.below (Below.refl _ _).drew
  clear a0 a1 a2 a3 a4 a5 a6 a7 a8 a9 a10 b0 b1 b2 b3 b4 b5 b6 b7 b8 b9 b10 z0 z1 z2 z3 z4 z5 z6 z7 z8 z9 z10 lz fz HXc HBc

  refine wp_region_held_drew (S := fun w' => (w'.cell? ⟨w.heap.size, 0, none⟩ = some (.bool false) ∧ w'.cell? ⟨w.heap.size, 1, none⟩ = some (.bool ca.hl) ∧ w'.cell? ⟨w.heap.size, 2, none⟩ = some (.bool ca.ol) ∧ w'.cell? ⟨w.heap.size, 3, none⟩ = some (.bool ca.lo.t) ∧ w'.cell? ⟨w.heap.size, 4, none⟩ = some (.int .i64 ca.lo.n) ∧ w'.cell? ⟨w.heap.size, 5, none⟩ = some (.string ca.lo.s) ∧ w'.cell? ⟨w.heap.size, 6, none⟩ = some (.bool ca.hh) ∧ w'.cell? ⟨w.heap.size, 7, none⟩ = some (.bool ca.oh) ∧ w'.cell? ⟨w.heap.size, 8, none⟩ = some (.bool ca.hi.t) ∧ w'.cell? ⟨w.heap.size, 9, none⟩ = some (.int .i64 ca.hi.n) ∧ w'.cell? ⟨w.heap.size, 10, none⟩ = some (.string ca.hi.s)) ∧ (w'.cell? ⟨w.heap.size + 1, 0, none⟩ = some (.bool false) ∧ w'.cell? ⟨w.heap.size + 1, 1, none⟩ = some (.bool cb.hl) ∧ w'.cell? ⟨w.heap.size + 1, 2, none⟩ = some (.bool cb.ol) ∧ w'.cell? ⟨w.heap.size + 1, 3, none⟩ = some (.bool cb.lo.t) ∧ w'.cell? ⟨w.heap.size + 1, 4, none⟩ = some (.int .i64 cb.lo.n) ∧ w'.cell? ⟨w.heap.size + 1, 5, none⟩ = some (.string cb.lo.s) ∧ w'.cell? ⟨w.heap.size + 1, 6, none⟩ = some (.bool cb.hh) ∧ w'.cell? ⟨w.heap.size + 1, 7, none⟩ = some (.bool cb.oh) ∧ w'.cell? ⟨w.heap.size + 1, 8, none⟩ = some (.bool cb.hi.t) ∧ w'.cell? ⟨w.heap.size + 1, 9, none⟩ = some (.int .i64 cb.hi.n) ∧ w'.cell? ⟨w.heap.size + 1, 10, none⟩ = some (.string cb.hi.s))) (by kernel_rfl) ?_ (fun hHeld => ?_)
  · exact ⟨⟨(HD.out _ X0).1.c0, (HD.out _ X0).1.c1, (HD.out _ X0).1.c2, (HD.out _ X0).1.c3, (HD.out _ X0).1.c4, (HD.out _ X0).1.c5, (HD.out _ X0).1.c6, (HD.out _ X0).1.c7, (HD.out _ X0).1.c8, (HD.out _ X0).1.c9, (HD.out _ X0).1.c10⟩, ⟨(HD.out _ X0).2.c0, (HD.out _ X0).2.c1, (HD.out _ X0).2.c2, (HD.out _ X0).2.c3, (HD.out _ X0).2.c4, (HD.out _ X0).2.c5, (HD.out _ X0).2.c6, (HD.out _ X0).2.c7, (HD.out _ X0).2.c8, (HD.out _ X0).2.c9, (HD.out _ X0).2.c10⟩⟩
  (try clear hK K)
  refine wpAnyH_take (i := 0) (v := ?_) rfl (by kernel_rfl) (by kernel_rfl) (by kernel_rfl) (fun _ _ _ h => h) (Or.inl ⟨by rfl, ?_⟩) (by assumption) ?_
  rotate_left
  · intro w hSw; (try dsimp only at hSw); go_simp; (try with_reducible rfl)
  (try simp only [Act.put, List.getElem_toArray, List.getElem_cons_zero, List.setIfInBounds_toArray, List.set_cons_zero, List.set_cons_succ])
  refine wpAnyH_take (i := 2) (v := ?_) rfl (by kernel_rfl) (by kernel_rfl) (by kernel_rfl) (fun _ _ _ h => h) (Or.inl ⟨by rfl, ?_⟩) (by assumption) ?_
  rotate_left
  · intro w hSw; (try dsimp only at hSw); go_simp; (try with_reducible rfl)
  (try simp only [Act.put, List.getElem_toArray, List.getElem_cons_succ, List.getElem_cons_zero, List.setIfInBounds_toArray, List.set_cons_zero, List.set_cons_succ])
  refine wpAnyH_take (i := 5) (v := ?_) rfl (by kernel_rfl) (by kernel_rfl) (by kernel_rfl) (fun _ _ _ h => h) (Or.inl ⟨by rfl, ?_⟩) (by assumption) ?_
  rotate_left
  · intro w hSw; (try dsimp only at hSw); go_simp; (try with_reducible rfl)
  (try simp only [Act.put, List.getElem_toArray, List.getElem_cons_succ, List.getElem_cons_zero, List.setIfInBounds_toArray, List.set_cons_zero, List.set_cons_succ])
  refine wpAnyH_take (i := 7) (v := ?_) rfl (by kernel_rfl) (by kernel_rfl) (by kernel_rfl) (fun _ _ _ h => h) (Or.inl ⟨by rfl, ?_⟩) (by assumption) ?_
  rotate_left
  · intro w hSw; (try dsimp only at hSw); go_simp; (try with_reducible rfl)
  (try simp only [Act.put, List.getElem_toArray, List.getElem_cons_succ, List.getElem_cons_zero, List.setIfInBounds_toArray, List.set_cons_zero, List.set_cons_succ])
  (try clear hK K)
  refine wpAnyH_ready (rs := [1]) (by kernel_rfl) (by simp) ?_
  refine AllReadyH.cons rfl (fun K hK => ?_) AllReadyH.nil
  go_simp
  (refine Calls.mono (LA.out _) ?_; rintro e w1 ⟨rfl, hb1⟩; have X1 := X0.below hb1)
  refine hK.out _ _ ?_ (fun hHeld => ?_)
  · exact ⟨⟨(HD.out _ X1).1.c0, (HD.out _ X1).1.c1, (HD.out _ X1).1.c2, (HD.out _ X1).1.c3, (HD.out _ X1).1.c4, (HD.out _ X1).1.c5, (HD.out _ X1).1.c6, (HD.out _ X1).1.c7, (HD.out _ X1).1.c8, (HD.out _ X1).1.c9, (HD.out _ X1).1.c10⟩, ⟨(HD.out _ X1).2.c0, (HD.out _ X1).2.c1, (HD.out _ X1).2.c2, (HD.out _ X1).2.c3, (HD.out _ X1).2.c4, (HD.out _ X1).2.c5, (HD.out _ X1).2.c6, (HD.out _ X1).2.c7, (HD.out _ X1).2.c8, (HD.out _ X1).2.c9, (HD.out _ X1).2.c10⟩⟩
  (try clear hK K)
  refine wpAnyH_ready (rs := [3]) (by kernel_rfl) (by simp) ?_
  refine AllReadyH.cons rfl (fun K hK => ?_) AllReadyH.nil
  go_simp
  (refine Calls.mono (LB.out _) ?_; rintro e w2 ⟨rfl, hb2⟩; have X2 := X1.below hb2)
  refine hK.out _ _ ?_ (fun hHeld => ?_)
  · exact ⟨⟨(HD.out _ X2).1.c0, (HD.out _ X2).1.c1, (HD.out _ X2).1.c2, (HD.out _ X2).1.c3, (HD.out _ X2).1.c4, (HD.out _ X2).1.c5, (HD.out _ X2).1.c6, (HD.out _ X2).1.c7, (HD.out _ X2).1.c8, (HD.out _ X2).1.c9, (HD.out _ X2).1.c10⟩, ⟨(HD.out _ X2).2.c0, (HD.out _ X2).2.c1, (HD.out _ X2).2.c2, (HD.out _ X2).2.c3, (HD.out _ X2).2.c4, (HD.out _ X2).2.c5, (HD.out _ X2).2.c6, (HD.out _ X2).2.c7, (HD.out _ X2).2.c8, (HD.out _ X2).2.c9, (HD.out _ X2).2.c10⟩⟩
  (try clear hK K)
  refine wpAnyH_ready (rs := [4]) (by kernel_rfl) (by simp) ?_
  refine AllReadyH.cons rfl (fun K hK => ?_) AllReadyH.nil
  go_simp
  (refine Calls.mono (IL.out _) ?_; rintro e w3 ⟨rfl, hb3⟩; have X3 := X2.below hb3)
  refine hK.out _ _ ?_ (fun hHeld => ?_)
  · exact ⟨⟨(HD.out _ X3).1.c0, (HD.out _ X3).1.c1, (HD.out _ X3).1.c2, (HD.out _ X3).1.c3, (HD.out _ X3).1.c4, (HD.out _ X3).1.c5, (HD.out _ X3).1.c6, (HD.out _ X3).1.c7, (HD.out _ X3).1.c8, (HD.out _ X3).1.c9, (HD.out _ X3).1.c10⟩, ⟨(HD.out _ X3).2.c0, (HD.out _ X3).2.c1, (HD.out _ X3).2.c2, (HD.out _ X3).2.c3, (HD.out _ X3).2.c4, (HD.out _ X3).2.c5, (HD.out _ X3).2.c6, (HD.out _ X3).2.c7, (HD.out _ X3).2.c8, (HD.out _ X3).2.c9, (HD.out _ X3).2.c10⟩⟩
  (try clear hK K)
  refine wpAnyH_ready (rs := [6]) (by kernel_rfl) (by simp) ?_
  refine AllReadyH.cons rfl (fun K hK => ?_) AllReadyH.nil
  go_simp
  (refine Calls.mono (UA.out _) ?_; rintro e w4 ⟨rfl, hb4⟩; have X4 := X3.below hb4)
  refine hK.out _ _ ?_ (fun hHeld => ?_)
  · exact ⟨⟨(HD.out _ X4).1.c0, (HD.out _ X4).1.c1, (HD.out _ X4).1.c2, (HD.out _ X4).1.c3, (HD.out _ X4).1.c4, (HD.out _ X4).1.c5, (HD.out _ X4).1.c6, (HD.out _ X4).1.c7, (HD.out _ X4).1.c8, (HD.out _ X4).1.c9, (HD.out _ X4).1.c10⟩, ⟨(HD.out _ X4).2.c0, (HD.out _ X4).2.c1, (HD.out _ X4).2.c2, (HD.out _ X4).2.c3, (HD.out _ X4).2.c4, (HD.out _ X4).2.c5, (HD.out _ X4).2.c6, (HD.out _ X4).2.c7, (HD.out _ X4).2.c8, (HD.out _ X4).2.c9, (HD.out _ X4).2.c10⟩⟩
  (try clear hK K)
  refine wpAnyH_ready (rs := [8]) (by kernel_rfl) (by simp) ?_
  refine AllReadyH.cons rfl (fun K hK => ?_) AllReadyH.nil
  go_simp
  (refine Calls.mono (UB.out _) ?_; rintro e w5 ⟨rfl, hb5⟩; have X5 := X4.below hb5)
  refine hK.out _ _ ?_ (fun hHeld => ?_)
  · exact ⟨⟨(HD.out _ X5).1.c0, (HD.out _ X5).1.c1, (HD.out _ X5).1.c2, (HD.out _ X5).1.c3, (HD.out _ X5).1.c4, (HD.out _ X5).1.c5, (HD.out _ X5).1.c6, (HD.out _ X5).1.c7, (HD.out _ X5).1.c8, (HD.out _ X5).1.c9, (HD.out _ X5).1.c10⟩, ⟨(HD.out _ X5).2.c0, (HD.out _ X5).2.c1, (HD.out _ X5).2.c2, (HD.out _ X5).2.c3, (HD.out _ X5).2.c4, (HD.out _ X5).2.c5, (HD.out _ X5).2.c6, (HD.out _ X5).2.c7, (HD.out _ X5).2.c8, (HD.out _ X5).2.c9, (HD.out _ X5).2.c10⟩⟩
  (try clear hK K)
  refine wpAnyH_ready (rs := [9]) (by kernel_rfl) (by simp) ?_
  refine AllReadyH.cons rfl (fun K hK => ?_) AllReadyH.nil
  go_simp
  (refine Calls.mono (IU.out _) ?_; rintro e w6 ⟨rfl, hb6⟩; have X6 := X5.below hb6)
  refine hK.out _ _ ?_ (fun hHeld => ?_)
  · exact ⟨⟨(HD.out _ X6).1.c0, (HD.out _ X6).1.c1, (HD.out _ X6).1.c2, (HD.out _ X6).1.c3, (HD.out _ X6).1.c4, (HD.out _ X6).1.c5, (HD.out _ X6).1.c6, (HD.out _ X6).1.c7, (HD.out _ X6).1.c8, (HD.out _ X6).1.c9, (HD.out _ X6).1.c10⟩, ⟨(HD.out _ X6).2.c0, (HD.out _ X6).2.c1, (HD.out _ X6).2.c2, (HD.out _ X6).2.c3, (HD.out _ X6).2.c4, (HD.out _ X6).2.c5, (HD.out _ X6).2.c6, (HD.out _ X6).2.c7, (HD.out _ X6).2.c8, (HD.out _ X6).2.c9, (HD.out _ X6).2.c10⟩⟩
  (try clear hK K)
  refine wpAnyH_ready (rs := [10]) (by kernel_rfl) (by simp) ?_
  refine AllReadyH.cons rfl (fun K hK => ?_) AllReadyH.nil
  go_simp
  (refine Calls.mono (BT.out _) ?_; rintro e w7 ⟨rfl, hb7⟩; have X7 := X6.below hb7)
  refine hK.out _ _ ?_ (fun hHeld => ?_)
  · exact ⟨⟨(HD.out _ X7).1.c0, (HD.out _ X7).1.c1, (HD.out _ X7).1.c2, (HD.out _ X7).1.c3, (HD.out _ X7).1.c4, (HD.out _ X7).1.c5, (HD.out _ X7).1.c6, (HD.out _ X7).1.c7, (HD.out _ X7).1.c8, (HD.out _ X7).1.c9, (HD.out _ X7).1.c10⟩, ⟨(HD.out _ X7).2.c0, (HD.out _ X7).2.c1, (HD.out _ X7).2.c2, (HD.out _ X7).2.c3, (HD.out _ X7).2.c4, (HD.out _ X7).2.c5, (HD.out _ X7).2.c6, (HD.out _ X7).2.c7, (HD.out _ X7).2.c8, (HD.out _ X7).2.c9, (HD.out _ X7).2.c10⟩⟩
  obtain ⟨z0, z1, z2, z3, z4, z5, z6, z7, z8, z9, z10⟩ := X7.pz
  obtain ⟨lz, fz⟩ := X7.fz
  have HX : Hid (PM w ca cb w7) := X7
  clear X0 X1 X2 X3 X4 X5 X6 X7 hb1 hb2 hb3 hb4 hb5 hb6 hb7 LA LB UA UB IL IU BT
  (try clear hK K)
  refine wpAnyH_ready (rs := [11]) (by kernel_rfl) (by simp) ?_
  refine AllReadyH.cons rfl (fun K hK => ?_) AllReadyH.nil
  go_simp
  refine hK.out _ _ ?_ (fun hHeld => ?_)
  · refine ⟨SBox.conj (s := ⟨false, ca.hl, ca.ol, ca.lo, ca.hh, ca.oh, ca.hi⟩) ?_, SBox.conj (s := ⟨false, cb.hl, cb.ol, cb.lo, cb.hh, cb.oh, cb.hi⟩) ?_⟩
    · repeat (refine SBox.far ?_ (by omega))
      exact (HD.out _ HX.out).1
    · repeat (refine SBox.far ?_ (by omega))
      exact (HD.out _ HX.out).2
  (try clear hK K)
  refine wpAnyH_done (by kernel_rfl) ?_ _
  go_wp2_with fail
  refine bodyPost_ret (v := r1.val) (by simp [results, Try.results81, go_sem, Sp.val, z0, z1, z2, z3, z4, z5, z6, z7, z8, z9, z10]) rfl ⟨by rw [HA.out, HR.out]; rfl, ?_⟩
  repeat (refine set_below ?_ (by omega) _)
  exact HX.out.be
end Go.Proofs.Ytafkpfhhmmnpeaa.Val
