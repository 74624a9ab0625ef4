/- What leafKeys of package normal answers. -/
import Derived.Test.YtfkhfplibhnceaaDoorNormHull
import Derived.Test.YtfkhfplibhnceaaDoorNormOpp3
namespace Go.Proofs.YtfkhfplibhnceaaDoor.Val
open Go.RowKit

/-- A predicate's box, and the answer's. -/
structure PS (w0 : World) (p : PT) (w : World) : Prop where
  pb : Box w w0.heap.size p
  pz : SBox w (w0.heap.size + 1) Sp.all
  fz : Fr w (w0.heap.size + 1)
  be : Below w0.heap.size w0 w
theorem PS.below {w0 w w' : World} {p : PT} (h : PS w0 p w) (hb : Below w.heap.size w w') : PS w0 p w' := ⟨h.pb.below hb, h.pz.below hb, h.fz.below hb, on h.be hb⟩
theorem PS.new (w : World) (p : PT) (T1 T2 : TypeId) : PS w p ((w.alloc (pobj p T1)).alloc (sobj Sp.all T2)) := by
  refine ⟨(Box.new w p T1).alloc _, ?_, ?_, back1 (alloc1 _ _)⟩
  · have := SBox.new (w.alloc (pobj p T1)) Sp.all T2; simpa using this
  · have := Fr.new (w.alloc (pobj p T1)) #[.bool Sp.all.no, .bool Sp.all.hl, .bool Sp.all.ol, .bool Sp.all.lo.t, .int .i64 Sp.all.lo.n, .string Sp.all.lo.s, .bool Sp.all.hh, .bool Sp.all.oh, .bool Sp.all.hi.t, .int .i64 Sp.all.hi.n, .string Sp.all.hi.s] T2; simpa using this
set_option maxHeartbeats 2000000 in
theorem leaf_3 (p : PT) (h : p.op = 3) (w : World) (ap : Option Addr) (np cp : Nat) (hlp : p.lv = .slice ap np cp) : Calls Tryd.prog 55 #[p.val] w fun e w' => e = .returned (btw (closedE p.v) (closedE p.v)).val ∧ Below w.heap.size w w' := by
  have H1 : Hid (∀ w1, Calls Tryd.prog 35 #[V p.v.t p.v.n p.v.s] w1 fun e w' => e = .returned (closedE p.v).val ∧ Below w1.heap.size w1 w') := fun w1 => closed_any p.v w1
  have H3 : Hid (∀ w1, Calls Tryd.prog 39 #[(closedE p.v).val, (closedE p.v).val] w1 fun e w' => e = .returned (btw (closedE p.v) (closedE p.v)).val ∧ Below w1.heap.size w1 w') := fun w1 => between_any _ _ w1
  generalize btw (closedE p.v) (closedE p.v) = r at *
  generalize closedE p.v = c1 at *
  have HN : Hid _ := PS.new w p 29 35
  unfold PT.val En.val Sp.val at *
  rw [hlp, h]
  rw [pobj, hlp, h] at HN
  clear hlp h
  go_enter Tryd.func55, Tryd.ntmps55
  go_wp2_with fail
  have X0 : PS w p _ := HN.out.below (Below.refl _ _).drew
  clear HN
  refine wp_region_held_drew (S := fun w' => w'.cell? ⟨w.heap.size, 2, none⟩ = some (.bool p.v.t) ∧ w'.cell? ⟨w.heap.size, 3, none⟩ = some (.int .i64 p.v.n) ∧ w'.cell? ⟨w.heap.size, 4, none⟩ = some (.string p.v.s) ∧ w'.cell? ⟨w.heap.size, 5, none⟩ = some (.bool p.w.t) ∧ w'.cell? ⟨w.heap.size, 6, none⟩ = some (.int .i64 p.w.n) ∧ w'.cell? ⟨w.heap.size, 7, none⟩ = some (.string p.w.s)) (by kernel_rfl) ?_ (fun hHeld => ?_)
  · exact ⟨X0.pb.c2, X0.pb.c3, X0.pb.c4, X0.pb.c5, X0.pb.c6, X0.pb.c7⟩
  (try clear hK K)
  refine wpAnyH_take (i := 0) (v := ?_) rfl (by kernel_rfl) (by kernel_rfl) (by kernel_rfl) (fun _ _ _ h => h) (Or.inl ⟨by rfl, ?_⟩) (by assumption) ?_
  rotate_left
  · intro w hSw; (try dsimp only at hSw); go_simp; (try with_reducible rfl)
  (try simp only [Act.put, List.getElem_toArray, List.getElem_cons_zero, List.setIfInBounds_toArray, List.set_cons_zero, List.set_cons_succ])
  refine wpAnyH_take (i := 1) (v := ?_) rfl (by kernel_rfl) (by kernel_rfl) (by kernel_rfl) (fun _ _ _ h => h) (Or.inl ⟨by rfl, ?_⟩) (by assumption) ?_
  rotate_left
  · intro w hSw; (try dsimp only at hSw); go_simp; (try with_reducible rfl)
  (try simp only [Act.put, List.getElem_toArray, List.getElem_cons_succ, List.getElem_cons_zero, List.setIfInBounds_toArray, List.set_cons_zero, List.set_cons_succ])
  refine wpAnyH_take (i := 3) (v := ?_) rfl (by kernel_rfl) (by kernel_rfl) (by kernel_rfl) (fun _ _ _ h => h) (Or.inl ⟨by rfl, ?_⟩) (by assumption) ?_
  rotate_left
  · intro w hSw; (try dsimp only at hSw); go_simp; (try with_reducible rfl)
  (try simp only [Act.put, List.getElem_toArray, List.getElem_cons_succ, List.getElem_cons_zero, List.setIfInBounds_toArray, List.set_cons_zero, List.set_cons_succ])
  refine wpAnyH_take (i := 4) (v := ?_) rfl (by kernel_rfl) (by kernel_rfl) (by kernel_rfl) (fun _ _ _ h => h) (Or.inl ⟨by rfl, ?_⟩) (by assumption) ?_
  rotate_left
  · intro w hSw; (try dsimp only at hSw); go_simp; (try with_reducible rfl)
  (try simp only [Act.put, List.getElem_toArray, List.getElem_cons_succ, List.getElem_cons_zero, List.setIfInBounds_toArray, List.set_cons_zero, List.set_cons_succ])
  (try clear hK K)
  refine wpAnyH_ready (rs := [2]) (by kernel_rfl) (by simp) ?_
  refine AllReadyH.cons rfl (fun K hK => ?_) AllReadyH.nil
  go_simp
  (refine Calls.mono (H1.out _) ?_; rintro e w1 ⟨rfl, hb1⟩; have X1 := X0.below hb1)
  refine hK.out _ _ ?_ (fun hHeld => ?_)
  · exact ⟨X1.pb.c2, X1.pb.c3, X1.pb.c4, X1.pb.c5, X1.pb.c6, X1.pb.c7⟩
  (try clear hK K)
  refine wpAnyH_ready (rs := [5]) (by kernel_rfl) (by simp) ?_
  refine AllReadyH.cons rfl (fun K hK => ?_) AllReadyH.nil
  go_simp
  (refine Calls.mono (H1.out _) ?_; rintro e w2 ⟨rfl, hb2⟩; have X2 := X1.below hb2)
  refine hK.out _ _ ?_ (fun hHeld => ?_)
  · exact ⟨X2.pb.c2, X2.pb.c3, X2.pb.c4, X2.pb.c5, X2.pb.c6, X2.pb.c7⟩
  (try clear hK K)
  refine wpAnyH_ready (rs := [6]) (by kernel_rfl) (by simp) ?_
  refine AllReadyH.cons rfl (fun K hK => ?_) AllReadyH.nil
  go_simp
  (refine Calls.mono (H3.out _) ?_; rintro e w3 ⟨rfl, hb3⟩; have X3 := X2.below hb3)
  refine hK.out _ _ ?_ (fun hHeld => ?_)
  · exact ⟨X3.pb.c2, X3.pb.c3, X3.pb.c4, X3.pb.c5, X3.pb.c6, X3.pb.c7⟩
  obtain ⟨z0, z1, z2, z3, z4, z5, z6, z7, z8, z9, z10⟩ := X3.pz
  obtain ⟨lz, fz⟩ := X3.fz
  have HX : Hid (PS w p w3) := X3
  clear X0 X1 X2 X3 hb1 hb2 hb3 H1 H3
  (try clear hK K)
  refine wpAnyH_ready (rs := [7]) (by kernel_rfl) (by simp) ?_
  refine AllReadyH.cons rfl (fun K hK => ?_) AllReadyH.nil
  go_simp
  refine hK.out _ _ ?_ (fun hHeld => ?_)
  · obtain ⟨_, _, d2, d3, d4, d5, d6, d7, _⟩ := HX.out.pb
    refine ⟨?_, ?_, ?_, ?_, ?_, ?_⟩ <;> (repeat (refine cell_far ?_ (by omega))) <;> assumption
  (try clear hK K)
  refine wpAnyH_done (by kernel_rfl) ?_ _
  go_wp2_with fail
  refine bodyPost_ret (v := r.val) (by simp [results, Tryd.results55, go_sem, Sp.val, z0, z1, z2, z3, z4, z5, z6, z7, z8, z9, z10]) rfl ⟨rfl, ?_⟩
  repeat (refine set_below ?_ (by omega) _)
  exact HX.out.be
set_option maxHeartbeats 2000000 in
theorem leaf_9 (p : PT) (h : p.op = 9) (w : World) (ap : Option Addr) (np cp : Nat) (hlp : p.lv = .slice ap np cp) : Calls Tryd.prog 55 #[p.val] w fun e w' => e = .returned (btw (closedE p.v) (closedE p.w)).val ∧ Below w.heap.size w w' := by
  have H1 : Hid (∀ w1, Calls Tryd.prog 35 #[V p.v.t p.v.n p.v.s] w1 fun e w' => e = .returned (closedE p.v).val ∧ Below w1.heap.size w1 w') := fun w1 => closed_any p.v w1
  have H2 : Hid (∀ w1, Calls Tryd.prog 35 #[V p.w.t p.w.n p.w.s] w1 fun e w' => e = .returned (closedE p.w).val ∧ Below w1.heap.size w1 w') := fun w1 => closed_any p.w w1
  have H3 : Hid (∀ w1, Calls Tryd.prog 39 #[(closedE p.v).val, (closedE p.w).val] w1 fun e w' => e = .returned (btw (closedE p.v) (closedE p.w)).val ∧ Below w1.heap.size w1 w') := fun w1 => between_any _ _ w1
  generalize btw (closedE p.v) (closedE p.w) = r at *
  generalize closedE p.v = c1 at *
  generalize closedE p.w = c2 at *
  have HN : Hid _ := PS.new w p 29 35
  unfold PT.val En.val Sp.val at *
  rw [hlp, h]
  rw [pobj, hlp, h] at HN
  clear hlp h
  go_enter Tryd.func55, Tryd.ntmps55
  go_wp2_with fail
  have X0 : PS w p _ := HN.out.below (Below.refl _ _).drew
  clear HN
  refine wp_region_held_drew (S := fun w' => w'.cell? ⟨w.heap.size, 2, none⟩ = some (.bool p.v.t) ∧ w'.cell? ⟨w.heap.size, 3, none⟩ = some (.int .i64 p.v.n) ∧ w'.cell? ⟨w.heap.size, 4, none⟩ = some (.string p.v.s) ∧ w'.cell? ⟨w.heap.size, 5, none⟩ = some (.bool p.w.t) ∧ w'.cell? ⟨w.heap.size, 6, none⟩ = some (.int .i64 p.w.n) ∧ w'.cell? ⟨w.heap.size, 7, none⟩ = some (.string p.w.s)) (by kernel_rfl) ?_ (fun hHeld => ?_)
  · exact ⟨X0.pb.c2, X0.pb.c3, X0.pb.c4, X0.pb.c5, X0.pb.c6, X0.pb.c7⟩
  (try clear hK K)
  refine wpAnyH_take (i := 0) (v := ?_) rfl (by kernel_rfl) (by kernel_rfl) (by kernel_rfl) (fun _ _ _ h => h) (Or.inl ⟨by rfl, ?_⟩) (by assumption) ?_
  rotate_left
  · intro w hSw; (try dsimp only at hSw); go_simp; (try with_reducible rfl)
  (try simp only [Act.put, List.getElem_toArray, List.getElem_cons_zero, List.setIfInBounds_toArray, List.set_cons_zero, List.set_cons_succ])
  refine wpAnyH_take (i := 1) (v := ?_) rfl (by kernel_rfl) (by kernel_rfl) (by kernel_rfl) (fun _ _ _ h => h) (Or.inl ⟨by rfl, ?_⟩) (by assumption) ?_
  rotate_left
  · intro w hSw; (try dsimp only at hSw); go_simp; (try with_reducible rfl)
  (try simp only [Act.put, List.getElem_toArray, List.getElem_cons_succ, List.getElem_cons_zero, List.setIfInBounds_toArray, List.set_cons_zero, List.set_cons_succ])
  refine wpAnyH_take (i := 3) (v := ?_) rfl (by kernel_rfl) (by kernel_rfl) (by kernel_rfl) (fun _ _ _ h => h) (Or.inl ⟨by rfl, ?_⟩) (by assumption) ?_
  rotate_left
  · intro w hSw; (try dsimp only at hSw); go_simp; (try with_reducible rfl)
  (try simp only [Act.put, List.getElem_toArray, List.getElem_cons_succ, List.getElem_cons_zero, List.setIfInBounds_toArray, List.set_cons_zero, List.set_cons_succ])
  refine wpAnyH_take (i := 4) (v := ?_) rfl (by kernel_rfl) (by kernel_rfl) (by kernel_rfl) (fun _ _ _ h => h) (Or.inl ⟨by rfl, ?_⟩) (by assumption) ?_
  rotate_left
  · intro w hSw; (try dsimp only at hSw); go_simp; (try with_reducible rfl)
  (try simp only [Act.put, List.getElem_toArray, List.getElem_cons_succ, List.getElem_cons_zero, List.setIfInBounds_toArray, List.set_cons_zero, List.set_cons_succ])
  (try clear hK K)
  refine wpAnyH_ready (rs := [2]) (by kernel_rfl) (by simp) ?_
  refine AllReadyH.cons rfl (fun K hK => ?_) AllReadyH.nil
  go_simp
  (refine Calls.mono (H1.out _) ?_; rintro e w1 ⟨rfl, hb1⟩; have X1 := X0.below hb1)
  refine hK.out _ _ ?_ (fun hHeld => ?_)
  · exact ⟨X1.pb.c2, X1.pb.c3, X1.pb.c4, X1.pb.c5, X1.pb.c6, X1.pb.c7⟩
  (try clear hK K)
  refine wpAnyH_ready (rs := [5]) (by kernel_rfl) (by simp) ?_
  refine AllReadyH.cons rfl (fun K hK => ?_) AllReadyH.nil
  go_simp
  (refine Calls.mono (H2.out _) ?_; rintro e w2 ⟨rfl, hb2⟩; have X2 := X1.below hb2)
  refine hK.out _ _ ?_ (fun hHeld => ?_)
  · exact ⟨X2.pb.c2, X2.pb.c3, X2.pb.c4, X2.pb.c5, X2.pb.c6, X2.pb.c7⟩
  (try clear hK K)
  refine wpAnyH_ready (rs := [6]) (by kernel_rfl) (by simp) ?_
  refine AllReadyH.cons rfl (fun K hK => ?_) AllReadyH.nil
  go_simp
  (refine Calls.mono (H3.out _) ?_; rintro e w3 ⟨rfl, hb3⟩; have X3 := X2.below hb3)
  refine hK.out _ _ ?_ (fun hHeld => ?_)
  · exact ⟨X3.pb.c2, X3.pb.c3, X3.pb.c4, X3.pb.c5, X3.pb.c6, X3.pb.c7⟩
  obtain ⟨z0, z1, z2, z3, z4, z5, z6, z7, z8, z9, z10⟩ := X3.pz
  obtain ⟨lz, fz⟩ := X3.fz
  have HX : Hid (PS w p w3) := X3
  clear X0 X1 X2 X3 hb1 hb2 hb3 H1 H2 H3
  (try clear hK K)
  refine wpAnyH_ready (rs := [7]) (by kernel_rfl) (by simp) ?_
  refine AllReadyH.cons rfl (fun K hK => ?_) AllReadyH.nil
  go_simp
  refine hK.out _ _ ?_ (fun hHeld => ?_)
  · obtain ⟨_, _, d2, d3, d4, d5, d6, d7, _⟩ := HX.out.pb
    refine ⟨?_, ?_, ?_, ?_, ?_, ?_⟩ <;> (repeat (refine cell_far ?_ (by omega))) <;> assumption
  (try clear hK K)
  refine wpAnyH_done (by kernel_rfl) ?_ _
  go_wp2_with fail
  refine bodyPost_ret (v := r.val) (by simp [results, Tryd.results55, go_sem, Sp.val, z0, z1, z2, z3, z4, z5, z6, z7, z8, z9, z10]) rfl ⟨rfl, ?_⟩
  repeat (refine set_below ?_ (by omega) _)
  exact HX.out.be
set_option maxHeartbeats 2000000 in
theorem leaf_5 (p : PT) (h : p.op = 5) (w : World) (ap : Option Addr) (np cp : Nat) (hlp : p.lv = .slice ap np cp) : Calls Tryd.prog 55 #[p.val] w fun e w' => e = .returned (btw (En.zero) (openE p.v)).val ∧ Below w.heap.size w w' := by
  have H1 : Hid (∀ w1, Calls Tryd.prog 62 #[V p.v.t p.v.n p.v.s] w1 fun e w' => e = .returned (openE p.v).val ∧ Below w1.heap.size w1 w') := fun w1 => open_any p.v w1
  have H3 : Hid (∀ w1, Calls Tryd.prog 39 #[(En.zero).val, (openE p.v).val] w1 fun e w' => e = .returned (btw (En.zero) (openE p.v)).val ∧ Below w1.heap.size w1 w') := fun w1 => between_any _ _ w1
  generalize btw (En.zero) (openE p.v) = r at *
  generalize openE p.v = c1 at *
  have HN : Hid _ := PS.new w p 29 35
  unfold PT.val En.val Sp.val at *
  simp only [En.zero, Val.zero] at H3
  rw [hlp, h]
  rw [pobj, hlp, h] at HN
  clear hlp h
  go_enter Tryd.func55, Tryd.ntmps55
  go_wp2_with fail
  refine Calls.mono (H1.out _) ?_
  rintro e w1 ⟨rfl, hb⟩
  have HX1 : Hid (PS w p w1) := HN.out.below hb
  clear hb HN H1
  go_wp2_with fail
  refine Calls.mono (H3.out _) ?_
  rintro e w2 ⟨rfl, hb⟩
  have HX : Hid (PS w p w2) := HX1.out.below hb
  obtain ⟨z0, z1, z2, z3, z4, z5, z6, z7, z8, z9, z10⟩ := HX.out.pz
  obtain ⟨lz, fz⟩ := HX.out.fz
  clear hb HX1 H3
  go_wp2_with fail
  refine bodyPost_ret (v := r.val) (by simp [results, Tryd.results55, go_sem, Sp.val, z0, z1, z2, z3, z4, z5, z6, z7, z8, z9, z10]) rfl ⟨rfl, ?_⟩
  repeat (refine set_below ?_ (by omega) _)
  exact HX.out.be
set_option maxHeartbeats 2000000 in
theorem leaf_6 (p : PT) (h : p.op = 6) (w : World) (ap : Option Addr) (np cp : Nat) (hlp : p.lv = .slice ap np cp) : Calls Tryd.prog 55 #[p.val] w fun e w' => e = .returned (btw (En.zero) (closedE p.v)).val ∧ Below w.heap.size w w' := by
  have H1 : Hid (∀ w1, Calls Tryd.prog 35 #[V p.v.t p.v.n p.v.s] w1 fun e w' => e = .returned (closedE p.v).val ∧ Below w1.heap.size w1 w') := fun w1 => closed_any p.v w1
  have H3 : Hid (∀ w1, Calls Tryd.prog 39 #[(En.zero).val, (closedE p.v).val] w1 fun e w' => e = .returned (btw (En.zero) (closedE p.v)).val ∧ Below w1.heap.size w1 w') := fun w1 => between_any _ _ w1
  generalize btw (En.zero) (closedE p.v) = r at *
  generalize closedE p.v = c1 at *
  have HN : Hid _ := PS.new w p 29 35
  unfold PT.val En.val Sp.val at *
  simp only [En.zero, Val.zero] at H3
  rw [hlp, h]
  rw [pobj, hlp, h] at HN
  clear hlp h
  go_enter Tryd.func55, Tryd.ntmps55
  go_wp2_with fail
  refine Calls.mono (H1.out _) ?_
  rintro e w1 ⟨rfl, hb⟩
  have HX1 : Hid (PS w p w1) := HN.out.below hb
  clear hb HN H1
  go_wp2_with fail
  refine Calls.mono (H3.out _) ?_
  rintro e w2 ⟨rfl, hb⟩
  have HX : Hid (PS w p w2) := HX1.out.below hb
  obtain ⟨z0, z1, z2, z3, z4, z5, z6, z7, z8, z9, z10⟩ := HX.out.pz
  obtain ⟨lz, fz⟩ := HX.out.fz
  clear hb HX1 H3
  go_wp2_with fail
  refine bodyPost_ret (v := r.val) (by simp [results, Tryd.results55, go_sem, Sp.val, z0, z1, z2, z3, z4, z5, z6, z7, z8, z9, z10]) rfl ⟨rfl, ?_⟩
  repeat (refine set_below ?_ (by omega) _)
  exact HX.out.be
set_option maxHeartbeats 2000000 in
theorem leaf_7 (p : PT) (h : p.op = 7) (w : World) (ap : Option Addr) (np cp : Nat) (hlp : p.lv = .slice ap np cp) : Calls Tryd.prog 55 #[p.val] w fun e w' => e = .returned (btw (openE p.v) (En.zero)).val ∧ Below w.heap.size w w' := by
  have H1 : Hid (∀ w1, Calls Tryd.prog 62 #[V p.v.t p.v.n p.v.s] w1 fun e w' => e = .returned (openE p.v).val ∧ Below w1.heap.size w1 w') := fun w1 => open_any p.v w1
  have H3 : Hid (∀ w1, Calls Tryd.prog 39 #[(openE p.v).val, (En.zero).val] w1 fun e w' => e = .returned (btw (openE p.v) (En.zero)).val ∧ Below w1.heap.size w1 w') := fun w1 => between_any _ _ w1
  generalize btw (openE p.v) (En.zero) = r at *
  generalize openE p.v = c1 at *
  have HN : Hid _ := PS.new w p 29 35
  unfold PT.val En.val Sp.val at *
  simp only [En.zero, Val.zero] at H3
  rw [hlp, h]
  rw [pobj, hlp, h] at HN
  clear hlp h
  go_enter Tryd.func55, Tryd.ntmps55
  go_wp2_with fail
  refine Calls.mono (H1.out _) ?_
  rintro e w1 ⟨rfl, hb⟩
  have HX1 : Hid (PS w p w1) := HN.out.below hb
  clear hb HN H1
  go_wp2_with fail
  refine Calls.mono (H3.out _) ?_
  rintro e w2 ⟨rfl, hb⟩
  have HX : Hid (PS w p w2) := HX1.out.below hb
  obtain ⟨z0, z1, z2, z3, z4, z5, z6, z7, z8, z9, z10⟩ := HX.out.pz
  obtain ⟨lz, fz⟩ := HX.out.fz
  clear hb HX1 H3
  go_wp2_with fail
  refine bodyPost_ret (v := r.val) (by simp [results, Tryd.results55, go_sem, Sp.val, z0, z1, z2, z3, z4, z5, z6, z7, z8, z9, z10]) rfl ⟨rfl, ?_⟩
  repeat (refine set_below ?_ (by omega) _)
  exact HX.out.be
set_option maxHeartbeats 2000000 in
theorem leaf_8 (p : PT) (h : p.op = 8) (w : World) (ap : Option Addr) (np cp : Nat) (hlp : p.lv = .slice ap np cp) : Calls Tryd.prog 55 #[p.val] w fun e w' => e = .returned (btw (closedE p.v) (En.zero)).val ∧ Below w.heap.size w w' := by
  have H1 : Hid (∀ w1, Calls Tryd.prog 35 #[V p.v.t p.v.n p.v.s] w1 fun e w' => e = .returned (closedE p.v).val ∧ Below w1.heap.size w1 w') := fun w1 => closed_any p.v w1
  have H3 : Hid (∀ w1, Calls Tryd.prog 39 #[(closedE p.v).val, (En.zero).val] w1 fun e w' => e = .returned (btw (closedE p.v) (En.zero)).val ∧ Below w1.heap.size w1 w') := fun w1 => between_any _ _ w1
  generalize btw (closedE p.v) (En.zero) = r at *
  generalize closedE p.v = c1 at *
  have HN : Hid _ := PS.new w p 29 35
  unfold PT.val En.val Sp.val at *
  simp only [En.zero, Val.zero] at H3
  rw [hlp, h]
  rw [pobj, hlp, h] at HN
  clear hlp h
  go_enter Tryd.func55, Tryd.ntmps55
  go_wp2_with fail
  refine Calls.mono (H1.out _) ?_
  rintro e w1 ⟨rfl, hb⟩
  have HX1 : Hid (PS w p w1) := HN.out.below hb
  clear hb HN H1
  go_wp2_with fail
  refine Calls.mono (H3.out _) ?_
  rintro e w2 ⟨rfl, hb⟩
  have HX : Hid (PS w p w2) := HX1.out.below hb
  obtain ⟨z0, z1, z2, z3, z4, z5, z6, z7, z8, z9, z10⟩ := HX.out.pz
  obtain ⟨lz, fz⟩ := HX.out.fz
  clear hb HX1 H3
  go_wp2_with fail
  refine bodyPost_ret (v := r.val) (by simp [results, Tryd.results55, go_sem, Sp.val, z0, z1, z2, z3, z4, z5, z6, z7, z8, z9, z10]) rfl ⟨rfl, ?_⟩
  repeat (refine set_below ?_ (by omega) _)
  exact HX.out.be
set_option maxHeartbeats 2000000 in
theorem leaf_else (p : PT) (w : World) (ap : Option Addr) (np cp : Nat) (hlp : p.lv = .slice ap np cp) (h3 : (p.op == 3) = false) (h5 : (p.op == 5) = false) (h6 : (p.op == 6) = false) (h7 : (p.op == 7) = false) (h8 : (p.op == 8) = false) (h9 : (p.op == 9) = false) : Calls Tryd.prog 55 #[p.val] w fun e w' => e = .returned Sp.all.val ∧ Below w.heap.size w w' := by
  unfold PT.val
  rw [hlp]
  clear hlp
  go_enter Tryd.func55, Tryd.ntmps55
  go_wp2_with fail
  refine bodyPost_ret (v := Sp.all.val) (by simp [results, Tryd.results55, go_sem, Sp.val, Sp.all, Val.zero]) rfl ⟨rfl, ?_⟩
  exact back1 (alloc1 _ _)
theorem leaf_any (p : PT) (w : World) (hi : In w p) : Calls Tryd.prog 55 #[p.val] w fun e w' => e = .returned (leafS p.op p.v p.w).val ∧ Below w.heap.size w w' := by
  obtain ⟨ap, cp, hlp, _⟩ := hi.lies.slice
  unfold leafS
  by_cases h3 : p.op = 3
  · rw [if_pos h3]; exact leaf_3 p h3 w _ _ _ hlp
  by_cases h5 : p.op = 5
  · rw [if_neg h3, if_pos h5]; exact leaf_5 p h5 w _ _ _ hlp
  by_cases h6 : p.op = 6
  · rw [if_neg h3, if_neg h5, if_pos h6]; exact leaf_6 p h6 w _ _ _ hlp
  by_cases h7 : p.op = 7
  · rw [if_neg h3, if_neg h5, if_neg h6, if_pos h7]; exact leaf_7 p h7 w _ _ _ hlp
  by_cases h8 : p.op = 8
  · rw [if_neg h3, if_neg h5, if_neg h6, if_neg h7, if_pos h8]; exact leaf_8 p h8 w _ _ _ hlp
  by_cases h9 : p.op = 9
  · rw [if_neg h3, if_neg h5, if_neg h6, if_neg h7, if_neg h8, if_pos h9]; exact leaf_9 p h9 w _ _ _ hlp
  rw [if_neg h3, if_neg h5, if_neg h6, if_neg h7, if_neg h8, if_neg h9]
  exact leaf_else p w _ _ _ hlp (by simpa using h3) (by simpa using h5) (by simpa using h6) (by simpa using h7) (by simpa using h8) (by simpa using h9)
end Go.Proofs.YtfkhfplibhnceaaDoor.Val
