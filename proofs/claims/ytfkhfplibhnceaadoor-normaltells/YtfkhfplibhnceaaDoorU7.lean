/- What leafKeys of package normal answers. -/
import Derived.Test.YtfkhfplibhnceaaDoorU3
import Derived.Test.YtfkhfplibhnceaaDoorU6
import Derived.Test.YtfkhfplibhnceaaDoorU1
import Derived.BigQuiet
namespace Go.Proofs.YtfkhfplibhnceaaDoor.Val
open Go.RowKit

/-- A predicate's box, and the answer's. -/
structure PS (w0 : World) (p : PT) (w : World) : Prop where
  pb : Box w w0.heap.size p
  pz : SBox w (w0.heap.size + 1) Sp.all
  fz : Fr w (w0.heap.size + 1)
  be : Below w0.heap.size w0 w
theorem PS.below {w0 w w' : World} {p : PT} (h : PS w0 p w) (hb : Below w.heap.size w w') : PS w0 p w' := ⟨h.pb.below hb, h.pz.below hb, h.fz.below hb, on h.be hb⟩
theorem PS.new (w : World) (p : PT) (T1 T2 : TypeId) : PS w p ((w.alloc (pobj p T1)).alloc (sobj Sp.all T2)) := by
  refine ⟨(Box.new w p T1).alloc _, ?_, ?_, back1 (alloc1 _ _)⟩
  · have := SBox.new (w.alloc (pobj p T1)) Sp.all T2; simpa using this
  · have := Fr.new (w.alloc (pobj p T1)) #[.bool Sp.all.no, .bool Sp.all.hl, .bool Sp.all.ol, .bool Sp.all.lo.t, .int .i64 Sp.all.lo.n, .string Sp.all.lo.s, .bool Sp.all.hh, .bool Sp.all.oh, .bool Sp.all.hi.t, .int .i64 Sp.all.hi.n, .string Sp.all.hi.s] T2; simpa using this
set_option maxHeartbeats 2000000 in
theorem leaf_3 (p : PT) (h : p.op = 3) (w : World) (ap : Option Addr) (np cp : Nat) (hlp : p.lv = .slice ap np cp) : Calls Tryd.prog 55 #[p.val] w fun e w' => e = .returned (btw (closedE p.v) (closedE p.v)).val ∧ Below w.heap.size w w' := by
  have H1 : Hid (∀ w1, Calls Tryd.prog 35 #[V p.v.t p.v.n p.v.s] w1 fun e w' => e = .returned (closedE p.v).val ∧ Below w1.heap.size w1 w') := fun w1 => closed_any p.v w1
  have H3 : Hid (∀ w1, Calls Tryd.prog 39 #[(closedE p.v).val, (closedE p.v).val] w1 fun e w' => e = .returned (btw (closedE p.v) (closedE p.v)).val ∧ Below w1.heap.size w1 w') := fun w1 => between_any _ _ w1
  generalize btw (closedE p.v) (closedE p.v) = r at *
  generalize closedE p.v = c1 at *
  have HN : Hid _ := PS.new w p 29 35
  unfold PT.val En.val Sp.val at *
  rw [hlp, h]
  rw [pobj, hlp, h] at HN
  clear hlp h
  go_enter Tryd.func55, Tryd.ntmps55
  go_wp2_with fail
  have X0 : PS w p _ := HN.out.below (Below.refl _ _).drew
  clear HN
  refine wp_region_held_drew (S := fun w' => w'.cell? ⟨w.heap.size, 2, none⟩ = some (.bool p.v.t) ∧ w'.cell? ⟨w.heap.size, 3, none⟩ = some (.int .i64 p.v.n) ∧ w'.cell? ⟨w.heap.size, 4, none⟩ = some (.string p.v.s) ∧ w'.cell? ⟨w.heap.size, 5, none⟩ = some (.bool p.w.t) ∧ w'.cell? ⟨w.heap.size, 6, none⟩ = some (.int .i64 p.w.n) ∧ w'.cell? ⟨w.heap.size, 7, none⟩ = some (.string p.w.s)) (by kernel_rfl) ?_ (fun hHeld => ?_)
  · exact ⟨X0.pb.c2, X0.pb.c3, X0.pb.c4, X0.pb.c5, X0.pb.c6, X0.pb.c7⟩
  (try clear hK K)
  refine wpAnyH_take (i := 0) (v := ?_) rfl (by kernel_rfl) (by kernel_rfl) (by kernel_rfl) (fun _ _ _ h => h) (Or.inl ⟨by rfl, ?_⟩) (by assumption) ?_
  rotate_left
  · intro w hSw; (try dsimp only at hSw); go_simp; (try with_reducible rfl)
  (try simp only [Act.put, List.getElem_toArray, List.getElem_cons_zero, List.setIfInBounds_toArray, List.set_cons_zero, List.set_cons_succ])
  refine wpAnyH_take (i := 1) (v := ?_) rfl (by kernel_rfl) (by kernel_rfl) (by kernel_rfl) (fun _ _ _ h => h) (Or.inl ⟨by rfl, ?_⟩) (by assumption) ?_
  rotate_left
  · intro w hSw; (try dsimp only at hSw); go_simp; (try with_reducible rfl)
  (try simp only [Act.put, List.getElem_toArray, List.getElem_cons_succ, List.getElem_cons_zero, List.setIfInBounds_toArray, List.set_cons_zero, List.set_cons_succ])
  refine wpAnyH_take (i := 3) (v := ?_) rfl (by kernel_rfl) (by kernel_rfl) (by kernel_rfl) (fun _ _ _ h => h) (Or.inl ⟨by rfl, ?_⟩) (by assumption) ?_
  rotate_left
  · intro w hSw; (try dsimp only at hSw); go_simp; (try with_reducible rfl)
  (try simp only [Act.put, List.getElem_toArray, List.getElem_cons_succ, List.getElem_cons_zero, List.setIfInBounds_toArray, List.set_cons_zero, List.set_cons_succ])
  refine wpAnyH_take (i := 4) (v := ?_) rfl (by kernel_rfl) (by kernel_rfl) (by kernel_rfl) (fun _ _ _ h => h) (Or.inl ⟨by rfl, ?_⟩) (by assumption) ?_
  rotate_left
  · intro w hSw; (try dsimp only at hSw); go_simp; (try with_reducible rfl)
  (try simp only [Act.put, List.getElem_toArray, List.getElem_cons_succ, List.getElem_cons_zero, List.setIfInBounds_toArray, List.set_cons_zero, List.set_cons_succ])
  (try clear hK K)
  refine wpAnyH_ready (rs := [2]) (by kernel_rfl) (by simp) ?_
  refine AllReadyH.cons rfl (fun K hK => ?_) AllReadyH.nil
  go_simp
  (refine Calls.mono (H1.out _) ?_; rintro e w1 ⟨rfl, hb1⟩; have X1 := X0.below hb1)
  refine hK.out _ _ ?_ (fun hHeld => ?_)
  · exact ⟨X1.pb.c2, X1.pb.c3, X1.pb.c4, X1.pb.c5, X1.pb.c6, X1.pb.c7⟩
  (try clear hK K)
  refine wpAnyH_ready (rs := [5]) (by kernel_rfl) (by simp) ?_
  refine AllReadyH.cons rfl (fun K hK => ?_) AllReadyH.nil
  go_simp
  (refine Calls.mono (H1.out _) ?_; rintro e w2 ⟨rfl, hb2⟩; have X2 := X1.below hb2)
  refine hK.out _ _ ?_ (fun hHeld => ?_)
  · exact ⟨X2.pb.c2, X2.pb.c3, X2.pb.c4, X2.pb.c5, X2.pb.c6, X2.pb.c7⟩
  (try clear hK K)
  refine wpAnyH_ready (rs := [6]) (by kernel_rfl) (by simp) ?_
  refine AllReadyH.cons rfl (fun K hK => ?_) AllReadyH.nil
  go_simp
  (refine Calls.mono (H3.out _) ?_; rintro e w3 ⟨rfl, hb3⟩; have X3 := X2.below hb3)
  refine hK.out _ _ ?_ (fun hHeld => ?_)
  · exact ⟨X3.pb.c2, X3.pb.c3, X3.pb.c4, X3.pb.c5, X3.pb.c6, X3.pb.c7⟩
  obtain ⟨z0, z1, z2, z3, z4, z5, z6, z7, z8, z9, z10⟩ := X3.pz
  obtain ⟨lz, fz⟩ := X3.fz
  have HX : Hid (PS w p w3) := X3
  clear X0 X1 X2 X3 hb1 hb2 hb3 H1 H3
  (try clear hK K)
  refine wpAnyH_ready (rs := [7]) (by kernel_rfl) (by simp) ?_
  refine AllReadyH.cons rfl (fun K hK => ?_) AllReadyH.nil
  go_simp
  refine hK.out _ _ ?_ (fun hHeld => ?_)
  · obtain ⟨_, _, d2, d3, d4, d5, d6, d7, _⟩ := HX.out.pb
    refine ⟨?_, ?_, ?_, ?_, ?_, ?_⟩ <;> (repeat (refine cell_far ?_ (by omega))) <;> assumption
  (try clear hK K)
  refine wpAnyH_done (by kernel_rfl) ?_ _
  go_wp2_with fail
  refine bodyPost_ret (v := r.val) (by simp [results, Tryd.results55, go_sem, Sp.val, z0, z1, z2, z3, z4, z5, z6, z7, z8, z9, z10]) rfl ⟨rfl, ?_⟩
  repeat (refine set_below ?_ (by omega) _)
  exact HX.out.be
set_option maxHeartbeats 2000000 in
theorem leaf_9 (p : PT) (h : p.op = 9) (w : World) (ap : Option Addr) (np cp : Nat) (hlp : p.lv = .slice ap np cp) : Calls Tryd.prog 55 #[p.val] w fun e w' => e = .returned (btw (closedE p.v) (closedE p.w)).val ∧ Below w.heap.size w w' := by
  have H1 : Hid (∀ w1, Calls Tryd.prog 35 #[V p.v.t p.v.n p.v.s] w1 fun e w' => e = .returned (closedE p.v).val ∧ Below w1.heap.size w1 w') := fun w1 => closed_any p.v w1
  have H2 : Hid (∀ w1, Calls Tryd.prog 35 #[V p.w.t p.w.n p.w.s] w1 fun e w' => e = .returned (closedE p.w).val ∧ Below w1.heap.size w1 w') := fun w1 => closed_any p.w w1
  have H3 : Hid (∀ w1, Calls Tryd.prog 39 #[(closedE p.v).val, (closedE p.w).val] w1 fun e w' => e = .returned (btw (closedE p.v) (closedE p.w)).val ∧ Below w1.heap.size w1 w') := fun w1 => between_any _ _ w1
  generalize btw (closedE p.v) (closedE p.w) = r at *
  generalize closedE p.v = c1 at *
  generalize closedE p.w = c2 at *
  have HN : Hid _ := PS.new w p 29 35
  unfold PT.val En.val Sp.val at *
  rw [hlp, h]
  rw [pobj, hlp, h] at HN
  clear hlp h
  go_enter Tryd.func55, Tryd.ntmps55
  go_wp2_with fail
  have X0 : PS w p _ := HN.out.below (Below.refl _ _).drew
  clear HN
  refine wp_region_held_drew (S := fun w' => w'.cell? ⟨w.heap.size, 2, none⟩ = some (.bool p.v.t) ∧ w'.cell? ⟨w.heap.size, 3, none⟩ = some (.int .i64 p.v.n) ∧ w'.cell? ⟨w.heap.size, 4, none⟩ = some (.string p.v.s) ∧ w'.cell? ⟨w.heap.size, 5, none⟩ = some (.bool p.w.t) ∧ w'.cell? ⟨w.heap.size, 6, none⟩ = some (.int .i64 p.w.n) ∧ w'.cell? ⟨w.heap.size, 7, none⟩ = some (.string p.w.s)) (by kernel_rfl) ?_ (fun hHeld => ?_)
  · exact ⟨X0.pb.c2, X0.pb.c3, X0.pb.c4, X0.pb.c5, X0.pb.c6, X0.pb.c7⟩
  (try clear hK K)
  refine wpAnyH_take (i := 0) (v := ?_) rfl (by kernel_rfl) (by kernel_rfl) (by kernel_rfl) (fun _ _ _ h => h) (Or.inl ⟨by rfl, ?_⟩) (by assumption) ?_
  rotate_left
  · intro w hSw; (try dsimp only at hSw); go_simp; (try with_reducible rfl)
  (try simp only [Act.put, List.getElem_toArray, List.getElem_cons_zero, List.setIfInBounds_toArray, List.set_cons_zero, List.set_cons_succ])
  refine wpAnyH_take (i := 1) (v := ?_) rfl (by kernel_rfl) (by kernel_rfl) (by kernel_rfl) (fun _ _ _ h => h) (Or.inl ⟨by rfl, ?_⟩) (by assumption) ?_
  rotate_left
  · intro w hSw; (try dsimp only at hSw); go_simp; (try with_reducible rfl)
  (try simp only [Act.put, List.getElem_toArray, List.getElem_cons_succ, List.getElem_cons_zero, List.setIfInBounds_toArray, List.set_cons_zero, List.set_cons_succ])
  refine wpAnyH_take (i := 3) (v := ?_) rfl (by kernel_rfl) (by kernel_rfl) (by kernel_rfl) (fun _ _ _ h => h) (Or.inl ⟨by rfl, ?_⟩) (by assumption) ?_
  rotate_left
  · intro w hSw; (try dsimp only at hSw); go_simp; (try with_reducible rfl)
  (try simp only [Act.put, List.getElem_toArray, List.getElem_cons_succ, List.getElem_cons_zero, List.setIfInBounds_toArray, List.set_cons_zero, List.set_cons_succ])
  refine wpAnyH_take (i := 4) (v := ?_) rfl (by kernel_rfl) (by kernel_rfl) (by kernel_rfl) (fun _ _ _ h => h) (Or.inl ⟨by rfl, ?_⟩) (by assumption) ?_
  rotate_left
  · intro w hSw; (try dsimp only at hSw); go_simp; (try with_reducible rfl)
  (try simp only [Act.put, List.getElem_toArray, List.getElem_cons_succ, List.getElem_cons_zero, List.setIfInBounds_toArray, List.set_cons_zero, List.set_cons_succ])
  (try clear hK K)
  refine wpAnyH_ready (rs := [2]) (by kernel_rfl) (by simp) ?_
  refine AllReadyH.cons rfl (fun K hK => ?_) AllReadyH.nil
  go_simp
  (refine Calls.mono (H1.out _) ?_; rintro e w1 ⟨rfl, hb1⟩; have X1 := X0.below hb1)
  refine hK.out _ _ ?_ (fun hHeld => ?_)
  · exact ⟨X1.pb.c2, X1.pb.c3, X1.pb.c4, X1.pb.c5, X1.pb.c6, X1.pb.c7⟩
  (try clear hK K)
  refine wpAnyH_ready (rs := [5]) (by kernel_rfl) (by simp) ?_
  refine AllReadyH.cons rfl (fun K hK => ?_) AllReadyH.nil
  go_simp
  (refine Calls.mono (H2.out _) ?_; rintro e w2 ⟨rfl, hb2⟩; have X2 := X1.below hb2)
  refine hK.out _ _ ?_ (fun hHeld => ?_)
  · exact ⟨X2.pb.c2, X2.pb.c3, X2.pb.c4, X2.pb.c5, X2.pb.c6, X2.pb.c7⟩
  (try clear hK K)
  refine wpAnyH_ready (rs := [6]) (by kernel_rfl) (by simp) ?_
  refine AllReadyH.cons rfl (fun K hK => ?_) AllReadyH.nil
  go_simp
  (refine Calls.mono (H3.out _) ?_; rintro e w3 ⟨rfl, hb3⟩; have X3 := X2.below hb3)
  refine hK.out _ _ ?_ (fun hHeld => ?_)
  · exact ⟨X3.pb.c2, X3.pb.c3, X3.pb.c4, X3.pb.c5, X3.pb.c6, X3.pb.c7⟩
  obtain ⟨z0, z1, z2, z3, z4, z5, z6, z7, z8, z9, z10⟩ := X3.pz
  obtain ⟨lz, fz⟩ := X3.fz
  have HX : Hid (PS w p w3) := X3
  clear X0 X1 X2 X3 hb1 hb2 hb3 H1 H2 H3
  (try clear hK K)
  refine wpAnyH_ready (rs := [7]) (by kernel_rfl) (by simp) ?_
  refine AllReadyH.cons rfl (fun K hK => ?_) AllReadyH.nil
  go_simp
  refine hK.out _ _ ?_ (fun hHeld => ?_)
  · obtain ⟨_, _, d2, d3, d4, d5, d6, d7, _⟩ := HX.out.pb
    refine ⟨?_, ?_, ?_, ?_, ?_, ?_⟩ <;> (repeat (refine cell_far ?_ (by omega))) <;> assumption
  (try clear hK K)
  refine wpAnyH_done (by kernel_rfl) ?_ _
  go_wp2_with fail
  refine bodyPost_ret (v := r.val) (by simp [results, Tryd.results55, go_sem, Sp.val, z0, z1, z2, z3, z4, z5, z6, z7, z8, z9, z10]) rfl ⟨rfl, ?_⟩
  repeat (refine set_below ?_ (by omega) _)
  exact HX.out.be
set_option maxHeartbeats 2000000 in
theorem leaf_5 (p : PT) (h : p.op = 5) (w : World) (ap : Option Addr) (np cp : Nat) (hlp : p.lv = .slice ap np cp) : Calls Tryd.prog 55 #[p.val] w fun e w' => e = .returned (btw (En.zero) (openE p.v)).val ∧ Below w.heap.size w w' := by
  have H1 : Hid (∀ w1, Calls Tryd.prog 62 #[V p.v.t p.v.n p.v.s] w1 fun e w' => e = .returned (openE p.v).val ∧ Below w1.heap.size w1 w') := fun w1 => open_any p.v w1
  have H3 : Hid (∀ w1, Calls Tryd.prog 39 #[(En.zero).val, (openE p.v).val] w1 fun e w' => e = .returned (btw (En.zero) (openE p.v)).val ∧ Below w1.heap.size w1 w') := fun w1 => between_any _ _ w1
  generalize btw (En.zero) (openE p.v) = r at *
  generalize openE p.v = c1 at *
  have HN : Hid _ := PS.new w p 29 35
  unfold PT.val En.val Sp.val at *
  simp only [En.zero, Val.zero] at H3
  rw [hlp, h]
  rw [pobj, hlp, h] at HN
  clear hlp h
  go_enter Tryd.func55, Tryd.ntmps55
  go_wp2_with fail
  refine Calls.mono (H1.out _) ?_
  rintro e w1 ⟨rfl, hb⟩
  have HX1 : Hid (PS w p w1) := HN.out.below hb
  clear hb HN H1
  go_wp2_with fail
  refine Calls.mono (H3.out _) ?_
  rintro e w2 ⟨rfl, hb⟩
  have HX : Hid (PS w p w2) := HX1.out.below hb
  obtain ⟨z0, z1, z2, z3, z4, z5, z6, z7, z8, z9, z10⟩ := HX.out.pz
  obtain ⟨lz, fz⟩ := HX.out.fz
  clear hb HX1 H3
  go_wp2_with fail
  refine bodyPost_ret (v := r.val) (by simp [results, Tryd.results55, go_sem, Sp.val, z0, z1, z2, z3, z4, z5, z6, z7, z8, z9, z10]) rfl ⟨rfl, ?_⟩
  repeat (refine set_below ?_ (by omega) _)
  exact HX.out.be
set_option maxHeartbeats 2000000 in
theorem leaf_6 (p : PT) (h : p.op = 6) (w : World) (ap : Option Addr) (np cp : Nat) (hlp : p.lv = .slice ap np cp) : Calls Tryd.prog 55 #[p.val] w fun e w' => e = .returned (btw (En.zero) (closedE p.v)).val ∧ Below w.heap.size w w' := by
  have H1 : Hid (∀ w1, Calls Tryd.prog 35 #[V p.v.t p.v.n p.v.s] w1 fun e w' => e = .returned (closedE p.v).val ∧ Below w1.heap.size w1 w') := fun w1 => closed_any p.v w1
  have H3 : Hid (∀ w1, Calls Tryd.prog 39 #[(En.zero).val, (closedE p.v).val] w1 fun e w' => e = .returned (btw (En.zero) (closedE p.v)).val ∧ Below w1.heap.size w1 w') := fun w1 => between_any _ _ w1
  generalize btw (En.zero) (closedE p.v) = r at *
  generalize closedE p.v = c1 at *
  have HN : Hid _ := PS.new w p 29 35
  unfold PT.val En.val Sp.val at *
  simp only [En.zero, Val.zero] at H3
  rw [hlp, h]
  rw [pobj, hlp, h] at HN
  clear hlp h
  go_enter Tryd.func55, Tryd.ntmps55
  go_wp2_with fail
  refine Calls.mono (H1.out _) ?_
  rintro e w1 ⟨rfl, hb⟩
  have HX1 : Hid (PS w p w1) := HN.out.below hb
  clear hb HN H1
  go_wp2_with fail
  refine Calls.mono (H3.out _) ?_
  rintro e w2 ⟨rfl, hb⟩
  have HX : Hid (PS w p w2) := HX1.out.below hb
  obtain ⟨z0, z1, z2, z3, z4, z5, z6, z7, z8, z9, z10⟩ := HX.out.pz
  obtain ⟨lz, fz⟩ := HX.out.fz
  clear hb HX1 H3
  go_wp2_with fail
  refine bodyPost_ret (v := r.val) (by simp [results, Tryd.results55, go_sem, Sp.val, z0, z1, z2, z3, z4, z5, z6, z7, z8, z9, z10]) rfl ⟨rfl, ?_⟩
  repeat (refine set_below ?_ (by omega) _)
  exact HX.out.be
set_option maxHeartbeats 2000000 in
theorem leaf_7 (p : PT) (h : p.op = 7) (w : World) (ap : Option Addr) (np cp : Nat) (hlp : p.lv = .slice ap np cp) : Calls Tryd.prog 55 #[p.val] w fun e w' => e = .returned (btw (openE p.v) (En.zero)).val ∧ Below w.heap.size w w' := by
  have H1 : Hid (∀ w1, Calls Tryd.prog 62 #[V p.v.t p.v.n p.v.s] w1 fun e w' => e = .returned (openE p.v).val ∧ Below w1.heap.size w1 w') := fun w1 => open_any p.v w1
  have H3 : Hid (∀ w1, Calls Tryd.prog 39 #[(openE p.v).val, (En.zero).val] w1 fun e w' => e = .returned (btw (openE p.v) (En.zero)).val ∧ Below w1.heap.size w1 w') := fun w1 => between_any _ _ w1
  generalize btw (openE p.v) (En.zero) = r at *
  generalize openE p.v = c1 at *
  have HN : Hid _ := PS.new w p 29 35
  unfold PT.val En.val Sp.val at *
  simp only [En.zero, Val.zero] at H3
  rw [hlp, h]
  rw [pobj, hlp, h] at HN
  clear hlp h
  go_enter Tryd.func55, Tryd.ntmps55
  go_wp2_with fail
  refine Calls.mono (H1.out _) ?_
  rintro e w1 ⟨rfl, hb⟩
  have HX1 : Hid (PS w p w1) := HN.out.below hb
  clear hb HN H1
  go_wp2_with fail
  refine Calls.mono (H3.out _) ?_
  rintro e w2 ⟨rfl, hb⟩
  have HX : Hid (PS w p w2) := HX1.out.below hb
  obtain ⟨z0, z1, z2, z3, z4, z5, z6, z7, z8, z9, z10⟩ := HX.out.pz
  obtain ⟨lz, fz⟩ := HX.out.fz
  clear hb HX1 H3
  go_wp2_with fail
  refine bodyPost_ret (v := r.val) (by simp [results, Tryd.results55, go_sem, Sp.val, z0, z1, z2, z3, z4, z5, z6, z7, z8, z9, z10]) rfl ⟨rfl, ?_⟩
  repeat (refine set_below ?_ (by omega) _)
  exact HX.out.be
set_option maxHeartbeats 2000000 in
theorem leaf_8 (p : PT) (h : p.op = 8) (w : World) (ap : Option Addr) (np cp : Nat) (hlp : p.lv = .slice ap np cp) : Calls Tryd.prog 55 #[p.val] w fun e w' => e = .returned (btw (closedE p.v) (En.zero)).val ∧ Below w.heap.size w w' := by
  have H1 : Hid (∀ w1, Calls Tryd.prog 35 #[V p.v.t p.v.n p.v.s] w1 fun e w' => e = .returned (closedE p.v).val ∧ Below w1.heap.size w1 w') := fun w1 => closed_any p.v w1
  have H3 : Hid (∀ w1, Calls Tryd.prog 39 #[(closedE p.v).val, (En.zero).val] w1 fun e w' => e = .returned (btw (closedE p.v) (En.zero)).val ∧ Below w1.heap.size w1 w') := fun w1 => between_any _ _ w1
  generalize btw (closedE p.v) (En.zero) = r at *
  generalize closedE p.v = c1 at *
  have HN : Hid _ := PS.new w p 29 35
  unfold PT.val En.val Sp.val at *
  simp only [En.zero, Val.zero] at H3
  rw [hlp, h]
  rw [pobj, hlp, h] at HN
  clear hlp h
  go_enter Tryd.func55, Tryd.ntmps55
  go_wp2_with fail
  refine Calls.mono (H1.out _) ?_
  rintro e w1 ⟨rfl, hb⟩
  have HX1 : Hid (PS w p w1) := HN.out.below hb
  clear hb HN H1
  go_wp2_with fail
  refine Calls.mono (H3.out _) ?_
  rintro e w2 ⟨rfl, hb⟩
  have HX : Hid (PS w p w2) := HX1.out.below hb
  obtain ⟨z0, z1, z2, z3, z4, z5, z6, z7, z8, z9, z10⟩ := HX.out.pz
  obtain ⟨lz, fz⟩ := HX.out.fz
  clear hb HX1 H3
  go_wp2_with fail
  refine bodyPost_ret (v := r.val) (by simp [results, Tryd.results55, go_sem, Sp.val, z0, z1, z2, z3, z4, z5, z6, z7, z8, z9, z10]) rfl ⟨rfl, ?_⟩
  repeat (refine set_below ?_ (by omega) _)
  exact HX.out.be
set_option maxHeartbeats 2000000 in
theorem leaf_else (p : PT) (w : World) (ap : Option Addr) (np cp : Nat) (hlp : p.lv = .slice ap np cp) (h3 : (p.op == 3) = false) (h5 : (p.op == 5) = false) (h6 : (p.op == 6) = false) (h7 : (p.op == 7) = false) (h8 : (p.op == 8) = false) (h9 : (p.op == 9) = false) : Calls Tryd.prog 55 #[p.val] w fun e w' => e = .returned Sp.all.val ∧ Below w.heap.size w w' := by
  unfold PT.val
  rw [hlp]
  clear hlp
  go_enter Tryd.func55, Tryd.ntmps55
  go_wp2_with fail
  refine bodyPost_ret (v := Sp.all.val) (by simp [results, Tryd.results55, go_sem, Sp.val, Sp.all, Val.zero]) rfl ⟨rfl, ?_⟩
  exact back1 (alloc1 _ _)
theorem leaf_any (p : PT) (w : World) (hi : In w p) : Calls Tryd.prog 55 #[p.val] w fun e w' => e = .returned (leafS p.op p.v p.w).val ∧ Below w.heap.size w w' := by
  obtain ⟨ap, cp, hlp, _⟩ := hi.lies.slice
  unfold leafS
  by_cases h3 : p.op = 3
  · rw [if_pos h3]; exact leaf_3 p h3 w _ _ _ hlp
  by_cases h5 : p.op = 5
  · rw [if_neg h3, if_pos h5]; exact leaf_5 p h5 w _ _ _ hlp
  by_cases h6 : p.op = 6
  · rw [if_neg h3, if_neg h5, if_pos h6]; exact leaf_6 p h6 w _ _ _ hlp
  by_cases h7 : p.op = 7
  · rw [if_neg h3, if_neg h5, if_neg h6, if_pos h7]; exact leaf_7 p h7 w _ _ _ hlp
  by_cases h8 : p.op = 8
  · rw [if_neg h3, if_neg h5, if_neg h6, if_neg h7, if_pos h8]; exact leaf_8 p h8 w _ _ _ hlp
  by_cases h9 : p.op = 9
  · rw [if_neg h3, if_neg h5, if_neg h6, if_neg h7, if_neg h8, if_pos h9]; exact leaf_9 p h9 w _ _ _ hlp
  rw [if_neg h3, if_neg h5, if_neg h6, if_neg h7, if_neg h8, if_neg h9]
  exact leaf_else p w _ _ _ hlp (by simpa using h3) (by simpa using h5) (by simpa using h6) (by simpa using h7) (by simpa using h8) (by simpa using h9)
end Go.Proofs.YtfkhfplibhnceaaDoor.Val
/- What together, keys, Normal and Keys of package normal answer. -/
namespace Go.Proofs.YtfkhfplibhnceaaDoor.Val
open Go.RowKit

/-- What is taken together so far, and the answer's box. -/
structure TG (w0 : World) (s : Sp) (w : World) : Prop where
  pa : SBox w w0.heap.size s
  pz : SBox w (w0.heap.size + 1) Sp.all
  fa : Fr w w0.heap.size
  fz : Fr w (w0.heap.size + 1)
  be : Below w0.heap.size w0 w
theorem TG.below {w0 w w' : World} {s : Sp} (h : TG w0 s w) (hb : Below w.heap.size w w') : TG w0 s w' := ⟨h.pa.below hb, h.pz.below hb, h.fa.below hb, h.fz.below hb, on h.be hb⟩
theorem TG.new (w : World) (s : Sp) (T1 T2 : TypeId) : TG w s ((w.alloc (sobj s T1)).alloc (sobj Sp.all T2)) :=
  ⟨(S2.new w s T1 T2).pa, (S2.new w s T1 T2).pz, (Fr.new w _ T1).alloc _, (S2.new w s T1 T2).fz, (S2.new w s T1 T2).be⟩
theorem TG.put {w0 w : World} {s : Sp} (h : TG w0 s w) (x : Sp) : TG w0 x (setS w w0.heap.size x) := ⟨h.pa.put x, h.pz.offS x (by omega), h.fa.setS x, h.fz.setS x, below_setS h.be (Nat.le_refl _) x⟩
theorem fold_next (g : Sp → PT → Sp) (s : Sp) (l : List PT) (k : Nat) (hk : k < l.length) : (l.take (k + 1)).foldl g s = g ((l.take k).foldl g s) l[k] := by
  rw [List.take_add_one, List.getElem?_eq_getElem hk, List.foldl_append]; rfl
abbrev fTog : FuncId := 52
set_option maxHeartbeats 4000000 in
theorem together_any (f : FuncId) (hE : Enters f) (g : Sp → PT → Sp) (lv : Value) (l : List PT) (s : Sp) (w : World) (hl : InL w lv l)
    (ih : ∀ (s : Sp), ∀ q ∈ l, ∀ w1, In w1 q → Calls Tryd.prog f #[s.val, q.val] w1 fun e w' => e = .returned (g s q).val ∧ Below w1.heap.size w1 w') :
    Calls Tryd.prog 52 #[lv, s.val, FV f #[] #[]] w fun e w' => e = .returned (l.foldl g s).val ∧ Below w.heap.size w w' := by
  obtain ⟨ao, c, rfl, hn⟩ := hl.1.slice
  have HL : Hid (InL w (.slice ao l.length c) l ∧ ∀ (s : Sp), ∀ q ∈ l, ∀ w1, In w1 q → Calls Tryd.prog f #[s.val, q.val] w1 fun e w' => e = .returned (g s q).val ∧ Below w1.heap.size w1 w') := ⟨hl, ih⟩
  have hE' : ∀ args w, (callFunc f args).run Tryd.prog w = .ok (.enter f args) w := hE
  have HN : Hid _ := TG.new w s 35 35
  clear hl ih hE
  unfold Sp.val
  go_enter Tryd.func52, Tryd.ntmps52
  go_wp2_with fail
  go_loopw [11] (fun i wr => ∃ k : Nat, k ≤ l.length ∧ i = .int .i64 k ∧ Hid (TG w ((l.take k).foldl g s) wr))
    (fun i _ => l.length - (intOf i).toNat)
  case atStart => exact ⟨0, Nat.zero_le _, rfl, HN.out⟩
  case round =>
    clear HN
    obtain ⟨k, hk, rfl, HK⟩ := hrel
    by_cases h1 : k < l.length
    · have i0' : (0 : Int) ≤ (k : Int) := by omega
      have i1 : (k : Int) < (l.length : Int) := by omega
      have hbw : Below w.heap.size w wr := HK.out.be
      obtain ⟨b, o, rfl, hat⟩ := lies_at (HL.out.1.1.below hbw) k h1
      have hmem : l[k] ∈ l := List.getElem_mem h1
      have hink : In wr l[k] := (HL.out.1.2 _ hmem).keep hbw
      have HF : Hid _ := fold_next g s l k h1
      obtain ⟨s1, hs1⟩ : ∃ x, (l.take (k + 1)).foldl g s = x := ⟨_, rfl⟩
      have HS1 : Hid ((l.take (k + 1)).foldl g s = s1) := hs1
      rw [hs1] at HF
      clear hs1
      generalize (l.take k).foldl g s = s0 at HF HK
      have HQ : Hid (∀ w1, Below wr.heap.size wr w1 → Calls Tryd.prog f #[s0.val, l[k].val] w1 fun e w' => e = .returned (g s0 l[k]).val ∧ Below w1.heap.size w1 w') := fun w1 hb => HL.out.2 s0 _ hmem w1 (hink.keep hb)
      rw [← HF.out] at HQ
      obtain ⟨ak, ck, hlk, _⟩ := hink.lies.slice
      obtain ⟨c0, c1, c2, c3, c4, c5, c6, c7, c8⟩ := hat
      unfold PT.val Sp.val at HQ
      rw [hlk] at c8 HQ
      have hbl : b < wr.heap.size := World.block_lt_of_cell? _ _ c0
      obtain ⟨⟨a0, a1, a2, a3, a4, a5, a6, a7, a8, a9, a10⟩, _, ⟨la, fa⟩, _, _⟩ := HK.out
      clear hlk hmem hink hbw
      go_wp2_with fail
      refine Calls.mono (HQ.out _ (alloc1 _ _)) ?_
      rintro e w1 ⟨rfl, hb1⟩
      have HX : Hid (TG w s0 w1) := (HK.out.below (alloc1 _ _)).below hb1
      clear hb1 HQ HK c0 c1 c2 c3 c4 c5 c6 c7 c8 a0 a1 a2 a3 a4 a5 a6 a7 a8 a9 a10 la fa
      obtain ⟨⟨a0, a1, a2, a3, a4, a5, a6, a7, a8, a9, a10⟩, _, ⟨la, fa⟩, _, _⟩ := HX.out
      have HP : Hid (TG w s1 _) := HX.out.put s1
      clear HX
      go_wp2_with fail
      go_roundw
      case rel => exact ⟨k + 1, by omega, by go_num, by rw [HS1.out]; exact HP⟩
      case measure => simp [intOf]; omega
    · have i1 : decide ((k : Int) < (l.length : Int)) = false := by simp; omega
      obtain rfl : k = l.length := by omega
      have HX : Hid (TG w (l.foldl g s) wr) := by have := HK.out; rw [List.take_length] at this; exact this
      clear HK HL
      obtain ⟨r, hr⟩ : ∃ x, l.foldl g s = x := ⟨_, rfl⟩
      rw [hr] at HX
      have HR : Hid (l.foldl g s = r) := hr
      clear hr
      obtain ⟨⟨a0, a1, a2, a3, a4, a5, a6, a7, a8, a9, a10⟩, ⟨z0, z1, z2, z3, z4, z5, z6, z7, z8, z9, z10⟩, _, ⟨lz, fz⟩, _⟩ := HX.out
      go_wp2_with fail
      refine bodyPost_ret (v := r.val) (by simp [results, Tryd.results52, go_sem, Sp.val, z0, z1, z2, z3, z4, z5, z6, z7, z8, z9, z10]) rfl ⟨by rw [HR.out]; rfl, ?_⟩
      repeat (refine set_below ?_ (by omega) _)
      exact HX.out.be
/-- A span's box, a predicate's, and the answer's. -/
structure SPZ (w0 : World) (s : Sp) (p : PT) (w : World) : Prop where
  pa : SBox w w0.heap.size s
  pb : Box w (w0.heap.size + 1) p
  pz : SBox w (w0.heap.size + 1 + 1) Sp.all
  fz : Fr w (w0.heap.size + 1 + 1)
  be : Below w0.heap.size w0 w
theorem SPZ.below {w0 w w' : World} {s : Sp} {p : PT} (h : SPZ w0 s p w) (hb : Below w.heap.size w w') : SPZ w0 s p w' := ⟨h.pa.below hb, h.pb.below hb, h.pz.below hb, h.fz.below hb, on h.be hb⟩
theorem SPZ.new (w : World) (s : Sp) (p : PT) (T1 T2 T3 : TypeId) : SPZ w s p (((w.alloc (sobj s T1)).alloc (pobj p T2)).alloc (sobj Sp.all T3)) := by
  refine ⟨((SBox.new w s T1).alloc _).alloc _, ?_, ?_, ?_, back2 (alloc1 _ _)⟩
  · have := (Box.new (w.alloc (sobj s T1)) p T2).alloc (sobj Sp.all T3); simpa using this
  · have := SBox.new ((w.alloc (sobj s T1)).alloc (pobj p T2)) Sp.all T3; simpa using this
  · have := Fr.new ((w.alloc (sobj s T1)).alloc (pobj p T2)) #[.bool Sp.all.no, .bool Sp.all.hl, .bool Sp.all.ol, .bool Sp.all.lo.t, .int .i64 Sp.all.lo.n, .string Sp.all.lo.s, .bool Sp.all.hh, .bool Sp.all.oh, .bool Sp.all.hi.t, .int .i64 Sp.all.hi.n, .string Sp.all.hi.s] T3; simpa using this
def KeysOk (p : PT) : Prop := ∀ w, In w p → Calls Tryd.prog 31 #[p.val] w fun e w' => e = .returned (keysP p).val ∧ Below w.heap.size w w'
set_option maxHeartbeats 4000000 in
theorem two_meet (s : Sp) (q : PT) (hq : KeysOk q) (w : World) (hi : In w q) : Calls Tryd.prog 53 #[s.val, q.val] w fun e w' => e = .returned (meetS s (keysP q)).val ∧ Below w.heap.size w w' := by
  have H1 : Hid (∀ w1, Below w.heap.size w w1 → Calls Tryd.prog 31 #[q.val] w1 fun e w' => e = .returned (keysP q).val ∧ Below w1.heap.size w1 w') := fun w1 hb => hq w1 (hi.keep hb)
  have H2 : Hid (∀ w1, Calls Tryd.prog 19 #[s.val, (keysP q).val] w1 fun e w' => e = .returned (meetS s (keysP q)).val ∧ Below w1.heap.size w1 w') := fun w1 => meet_any _ _ w1
  generalize meetS s (keysP q) = r at *
  generalize keysP q = kq at *
  obtain ⟨ap, cp, hlp, _⟩ := hi.lies.slice
  have HN : Hid _ := SPZ.new w s q 35 29 35
  clear hq hi
  have HD : Hid (∀ w1, SPZ w s q w1 → w1.cell? ⟨w.heap.size + 1, 8, none⟩ = some (.slice ap q.l.length cp)) := fun w1 h => by rw [h.pb.c8, hlp]
  unfold PT.val Sp.val at *
  rw [hlp]
  rw [pobj, hlp] at HN
  rw [hlp] at H1
  clear hlp
  go_enter Tryd.func53, Tryd.ntmps53
  go_wp2_with fail
  have X0 : SPZ w s q _ := HN.out.below (Below.refl _ _).drew
  clear HN
  refine wp_region_held_drew (S := fun w' => (w'.cell? ⟨w.heap.size, 0, none⟩ = some (.bool s.no) ∧ w'.cell? ⟨w.heap.size, 1, none⟩ = some (.bool s.hl) ∧ w'.cell? ⟨w.heap.size, 2, none⟩ = some (.bool s.ol) ∧ w'.cell? ⟨w.heap.size, 3, none⟩ = some (.bool s.lo.t) ∧ w'.cell? ⟨w.heap.size, 4, none⟩ = some (.int .i64 s.lo.n) ∧ w'.cell? ⟨w.heap.size, 5, none⟩ = some (.string s.lo.s) ∧ w'.cell? ⟨w.heap.size, 6, none⟩ = some (.bool s.hh) ∧ w'.cell? ⟨w.heap.size, 7, none⟩ = some (.bool s.oh) ∧ w'.cell? ⟨w.heap.size, 8, none⟩ = some (.bool s.hi.t) ∧ w'.cell? ⟨w.heap.size, 9, none⟩ = some (.int .i64 s.hi.n) ∧ w'.cell? ⟨w.heap.size, 10, none⟩ = some (.string s.hi.s)) ∧ (w'.cell? ⟨w.heap.size + 1, 0, none⟩ = some (.int .i64 q.op) ∧ w'.cell? ⟨w.heap.size + 1, 1, none⟩ = some (.int .i64 q.col) ∧ w'.cell? ⟨w.heap.size + 1, 2, none⟩ = some (.bool q.v.t) ∧ w'.cell? ⟨w.heap.size + 1, 3, none⟩ = some (.int .i64 q.v.n) ∧ w'.cell? ⟨w.heap.size + 1, 4, none⟩ = some (.string q.v.s) ∧ w'.cell? ⟨w.heap.size + 1, 5, none⟩ = some (.bool q.w.t) ∧ w'.cell? ⟨w.heap.size + 1, 6, none⟩ = some (.int .i64 q.w.n) ∧ w'.cell? ⟨w.heap.size + 1, 7, none⟩ = some (.string q.w.s) ∧ w'.cell? ⟨w.heap.size + 1, 8, none⟩ = some (.slice ap q.l.length cp))) (by kernel_rfl) ?_ (fun hHeld => ?_)
  · exact ⟨⟨X0.pa.c0, X0.pa.c1, X0.pa.c2, X0.pa.c3, X0.pa.c4, X0.pa.c5, X0.pa.c6, X0.pa.c7, X0.pa.c8, X0.pa.c9, X0.pa.c10⟩, ⟨X0.pb.c0, X0.pb.c1, X0.pb.c2, X0.pb.c3, X0.pb.c4, X0.pb.c5, X0.pb.c6, X0.pb.c7, HD.out _ X0⟩⟩
  (try clear hK K)
  refine wpAnyH_take (i := 0) (v := ?_) rfl (by kernel_rfl) (by kernel_rfl) (by kernel_rfl) (fun _ _ _ h => h) (Or.inl ⟨by rfl, ?_⟩) (by assumption) ?_
  rotate_left
  · intro w hSw; (try dsimp only at hSw); go_simp; (try with_reducible rfl)
  (try simp only [Act.put, List.getElem_toArray, List.getElem_cons_zero, List.setIfInBounds_toArray, List.set_cons_zero, List.set_cons_succ])
  refine wpAnyH_take (i := 1) (v := ?_) rfl (by kernel_rfl) (by kernel_rfl) (by kernel_rfl) (fun _ _ _ h => h) (Or.inl ⟨by rfl, ?_⟩) (by assumption) ?_
  rotate_left
  · intro w hSw; (try dsimp only at hSw); go_simp; (try with_reducible rfl)
  (try simp only [Act.put, List.getElem_toArray, List.getElem_cons_succ, List.getElem_cons_zero, List.setIfInBounds_toArray, List.set_cons_zero, List.set_cons_succ])
  (try clear hK K)
  refine wpAnyH_ready (rs := [2]) (by kernel_rfl) (by simp) ?_
  refine AllReadyH.cons rfl (fun K hK => ?_) AllReadyH.nil
  go_simp
  (refine Calls.mono (H1.out _ X0.be) ?_; rintro e w1 ⟨rfl, hb1⟩; have X1 := X0.below hb1)
  refine hK.out _ _ ?_ (fun hHeld => ?_)
  · exact ⟨⟨X1.pa.c0, X1.pa.c1, X1.pa.c2, X1.pa.c3, X1.pa.c4, X1.pa.c5, X1.pa.c6, X1.pa.c7, X1.pa.c8, X1.pa.c9, X1.pa.c10⟩, ⟨X1.pb.c0, X1.pb.c1, X1.pb.c2, X1.pb.c3, X1.pb.c4, X1.pb.c5, X1.pb.c6, X1.pb.c7, HD.out _ X1⟩⟩
  (try clear hK K)
  refine wpAnyH_ready (rs := [3]) (by kernel_rfl) (by simp) ?_
  refine AllReadyH.cons rfl (fun K hK => ?_) AllReadyH.nil
  go_simp
  (refine Calls.mono (H2.out _) ?_; rintro e w2 ⟨rfl, hb2⟩; have X2 := X1.below hb2)
  refine hK.out _ _ ?_ (fun hHeld => ?_)
  · exact ⟨⟨X2.pa.c0, X2.pa.c1, X2.pa.c2, X2.pa.c3, X2.pa.c4, X2.pa.c5, X2.pa.c6, X2.pa.c7, X2.pa.c8, X2.pa.c9, X2.pa.c10⟩, ⟨X2.pb.c0, X2.pb.c1, X2.pb.c2, X2.pb.c3, X2.pb.c4, X2.pb.c5, X2.pb.c6, X2.pb.c7, HD.out _ X2⟩⟩
  obtain ⟨z0, z1, z2, z3, z4, z5, z6, z7, z8, z9, z10⟩ := X2.pz
  obtain ⟨lz, fz⟩ := X2.fz
  have HX : Hid (SPZ w s q w2) := X2
  clear X0 X1 X2 hb1 hb2 H1 H2
  (try clear hK K)
  refine wpAnyH_ready (rs := [4]) (by kernel_rfl) (by simp) ?_
  refine AllReadyH.cons rfl (fun K hK => ?_) AllReadyH.nil
  go_simp
  refine hK.out _ _ ?_ (fun hHeld => ?_)
  · have d8 := HD.out _ HX.out
    obtain ⟨d0, d1, d2, d3, d4, d5, d6, d7, _⟩ := HX.out.pb
    refine ⟨SBox.conj ?_, ?_, ?_, ?_, ?_, ?_, ?_, ?_, ?_, ?_⟩
    · repeat (refine SBox.far ?_ (by omega))
      exact HX.out.pa
    all_goals
      (repeat (refine cell_far ?_ (by omega))) <;> assumption
  (try clear hK K)
  refine wpAnyH_done (by kernel_rfl) ?_ _
  go_wp2_with fail
  refine bodyPost_ret (v := r.val) (by simp [results, Tryd.results53, go_sem, Sp.val, z0, z1, z2, z3, z4, z5, z6, z7, z8, z9, z10]) rfl ⟨rfl, ?_⟩
  repeat (refine set_below ?_ (by omega) _)
  exact HX.out.be
set_option maxHeartbeats 4000000 in
theorem two_hull (s : Sp) (q : PT) (hq : KeysOk q) (w : World) (hi : In w q) : Calls Tryd.prog 54 #[s.val, q.val] w fun e w' => e = .returned (hullS s (keysP q)).val ∧ Below w.heap.size w w' := by
  have H1 : Hid (∀ w1, Below w.heap.size w w1 → Calls Tryd.prog 31 #[q.val] w1 fun e w' => e = .returned (keysP q).val ∧ Below w1.heap.size w1 w') := fun w1 hb => hq w1 (hi.keep hb)
  have H2 : Hid (∀ w1, Calls Tryd.prog 21 #[s.val, (keysP q).val] w1 fun e w' => e = .returned (hullS s (keysP q)).val ∧ Below w1.heap.size w1 w') := fun w1 => hull_any _ _ w1
  generalize hullS s (keysP q) = r at *
  generalize keysP q = kq at *
  obtain ⟨ap, cp, hlp, _⟩ := hi.lies.slice
  have HN : Hid _ := SPZ.new w s q 35 29 35
  clear hq hi
  have HD : Hid (∀ w1, SPZ w s q w1 → w1.cell? ⟨w.heap.size + 1, 8, none⟩ = some (.slice ap q.l.length cp)) := fun w1 h => by rw [h.pb.c8, hlp]
  unfold PT.val Sp.val at *
  rw [hlp]
  rw [pobj, hlp] at HN
  rw [hlp] at H1
  clear hlp
  go_enter Tryd.func54, Tryd.ntmps54
  go_wp2_with fail
  have X0 : SPZ w s q _ := HN.out.below (Below.refl _ _).drew
  clear HN
  refine wp_region_held_drew (S := fun w' => (w'.cell? ⟨w.heap.size, 0, none⟩ = some (.bool s.no) ∧ w'.cell? ⟨w.heap.size, 1, none⟩ = some (.bool s.hl) ∧ w'.cell? ⟨w.heap.size, 2, none⟩ = some (.bool s.ol) ∧ w'.cell? ⟨w.heap.size, 3, none⟩ = some (.bool s.lo.t) ∧ w'.cell? ⟨w.heap.size, 4, none⟩ = some (.int .i64 s.lo.n) ∧ w'.cell? ⟨w.heap.size, 5, none⟩ = some (.string s.lo.s) ∧ w'.cell? ⟨w.heap.size, 6, none⟩ = some (.bool s.hh) ∧ w'.cell? ⟨w.heap.size, 7, none⟩ = some (.bool s.oh) ∧ w'.cell? ⟨w.heap.size, 8, none⟩ = some (.bool s.hi.t) ∧ w'.cell? ⟨w.heap.size, 9, none⟩ = some (.int .i64 s.hi.n) ∧ w'.cell? ⟨w.heap.size, 10, none⟩ = some (.string s.hi.s)) ∧ (w'.cell? ⟨w.heap.size + 1, 0, none⟩ = some (.int .i64 q.op) ∧ w'.cell? ⟨w.heap.size + 1, 1, none⟩ = some (.int .i64 q.col) ∧ w'.cell? ⟨w.heap.size + 1, 2, none⟩ = some (.bool q.v.t) ∧ w'.cell? ⟨w.heap.size + 1, 3, none⟩ = some (.int .i64 q.v.n) ∧ w'.cell? ⟨w.heap.size + 1, 4, none⟩ = some (.string q.v.s) ∧ w'.cell? ⟨w.heap.size + 1, 5, none⟩ = some (.bool q.w.t) ∧ w'.cell? ⟨w.heap.size + 1, 6, none⟩ = some (.int .i64 q.w.n) ∧ w'.cell? ⟨w.heap.size + 1, 7, none⟩ = some (.string q.w.s) ∧ w'.cell? ⟨w.heap.size + 1, 8, none⟩ = some (.slice ap q.l.length cp))) (by kernel_rfl) ?_ (fun hHeld => ?_)
  · exact ⟨⟨X0.pa.c0, X0.pa.c1, X0.pa.c2, X0.pa.c3, X0.pa.c4, X0.pa.c5, X0.pa.c6, X0.pa.c7, X0.pa.c8, X0.pa.c9, X0.pa.c10⟩, ⟨X0.pb.c0, X0.pb.c1, X0.pb.c2, X0.pb.c3, X0.pb.c4, X0.pb.c5, X0.pb.c6, X0.pb.c7, HD.out _ X0⟩⟩
  (try clear hK K)
  refine wpAnyH_take (i := 0) (v := ?_) rfl (by kernel_rfl) (by kernel_rfl) (by kernel_rfl) (fun _ _ _ h => h) (Or.inl ⟨by rfl, ?_⟩) (by assumption) ?_
  rotate_left
  · intro w hSw; (try dsimp only at hSw); go_simp; (try with_reducible rfl)
  (try simp only [Act.put, List.getElem_toArray, List.getElem_cons_zero, List.setIfInBounds_toArray, List.set_cons_zero, List.set_cons_succ])
  refine wpAnyH_take (i := 1) (v := ?_) rfl (by kernel_rfl) (by kernel_rfl) (by kernel_rfl) (fun _ _ _ h => h) (Or.inl ⟨by rfl, ?_⟩) (by assumption) ?_
  rotate_left
  · intro w hSw; (try dsimp only at hSw); go_simp; (try with_reducible rfl)
  (try simp only [Act.put, List.getElem_toArray, List.getElem_cons_succ, List.getElem_cons_zero, List.setIfInBounds_toArray, List.set_cons_zero, List.set_cons_succ])
  (try clear hK K)
  refine wpAnyH_ready (rs := [2]) (by kernel_rfl) (by simp) ?_
  refine AllReadyH.cons rfl (fun K hK => ?_) AllReadyH.nil
  go_simp
  (refine Calls.mono (H1.out _ X0.be) ?_; rintro e w1 ⟨rfl, hb1⟩; have X1 := X0.below hb1)
  refine hK.out _ _ ?_ (fun hHeld => ?_)
  · exact ⟨⟨X1.pa.c0, X1.pa.c1, X1.pa.c2, X1.pa.c3, X1.pa.c4, X1.pa.c5, X1.pa.c6, X1.pa.c7, X1.pa.c8, X1.pa.c9, X1.pa.c10⟩, ⟨X1.pb.c0, X1.pb.c1, X1.pb.c2, X1.pb.c3, X1.pb.c4, X1.pb.c5, X1.pb.c6, X1.pb.c7, HD.out _ X1⟩⟩
  (try clear hK K)
  refine wpAnyH_ready (rs := [3]) (by kernel_rfl) (by simp) ?_
  refine AllReadyH.cons rfl (fun K hK => ?_) AllReadyH.nil
  go_simp
  (refine Calls.mono (H2.out _) ?_; rintro e w2 ⟨rfl, hb2⟩; have X2 := X1.below hb2)
  refine hK.out _ _ ?_ (fun hHeld => ?_)
  · exact ⟨⟨X2.pa.c0, X2.pa.c1, X2.pa.c2, X2.pa.c3, X2.pa.c4, X2.pa.c5, X2.pa.c6, X2.pa.c7, X2.pa.c8, X2.pa.c9, X2.pa.c10⟩, ⟨X2.pb.c0, X2.pb.c1, X2.pb.c2, X2.pb.c3, X2.pb.c4, X2.pb.c5, X2.pb.c6, X2.pb.c7, HD.out _ X2⟩⟩
  obtain ⟨z0, z1, z2, z3, z4, z5, z6, z7, z8, z9, z10⟩ := X2.pz
  obtain ⟨lz, fz⟩ := X2.fz
  have HX : Hid (SPZ w s q w2) := X2
  clear X0 X1 X2 hb1 hb2 H1 H2
  (try clear hK K)
  refine wpAnyH_ready (rs := [4]) (by kernel_rfl) (by simp) ?_
  refine AllReadyH.cons rfl (fun K hK => ?_) AllReadyH.nil
  go_simp
  refine hK.out _ _ ?_ (fun hHeld => ?_)
  · have d8 := HD.out _ HX.out
    obtain ⟨d0, d1, d2, d3, d4, d5, d6, d7, _⟩ := HX.out.pb
    refine ⟨SBox.conj ?_, ?_, ?_, ?_, ?_, ?_, ?_, ?_, ?_, ?_⟩
    · repeat (refine SBox.far ?_ (by omega))
      exact HX.out.pa
    all_goals
      (repeat (refine cell_far ?_ (by omega))) <;> assumption
  (try clear hK K)
  refine wpAnyH_done (by kernel_rfl) ?_ _
  go_wp2_with fail
  refine bodyPost_ret (v := r.val) (by simp [results, Tryd.results54, go_sem, Sp.val, z0, z1, z2, z3, z4, z5, z6, z7, z8, z9, z10]) rfl ⟨rfl, ?_⟩
  repeat (refine set_below ?_ (by omega) _)
  exact HX.out.be
theorem enters_k1 : Enters 53 := enters_of Tryd.func53 (by decide +kernel) rfl
theorem enters_k2 : Enters 54 := enters_of Tryd.func54 (by decide +kernel) rfl
theorem foldM_map (l : List PT) (s : Sp) : (l.map keysP).foldl meetS s = l.foldl (fun s q => meetS s (keysP q)) s := by rw [List.foldl_map]
theorem foldH_map (l : List PT) (s : Sp) : (l.map keysP).foldl hullS s = l.foldl (fun s q => hullS s (keysP q)) s := by rw [List.foldl_map]
end Go.Proofs.YtfkhfplibhnceaaDoor.Val
/- What keys, Normal and Keys of package normal answer. -/
namespace Go.Proofs.YtfkhfplibhnceaaDoor.Val
open Go.RowKit

set_option maxHeartbeats 4000000 in
theorem keys_11 (p : PT) (h : p.op = 11) (w : World) (hi : In w p) (r : Sp) (H0 : ∀ w1, Below w.heap.size w w1 → Calls Tryd.prog 52 #[p.lv, Sp.all.val, FV 53 #[] #[]] w1 fun e w' => e = .returned r.val ∧ Below w1.heap.size w1 w') : Calls Tryd.prog 31 #[p.val] w fun e w' => e = .returned r.val ∧ Below w.heap.size w w' := by
  have H1 : Hid _ := H0
  obtain ⟨ap, cp, hlp, _⟩ := hi.lies.slice
  have HN : Hid _ := PS.new w p 29 35
  clear H0 hi
  unfold PT.val Sp.val at *
  simp only [Sp.all, Val.zero] at H1
  rw [hlp, h]
  rw [hlp] at H1
  rw [pobj, hlp, h] at HN
  clear hlp h
  go_enter Tryd.func31, Tryd.ntmps31
  go_wp2_with fail
  refine Calls.mono (H1.out _ (back1 (alloc1 _ _))) ?_
  rintro e w1 ⟨rfl, hb⟩
  have HX : Hid (PS w p w1) := HN.out.below hb
  obtain ⟨z0, z1, z2, z3, z4, z5, z6, z7, z8, z9, z10⟩ := HX.out.pz
  obtain ⟨lz, fz⟩ := HX.out.fz
  clear hb HN H1
  go_wp2_with fail
  refine bodyPost_ret (v := r.val) (by simp [results, Tryd.results31, go_sem, Sp.val, z0, z1, z2, z3, z4, z5, z6, z7, z8, z9, z10]) rfl ⟨rfl, ?_⟩
  repeat (refine set_below ?_ (by omega) _)
  exact HX.out.be
set_option maxHeartbeats 4000000 in
theorem keys_12 (p : PT) (h : p.op = 12) (w : World) (hi : In w p) (r : Sp) (H0 : ∀ w1, Below w.heap.size w w1 → Calls Tryd.prog 52 #[p.lv, Sp.none.val, FV 54 #[] #[]] w1 fun e w' => e = .returned r.val ∧ Below w1.heap.size w1 w') : Calls Tryd.prog 31 #[p.val] w fun e w' => e = .returned r.val ∧ Below w.heap.size w w' := by
  have H1 : Hid _ := H0
  obtain ⟨ap, cp, hlp, _⟩ := hi.lies.slice
  have HN : Hid _ := PS.new w p 29 35
  clear H0 hi
  unfold PT.val Sp.val at *
  simp only [Sp.none, Val.zero] at H1
  rw [hlp, h]
  rw [hlp] at H1
  rw [pobj, hlp, h] at HN
  clear hlp h
  go_enter Tryd.func31, Tryd.ntmps31
  go_wp2_with fail
  refine Calls.mono (H1.out _ (back1 (alloc1 _ _))) ?_
  rintro e w1 ⟨rfl, hb⟩
  have HX : Hid (PS w p w1) := HN.out.below hb
  obtain ⟨z0, z1, z2, z3, z4, z5, z6, z7, z8, z9, z10⟩ := HX.out.pz
  obtain ⟨lz, fz⟩ := HX.out.fz
  clear hb HN H1
  go_wp2_with fail
  refine bodyPost_ret (v := r.val) (by simp [results, Tryd.results31, go_sem, Sp.val, z0, z1, z2, z3, z4, z5, z6, z7, z8, z9, z10]) rfl ⟨rfl, ?_⟩
  repeat (refine set_below ?_ (by omega) _)
  exact HX.out.be
set_option maxHeartbeats 2000000 in
theorem keys_2 (p : PT) (h : p.op = 2) (w : World) (hi : In w p) : Calls Tryd.prog 31 #[p.val] w fun e w' => e = .returned Sp.none.val ∧ Below w.heap.size w w' := by
  obtain ⟨ap, cp, hlp, _⟩ := hi.lies.slice
  clear hi
  unfold PT.val
  rw [hlp, h]
  clear hlp h
  go_enter Tryd.func31, Tryd.ntmps31
  go_wp2_with fail
  refine bodyPost_ret (v := Sp.none.val) (by simp [results, Tryd.results31, go_sem, Sp.val, Sp.none, Val.zero]) rfl ⟨rfl, ?_⟩
  exact back1 (alloc1 _ _)
set_option maxHeartbeats 2000000 in
theorem keys_far (p : PT) (w : World) (hi : In w p) (h2 : (p.op == 2) = false) (h11 : (p.op == 11) = false) (h12 : (p.op == 12) = false) (hc : (p.col != 0) = true) : Calls Tryd.prog 31 #[p.val] w fun e w' => e = .returned Sp.all.val ∧ Below w.heap.size w w' := by
  obtain ⟨ap, cp, hlp, _⟩ := hi.lies.slice
  clear hi
  unfold PT.val
  rw [hlp]
  clear hlp
  go_enter Tryd.func31, Tryd.ntmps31
  go_wp2_with fail
  refine bodyPost_ret (v := Sp.all.val) (by simp [results, Tryd.results31, go_sem, Sp.val, Sp.all, Val.zero]) rfl ⟨rfl, ?_⟩
  exact back1 (alloc1 _ _)
set_option maxHeartbeats 2000000 in
theorem keys_leaf (p : PT) (w : World) (hi : In w p) (h2 : (p.op == 2) = false) (h11 : (p.op == 11) = false) (h12 : (p.op == 12) = false) (hc : (p.col != 0) = false) : Calls Tryd.prog 31 #[p.val] w fun e w' => e = .returned (leafS p.op p.v p.w).val ∧ Below w.heap.size w w' := by
  have H1 : Hid (∀ w1, Below w.heap.size w w1 → Calls Tryd.prog 55 #[p.val] w1 fun e w' => e = .returned (leafS p.op p.v p.w).val ∧ Below w1.heap.size w1 w') := fun w1 hb => leaf_any p w1 (hi.keep hb)
  generalize leafS p.op p.v p.w = r at *
  obtain ⟨ap, cp, hlp, _⟩ := hi.lies.slice
  have HN : Hid _ := PS.new w p 29 35
  clear hi
  unfold PT.val Sp.val at *
  rw [hlp] at H1 ⊢
  rw [pobj, hlp] at HN
  clear hlp
  go_enter Tryd.func31, Tryd.ntmps31
  go_wp2_with fail
  refine Calls.mono (H1.out _ (back1 (alloc1 _ _))) ?_
  rintro e w1 ⟨rfl, hb⟩
  have HX : Hid (PS w p w1) := HN.out.below hb
  obtain ⟨z0, z1, z2, z3, z4, z5, z6, z7, z8, z9, z10⟩ := HX.out.pz
  obtain ⟨lz, fz⟩ := HX.out.fz
  clear hb HN H1
  go_wp2_with fail
  refine bodyPost_ret (v := r.val) (by simp [results, Tryd.results31, go_sem, Sp.val, z0, z1, z2, z3, z4, z5, z6, z7, z8, z9, z10]) rfl ⟨rfl, ?_⟩
  repeat (refine set_below ?_ (by omega) _)
  exact HX.out.be
theorem keys_ok (p : PT) : KeysOk p := by
  induction p using PT.ind with
  | h p ih =>
    intro w hi
    rw [keys_mk]
    by_cases h2 : p.op = 2
    · rw [if_pos h2]; exact keys_2 p h2 w hi
    rw [if_neg h2]
    by_cases h11 : p.op = 11
    · rw [if_pos h11, foldM_map]
      exact keys_11 p h11 w hi _ fun w1 hb => together_any _ enters_k1 (fun s q => meetS s (keysP q)) p.lv p.l Sp.all w1 (hi.list.below hb) fun s q hq w2 hi2 => two_meet s q (ih q hq) w2 hi2
    rw [if_neg h11]
    by_cases h12 : p.op = 12
    · rw [if_pos h12, foldH_map]
      exact keys_12 p h12 w hi _ fun w1 hb => together_any _ enters_k2 (fun s q => hullS s (keysP q)) p.lv p.l Sp.none w1 (hi.list.below hb) fun s q hq w2 hi2 => two_hull s q (ih q hq) w2 hi2
    rw [if_neg h12]
    by_cases hc : p.col ≠ 0
    · rw [if_pos hc]; exact keys_far p w hi (by simpa using h2) (by simpa using h11) (by simpa using h12) (by simpa using hc)
    · rw [if_neg hc]; exact keys_leaf p w hi (by simpa using h2) (by simpa using h11) (by simpa using h12) (by simpa using hc)
/-- A table's box, a predicate's, and the answer's. -/
structure TPZ (w0 : World) (vc : Value) (p : PT) (w : World) : Prop where
  pt : w.cell? ⟨w0.heap.size, 0, none⟩ = some vc
  pb : Box w (w0.heap.size + 1) p
  pz : Box w (w0.heap.size + 1 + 1) PT.zero
  fz : Fr w (w0.heap.size + 1 + 1)
  be : Below w0.heap.size w0 w
theorem TPZ.below {w0 w w' : World} {vc : Value} {p : PT} (h : TPZ w0 vc p w) (hb : Below w.heap.size w w') : TPZ w0 vc p w' := ⟨cell_below h.pt hb, h.pb.below hb, h.pz.below hb, h.fz.below hb, on h.be hb⟩
theorem TPZ.new (w : World) (vc : Value) (p : PT) (T1 T2 T3 : TypeId) : TPZ w vc p (((w.alloc (.cells #[vc] T1)).alloc (pobj p T2)).alloc (pobj PT.zero T3)) := by
  refine ⟨cell_alloc (cell_alloc (cell_new _ _ _) _) _, ?_, ?_, ?_, back2 (alloc1 _ _)⟩
  · have := (Box.new (w.alloc (.cells #[vc] T1)) p T2).alloc (pobj PT.zero T3); simpa using this
  · have := Box.new ((w.alloc (.cells #[vc] T1)).alloc (pobj p T2)) PT.zero T3; simpa using this
  · have := Fr.new ((w.alloc (.cells #[vc] T1)).alloc (pobj p T2)) #[.int .i64 PT.zero.op, .int .i64 PT.zero.col, .bool PT.zero.v.t, .int .i64 PT.zero.v.n, .string PT.zero.v.s, .bool PT.zero.w.t, .int .i64 PT.zero.w.n, .string PT.zero.w.s, PT.zero.lv] T3; simpa using this
set_option maxHeartbeats 4000000 in
theorem normal_any (vc : Value) (cols : List Bool) (p : PT) (w : World) (hbo : BoolsIn w vc cols) (hi : In w p) (hT : Tab w) (hs : p.size ≤ 1000000) :
    Calls Tryd.prog 13 #[.agg #[vc], p.val] w fun e w' => ∃ q : PT, e = .returned q.val ∧ q.bare = normP cols p ∧ Nw w' TP (fun b => w.heap.size ≤ b) q ∧ Below w.heap.size w w' := by
  have H1 : Hid (∀ w1, Below w.heap.size w w1 → Calls Tryd.prog 28 #[.agg #[vc], p.val] w1 fun e w' => e = .returned (.int .i64 (checkN cols p)) ∧ Below w1.heap.size w1 w') := fun w1 hb => pcheck_any vc cols p w1 (hbo.below hb) (hi.keep hb) hs
  have H2 : Hid (checkN cols p = 0 → ∀ w1, Below w.heap.size w w1 → Calls Tryd.prog 29 #[p.val] w1 fun e w' => ∃ q : PT, e = .returned q.val ∧ q.bare = (pushP p false).bare ∧ Nw w' TP (fun b => w1.heap.size ≤ b) q ∧ Below w1.heap.size w1 w') := fun h w1 hb => (push_ok p (check_iff.1 h).2.2 hs).1 w1 (hi.keep hb) (hT.below hb)
  have HM : Hid (normP cols p = if checkN cols p = 0 then pushP p false else lfN 2 0 Val.zero Val.zero) := rfl
  generalize checkN cols p = c at *
  generalize normP cols p = n at *
  obtain ⟨ap, cp, hlp, _⟩ := hi.lies.slice
  obtain ⟨ac, cc, rfl, _⟩ := hbo.slice
  have HN : Hid _ := TPZ.new w (.slice ac cols.length cc) p 24 29 29
  have HLP : Hid (p.lv = .slice ap p.l.length cp) := hlp
  clear hi hbo hT hs
  unfold PT.val at *
  rw [hlp] at H1 H2 ⊢
  rw [pobj, hlp] at HN
  clear hlp
  go_enter Tryd.func13, Tryd.ntmps13
  go_wp2_with fail
  refine Calls.mono (H1.out _ (back2 (alloc1 _ _))) ?_
  rintro e w1 ⟨rfl, hb⟩
  have HX : Hid (TPZ w (.slice ac cols.length cc) p w1) := HN.out.below hb
  clear hb HN H1
  obtain ⟨pt, ⟨b0, b1, b2, b3, b4, b5, b6, b7, b8⟩, ⟨z0, z1, z2, z3, z4, z5, z6, z7, z8⟩, ⟨lz, fz⟩, _⟩ := HX.out
  rw [HLP.out] at b8
  by_cases hc : c = 0
  · subst hc
    have HQ : Hid _ := H2.out rfl w1 HX.out.be
    have HB : Hid (n.bare = (pushP p false).bare) := by rw [Hid, HM.out]; simp
    have HE : Hid ((pushP p false).bare = n) := by rw [Hid, HM.out]; simp [push_bare]
    clear H2 HM HB
    go_wp2_with fail
    refine Calls.mono HQ.out ?_
    rintro e w2 ⟨q, rfl, hqb, hqn, hb⟩
    have HX2 : Hid (TPZ w (.slice ac cols.length cc) p w2) := HX.out.below hb
    have HR : Hid (q.bare = n ∧ Nw w2 TP (fun b => w.heap.size + 1 + 1 < b) q) := ⟨hqb.trans HE.out, hqn.imp fun b h _ => by have := HX.out.fz.1; omega⟩
    obtain ⟨aq, cq, hlq⟩ := hqn.slice
    have HLQ : Hid (q.lv = .slice aq q.l.length cq) := hlq
    rw [hlq]
    clear hlq hqb hqn hb HQ HE HX pt b0 b1 b2 b3 b4 b5 b6 b7 b8 z0 z1 z2 z3 z4 z5 z6 z7 z8 lz fz
    obtain ⟨_, _, ⟨z0, z1, z2, z3, z4, z5, z6, z7, z8⟩, ⟨lz, fz⟩, _⟩ := HX2.out
    go_wp2_with fail
    refine bodyPost_ret (v := q.val) (by simp [results, Tryd.results13, go_sem, PT.val, HLQ.out, z0, z1, z2, z3, z4, z5, z6, z7, z8]) rfl ⟨q, rfl, HR.out.1, ?_, ?_⟩
    · refine Nw.imp (P := fun b => w.heap.size + 1 + 1 < b) ?_ (fun b hb _ => by omega)
      repeat (refine nw_set ?_ (fun x hx => by omega))
      exact HR.out.2
    · repeat (refine set_below ?_ (by omega) _)
      exact HX2.out.be
  · have e1 : (c != 0) = true := by simpa using hc
    have HE : Hid (n = lfN 2 0 Val.zero Val.zero) := by rw [Hid, HM.out]; simp [hc]
    clear H2 HM hc
    go_wp2_with fail
    refine bodyPost_ret (v := (lfN 2 0 Val.zero Val.zero).val) (by simp [results, Tryd.results13, go_sem, PT.val, lfN, Val.zero, z0, z1, z2, z3, z4, z5, z6, z7, z8]) rfl ⟨lfN 2 0 Val.zero Val.zero, rfl, by rw [HE.out, lfN_bare], Nw.leaf _ _ _ _ _ _ _ (by decide) (by decide), ?_⟩
    repeat (refine set_below ?_ (by omega) _)
    exact HX.out.be
set_option maxHeartbeats 4000000 in
theorem pkeys_any (vc : Value) (cols : List Bool) (p : PT) (w : World) (hbo : BoolsIn w vc cols) (hi : In w p) (hT : Tab w) (hs : p.size ≤ 1000000) :
    Calls Tryd.prog 15 #[.agg #[vc], p.val] w fun e w' => e = .returned (keysN cols p).val ∧ Below w.heap.size w w' := by
  have H1 : Hid (∀ w1, Below w.heap.size w w1 → Calls Tryd.prog 13 #[.agg #[vc], p.val] w1 fun e w' => ∃ q : PT, e = .returned q.val ∧ q.bare = normP cols p ∧ Nw w' TP (fun b => w1.heap.size ≤ b) q ∧ Below w1.heap.size w1 w') := fun w1 hb => normal_any vc cols p w1 (hbo.below hb) (hi.keep hb) (hT.below hb) hs
  have HK : Hid (∀ q : PT, q.bare = normP cols p → keysP q = keysN cols p) := fun q hq => by unfold keysN; rw [← norm_bare] at hq; exact keys_of_bare hq
  generalize normP cols p = n at *
  generalize keysN cols p = r at *
  obtain ⟨ap, cp, hlp, _⟩ := hi.lies.slice
  obtain ⟨ac, cc, rfl, _⟩ := hbo.slice
  have HZ : Hid (∀ w0 : World, SBox (w0.alloc (sobj Sp.all 35)) w0.heap.size Sp.all ∧ Fr (w0.alloc (sobj Sp.all 35)) w0.heap.size) := fun w0 => ⟨SBox.new _ _ _, Fr.new _ _ _⟩
  clear hi hbo hT hs
  unfold PT.val Sp.val at *
  rw [hlp] at H1 ⊢
  clear hlp
  go_enter Tryd.func15, Tryd.ntmps15
  go_wp2_with fail
  refine Calls.mono (H1.out _ (back2 (alloc1 _ _))) ?_
  rintro e w1 ⟨q, rfl, hqb, hqn, hb⟩
  have hz := HZ.out ((w.alloc (.cells #[.slice ac cols.length cc] 24)).alloc (.cells #[.int .i64 p.op, .int .i64 p.col, .bool p.v.t, .int .i64 p.v.n, .string p.v.s, .bool p.w.t, .int .i64 p.w.n, .string p.w.s, .slice ap p.l.length cp] 29))
  have HZ1 : Hid (SBox w1 (w.heap.size + 1 + 1) Sp.all ∧ Fr w1 (w.heap.size + 1 + 1) ∧ Below w.heap.size w w1) := ⟨by have := hz.1.below hb; simpa using this, by have := hz.2.below hb; simpa using this, back3 hb⟩
  obtain ⟨aq, cq, hlq⟩ := hqn.slice
  have H2 : Hid (Calls Tryd.prog 31 #[q.val] w1 fun e w' => e = .returned r.val ∧ Below w1.heap.size w1 w') := by
    have := keys_ok q w1 hqn.isIn
    rw [HK.out q hqb] at this
    exact this
  unfold PT.val Sp.val at H2
  rw [hlq] at H2 ⊢
  clear hb hqb hqn hz HZ H1 HK hlq
  go_wp2_with fail
  refine Calls.mono H2.out ?_
  rintro e w2 ⟨rfl, hb⟩
  have HX : Hid (Below w.heap.size w w2) := on HZ1.out.2.2 hb
  obtain ⟨z0, z1, z2, z3, z4, z5, z6, z7, z8, z9, z10⟩ := HZ1.out.1.below hb
  obtain ⟨lz, fz⟩ := HZ1.out.2.1.below hb
  clear hb HZ1 H2
  go_wp2_with fail
  refine bodyPost_ret (v := r.val) (by simp [results, Tryd.results15, go_sem, Sp.val, z0, z1, z2, z3, z4, z5, z6, z7, z8, z9, z10]) rfl ⟨rfl, ?_⟩
  repeat (refine set_below ?_ (by omega) _)
  exact HX.out
end Go.Proofs.YtfkhfplibhnceaaDoor.Val
/- Plain: literals of a law: leaves, and a slice literal's cells. -/
namespace Go.Proofs.YtfkhfplibhnceaaDoor.Val
open Go Go.RowKit

theorem in_leaf (w : World) (o c : Int) (v u : Val) (h1 : v.s.size ≤ maxLen) (h2 : u.s.size ≤ maxLen) : In w (.mk o c v u (.slice none 0 0) []) :=
  .mk h1 h2 ⟨none, 0, rfl, Nat.le_refl _, Nat.zero_le _, fun _ => ⟨rfl, rfl⟩, .inl rfl⟩ (by simp)
theorem lies_new (w : World) (N : Nat) (hN : w.heap.size = N) (cs : List Value) (n : Nat) (T : TypeId) (hn : n ≤ maxLen) : Lies (w.alloc (.cells cs.toArray T)) (.slice (some ⟨N, 0, none⟩) n n) n cs := by
  subst hN
  refine ⟨_, n, rfl, Nat.le_refl _, hn, fun h => (by cases h), .inr ⟨w.heap.size, 0, rfl, fun j u hj => ?_⟩⟩
  rw [Nat.zero_add, cell_of_row (w.alloc _) w.heap.size j cs.toArray T (0, 0) (heap_alloc_new w _)]
  simpa using hj
end Go.Proofs.YtfkhfplibhnceaaDoor.Val
/- A law of regions that draw their order. No program. -/
namespace Go.Proofs.YtfkhfplibhnceaaDoor.Val
open Go.RowKit

/-- A region that draws its order, whose operations leave the world alone and whose calls leave one of a class: walked once, in the order of the text. -/
theorem region_cls {P : Program} {C : World → Prop} {id : Nat} {Q : Exit → Act → World → Prop} {a : Act} {w : World} {l : List Oper} (hm : P.follows .mixedOrders = true) (hB : Region.lexB .any l.toArray = true) (hC : C { w with drawn := w.drawn + 1 })
    (h : wpQuiet P l.toArray C (fun a' => ∀ w', C w' → Q .normal a' w') l a) : (Code.region id l.toArray true).wp P Q a w := wp_region_quiet hm hB hC (by simpa using h)
end Go.Proofs.YtfkhfplibhnceaaDoor.Val
/- The law's awake answers true, where the table of opposites lies in memory. -/
namespace Go.Proofs.YtfkhfplibhnceaaDoor.Val
open Go.RowKit

def vn (n : Int) : Val := ⟨false, n, ⟨#[]⟩⟩
def exL : List PT := [lfN 7 0 (vn 3) Val.zero, lfN 6 0 (vn 7) Val.zero]
def exA (N : Nat) : PT := .mk 11 0 Val.zero Val.zero (.slice (some ⟨N + 1 + 1, 0, none⟩) 2 2) exL
def exN (N M : Nat) : PT := .mk 10 0 Val.zero Val.zero (.slice (some ⟨M + 1, 0, none⟩) 1 1) [exA N]
def exS : Sp := ⟨false, true, true, vn 3, true, false, vn 7⟩
def exO : PT := .mk 12 0 Val.zero Val.zero (.slice none 0 0) [lfN 6 0 (vn 3) Val.zero, lfN 7 0 (vn 7) Val.zero]
theorem ex_good (N : Nat) : Good [false] (exA N) := by
  have h : ∀ o n, 3 ≤ o ∧ o ≤ 8 → Good [false] (lfN o 0 (vn n) Val.zero) := fun o n ho => suit_lf ho (by simp [ofB, isCol, rightV, vn, colAt])
  refine .mk (show suitO [false] 11 0 Val.zero Val.zero 2 = true by simp [suitO]) fun q hq => ?_
  have hq' : q = lfN 7 0 (vn 3) Val.zero ∨ q = lfN 6 0 (vn 7) Val.zero := by simpa [exA, exL] using hq
  rcases hq' with rfl | rfl
  · exact h 7 3 (by omega)
  · exact h 6 7 (by omega)
theorem ex_size (N : Nat) : (exA N).size = 3 := by simp [exA, exL, lfN, size_mk]
theorem ex_size' (N M : Nat) : (exN N M).size = 4 := by simp [exN, size_mk, ex_size]
theorem ex_check (N : Nat) : checkN [false] (exA N) = 0 := check_iff.2 ⟨by decide, by rw [ex_size]; omega, ex_good N⟩
theorem ex_check' (N M : Nat) : checkN [false] (exN N M) = 0 := check_iff.2 ⟨by decide, by rw [ex_size']; omega, .mk (show suitO [false] 10 0 Val.zero Val.zero 1 = true by simp [suitO]) fun q hq => by
  have : q = exA N := by simpa [exN] using hq
  subst this; exact ex_good N⟩
theorem ex_leaf (o n : Int) (b : Bool) (h : 3 ≤ o ∧ o ≤ 8) : pushP (lfN o 0 (vn n) Val.zero) b = lfN (if b then oppO o else o) 0 (vn n) Val.zero := by
  rw [push_one (by omega) (by omega) (by omega), pushL, if_neg (by omega)]
  cases b
  · rfl
  · rw [if_pos rfl, if_neg (by omega)]; rfl
theorem ex_norm' (N M : Nat) : normP [false] (exN N M) = exO := by
  unfold normP
  rw [if_pos (ex_check' N M), push_10 (p := exN N M) rfl (exA N) rfl, push_list (p := exA N) (.inl rfl)]
  show PT.mk 12 0 Val.zero Val.zero (.slice none 0 0) (exL.map fun q => pushP q true) = exO
  simp only [exL, List.map_cons, List.map_nil]
  rw [ex_leaf 7 3 true (by omega), ex_leaf 6 7 true (by omega)]
  rfl
theorem cmp_vn (a b : Int) : cmpX (vn a) (vn b) = cmpN a b := rfl
theorem ex_meet : meetS (leafS 7 (vn 3) Val.zero) (leafS 6 (vn 7) Val.zero) = exS := by
  have e1 : leafS 7 (vn 3) Val.zero = btw (openE (vn 3)) En.zero := by unfold leafS; rfl
  have e2 : leafS 6 (vn 7) Val.zero = btw En.zero (closedE (vn 7)) := by unfold leafS; rfl
  have a1 : apartE (openE (vn 3)) En.zero = false := by unfold apartE; rw [isZ_zero]; simp
  have a2 : apartE En.zero (closedE (vn 7)) = false := by unfold apartE; rw [isZ_zero]; simp
  have b1 : btw (openE (vn 3)) En.zero = ⟨false, true, true, vn 3, false, false, Val.zero⟩ := by unfold btw; rw [a1]; rfl
  have b2 : btw En.zero (closedE (vn 7)) = ⟨false, false, false, Val.zero, true, false, vn 7⟩ := by unfold btw; rw [a2]; rfl
  have c1 := clean_btw (wf_open (vn 3)) wf_zero
  have c2 := clean_btw wf_zero (wf_closed (vn 7))
  unfold meetS
  rw [e1, e2, c1, c2, b1, b2]
  have z1 : isZ (openE (vn 3)) = false := isZ_has rfl
  have z2 : isZ (closedE (vn 7)) = false := isZ_has rfl
  have i1 : innerE (openE (vn 3)) En.zero 1 = openE (vn 3) := by unfold innerE; rw [z1, isZ_zero]; rfl
  have i2 : innerE En.zero (closedE (vn 7)) (-1) = closedE (vn 7) := by unfold innerE; rw [isZ_zero]; rfl
  show btw (innerE (openE (vn 3)) En.zero 1) (innerE En.zero (closedE (vn 7)) (-1)) = exS
  rw [i1, i2]
  have a3 : apartE (openE (vn 3)) (closedE (vn 7)) = false := by
    unfold apartE
    rw [z1, z2]
    show (!false && sideB (cmpX (vn 3) (vn 7)) true) = false
    rw [cmp_vn]
    decide
  unfold btw
  rw [a3]; rfl
theorem ex_keys (N : Nat) : keysN [false] (exA N) = exS := by
  unfold keysN normP
  rw [if_pos (ex_check N), push_list (p := exA N) (.inl rfl), keys_mk]
  show ((exL.map fun q => pushP q false).map keysP).foldl meetS Sp.all = exS
  simp only [exL, List.map_cons, List.map_nil]
  rw [ex_leaf 7 3 false (by omega), ex_leaf 6 7 false (by omega)]
  have k1 : keysP (lfN 7 0 (vn 3) Val.zero) = leafS 7 (vn 3) Val.zero := by rw [keys_mk]; rfl
  have k2 : keysP (lfN 6 0 (vn 7) Val.zero) = leafS 6 (vn 7) Val.zero := by rw [keys_mk]; rfl
  show List.foldl meetS Sp.all [keysP (lfN 7 0 (vn 3) Val.zero), keysP (lfN 6 0 (vn 7) Val.zero)] = exS
  rw [k1, k2, foldM_cons (clean_leaf _ _ _)]
  exact ex_meet
theorem ex_in3 : withinS exS (vn 3) = false := by
  rw [within_eq]
  show (!false && (loB (openE (vn 3)) (vn 3) && hiB (closedE (vn 7)) (vn 3))) = false
  rw [lo_open, selfX]; rfl
theorem ex_in7 : withinS exS (vn 7) = true := by
  rw [within_eq]
  show (!false && (loB (openE (vn 3)) (vn 7) && hiB (closedE (vn 7)) (vn 7))) = true
  rw [lo_open, hi_closed, selfX, cmp_vn]; decide
theorem ex_hull (N : Nat) : hullS Sp.none exS = exS := by rw [hull_none, ← ex_keys N]; exact clean_keys _
theorem eql_S (a b : Sp) (w : World) : (binOp .eql 35 (SV a.no a.hl a.ol a.lo.t a.lo.n a.lo.s a.hh a.oh a.hi.t a.hi.n a.hi.s) (SV b.no b.hl b.ol b.lo.t b.lo.n b.lo.s b.hh b.oh b.hi.t b.hi.n b.hi.s)).run Tryd.prog w = .ok (.bool (eqS a b)) w := by
  unfold eqS eqV
  by_cases h1 : a.no = b.no
  case neg => simp [go_sem, h1]
  by_cases h2 : a.hl = b.hl
  case neg => simp [go_sem, h1, h2]
  by_cases h3 : a.ol = b.ol
  case neg => simp [go_sem, h1, h2, h3]
  by_cases h4 : a.lo.t = b.lo.t
  case neg => simp [go_sem, h1, h2, h3, h4]
  by_cases h5 : a.lo.n = b.lo.n
  case neg => simp [go_sem, h1, h2, h3, h4, h5]
  by_cases h6 : a.lo.s.toList = b.lo.s.toList
  case neg => simp [go_sem, h1, h2, h3, h4, h5, h6]
  by_cases h7 : a.hh = b.hh
  case neg => simp [go_sem, h1, h2, h3, h4, h5, h6, h7]
  by_cases h8 : a.oh = b.oh
  case neg => simp [go_sem, h1, h2, h3, h4, h5, h6, h7, h8]
  by_cases h9 : a.hi.t = b.hi.t
  case neg => simp [go_sem, h1, h2, h3, h4, h5, h6, h7, h8, h9]
  by_cases h10 : a.hi.n = b.hi.n
  case neg => simp [go_sem, h1, h2, h3, h4, h5, h6, h7, h8, h9, h10]
  by_cases h11 : a.hi.s.toList = b.hi.s.toList
  case neg => simp [go_sem, h1, h2, h3, h4, h5, h6, h7, h8, h9, h10, h11]
  simp [go_sem, h1, h2, h3, h4, h5, h6, h7, h8, h9, h10, h11]
theorem eql_same (a : Sp) (w : World) : (binOp .eql 35 (SV a.no a.hl a.ol a.lo.t a.lo.n a.lo.s a.hh a.oh a.hi.t a.hi.n a.hi.s) (SV a.no a.hl a.ol a.lo.t a.lo.n a.lo.s a.hh a.oh a.hi.t a.hi.n a.hi.s)).run Tryd.prog w = .ok (.bool true) w := by
  rw [eql_S, eqS_iff.2 rfl]
/-- What awake lays. -/
structure AW4 (N : Nat) (w : World) : Prop where
  bools : BoolsIn w (.slice (some ⟨N, 0, none⟩) 1 1) [false]
  tb : w.cell? ⟨N + 1, 0, none⟩ = some (.slice (some ⟨N, 0, none⟩) 1 1)
  part : Lies w (.slice (some ⟨N + 1 + 1, 0, none⟩) 2 2) 2 (exL.flatMap PT.cells)
  pb : Box w (N + 1 + 1 + 1) (exA N)
theorem AW4.below {N : Nat} {w w' : World} (h : AW4 N w) (hb : Below w.heap.size w w') : AW4 N w' := ⟨h.bools.below hb, cell_below h.tb hb, h.part.below hb, h.pb.below hb⟩
theorem AW4.inA {N : Nat} {w : World} (h : AW4 N w) : In w (exA N) := .mk (by decide) (by decide) h.part fun q hq => by
  have hq' : q = lfN 7 0 (vn 3) Val.zero ∨ q = lfN 6 0 (vn 7) Val.zero := by simpa [exL] using hq
  rcases hq' with rfl | rfl
  · exact in_leaf w _ _ _ _ (by decide) (by decide)
  · exact in_leaf w _ _ _ _ (by decide) (by decide)
theorem AW4.new (w : World) (T1 T2 T3 T4 : TypeId) : AW4 w.heap.size ((((w.alloc (.cells #[.bool false] T1)).alloc (.cells #[.slice (some ⟨w.heap.size, 0, none⟩) 1 1] T2)).alloc (.cells (exL.flatMap PT.cells).toArray T3)).alloc (pobj (exA w.heap.size) T4)) := by
  refine ⟨?_, ?_, ?_, ?_⟩
  · exact (((lies_new w _ rfl [.bool false] 1 T1 (by decide)).alloc _).alloc _).alloc _
  · exact cell_alloc (cell_alloc (by simp [go_sem]) _) _
  · exact (lies_new _ _ (by simp) (exL.flatMap PT.cells) 2 T3 (by decide)).alloc _
  · have := Box.new (((w.alloc (.cells #[.bool false] T1)).alloc (.cells #[.slice (some ⟨w.heap.size, 0, none⟩) 1 1] T2)).alloc (.cells (exL.flatMap PT.cells).toArray T3)) (exA w.heap.size) T4
    simpa using this
theorem ex_parts {q : PT} (h : q.bare = exO) : q.op = 12 ∧ q.l.length = 2 ∧ ∀ (h0 : 0 < q.l.length), q.l[0].op = 6 := by
  cases q with | mk o c v u lv l =>
  rw [bare_mk] at h
  have h1 : o = 12 := congrArg PT.op h
  have h2 : l.map PT.bare = [lfN 6 0 (vn 3) Val.zero, lfN 7 0 (vn 7) Val.zero] := congrArg PT.l h
  refine ⟨h1, by simpa using congrArg List.length h2, fun h0 => ?_⟩
  have h3 := congrArg (fun x => x[0]?) h2
  simp only [List.getElem?_map] at h3
  have h0' : 0 < l.length := h0
  rw [List.getElem?_eq_getElem h0'] at h3
  have h4 : l[0].bare = lfN 6 0 (vn 3) Val.zero := by simpa using h3
  have h5 : l[0].bare.op = l[0].op := by cases l[0]; rw [bare_mk]
  show l[0].op = 6
  rw [← h5, h4]; rfl
/-- What the last line of awake reads. -/
structure AWC (w0 : World) (M M2 b o : Nat) (cq : Nat) (w : World) : Prop where
  sb : SBox w M exS
  op : w.cell? ⟨M2, 0, none⟩ = some (.int .i64 12)
  lv : w.cell? ⟨M2, 8, none⟩ = some (.slice (some ⟨b, o, none⟩) 2 cq)
  p0 : w.cell? ⟨b, o, none⟩ = some (.int .i64 6)
  be : Below w0.heap.size w0 w
theorem AWC.below {w0 w w' : World} {M M2 b o cq : Nat} (h : AWC w0 M M2 b o cq w) (hb : Below w.heap.size w w') : AWC w0 M M2 b o cq w' := ⟨h.sb.below hb, cell_below h.op hb, cell_below h.lv hb, cell_below h.p0 hb, on h.be hb⟩
set_option maxRecDepth 100000 in
set_option maxHeartbeats 8000000 in
theorem awake_any (w : World) (hT : Tab w) : Calls Tryd.prog 10 #[] w fun e w' => e = .returned (.bool true) ∧ Below w.heap.size w w' := by
  have K1 : Hid (∀ w1, AW4 w.heap.size w1 → Below w.heap.size w w1 → Calls Tryd.prog 15 #[.agg #[.slice (some ⟨w.heap.size, 0, none⟩) 1 1], (exA w.heap.size).val] w1 fun e w' => e = .returned exS.val ∧ Below w1.heap.size w1 w') := fun w1 h hb => by
    have := pkeys_any _ [false] (exA w.heap.size) w1 h.bools h.inA (hT.below hb) (by rw [ex_size]; omega)
    rw [ex_keys] at this; exact this
  have K2 : Hid (∀ (M : Nat) w1, AW4 w.heap.size w1 → Lies w1 (.slice (some ⟨M + 1, 0, none⟩) 1 1) 1 (([exA w.heap.size] : List PT).flatMap PT.cells) → Below w.heap.size w w1 → Calls Tryd.prog 13 #[.agg #[.slice (some ⟨w.heap.size, 0, none⟩) 1 1], (exN w.heap.size M).val] w1 fun e w' => ∃ q : PT, e = .returned q.val ∧ (q.bare = exO ∧ In w' q) ∧ Below w1.heap.size w1 w') := fun M w1 h hl hb => by
    have hin : In w1 (exN w.heap.size M) := .mk (by decide) (by decide) hl fun q hq => by rw [List.mem_singleton] at hq; subst hq; exact h.inA
    have := normal_any _ [false] (exN w.heap.size M) w1 h.bools hin (hT.below hb) (by rw [ex_size']; omega)
    rw [ex_norm'] at this
    exact this.mono fun e w' ⟨q, h1, h2, h3, h4⟩ => ⟨q, h1, ⟨h2, h3.isIn⟩, h4⟩
  have W3 : Hid (∀ w1, Calls Tryd.prog 17 #[exS.val, V false 3 ⟨#[]⟩] w1 fun e w' => e = .returned (.bool false) ∧ Below w1.heap.size w1 w') := fun w1 => by have := within_any exS (vn 3) w1; rw [ex_in3] at this; exact this
  have W7 : Hid (∀ w1, Calls Tryd.prog 17 #[exS.val, V false 7 ⟨#[]⟩] w1 fun e w' => e = .returned (.bool true) ∧ Below w1.heap.size w1 w') := fun w1 => by have := within_any exS (vn 7) w1; rw [ex_in7] at this; exact this
  have HU : Hid (∀ w1, Calls Tryd.prog 21 #[Sp.none.val, exS.val] w1 fun e w' => e = .returned exS.val ∧ Below w1.heap.size w1 w') := fun w1 => by have := hull_any Sp.none exS w1; rw [ex_hull 0] at this; exact this
  have HN : Hid _ := AW4.new w 4 24 29 29
  have QE : ∀ w1, (binOp .eql 35 (SV false true true false 3 ⟨#[]⟩ true false false 7 ⟨#[]⟩) (SV false true true false 3 ⟨#[]⟩ true false false 7 ⟨#[]⟩)).run Tryd.prog w1 = .ok (.bool true) w1 := fun w1 => eql_same exS w1
  clear hT
  unfold PT.val Sp.val at *
  simp only [exS, exA, exN, vn, Sp.none, Val.zero] at K1 K2 W3 W7 HU
  go_enter Tryd.func10, Tryd.ntmps10
  go_wp2_with fail
  refine Calls.mono (K1.out _ HN.out (back3 (alloc1 _ _))) ?_
  rintro e w1 ⟨rfl, hb⟩
  have HA1 : Hid (AW4 w.heap.size w1 ∧ Below w.heap.size w w1) := ⟨HN.out.below hb, back3 (back1 hb)⟩
  clear hb HN K1
  obtain ⟨_, tb, _, ⟨b0, b1, b2, b3, b4, b5, b6, b7, b8⟩⟩ := HA1.out.1
  simp only [exA, Val.zero] at b0 b1 b2 b3 b4 b5 b6 b7 b8
  have HS1 : Hid _ := SBox.new w1 exS 35
  have l1 : w.heap.size + 1 < w1.heap.size := World.block_lt_of_cell? _ _ tb
  have l2 : w.heap.size + 1 + 1 + 1 < w1.heap.size := World.block_lt_of_cell? _ _ b0
  go_wp2_with fail
  refine Calls.mono (K2.out w1.heap.size _ (((HA1.out.1.below (alloc1 _ _)).below (alloc1 _ _))) (lies_new _ _ (by simp) (([exA w.heap.size] : List PT).flatMap PT.cells) 1 _ (by decide)) (on (on HA1.out.2 (alloc1 _ _)) (alloc1 _ _))) ?_
  rintro e w2 ⟨q, rfl, ⟨hqb, hqi⟩, hb⟩
  obtain ⟨e1, e2, e3⟩ := ex_parts hqb
  obtain ⟨aq, cq, hlq, _⟩ := hqi.lies.slice
  have hlie := hqi.lies
  rw [hlq] at hlie
  obtain ⟨b, o, rfl, hat⟩ := lies_at hlie 0 (by omega)
  rw [Nat.zero_mul, Nat.add_zero] at hat
  have p0 := hat.c0
  rw [e3 (by omega)] at p0
  rw [hlq, e1, e2]
  rw [e2] at hlq
  have HC : Hid (∀ ob, (w2.alloc ob).cell? ⟨w2.heap.size, 0, none⟩ = some (.int .i64 12) → (w2.alloc ob).cell? ⟨w2.heap.size, 8, none⟩ = some (.slice (some ⟨b, o, none⟩) 2 cq) → AWC w w1.heap.size w2.heap.size b o cq (w2.alloc ob)) := fun ob h1 h2 =>
    ⟨((HS1.out.alloc _).below hb).alloc _, h1, h2, cell_alloc p0 _, on (on HA1.out.2 (back2 hb)) (alloc1 _ _)⟩
  clear hqb hqi hb e1 e2 e3 hlq hlie hat p0 HS1 HA1 K2 l1 l2 tb b0 b1 b2 b3 b4 b5 b6 b7 b8
  go_wp2_with fail
  simp only [List.append]
  refine region_cls (C := AWC w w1.heap.size w2.heap.size b o cq) (by kernel_rfl) (by kernel_rfl) ?_ ?_
  · exact (HC.out _ (by simp [go_sem]) (by simp [go_sem])).below (Below.refl _ _).drew
  clear HC
  go_big_quiet_want
  refine ⟨.pointer (some ⟨w1.heap.size, 1, none⟩), fun w' hw' => ?_, ?_⟩
  · go_simp
  simp only [Act.put, List.setIfInBounds_toArray, List.set_cons_zero, List.set_cons_succ]
  go_big_quiet_on
  go_big_quiet_want
  refine ⟨.bool true, fun w' hw' => ?_, ?_⟩
  · obtain ⟨⟨c0, c1, c2, c3, c4, c5, c6, c7, c8, c9, c10⟩, d0, d8, e0, _⟩ := hw'
    simp only [exS, vn] at c0 c1 c2 c3 c4 c5 c6 c7 c8 c9 c10
    go_simp
  simp only [Act.put, List.setIfInBounds_toArray, List.set_cons_zero, List.set_cons_succ]
  go_big_quiet_on
  go_big_quiet_want
  go_big_quiet_op
  go_big_quiet_on
  go_big_quiet_want
  refine ⟨.pointer (some ⟨w1.heap.size, 2, none⟩), fun w' hw' => ?_, ?_⟩
  · go_simp
  simp only [Act.put, List.setIfInBounds_toArray, List.set_cons_zero, List.set_cons_succ]
  go_big_quiet_on
  go_big_quiet_want
  refine ⟨.bool true, fun w' hw' => ?_, ?_⟩
  · obtain ⟨⟨c0, c1, c2, c3, c4, c5, c6, c7, c8, c9, c10⟩, d0, d8, e0, _⟩ := hw'
    simp only [exS, vn] at c0 c1 c2 c3 c4 c5 c6 c7 c8 c9 c10
    go_simp
  simp only [Act.put, List.setIfInBounds_toArray, List.set_cons_zero, List.set_cons_succ]
  go_big_quiet_on
  go_big_quiet_want
  refine ⟨.bool true, fun w' hw' => ?_, ?_⟩
  · go_simp
  simp only [Act.put, List.setIfInBounds_toArray, List.set_cons_zero, List.set_cons_succ]
  go_big_quiet_on
  go_big_quiet_want
  go_big_quiet_op
  go_big_quiet_on
  go_big_quiet_want
  refine ⟨.pointer (some ⟨w1.heap.size, 3, none⟩), fun w' hw' => ?_, ?_⟩
  · go_simp
  simp only [Act.put, List.setIfInBounds_toArray, List.set_cons_zero, List.set_cons_succ]
  go_big_quiet_on
  go_big_quiet_want
  refine ⟨.pointer (some ⟨w1.heap.size, 4, none⟩), fun w' hw' => ?_, ?_⟩
  · go_simp
  simp only [Act.put, List.setIfInBounds_toArray, List.set_cons_zero, List.set_cons_succ]
  go_big_quiet_on
  go_big_quiet_want
  refine ⟨.int .i64 3, fun w' hw' => ?_, ?_⟩
  · obtain ⟨⟨c0, c1, c2, c3, c4, c5, c6, c7, c8, c9, c10⟩, d0, d8, e0, _⟩ := hw'
    simp only [exS, vn] at c0 c1 c2 c3 c4 c5 c6 c7 c8 c9 c10
    go_simp
  simp only [Act.put, List.setIfInBounds_toArray, List.set_cons_zero, List.set_cons_succ]
  go_big_quiet_on
  go_big_quiet_want
  refine ⟨.bool true, fun w' hw' => ?_, ?_⟩
  · go_simp
  simp only [Act.put, List.setIfInBounds_toArray, List.set_cons_zero, List.set_cons_succ]
  go_big_quiet_on
  go_big_quiet_want
  refine ⟨.bool true, fun w' hw' => ?_, ?_⟩
  · go_simp
  simp only [Act.put, List.setIfInBounds_toArray, List.set_cons_zero, List.set_cons_succ]
  go_big_quiet_on
  go_big_quiet_want
  go_big_quiet_op
  go_big_quiet_on
  go_big_quiet_want
  refine ⟨.pointer (some ⟨w1.heap.size, 6, none⟩), fun w' hw' => ?_, ?_⟩
  · go_simp
  simp only [Act.put, List.setIfInBounds_toArray, List.set_cons_zero, List.set_cons_succ]
  go_big_quiet_on
  go_big_quiet_want
  refine ⟨.bool true, fun w' hw' => ?_, ?_⟩
  · obtain ⟨⟨c0, c1, c2, c3, c4, c5, c6, c7, c8, c9, c10⟩, d0, d8, e0, _⟩ := hw'
    simp only [exS, vn] at c0 c1 c2 c3 c4 c5 c6 c7 c8 c9 c10
    go_simp
  simp only [Act.put, List.setIfInBounds_toArray, List.set_cons_zero, List.set_cons_succ]
  go_big_quiet_on
  go_big_quiet_want
  refine ⟨.bool true, fun w' hw' => ?_, ?_⟩
  · go_simp
  simp only [Act.put, List.setIfInBounds_toArray, List.set_cons_zero, List.set_cons_succ]
  go_big_quiet_on
  go_big_quiet_want
  go_big_quiet_op
  go_big_quiet_on
  go_big_quiet_want
  refine ⟨.pointer (some ⟨w1.heap.size, 7, none⟩), fun w' hw' => ?_, ?_⟩
  · go_simp
  simp only [Act.put, List.setIfInBounds_toArray, List.set_cons_zero, List.set_cons_succ]
  go_big_quiet_on
  go_big_quiet_want
  refine ⟨.bool false, fun w' hw' => ?_, ?_⟩
  · obtain ⟨⟨c0, c1, c2, c3, c4, c5, c6, c7, c8, c9, c10⟩, d0, d8, e0, _⟩ := hw'
    simp only [exS, vn] at c0 c1 c2 c3 c4 c5 c6 c7 c8 c9 c10
    go_simp
  simp only [Act.put, List.setIfInBounds_toArray, List.set_cons_zero, List.set_cons_succ]
  go_big_quiet_on
  go_big_quiet_want
  refine ⟨.bool true, fun w' hw' => ?_, ?_⟩
  · go_simp
  simp only [Act.put, List.setIfInBounds_toArray, List.set_cons_zero, List.set_cons_succ]
  go_big_quiet_on
  go_big_quiet_want
  refine ⟨.bool true, fun w' hw' => ?_, ?_⟩
  · go_simp
  simp only [Act.put, List.setIfInBounds_toArray, List.set_cons_zero, List.set_cons_succ]
  go_big_quiet_on
  go_big_quiet_want
  go_big_quiet_op
  go_big_quiet_on
  go_big_quiet_want
  refine ⟨.pointer (some ⟨w1.heap.size, 8, none⟩), fun w' hw' => ?_, ?_⟩
  · go_simp
  simp only [Act.put, List.setIfInBounds_toArray, List.set_cons_zero, List.set_cons_succ]
  go_big_quiet_on
  go_big_quiet_want
  refine ⟨.pointer (some ⟨w1.heap.size, 9, none⟩), fun w' hw' => ?_, ?_⟩
  · go_simp
  simp only [Act.put, List.setIfInBounds_toArray, List.set_cons_zero, List.set_cons_succ]
  go_big_quiet_on
  go_big_quiet_want
  refine ⟨.int .i64 7, fun w' hw' => ?_, ?_⟩
  · obtain ⟨⟨c0, c1, c2, c3, c4, c5, c6, c7, c8, c9, c10⟩, d0, d8, e0, _⟩ := hw'
    simp only [exS, vn] at c0 c1 c2 c3 c4 c5 c6 c7 c8 c9 c10
    go_simp
  simp only [Act.put, List.setIfInBounds_toArray, List.set_cons_zero, List.set_cons_succ]
  go_big_quiet_on
  go_big_quiet_want
  refine ⟨.bool true, fun w' hw' => ?_, ?_⟩
  · go_simp
  simp only [Act.put, List.setIfInBounds_toArray, List.set_cons_zero, List.set_cons_succ]
  go_big_quiet_on
  go_big_quiet_want
  refine ⟨.bool true, fun w' hw' => ?_, ?_⟩
  · go_simp
  simp only [Act.put, List.setIfInBounds_toArray, List.set_cons_zero, List.set_cons_succ]
  go_big_quiet_on
  go_big_quiet_want
  go_big_quiet_op
  go_big_quiet_on
  go_big_quiet_want
  refine ⟨SV false true true false 3 ⟨#[]⟩ true false false 7 ⟨#[]⟩, fun w' hw' => ?_, ?_⟩
  · obtain ⟨⟨c0, c1, c2, c3, c4, c5, c6, c7, c8, c9, c10⟩, d0, d8, e0, _⟩ := hw'
    simp only [exS, vn] at c0 c1 c2 c3 c4 c5 c6 c7 c8 c9 c10
    go_simp
  simp only [Act.put, List.setIfInBounds_toArray, List.set_cons_zero, List.set_cons_succ]
  go_big_quiet_on
  go_big_quiet_want
  refine ⟨V false 3 ⟨#[]⟩, fun w' hw' => ?_, ?_⟩
  · go_simp
  simp only [Act.put, List.setIfInBounds_toArray, List.set_cons_zero, List.set_cons_succ]
  go_big_quiet_on
  go_big_quiet_want
  refine ⟨.bool false, fun w' hw' => ?_, ?_⟩
  · go_simp
    exact (W3.out w').mono fun e w'' h => ⟨h.1, hw'.below h.2⟩
  simp only [Act.put, List.setIfInBounds_toArray, List.set_cons_zero, List.set_cons_succ]
  go_big_quiet_on
  go_big_quiet_want
  refine ⟨.bool true, fun w' hw' => ?_, ?_⟩
  · go_simp
  simp only [Act.put, List.setIfInBounds_toArray, List.set_cons_zero, List.set_cons_succ]
  go_big_quiet_on
  go_big_quiet_want
  refine ⟨.bool true, fun w' hw' => ?_, ?_⟩
  · go_simp
  simp only [Act.put, List.setIfInBounds_toArray, List.set_cons_zero, List.set_cons_succ]
  go_big_quiet_on
  go_big_quiet_want
  go_big_quiet_op
  go_big_quiet_on
  go_big_quiet_want
  refine ⟨SV false true true false 3 ⟨#[]⟩ true false false 7 ⟨#[]⟩, fun w' hw' => ?_, ?_⟩
  · obtain ⟨⟨c0, c1, c2, c3, c4, c5, c6, c7, c8, c9, c10⟩, d0, d8, e0, _⟩ := hw'
    simp only [exS, vn] at c0 c1 c2 c3 c4 c5 c6 c7 c8 c9 c10
    go_simp
  simp only [Act.put, List.setIfInBounds_toArray, List.set_cons_zero, List.set_cons_succ]
  go_big_quiet_on
  go_big_quiet_want
  refine ⟨V false 7 ⟨#[]⟩, fun w' hw' => ?_, ?_⟩
  · go_simp
  simp only [Act.put, List.setIfInBounds_toArray, List.set_cons_zero, List.set_cons_succ]
  go_big_quiet_on
  go_big_quiet_want
  refine ⟨.bool true, fun w' hw' => ?_, ?_⟩
  · go_simp
    exact (W7.out w').mono fun e w'' h => ⟨h.1, hw'.below h.2⟩
  simp only [Act.put, List.setIfInBounds_toArray, List.set_cons_zero, List.set_cons_succ]
  go_big_quiet_on
  go_big_quiet_want
  refine ⟨.bool true, fun w' hw' => ?_, ?_⟩
  · go_simp
  simp only [Act.put, List.setIfInBounds_toArray, List.set_cons_zero, List.set_cons_succ]
  go_big_quiet_on
  go_big_quiet_want
  go_big_quiet_op
  go_big_quiet_on
  go_big_quiet_want
  refine ⟨.pointer (some ⟨w2.heap.size, 0, none⟩), fun w' hw' => ?_, ?_⟩
  · go_simp
  simp only [Act.put, List.setIfInBounds_toArray, List.set_cons_zero, List.set_cons_succ]
  go_big_quiet_on
  go_big_quiet_want
  refine ⟨.int .i64 12, fun w' hw' => ?_, ?_⟩
  · obtain ⟨⟨c0, c1, c2, c3, c4, c5, c6, c7, c8, c9, c10⟩, d0, d8, e0, _⟩ := hw'
    simp only [exS, vn] at c0 c1 c2 c3 c4 c5 c6 c7 c8 c9 c10
    go_simp
  simp only [Act.put, List.setIfInBounds_toArray, List.set_cons_zero, List.set_cons_succ]
  go_big_quiet_on
  go_big_quiet_want
  refine ⟨.bool true, fun w' hw' => ?_, ?_⟩
  · go_simp
  simp only [Act.put, List.setIfInBounds_toArray, List.set_cons_zero, List.set_cons_succ]
  go_big_quiet_on
  go_big_quiet_want
  refine ⟨.bool true, fun w' hw' => ?_, ?_⟩
  · go_simp
  simp only [Act.put, List.setIfInBounds_toArray, List.set_cons_zero, List.set_cons_succ]
  go_big_quiet_on
  go_big_quiet_want
  go_big_quiet_op
  go_big_quiet_on
  go_big_quiet_want
  refine ⟨.pointer (some ⟨w2.heap.size, 8, none⟩), fun w' hw' => ?_, ?_⟩
  · go_simp
  simp only [Act.put, List.setIfInBounds_toArray, List.set_cons_zero, List.set_cons_succ]
  go_big_quiet_on
  go_big_quiet_want
  refine ⟨.slice (some ⟨b, o, none⟩) 2 cq, fun w' hw' => ?_, ?_⟩
  · obtain ⟨⟨c0, c1, c2, c3, c4, c5, c6, c7, c8, c9, c10⟩, d0, d8, e0, _⟩ := hw'
    simp only [exS, vn] at c0 c1 c2 c3 c4 c5 c6 c7 c8 c9 c10
    go_simp
  simp only [Act.put, List.setIfInBounds_toArray, List.set_cons_zero, List.set_cons_succ]
  go_big_quiet_on
  go_big_quiet_want
  refine ⟨.int .i64 2, fun w' hw' => ?_, ?_⟩
  · go_simp
  simp only [Act.put, List.setIfInBounds_toArray, List.set_cons_zero, List.set_cons_succ]
  go_big_quiet_on
  go_big_quiet_want
  refine ⟨.bool true, fun w' hw' => ?_, ?_⟩
  · go_simp
  simp only [Act.put, List.setIfInBounds_toArray, List.set_cons_zero, List.set_cons_succ]
  go_big_quiet_on
  go_big_quiet_want
  refine ⟨.bool true, fun w' hw' => ?_, ?_⟩
  · go_simp
  simp only [Act.put, List.setIfInBounds_toArray, List.set_cons_zero, List.set_cons_succ]
  go_big_quiet_on
  go_big_quiet_want
  go_big_quiet_op
  go_big_quiet_on
  go_big_quiet_want
  refine ⟨.pointer (some ⟨w2.heap.size, 8, none⟩), fun w' hw' => ?_, ?_⟩
  · go_simp
  simp only [Act.put, List.setIfInBounds_toArray, List.set_cons_zero, List.set_cons_succ]
  go_big_quiet_on
  go_big_quiet_want
  refine ⟨.slice (some ⟨b, o, none⟩) 2 cq, fun w' hw' => ?_, ?_⟩
  · obtain ⟨⟨c0, c1, c2, c3, c4, c5, c6, c7, c8, c9, c10⟩, d0, d8, e0, _⟩ := hw'
    simp only [exS, vn] at c0 c1 c2 c3 c4 c5 c6 c7 c8 c9 c10
    go_simp
  simp only [Act.put, List.setIfInBounds_toArray, List.set_cons_zero, List.set_cons_succ]
  go_big_quiet_on
  go_big_quiet_want
  refine ⟨.pointer (some ⟨b, o, none⟩), fun w' hw' => ?_, ?_⟩
  · go_simp
  simp only [Act.put, List.setIfInBounds_toArray, List.set_cons_zero, List.set_cons_succ]
  go_big_quiet_on
  go_big_quiet_want
  refine ⟨.pointer (some ⟨b, o, none⟩), fun w' hw' => ?_, ?_⟩
  · go_simp
  simp only [Act.put, List.setIfInBounds_toArray, List.set_cons_zero, List.set_cons_succ]
  go_big_quiet_on
  go_big_quiet_want
  refine ⟨.int .i64 6, fun w' hw' => ?_, ?_⟩
  · obtain ⟨⟨c0, c1, c2, c3, c4, c5, c6, c7, c8, c9, c10⟩, d0, d8, e0, _⟩ := hw'
    simp only [exS, vn] at c0 c1 c2 c3 c4 c5 c6 c7 c8 c9 c10
    go_simp
  simp only [Act.put, List.setIfInBounds_toArray, List.set_cons_zero, List.set_cons_succ]
  go_big_quiet_on
  go_big_quiet_want
  refine ⟨.bool true, fun w' hw' => ?_, ?_⟩
  · go_simp
  simp only [Act.put, List.setIfInBounds_toArray, List.set_cons_zero, List.set_cons_succ]
  go_big_quiet_on
  go_big_quiet_want
  refine ⟨.bool true, fun w' hw' => ?_, ?_⟩
  · go_simp
  simp only [Act.put, List.setIfInBounds_toArray, List.set_cons_zero, List.set_cons_succ]
  go_big_quiet_on
  go_big_quiet_want
  go_big_quiet_op
  go_big_quiet_on
  go_big_quiet_want
  refine ⟨SV true false false false 0 ⟨#[]⟩ false false false 0 ⟨#[]⟩, fun w' hw' => ?_, ?_⟩
  · go_simp
  simp only [Act.put, List.setIfInBounds_toArray, List.set_cons_zero, List.set_cons_succ]
  go_big_quiet_on
  go_big_quiet_want
  refine ⟨SV false true true false 3 ⟨#[]⟩ true false false 7 ⟨#[]⟩, fun w' hw' => ?_, ?_⟩
  · obtain ⟨⟨c0, c1, c2, c3, c4, c5, c6, c7, c8, c9, c10⟩, d0, d8, e0, _⟩ := hw'
    simp only [exS, vn] at c0 c1 c2 c3 c4 c5 c6 c7 c8 c9 c10
    go_simp
  simp only [Act.put, List.setIfInBounds_toArray, List.set_cons_zero, List.set_cons_succ]
  go_big_quiet_on
  go_big_quiet_want
  refine ⟨SV false true true false 3 ⟨#[]⟩ true false false 7 ⟨#[]⟩, fun w' hw' => ?_, ?_⟩
  · go_simp
    exact (HU.out w').mono fun e w'' h => ⟨h.1, hw'.below h.2⟩
  simp only [Act.put, List.setIfInBounds_toArray, List.set_cons_zero, List.set_cons_succ]
  go_big_quiet_on
  go_big_quiet_want
  refine ⟨SV false true true false 3 ⟨#[]⟩ true false false 7 ⟨#[]⟩, fun w' hw' => ?_, ?_⟩
  · obtain ⟨⟨c0, c1, c2, c3, c4, c5, c6, c7, c8, c9, c10⟩, d0, d8, e0, _⟩ := hw'
    simp only [exS, vn] at c0 c1 c2 c3 c4 c5 c6 c7 c8 c9 c10
    go_simp
  simp only [Act.put, List.setIfInBounds_toArray, List.set_cons_zero, List.set_cons_succ]
  go_big_quiet_on
  go_big_quiet_want
  refine ⟨.bool true, fun w' hw' => ?_, ?_⟩
  · go_simp
  simp only [Act.put, List.setIfInBounds_toArray, List.set_cons_zero, List.set_cons_succ]
  go_big_quiet_on
  go_big_quiet_want
  refine ⟨.bool true, fun w' hw' => ?_, ?_⟩
  · go_simp
  simp only [Act.put, List.setIfInBounds_toArray, List.set_cons_zero, List.set_cons_succ]
  go_big_quiet_on
  go_big_quiet_want
  go_big_quiet_op
  go_big_quiet_on
  refine wpQuiet_nil ?_
  intro w' hw'
  have HBz : Hid (Below w.heap.size w w') := hw'.be
  clear hw'
  go_wp2_with fail
  go_ret
  exact ⟨rfl, HBz.out⟩
end Go.Proofs.YtfkhfplibhnceaaDoor.Val
