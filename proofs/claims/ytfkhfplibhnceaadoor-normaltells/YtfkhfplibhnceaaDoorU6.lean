/- What plain of package normal answers. -/
import Derived.Test.YtfkhfplibhnceaaDoorU4
import Derived.Test.YtfkhfplibhnceaaDoorU5
import Derived.Test.YtfkhfplibhnceaaDoorU2
import Derived.Deep.RegionHeld3
namespace Go.Proofs.YtfkhfplibhnceaaDoor.Val
open Go.RowKit

/-- A predicate's box, and the answer's. -/
structure P2 (w0 : World) (p : PT) (w : World) : Prop where
  pb : Box w w0.heap.size p
  pz : Box w (w0.heap.size + 1) PT.zero
  fa : Fr w w0.heap.size
  fz : Fr w (w0.heap.size + 1)
  be : Below w0.heap.size w0 w
theorem P2.below {w0 w w' : World} {p : PT} (h : P2 w0 p w) (hb : Below w.heap.size w w') : P2 w0 p w' := ⟨h.pb.below hb, h.pz.below hb, h.fa.below hb, h.fz.below hb, on h.be hb⟩
theorem P2.new (w : World) (p : PT) (T1 T2 : TypeId) : P2 w p ((w.alloc (pobj p T1)).alloc (pobj PT.zero T2)) := by
  refine ⟨(Box.new w p T1).alloc _, ?_, (Fr.new w _ T1).alloc _, ?_, back1 (alloc1 _ _)⟩
  · have := Box.new (w.alloc (pobj p T1)) PT.zero T2; simpa using this
  · have := Fr.new (w.alloc (pobj p T1)) #[.int .i64 PT.zero.op, .int .i64 PT.zero.col, .bool PT.zero.v.t, .int .i64 PT.zero.v.n, .string PT.zero.v.s, .bool PT.zero.w.t, .int .i64 PT.zero.w.n, .string PT.zero.w.s, PT.zero.lv] T2; simpa using this
theorem nw_set {w : World} {P : Nat → Prop} {q : PT} {b j : Nat} {u : Value} (h : Nw w TP P q) (hP : ∀ x, P x → x ≠ b) : Nw (w.setCell ⟨b, j, none⟩ u) TP P q :=
  h.sv (X := fun x => x = b) (Sv.set (X := fun x => x = b) (Sv.refl _ _) (a := ⟨b, j, none⟩) rfl u) fun x hx e => hP x hx e
theorem cell_far' {w : World} {b o c j : Nat} {u x : Value} (h : w.cell? ⟨b, o, none⟩ = some x) (hne : c ≠ b) : (w.setCell ⟨c, j, none⟩ u).cell? ⟨b, o, none⟩ = some x := by rw [World.cell?_setCell_far _ _ _ _ hne]; exact h
theorem size_ok {p : PT} (h : p.size ≤ 1000000) : p.l.length ≤ 1000000 := by have := size_l p; have := length_sizeL p.l; omega
/-- What is answered of one. -/
def PushOk (p : PT) : Prop := MadeOk 29 p (pushP p false) ∧ MadeOk 49 p (pushP p true)
theorem enters_plain : Enters 29 := enters_of Tryd.func29 (by decide +kernel) rfl
theorem enters_opp : Enters 49 := enters_of Tryd.func49 (by decide +kernel) rfl
set_option maxHeartbeats 2000000 in
/-- PNot. -/
theorem plain_not (p q : PT) (h : p.op = 10) (hl : p.l = [q]) (ih : MadeOk 49 q (pushP q true)) : MadeOk 29 p (pushP p false) := by
  intro w hi hT
  rw [push_10 h q hl]
  have hin : In w q := hi.part q (by rw [hl]; simp)
  have HQ : Hid (∀ w1, Below w.heap.size w w1 → Calls Tryd.prog 49 #[q.val] w1 fun e w' => ∃ r : PT, e = .returned r.val ∧ r.bare = (pushP q true).bare ∧ Nw w' TP (fun b => w1.heap.size ≤ b) r ∧ Below w1.heap.size w1 w') := fun w1 hb => ih w1 (hin.keep hb) (hT.below hb)
  have hlie := hi.lies
  obtain ⟨ap, cp, hlp, _⟩ := hlie.slice
  have hlen : p.l.length = 1 := by rw [hl]; rfl
  rw [hlp] at hlie
  obtain ⟨b, o, rfl, hat⟩ := lies_at hlie 0 (by omega)
  have hq0 : p.l[0]'(by omega) = q := by simp [hl]
  rw [hq0, Nat.zero_mul, Nat.add_zero] at hat
  have HN : Hid _ := P2.new w p 29 29
  have A : ∀ o1 o2, At ((w.alloc o1).alloc o2) b o q := fun o1 o2 => (hat.below (alloc1 _ _)).below (alloc1 _ _)
  have HA : Hid _ := A
  clear hi hT hl hlie hat hq0 ih hin A
  unfold PT.val at *
  rw [hlp, hlen, h] 
  rw [pobj, hlp, hlen, h] at HN
  clear hlp hlen h
  obtain ⟨c0, c1, c2, c3, c4, c5, c6, c7, c8⟩ := HA.out (.cells #[.int .i64 10, .int .i64 p.col, .bool p.v.t, .int .i64 p.v.n, .string p.v.s, .bool p.w.t, .int .i64 p.w.n, .string p.w.s, .slice (some ⟨b, o, none⟩) 1 cp] 29) (.cells #[.int .i64 0, .int .i64 0, .bool false, .int .i64 0, .string ⟨#[]⟩, .bool false, .int .i64 0, .string ⟨#[]⟩, .slice none 0 0] 29)
  go_enter Tryd.func29, Tryd.ntmps29
  go_wp2_with fail
  refine Calls.mono (HQ.out _ (back1 (alloc1 _ _))) ?_
  rintro e w1 ⟨r, rfl, hrb, hrn, hb⟩
  have HX : Hid _ := HN.out.below hb
  have HR : Hid (r.bare = (pushP q true).bare ∧ Nw w1 TP (fun b => w.heap.size + 1 < b) r) := ⟨hrb, hrn.imp fun b h _ => by simp at h; omega⟩
  obtain ⟨ar, kr, hlr⟩ := hrn.slice
  obtain ⟨_, ⟨z0, z1, z2, z3, z4, z5, z6, z7, z8⟩, _, ⟨lz, fz⟩, _⟩ := HX.out
  have HB : Hid (Below w.heap.size w w1) := HX.out.be
  have HLR : Hid (r.lv = .slice ar r.l.length kr) := hlr
  rw [hlr]
  clear hlr hrb hrn hb HQ HN HX HA c0 c1 c2 c3 c4 c5 c6 c7 c8
  go_wp2_with fail
  refine bodyPost_ret (v := r.val) (by simp [results, Tryd.results29, go_sem, PT.val, HLR.out, z0, z1, z2, z3, z4, z5, z6, z7, z8]) rfl ⟨r, rfl, HR.out.1, ?_, ?_⟩
  · refine Nw.imp (P := fun b => w.heap.size + 1 < b) ?_ (fun b hb _ => by omega)
    repeat (refine nw_set ?_ (fun x hx => by omega))
    exact HR.out.2
  · repeat (refine set_below ?_ (by omega) _)
    exact HB.out
set_option maxHeartbeats 4000000 in
/-- PTrue, PFalse, PAnd, POr. -/
theorem plain_list (p : PT) (op : Int) (h : p.op = op) (ho : op = 1 ∨ op = 2 ∨ op = 11 ∨ op = 12) (hs : p.size ≤ 1000000) (t : PT) (ht : t.bare = (PT.mk op 0 Val.zero Val.zero (.slice none 0 0) (p.l.map fun q => pushP q false)).bare)
    (ih : ∀ q ∈ p.l, MadeOk 29 q (pushP q false)) : MadeOk 29 p t := by
  intro w hi hT
  have HQ : Hid (∀ w1, Below w.heap.size w w1 → Calls Tryd.prog 50 #[p.lv, FV 29 #[] #[]] w1 fun e w' => ∃ v' m, e = .returned v' ∧ m.map PT.bare = (p.l.map fun q => pushP q false).map PT.bare ∧ (RowNw w' TP (fun b => w1.heap.size ≤ b) v' m ∧ ∀ p ∈ m, Nw w' TP (fun b => w1.heap.size ≤ b) p) ∧ Below w1.heap.size w1 w') :=
    fun w1 hb => each_any _ enters_plain (fun q => pushP q false) p.lv p.l w1 (hi.list.below hb) (hT.below hb) (size_ok hs) ih
  have HT : Hid (∀ m : List PT, m.map PT.bare = (p.l.map fun q => pushP q false).map PT.bare → ∀ lv, (PT.mk op 0 Val.zero Val.zero lv m).bare = t.bare) := fun m hm lv => by rw [ht, bare_mk, bare_mk, hm]
  obtain ⟨ap, cp, hlp, _⟩ := hi.lies.slice
  have HN : Hid _ := P2.new w p 29 29
  clear hi hT ih hs ht
  have HO : Hid (p.op = op ∧ p.lv = .slice ap p.l.length cp) := ⟨h, hlp⟩
  have HD : Hid (∀ w1, P2 w p w1 → w1.cell? ⟨w.heap.size, 0, none⟩ = some (.int .i64 op) ∧ w1.cell? ⟨w.heap.size, 8, none⟩ = some (.slice ap p.l.length cp)) := fun w1 h1 => ⟨by rw [h1.pb.c0, HO.out.1], by rw [h1.pb.c8, HO.out.2]⟩
  unfold PT.val at *
  rw [hlp, h]
  rw [hlp] at HQ
  rw [pobj, hlp, h] at HN
  clear hlp h
  rcases ho with rfl | rfl | rfl | rfl
  · go_enter Tryd.func29, Tryd.ntmps29
    go_wp2_with fail
    have X0 : P2 w p _ := HN.out.below (Below.refl _ _).drew
    refine wp_region_held_drew (S := fun w' => w'.cell? ⟨w.heap.size, 0, none⟩ = some (.int .i64 1) ∧ w'.cell? ⟨w.heap.size, 8, none⟩ = some (.slice ap p.l.length cp)) (by kernel_rfl) ?_ (fun hHeld => ?_)
    · exact HD.out _ X0
    (try clear hK K)
    refine wpAnyH_take (i := 0) (v := ?_) rfl (by kernel_rfl) (by kernel_rfl) (by kernel_rfl) (fun _ _ _ h => h) (Or.inl ⟨by rfl, ?_⟩) (by assumption) ?_
    rotate_left
    · intro w hSw; (try dsimp only at hSw); go_simp; (try with_reducible rfl)
    (try simp only [Act.put, List.getElem_toArray, List.getElem_cons_zero, List.setIfInBounds_toArray, List.set_cons_zero, List.set_cons_succ])
    refine wpAnyH_take (i := 1) (v := ?_) rfl (by kernel_rfl) (by kernel_rfl) (by kernel_rfl) (fun _ _ _ h => h) (Or.inl ⟨by rfl, ?_⟩) (by assumption) ?_
    rotate_left
    · intro w hSw; (try dsimp only at hSw); go_simp; (try with_reducible rfl)
    (try simp only [Act.put, List.getElem_toArray, List.getElem_cons_succ, List.getElem_cons_zero, List.setIfInBounds_toArray, List.set_cons_zero, List.set_cons_succ])
    refine wpAnyH_take (i := 2) (v := ?_) rfl (by kernel_rfl) (by kernel_rfl) (by kernel_rfl) (fun _ _ _ h => h) (Or.inl ⟨by rfl, ?_⟩) (by assumption) ?_
    rotate_left
    · intro w hSw; (try dsimp only at hSw); go_simp; (try with_reducible rfl)
    (try simp only [Act.put, List.getElem_toArray, List.getElem_cons_succ, List.getElem_cons_zero, List.setIfInBounds_toArray, List.set_cons_zero, List.set_cons_succ])
    refine wpAnyH_take (i := 3) (v := ?_) rfl (by kernel_rfl) (by kernel_rfl) (by kernel_rfl) (fun _ _ _ h => h) (Or.inl ⟨by rfl, ?_⟩) (by assumption) ?_
    rotate_left
    · intro w hSw; (try dsimp only at hSw); go_simp; (try with_reducible rfl)
    (try simp only [Act.put, List.getElem_toArray, List.getElem_cons_succ, List.getElem_cons_zero, List.setIfInBounds_toArray, List.set_cons_zero, List.set_cons_succ])
    (try clear hK K)
    refine wpAnyH_ready (rs := [4]) (by kernel_rfl) (by simp) ?_
    refine AllReadyH.cons rfl (fun K hK => ?_) AllReadyH.nil
    go_simp
    (refine Calls.mono (HQ.out _ X0.be) ?_; rintro e w1 ⟨v', m, rfl, hmb, ⟨hmr, hmn⟩, hb⟩; have X1 := X0.below hb)
    refine hK.out _ _ ?_ (fun hHeld => ?_)
    · exact HD.out _ X1
    obtain ⟨av, cv, rfl, _⟩ := hmr.lies.slice
    have hsz := hb.size
    have HR : Hid ((PT.mk 1 0 Val.zero Val.zero (.slice av m.length cv) m).bare = t.bare ∧ Nw w1 TP (fun b => w.heap.size + 1 < b) (PT.mk 1 0 Val.zero Val.zero (.slice av m.length cv) m)) := ⟨HT.out m hmb _, .mk (by decide) (by decide) (hmr.imp fun b h _ => by simp at h; omega) (fun q hq => (hmn q hq).imp fun b h _ => by simp at h; omega)⟩
    obtain ⟨z0, z1, z2, z3, z4, z5, z6, z7, z8⟩ := X1.pz
    obtain ⟨lz, fz⟩ := X1.fz
    have HX : Hid (P2 w p w1) := X1
    clear X0 X1 hb hmb hmr hmn HQ HT HN hsz
    (try clear hK K)
    refine wpAnyH_take (i := 5) (v := ?_) rfl (by kernel_rfl) (by kernel_rfl) (by kernel_rfl) (fun _ _ _ h => h) (Or.inl ⟨by rfl, ?_⟩) (by assumption) ?_
    rotate_left
    · intro w hSw; (try dsimp only at hSw); go_simp; (try with_reducible rfl)
    (try simp only [Act.put, List.getElem_toArray, List.getElem_cons_succ, List.getElem_cons_zero, List.setIfInBounds_toArray, List.set_cons_zero, List.set_cons_succ])
    (try clear hK K)
    refine wpAnyH_ready (rs := [6]) (by kernel_rfl) (by simp) ?_
    refine AllReadyH.cons rfl (fun K hK => ?_) AllReadyH.nil
    go_simp
    refine hK.out _ _ ?_ (fun hHeld => ?_)
    · refine ⟨?_, ?_⟩
      · repeat (refine cell_far' ?_ (by omega))
        exact (HD.out _ HX.out).1
      · repeat (refine cell_far' ?_ (by omega))
        exact (HD.out _ HX.out).2
    (try clear hK K)
    refine wpAnyH_done (by kernel_rfl) ?_ _
    go_wp2_with fail
    refine bodyPost_ret (v := (PT.mk 1 0 Val.zero Val.zero (.slice av m.length cv) m).val) (by simp [results, Tryd.results29, go_sem, PT.val, Val.zero, z0, z1, z2, z3, z4, z5, z6, z7, z8]) rfl ⟨_, rfl, HR.out.1, ?_, ?_⟩
    · refine Nw.imp (P := fun b => w.heap.size + 1 < b) ?_ (fun b hb _ => by omega)
      repeat (refine nw_set ?_ (fun x hx => by omega))
      exact HR.out.2
    · repeat (refine set_below ?_ (by omega) _)
      exact HX.out.be
  · go_enter Tryd.func29, Tryd.ntmps29
    go_wp2_with fail
    have X0 : P2 w p _ := HN.out.below (Below.refl _ _).drew
    refine wp_region_held_drew (S := fun w' => w'.cell? ⟨w.heap.size, 0, none⟩ = some (.int .i64 2) ∧ w'.cell? ⟨w.heap.size, 8, none⟩ = some (.slice ap p.l.length cp)) (by kernel_rfl) ?_ (fun hHeld => ?_)
    · exact HD.out _ X0
    (try clear hK K)
    refine wpAnyH_take (i := 0) (v := ?_) rfl (by kernel_rfl) (by kernel_rfl) (by kernel_rfl) (fun _ _ _ h => h) (Or.inl ⟨by rfl, ?_⟩) (by assumption) ?_
    rotate_left
    · intro w hSw; (try dsimp only at hSw); go_simp; (try with_reducible rfl)
    (try simp only [Act.put, List.getElem_toArray, List.getElem_cons_zero, List.setIfInBounds_toArray, List.set_cons_zero, List.set_cons_succ])
    refine wpAnyH_take (i := 1) (v := ?_) rfl (by kernel_rfl) (by kernel_rfl) (by kernel_rfl) (fun _ _ _ h => h) (Or.inl ⟨by rfl, ?_⟩) (by assumption) ?_
    rotate_left
    · intro w hSw; (try dsimp only at hSw); go_simp; (try with_reducible rfl)
    (try simp only [Act.put, List.getElem_toArray, List.getElem_cons_succ, List.getElem_cons_zero, List.setIfInBounds_toArray, List.set_cons_zero, List.set_cons_succ])
    refine wpAnyH_take (i := 2) (v := ?_) rfl (by kernel_rfl) (by kernel_rfl) (by kernel_rfl) (fun _ _ _ h => h) (Or.inl ⟨by rfl, ?_⟩) (by assumption) ?_
    rotate_left
    · intro w hSw; (try dsimp only at hSw); go_simp; (try with_reducible rfl)
    (try simp only [Act.put, List.getElem_toArray, List.getElem_cons_succ, List.getElem_cons_zero, List.setIfInBounds_toArray, List.set_cons_zero, List.set_cons_succ])
    refine wpAnyH_take (i := 3) (v := ?_) rfl (by kernel_rfl) (by kernel_rfl) (by kernel_rfl) (fun _ _ _ h => h) (Or.inl ⟨by rfl, ?_⟩) (by assumption) ?_
    rotate_left
    · intro w hSw; (try dsimp only at hSw); go_simp; (try with_reducible rfl)
    (try simp only [Act.put, List.getElem_toArray, List.getElem_cons_succ, List.getElem_cons_zero, List.setIfInBounds_toArray, List.set_cons_zero, List.set_cons_succ])
    (try clear hK K)
    refine wpAnyH_ready (rs := [4]) (by kernel_rfl) (by simp) ?_
    refine AllReadyH.cons rfl (fun K hK => ?_) AllReadyH.nil
    go_simp
    (refine Calls.mono (HQ.out _ X0.be) ?_; rintro e w1 ⟨v', m, rfl, hmb, ⟨hmr, hmn⟩, hb⟩; have X1 := X0.below hb)
    refine hK.out _ _ ?_ (fun hHeld => ?_)
    · exact HD.out _ X1
    obtain ⟨av, cv, rfl, _⟩ := hmr.lies.slice
    have hsz := hb.size
    have HR : Hid ((PT.mk 2 0 Val.zero Val.zero (.slice av m.length cv) m).bare = t.bare ∧ Nw w1 TP (fun b => w.heap.size + 1 < b) (PT.mk 2 0 Val.zero Val.zero (.slice av m.length cv) m)) := ⟨HT.out m hmb _, .mk (by decide) (by decide) (hmr.imp fun b h _ => by simp at h; omega) (fun q hq => (hmn q hq).imp fun b h _ => by simp at h; omega)⟩
    obtain ⟨z0, z1, z2, z3, z4, z5, z6, z7, z8⟩ := X1.pz
    obtain ⟨lz, fz⟩ := X1.fz
    have HX : Hid (P2 w p w1) := X1
    clear X0 X1 hb hmb hmr hmn HQ HT HN hsz
    (try clear hK K)
    refine wpAnyH_take (i := 5) (v := ?_) rfl (by kernel_rfl) (by kernel_rfl) (by kernel_rfl) (fun _ _ _ h => h) (Or.inl ⟨by rfl, ?_⟩) (by assumption) ?_
    rotate_left
    · intro w hSw; (try dsimp only at hSw); go_simp; (try with_reducible rfl)
    (try simp only [Act.put, List.getElem_toArray, List.getElem_cons_succ, List.getElem_cons_zero, List.setIfInBounds_toArray, List.set_cons_zero, List.set_cons_succ])
    (try clear hK K)
    refine wpAnyH_ready (rs := [6]) (by kernel_rfl) (by simp) ?_
    refine AllReadyH.cons rfl (fun K hK => ?_) AllReadyH.nil
    go_simp
    refine hK.out _ _ ?_ (fun hHeld => ?_)
    · refine ⟨?_, ?_⟩
      · repeat (refine cell_far' ?_ (by omega))
        exact (HD.out _ HX.out).1
      · repeat (refine cell_far' ?_ (by omega))
        exact (HD.out _ HX.out).2
    (try clear hK K)
    refine wpAnyH_done (by kernel_rfl) ?_ _
    go_wp2_with fail
    refine bodyPost_ret (v := (PT.mk 2 0 Val.zero Val.zero (.slice av m.length cv) m).val) (by simp [results, Tryd.results29, go_sem, PT.val, Val.zero, z0, z1, z2, z3, z4, z5, z6, z7, z8]) rfl ⟨_, rfl, HR.out.1, ?_, ?_⟩
    · refine Nw.imp (P := fun b => w.heap.size + 1 < b) ?_ (fun b hb _ => by omega)
      repeat (refine nw_set ?_ (fun x hx => by omega))
      exact HR.out.2
    · repeat (refine set_below ?_ (by omega) _)
      exact HX.out.be
  · go_enter Tryd.func29, Tryd.ntmps29
    go_wp2_with fail
    have X0 : P2 w p _ := HN.out.below (Below.refl _ _).drew
    refine wp_region_held_drew (S := fun w' => w'.cell? ⟨w.heap.size, 0, none⟩ = some (.int .i64 11) ∧ w'.cell? ⟨w.heap.size, 8, none⟩ = some (.slice ap p.l.length cp)) (by kernel_rfl) ?_ (fun hHeld => ?_)
    · exact HD.out _ X0
    (try clear hK K)
    refine wpAnyH_take (i := 0) (v := ?_) rfl (by kernel_rfl) (by kernel_rfl) (by kernel_rfl) (fun _ _ _ h => h) (Or.inl ⟨by rfl, ?_⟩) (by assumption) ?_
    rotate_left
    · intro w hSw; (try dsimp only at hSw); go_simp; (try with_reducible rfl)
    (try simp only [Act.put, List.getElem_toArray, List.getElem_cons_zero, List.setIfInBounds_toArray, List.set_cons_zero, List.set_cons_succ])
    refine wpAnyH_take (i := 1) (v := ?_) rfl (by kernel_rfl) (by kernel_rfl) (by kernel_rfl) (fun _ _ _ h => h) (Or.inl ⟨by rfl, ?_⟩) (by assumption) ?_
    rotate_left
    · intro w hSw; (try dsimp only at hSw); go_simp; (try with_reducible rfl)
    (try simp only [Act.put, List.getElem_toArray, List.getElem_cons_succ, List.getElem_cons_zero, List.setIfInBounds_toArray, List.set_cons_zero, List.set_cons_succ])
    refine wpAnyH_take (i := 2) (v := ?_) rfl (by kernel_rfl) (by kernel_rfl) (by kernel_rfl) (fun _ _ _ h => h) (Or.inl ⟨by rfl, ?_⟩) (by assumption) ?_
    rotate_left
    · intro w hSw; (try dsimp only at hSw); go_simp; (try with_reducible rfl)
    (try simp only [Act.put, List.getElem_toArray, List.getElem_cons_succ, List.getElem_cons_zero, List.setIfInBounds_toArray, List.set_cons_zero, List.set_cons_succ])
    refine wpAnyH_take (i := 3) (v := ?_) rfl (by kernel_rfl) (by kernel_rfl) (by kernel_rfl) (fun _ _ _ h => h) (Or.inl ⟨by rfl, ?_⟩) (by assumption) ?_
    rotate_left
    · intro w hSw; (try dsimp only at hSw); go_simp; (try with_reducible rfl)
    (try simp only [Act.put, List.getElem_toArray, List.getElem_cons_succ, List.getElem_cons_zero, List.setIfInBounds_toArray, List.set_cons_zero, List.set_cons_succ])
    (try clear hK K)
    refine wpAnyH_ready (rs := [4]) (by kernel_rfl) (by simp) ?_
    refine AllReadyH.cons rfl (fun K hK => ?_) AllReadyH.nil
    go_simp
    (refine Calls.mono (HQ.out _ X0.be) ?_; rintro e w1 ⟨v', m, rfl, hmb, ⟨hmr, hmn⟩, hb⟩; have X1 := X0.below hb)
    refine hK.out _ _ ?_ (fun hHeld => ?_)
    · exact HD.out _ X1
    obtain ⟨av, cv, rfl, _⟩ := hmr.lies.slice
    have hsz := hb.size
    have HR : Hid ((PT.mk 11 0 Val.zero Val.zero (.slice av m.length cv) m).bare = t.bare ∧ Nw w1 TP (fun b => w.heap.size + 1 < b) (PT.mk 11 0 Val.zero Val.zero (.slice av m.length cv) m)) := ⟨HT.out m hmb _, .mk (by decide) (by decide) (hmr.imp fun b h _ => by simp at h; omega) (fun q hq => (hmn q hq).imp fun b h _ => by simp at h; omega)⟩
    obtain ⟨z0, z1, z2, z3, z4, z5, z6, z7, z8⟩ := X1.pz
    obtain ⟨lz, fz⟩ := X1.fz
    have HX : Hid (P2 w p w1) := X1
    clear X0 X1 hb hmb hmr hmn HQ HT HN hsz
    (try clear hK K)
    refine wpAnyH_take (i := 5) (v := ?_) rfl (by kernel_rfl) (by kernel_rfl) (by kernel_rfl) (fun _ _ _ h => h) (Or.inl ⟨by rfl, ?_⟩) (by assumption) ?_
    rotate_left
    · intro w hSw; (try dsimp only at hSw); go_simp; (try with_reducible rfl)
    (try simp only [Act.put, List.getElem_toArray, List.getElem_cons_succ, List.getElem_cons_zero, List.setIfInBounds_toArray, List.set_cons_zero, List.set_cons_succ])
    (try clear hK K)
    refine wpAnyH_ready (rs := [6]) (by kernel_rfl) (by simp) ?_
    refine AllReadyH.cons rfl (fun K hK => ?_) AllReadyH.nil
    go_simp
    refine hK.out _ _ ?_ (fun hHeld => ?_)
    · refine ⟨?_, ?_⟩
      · repeat (refine cell_far' ?_ (by omega))
        exact (HD.out _ HX.out).1
      · repeat (refine cell_far' ?_ (by omega))
        exact (HD.out _ HX.out).2
    (try clear hK K)
    refine wpAnyH_done (by kernel_rfl) ?_ _
    go_wp2_with fail
    refine bodyPost_ret (v := (PT.mk 11 0 Val.zero Val.zero (.slice av m.length cv) m).val) (by simp [results, Tryd.results29, go_sem, PT.val, Val.zero, z0, z1, z2, z3, z4, z5, z6, z7, z8]) rfl ⟨_, rfl, HR.out.1, ?_, ?_⟩
    · refine Nw.imp (P := fun b => w.heap.size + 1 < b) ?_ (fun b hb _ => by omega)
      repeat (refine nw_set ?_ (fun x hx => by omega))
      exact HR.out.2
    · repeat (refine set_below ?_ (by omega) _)
      exact HX.out.be
  · go_enter Tryd.func29, Tryd.ntmps29
    go_wp2_with fail
    have X0 : P2 w p _ := HN.out.below (Below.refl _ _).drew
    refine wp_region_held_drew (S := fun w' => w'.cell? ⟨w.heap.size, 0, none⟩ = some (.int .i64 12) ∧ w'.cell? ⟨w.heap.size, 8, none⟩ = some (.slice ap p.l.length cp)) (by kernel_rfl) ?_ (fun hHeld => ?_)
    · exact HD.out _ X0
    (try clear hK K)
    refine wpAnyH_take (i := 0) (v := ?_) rfl (by kernel_rfl) (by kernel_rfl) (by kernel_rfl) (fun _ _ _ h => h) (Or.inl ⟨by rfl, ?_⟩) (by assumption) ?_
    rotate_left
    · intro w hSw; (try dsimp only at hSw); go_simp; (try with_reducible rfl)
    (try simp only [Act.put, List.getElem_toArray, List.getElem_cons_zero, List.setIfInBounds_toArray, List.set_cons_zero, List.set_cons_succ])
    refine wpAnyH_take (i := 1) (v := ?_) rfl (by kernel_rfl) (by kernel_rfl) (by kernel_rfl) (fun _ _ _ h => h) (Or.inl ⟨by rfl, ?_⟩) (by assumption) ?_
    rotate_left
    · intro w hSw; (try dsimp only at hSw); go_simp; (try with_reducible rfl)
    (try simp only [Act.put, List.getElem_toArray, List.getElem_cons_succ, List.getElem_cons_zero, List.setIfInBounds_toArray, List.set_cons_zero, List.set_cons_succ])
    refine wpAnyH_take (i := 2) (v := ?_) rfl (by kernel_rfl) (by kernel_rfl) (by kernel_rfl) (fun _ _ _ h => h) (Or.inl ⟨by rfl, ?_⟩) (by assumption) ?_
    rotate_left
    · intro w hSw; (try dsimp only at hSw); go_simp; (try with_reducible rfl)
    (try simp only [Act.put, List.getElem_toArray, List.getElem_cons_succ, List.getElem_cons_zero, List.setIfInBounds_toArray, List.set_cons_zero, List.set_cons_succ])
    refine wpAnyH_take (i := 3) (v := ?_) rfl (by kernel_rfl) (by kernel_rfl) (by kernel_rfl) (fun _ _ _ h => h) (Or.inl ⟨by rfl, ?_⟩) (by assumption) ?_
    rotate_left
    · intro w hSw; (try dsimp only at hSw); go_simp; (try with_reducible rfl)
    (try simp only [Act.put, List.getElem_toArray, List.getElem_cons_succ, List.getElem_cons_zero, List.setIfInBounds_toArray, List.set_cons_zero, List.set_cons_succ])
    (try clear hK K)
    refine wpAnyH_ready (rs := [4]) (by kernel_rfl) (by simp) ?_
    refine AllReadyH.cons rfl (fun K hK => ?_) AllReadyH.nil
    go_simp
    (refine Calls.mono (HQ.out _ X0.be) ?_; rintro e w1 ⟨v', m, rfl, hmb, ⟨hmr, hmn⟩, hb⟩; have X1 := X0.below hb)
    refine hK.out _ _ ?_ (fun hHeld => ?_)
    · exact HD.out _ X1
    obtain ⟨av, cv, rfl, _⟩ := hmr.lies.slice
    have hsz := hb.size
    have HR : Hid ((PT.mk 12 0 Val.zero Val.zero (.slice av m.length cv) m).bare = t.bare ∧ Nw w1 TP (fun b => w.heap.size + 1 < b) (PT.mk 12 0 Val.zero Val.zero (.slice av m.length cv) m)) := ⟨HT.out m hmb _, .mk (by decide) (by decide) (hmr.imp fun b h _ => by simp at h; omega) (fun q hq => (hmn q hq).imp fun b h _ => by simp at h; omega)⟩
    obtain ⟨z0, z1, z2, z3, z4, z5, z6, z7, z8⟩ := X1.pz
    obtain ⟨lz, fz⟩ := X1.fz
    have HX : Hid (P2 w p w1) := X1
    clear X0 X1 hb hmb hmr hmn HQ HT HN hsz
    (try clear hK K)
    refine wpAnyH_take (i := 5) (v := ?_) rfl (by kernel_rfl) (by kernel_rfl) (by kernel_rfl) (fun _ _ _ h => h) (Or.inl ⟨by rfl, ?_⟩) (by assumption) ?_
    rotate_left
    · intro w hSw; (try dsimp only at hSw); go_simp; (try with_reducible rfl)
    (try simp only [Act.put, List.getElem_toArray, List.getElem_cons_succ, List.getElem_cons_zero, List.setIfInBounds_toArray, List.set_cons_zero, List.set_cons_succ])
    (try clear hK K)
    refine wpAnyH_ready (rs := [6]) (by kernel_rfl) (by simp) ?_
    refine AllReadyH.cons rfl (fun K hK => ?_) AllReadyH.nil
    go_simp
    refine hK.out _ _ ?_ (fun hHeld => ?_)
    · refine ⟨?_, ?_⟩
      · repeat (refine cell_far' ?_ (by omega))
        exact (HD.out _ HX.out).1
      · repeat (refine cell_far' ?_ (by omega))
        exact (HD.out _ HX.out).2
    (try clear hK K)
    refine wpAnyH_done (by kernel_rfl) ?_ _
    go_wp2_with fail
    refine bodyPost_ret (v := (PT.mk 12 0 Val.zero Val.zero (.slice av m.length cv) m).val) (by simp [results, Tryd.results29, go_sem, PT.val, Val.zero, z0, z1, z2, z3, z4, z5, z6, z7, z8]) rfl ⟨_, rfl, HR.out.1, ?_, ?_⟩
    · refine Nw.imp (P := fun b => w.heap.size + 1 < b) ?_ (fun b hb _ => by omega)
      repeat (refine nw_set ?_ (fun x hx => by omega))
      exact HR.out.2
    · repeat (refine set_below ?_ (by omega) _)
      exact HX.out.be
end Go.Proofs.YtfkhfplibhnceaaDoor.Val
/- What plain of a leaf, and opposite of package normal answer. -/
namespace Go.Proofs.YtfkhfplibhnceaaDoor.Val
open Go.RowKit

set_option maxHeartbeats 2000000 in
/-- A leaf. -/
theorem plain_leaf (p : PT) (ho : 3 ≤ p.op ∧ p.op ≤ 9) (t : PT) (ht : t.bare = (lfN p.op p.col p.v p.w).bare) : MadeOk 29 p t := by
  intro w hi hT
  have HV : Hid (p.v.s.size ≤ maxLen ∧ p.w.s.size ≤ maxLen) := ⟨hi.sv, hi.sw⟩
  have HT : Hid (t.bare = (lfN p.op p.col p.v p.w).bare) := ht
  obtain ⟨ap, cp, hlp, _⟩ := hi.lies.slice
  have e1 : (p.op == 10) = false := by rw [beq_eq_false_iff_ne]; omega
  have e2 : (p.op == 1) = false := by rw [beq_eq_false_iff_ne]; omega
  have e3 : (p.op == 2) = false := by rw [beq_eq_false_iff_ne]; omega
  have e4 : (p.op == 11) = false := by rw [beq_eq_false_iff_ne]; omega
  have e5 : (p.op == 12) = false := by rw [beq_eq_false_iff_ne]; omega
  clear hi hT ho ht
  unfold PT.val
  rw [hlp]
  clear hlp
  go_enter Tryd.func29, Tryd.ntmps29
  go_wp2_with fail
  refine bodyPost_ret (v := (lfN p.op p.col p.v p.w).val) (by simp [results, Tryd.results29, go_sem, PT.val, lfN]) rfl ⟨_, rfl, HT.out.symm, Nw.leaf _ _ _ _ _ _ _ HV.out.1 HV.out.2, ?_⟩
  exact back1 (alloc1 _ _)
set_option maxHeartbeats 2000000 in
/-- PNot. -/
theorem opp_not (p q : PT) (h : p.op = 10) (hl : p.l = [q]) (ih : MadeOk 29 q (pushP q false)) : MadeOk 49 p (pushP p true) := by
  intro w hi hT
  rw [push_10 h q hl]
  have hin : In w q := hi.part q (by rw [hl]; simp)
  have HQ : Hid (∀ w1, Below w.heap.size w w1 → Calls Tryd.prog 29 #[q.val] w1 fun e w' => ∃ r : PT, e = .returned r.val ∧ r.bare = (pushP q false).bare ∧ Nw w' TP (fun b => w1.heap.size ≤ b) r ∧ Below w1.heap.size w1 w') := fun w1 hb => ih w1 (hin.keep hb) (hT.below hb)
  have hlie := hi.lies
  obtain ⟨ap, cp, hlp, _⟩ := hlie.slice
  have hlen : p.l.length = 1 := by rw [hl]; rfl
  rw [hlp] at hlie
  obtain ⟨b, o, rfl, hat⟩ := lies_at hlie 0 (by omega)
  have hq0 : p.l[0]'(by omega) = q := by simp [hl]
  rw [hq0, Nat.zero_mul, Nat.add_zero] at hat
  have HN : Hid _ := P2.new w p 29 29
  have A : ∀ o1 o2, At ((w.alloc o1).alloc o2) b o q := fun o1 o2 => (hat.below (alloc1 _ _)).below (alloc1 _ _)
  have HA : Hid _ := A
  clear hi hT hl hlie hat hq0 ih hin A
  unfold PT.val at *
  rw [hlp, hlen, h] 
  rw [pobj, hlp, hlen, h] at HN
  clear hlp hlen h
  obtain ⟨c0, c1, c2, c3, c4, c5, c6, c7, c8⟩ := HA.out (.cells #[.int .i64 10, .int .i64 p.col, .bool p.v.t, .int .i64 p.v.n, .string p.v.s, .bool p.w.t, .int .i64 p.w.n, .string p.w.s, .slice (some ⟨b, o, none⟩) 1 cp] 29) (.cells #[.int .i64 0, .int .i64 0, .bool false, .int .i64 0, .string ⟨#[]⟩, .bool false, .int .i64 0, .string ⟨#[]⟩, .slice none 0 0] 29)
  go_enter Tryd.func49, Tryd.ntmps49
  go_wp2_with fail
  refine Calls.mono (HQ.out _ (back1 (alloc1 _ _))) ?_
  rintro e w1 ⟨r, rfl, hrb, hrn, hb⟩
  have HX : Hid _ := HN.out.below hb
  have HR : Hid (r.bare = (pushP q false).bare ∧ Nw w1 TP (fun b => w.heap.size + 1 < b) r) := ⟨hrb, hrn.imp fun b h _ => by simp at h; omega⟩
  obtain ⟨ar, kr, hlr⟩ := hrn.slice
  obtain ⟨_, ⟨z0, z1, z2, z3, z4, z5, z6, z7, z8⟩, _, ⟨lz, fz⟩, _⟩ := HX.out
  have HB : Hid (Below w.heap.size w w1) := HX.out.be
  have HLR : Hid (r.lv = .slice ar r.l.length kr) := hlr
  rw [hlr]
  clear hlr hrb hrn hb HQ HN HX HA c0 c1 c2 c3 c4 c5 c6 c7 c8
  go_wp2_with fail
  refine bodyPost_ret (v := r.val) (by simp [results, Tryd.results49, go_sem, PT.val, HLR.out, z0, z1, z2, z3, z4, z5, z6, z7, z8]) rfl ⟨r, rfl, HR.out.1, ?_, ?_⟩
  · refine Nw.imp (P := fun b => w.heap.size + 1 < b) ?_ (fun b hb _ => by omega)
    repeat (refine nw_set ?_ (fun x hx => by omega))
    exact HR.out.2
  · repeat (refine set_below ?_ (by omega) _)
    exact HB.out
set_option maxHeartbeats 4000000 in
/-- PTrue, PFalse, PAnd, POr. -/
theorem opp_list (p : PT) (op : Int) (h : p.op = op) (hs : p.size ≤ 1000000) (t : PT) (no : Int) (hno : (op = 1 ∧ no = 2) ∨ (op = 2 ∧ no = 1) ∨ (op = 11 ∧ no = 12) ∨ (op = 12 ∧ no = 11)) (ht : t.bare = (PT.mk no 0 Val.zero Val.zero (.slice none 0 0) (p.l.map fun q => pushP q true)).bare)
    (ih : ∀ q ∈ p.l, MadeOk 49 q (pushP q true)) : MadeOk 49 p t := by
  intro w hi hT
  have hT' := hT
  have HQ : Hid (∀ w1, Below w.heap.size w w1 → Calls Tryd.prog 50 #[p.lv, FV 49 #[] #[]] w1 fun e w' => ∃ v' m, e = .returned v' ∧ m.map PT.bare = (p.l.map fun q => pushP q true).map PT.bare ∧ (RowNw w' TP (fun b => w1.heap.size ≤ b) v' m ∧ ∀ p ∈ m, Nw w' TP (fun b => w1.heap.size ≤ b) p) ∧ Below w1.heap.size w1 w') :=
    fun w1 hb => each_any _ enters_opp (fun q => pushP q true) p.lv p.l w1 (hi.list.below hb) (hT.below hb) (size_ok hs) ih
  have HT : Hid (∀ m : List PT, m.map PT.bare = (p.l.map fun q => pushP q true).map PT.bare → ∀ lv, (PT.mk no 0 Val.zero Val.zero lv m).bare = t.bare) := fun m hm lv => by rw [ht, bare_mk, bare_mk, hm]
  obtain ⟨ap, cp, hlp, _⟩ := hi.lies.slice
  have HN : Hid _ := P2.new w p 29 29
  clear hi hT ih hs ht
  have HTab : Hid (Tab w) := hT'
  have HO : Hid (p.op = op ∧ p.lv = .slice ap p.l.length cp) := ⟨h, hlp⟩
  have HD : Hid (∀ w1, P2 w p w1 → w1.cell? ⟨w.heap.size, 0, none⟩ = some (.int .i64 op) ∧ w1.cell? ⟨w.heap.size, 8, none⟩ = some (.slice ap p.l.length cp)) := fun w1 h1 => ⟨by rw [h1.pb.c0, HO.out.1], by rw [h1.pb.c8, HO.out.2]⟩
  unfold PT.val at *
  rw [hlp, h]
  rw [hlp] at HQ
  rw [pobj, hlp, h] at HN
  clear hlp h
  clear hT'
  rcases hno with ⟨rfl, rfl⟩ | ⟨rfl, rfl⟩ | ⟨rfl, rfl⟩ | ⟨rfl, rfl⟩
  · go_enter Tryd.func49, Tryd.ntmps49
    go_wp2_with fail
    have X0 : P2 w p _ := HN.out.below (Below.refl _ _).drew
    refine wp_region_held_drew (S := fun w' => w'.cell? ⟨0, 1, none⟩ = some (.int .i64 2) ∧ w'.cell? ⟨w.heap.size, 0, none⟩ = some (.int .i64 1) ∧ w'.cell? ⟨w.heap.size, 8, none⟩ = some (.slice ap p.l.length cp)) (by kernel_rfl) ?_ (fun hHeld => ?_)
    · exact ⟨HTab.out.below X0.be 1 (by decide), HD.out _ X0⟩
    (try clear hK K)
    refine wpAnyH_take (i := 0) (v := ?_) rfl (by kernel_rfl) (by kernel_rfl) (by kernel_rfl) (fun _ _ _ h => h) (Or.inl ⟨by rfl, ?_⟩) (by assumption) ?_
    rotate_left
    · intro w hSw; (try dsimp only at hSw); go_simp; (try with_reducible rfl)
    (try simp only [Act.put, List.getElem_toArray, List.getElem_cons_zero, List.setIfInBounds_toArray, List.set_cons_zero, List.set_cons_succ])
    refine wpAnyH_take (i := 1) (v := ?_) rfl (by kernel_rfl) (by kernel_rfl) (by kernel_rfl) (fun _ _ _ h => h) (Or.inl ⟨by rfl, ?_⟩) (by assumption) ?_
    rotate_left
    · intro w hSw; (try dsimp only at hSw); go_simp; (try with_reducible rfl)
    (try simp only [Act.put, List.getElem_toArray, List.getElem_cons_succ, List.getElem_cons_zero, List.setIfInBounds_toArray, List.set_cons_zero, List.set_cons_succ])
    refine wpAnyH_take (i := 2) (v := ?_) rfl (by kernel_rfl) (by kernel_rfl) (by kernel_rfl) (fun _ _ _ h => h) (Or.inl ⟨by rfl, ?_⟩) (by assumption) ?_
    rotate_left
    · intro w hSw; (try dsimp only at hSw); go_simp; (try with_reducible rfl)
    (try simp only [Act.put, List.getElem_toArray, List.getElem_cons_succ, List.getElem_cons_zero, List.setIfInBounds_toArray, List.set_cons_zero, List.set_cons_succ])
    refine wpAnyH_take (i := 3) (v := ?_) rfl (by kernel_rfl) (by kernel_rfl) (by kernel_rfl) (fun _ _ _ h => h) (Or.inl ⟨by rfl, ?_⟩) (by assumption) ?_
    rotate_left
    · intro w hSw; (try dsimp only at hSw); go_simp; (try with_reducible rfl)
    (try simp only [Act.put, List.getElem_toArray, List.getElem_cons_succ, List.getElem_cons_zero, List.setIfInBounds_toArray, List.set_cons_zero, List.set_cons_succ])
    refine wpAnyH_take (i := 4) (v := ?_) rfl (by kernel_rfl) (by kernel_rfl) (by kernel_rfl) (fun _ _ _ h => h) (Or.inl ⟨by rfl, ?_⟩) (by assumption) ?_
    rotate_left
    · intro w hSw; (try dsimp only at hSw); go_simp; (try with_reducible rfl)
    (try simp only [Act.put, List.getElem_toArray, List.getElem_cons_succ, List.getElem_cons_zero, List.setIfInBounds_toArray, List.set_cons_zero, List.set_cons_succ])
    refine wpAnyH_take (i := 5) (v := ?_) rfl (by kernel_rfl) (by kernel_rfl) (by kernel_rfl) (fun _ _ _ h => h) (Or.inl ⟨by rfl, ?_⟩) (by assumption) ?_
    rotate_left
    · intro w hSw; (try dsimp only at hSw); go_simp; (try with_reducible rfl)
    (try simp only [Act.put, List.getElem_toArray, List.getElem_cons_succ, List.getElem_cons_zero, List.setIfInBounds_toArray, List.set_cons_zero, List.set_cons_succ])
    (try clear hK K)
    refine wpAnyH_ready (rs := [6]) (by kernel_rfl) (by simp) ?_
    refine AllReadyH.cons rfl (fun K hK => ?_) AllReadyH.nil
    go_simp
    (refine Calls.mono (HQ.out _ X0.be) ?_; rintro e w1 ⟨v', m, rfl, hmb, ⟨hmr, hmn⟩, hb⟩; have X1 := X0.below hb)
    refine hK.out _ _ ?_ (fun hHeld => ?_)
    · exact ⟨HTab.out.below X1.be 1 (by decide), HD.out _ X1⟩
    obtain ⟨av, cv, rfl, _⟩ := hmr.lies.slice
    have hsz := hb.size
    have HR : Hid ((PT.mk 2 0 Val.zero Val.zero (.slice av m.length cv) m).bare = t.bare ∧ Nw w1 TP (fun b => w.heap.size + 1 < b) (PT.mk 2 0 Val.zero Val.zero (.slice av m.length cv) m)) := ⟨HT.out m hmb _, .mk (by decide) (by decide) (hmr.imp fun b h _ => by simp at h; omega) (fun q hq => (hmn q hq).imp fun b h _ => by simp at h; omega)⟩
    obtain ⟨z0, z1, z2, z3, z4, z5, z6, z7, z8⟩ := X1.pz
    obtain ⟨lz, fz⟩ := X1.fz
    have HX : Hid (P2 w p w1) := X1
    clear X0 X1 hb hmb hmr hmn HQ HT HN hsz
    (try clear hK K)
    refine wpAnyH_take (i := 7) (v := ?_) rfl (by kernel_rfl) (by kernel_rfl) (by kernel_rfl) (fun _ _ _ h => h) (Or.inl ⟨by rfl, ?_⟩) (by assumption) ?_
    rotate_left
    · intro w hSw; (try dsimp only at hSw); go_simp; (try with_reducible rfl)
    (try simp only [Act.put, List.getElem_toArray, List.getElem_cons_succ, List.getElem_cons_zero, List.setIfInBounds_toArray, List.set_cons_zero, List.set_cons_succ])
    (try clear hK K)
    refine wpAnyH_ready (rs := [8]) (by kernel_rfl) (by simp) ?_
    refine AllReadyH.cons rfl (fun K hK => ?_) AllReadyH.nil
    go_simp
    refine hK.out _ _ ?_ (fun hHeld => ?_)
    · have hw0 : 0 < w.heap.size := World.block_lt_of_cell? _ _ (HTab.out 0 (by decide))
      refine ⟨?_, ?_, ?_⟩
      · repeat (refine cell_far' ?_ (by omega))
        exact HTab.out.below HX.out.be 1 (by decide)
      · repeat (refine cell_far' ?_ (by omega))
        exact (HD.out _ HX.out).1
      · repeat (refine cell_far' ?_ (by omega))
        exact (HD.out _ HX.out).2
    (try clear hK K)
    refine wpAnyH_done (by kernel_rfl) ?_ _
    go_wp2_with fail
    refine bodyPost_ret (v := (PT.mk 2 0 Val.zero Val.zero (.slice av m.length cv) m).val) (by simp [results, Tryd.results49, go_sem, PT.val, Val.zero, z0, z1, z2, z3, z4, z5, z6, z7, z8]) rfl ⟨_, rfl, HR.out.1, ?_, ?_⟩
    · refine Nw.imp (P := fun b => w.heap.size + 1 < b) ?_ (fun b hb _ => by omega)
      repeat (refine nw_set ?_ (fun x hx => by omega))
      exact HR.out.2
    · repeat (refine set_below ?_ (by omega) _)
      exact HX.out.be
  · go_enter Tryd.func49, Tryd.ntmps49
    go_wp2_with fail
    have X0 : P2 w p _ := HN.out.below (Below.refl _ _).drew
    refine wp_region_held_drew (S := fun w' => w'.cell? ⟨0, 2, none⟩ = some (.int .i64 1) ∧ w'.cell? ⟨w.heap.size, 0, none⟩ = some (.int .i64 2) ∧ w'.cell? ⟨w.heap.size, 8, none⟩ = some (.slice ap p.l.length cp)) (by kernel_rfl) ?_ (fun hHeld => ?_)
    · exact ⟨HTab.out.below X0.be 2 (by decide), HD.out _ X0⟩
    (try clear hK K)
    refine wpAnyH_take (i := 0) (v := ?_) rfl (by kernel_rfl) (by kernel_rfl) (by kernel_rfl) (fun _ _ _ h => h) (Or.inl ⟨by rfl, ?_⟩) (by assumption) ?_
    rotate_left
    · intro w hSw; (try dsimp only at hSw); go_simp; (try with_reducible rfl)
    (try simp only [Act.put, List.getElem_toArray, List.getElem_cons_zero, List.setIfInBounds_toArray, List.set_cons_zero, List.set_cons_succ])
    refine wpAnyH_take (i := 1) (v := ?_) rfl (by kernel_rfl) (by kernel_rfl) (by kernel_rfl) (fun _ _ _ h => h) (Or.inl ⟨by rfl, ?_⟩) (by assumption) ?_
    rotate_left
    · intro w hSw; (try dsimp only at hSw); go_simp; (try with_reducible rfl)
    (try simp only [Act.put, List.getElem_toArray, List.getElem_cons_succ, List.getElem_cons_zero, List.setIfInBounds_toArray, List.set_cons_zero, List.set_cons_succ])
    refine wpAnyH_take (i := 2) (v := ?_) rfl (by kernel_rfl) (by kernel_rfl) (by kernel_rfl) (fun _ _ _ h => h) (Or.inl ⟨by rfl, ?_⟩) (by assumption) ?_
    rotate_left
    · intro w hSw; (try dsimp only at hSw); go_simp; (try with_reducible rfl)
    (try simp only [Act.put, List.getElem_toArray, List.getElem_cons_succ, List.getElem_cons_zero, List.setIfInBounds_toArray, List.set_cons_zero, List.set_cons_succ])
    refine wpAnyH_take (i := 3) (v := ?_) rfl (by kernel_rfl) (by kernel_rfl) (by kernel_rfl) (fun _ _ _ h => h) (Or.inl ⟨by rfl, ?_⟩) (by assumption) ?_
    rotate_left
    · intro w hSw; (try dsimp only at hSw); go_simp; (try with_reducible rfl)
    (try simp only [Act.put, List.getElem_toArray, List.getElem_cons_succ, List.getElem_cons_zero, List.setIfInBounds_toArray, List.set_cons_zero, List.set_cons_succ])
    refine wpAnyH_take (i := 4) (v := ?_) rfl (by kernel_rfl) (by kernel_rfl) (by kernel_rfl) (fun _ _ _ h => h) (Or.inl ⟨by rfl, ?_⟩) (by assumption) ?_
    rotate_left
    · intro w hSw; (try dsimp only at hSw); go_simp; (try with_reducible rfl)
    (try simp only [Act.put, List.getElem_toArray, List.getElem_cons_succ, List.getElem_cons_zero, List.setIfInBounds_toArray, List.set_cons_zero, List.set_cons_succ])
    refine wpAnyH_take (i := 5) (v := ?_) rfl (by kernel_rfl) (by kernel_rfl) (by kernel_rfl) (fun _ _ _ h => h) (Or.inl ⟨by rfl, ?_⟩) (by assumption) ?_
    rotate_left
    · intro w hSw; (try dsimp only at hSw); go_simp; (try with_reducible rfl)
    (try simp only [Act.put, List.getElem_toArray, List.getElem_cons_succ, List.getElem_cons_zero, List.setIfInBounds_toArray, List.set_cons_zero, List.set_cons_succ])
    (try clear hK K)
    refine wpAnyH_ready (rs := [6]) (by kernel_rfl) (by simp) ?_
    refine AllReadyH.cons rfl (fun K hK => ?_) AllReadyH.nil
    go_simp
    (refine Calls.mono (HQ.out _ X0.be) ?_; rintro e w1 ⟨v', m, rfl, hmb, ⟨hmr, hmn⟩, hb⟩; have X1 := X0.below hb)
    refine hK.out _ _ ?_ (fun hHeld => ?_)
    · exact ⟨HTab.out.below X1.be 2 (by decide), HD.out _ X1⟩
    obtain ⟨av, cv, rfl, _⟩ := hmr.lies.slice
    have hsz := hb.size
    have HR : Hid ((PT.mk 1 0 Val.zero Val.zero (.slice av m.length cv) m).bare = t.bare ∧ Nw w1 TP (fun b => w.heap.size + 1 < b) (PT.mk 1 0 Val.zero Val.zero (.slice av m.length cv) m)) := ⟨HT.out m hmb _, .mk (by decide) (by decide) (hmr.imp fun b h _ => by simp at h; omega) (fun q hq => (hmn q hq).imp fun b h _ => by simp at h; omega)⟩
    obtain ⟨z0, z1, z2, z3, z4, z5, z6, z7, z8⟩ := X1.pz
    obtain ⟨lz, fz⟩ := X1.fz
    have HX : Hid (P2 w p w1) := X1
    clear X0 X1 hb hmb hmr hmn HQ HT HN hsz
    (try clear hK K)
    refine wpAnyH_take (i := 7) (v := ?_) rfl (by kernel_rfl) (by kernel_rfl) (by kernel_rfl) (fun _ _ _ h => h) (Or.inl ⟨by rfl, ?_⟩) (by assumption) ?_
    rotate_left
    · intro w hSw; (try dsimp only at hSw); go_simp; (try with_reducible rfl)
    (try simp only [Act.put, List.getElem_toArray, List.getElem_cons_succ, List.getElem_cons_zero, List.setIfInBounds_toArray, List.set_cons_zero, List.set_cons_succ])
    (try clear hK K)
    refine wpAnyH_ready (rs := [8]) (by kernel_rfl) (by simp) ?_
    refine AllReadyH.cons rfl (fun K hK => ?_) AllReadyH.nil
    go_simp
    refine hK.out _ _ ?_ (fun hHeld => ?_)
    · have hw0 : 0 < w.heap.size := World.block_lt_of_cell? _ _ (HTab.out 0 (by decide))
      refine ⟨?_, ?_, ?_⟩
      · repeat (refine cell_far' ?_ (by omega))
        exact HTab.out.below HX.out.be 2 (by decide)
      · repeat (refine cell_far' ?_ (by omega))
        exact (HD.out _ HX.out).1
      · repeat (refine cell_far' ?_ (by omega))
        exact (HD.out _ HX.out).2
    (try clear hK K)
    refine wpAnyH_done (by kernel_rfl) ?_ _
    go_wp2_with fail
    refine bodyPost_ret (v := (PT.mk 1 0 Val.zero Val.zero (.slice av m.length cv) m).val) (by simp [results, Tryd.results49, go_sem, PT.val, Val.zero, z0, z1, z2, z3, z4, z5, z6, z7, z8]) rfl ⟨_, rfl, HR.out.1, ?_, ?_⟩
    · refine Nw.imp (P := fun b => w.heap.size + 1 < b) ?_ (fun b hb _ => by omega)
      repeat (refine nw_set ?_ (fun x hx => by omega))
      exact HR.out.2
    · repeat (refine set_below ?_ (by omega) _)
      exact HX.out.be
  · go_enter Tryd.func49, Tryd.ntmps49
    go_wp2_with fail
    have X0 : P2 w p _ := HN.out.below (Below.refl _ _).drew
    refine wp_region_held_drew (S := fun w' => w'.cell? ⟨0, 11, none⟩ = some (.int .i64 12) ∧ w'.cell? ⟨w.heap.size, 0, none⟩ = some (.int .i64 11) ∧ w'.cell? ⟨w.heap.size, 8, none⟩ = some (.slice ap p.l.length cp)) (by kernel_rfl) ?_ (fun hHeld => ?_)
    · exact ⟨HTab.out.below X0.be 11 (by decide), HD.out _ X0⟩
    (try clear hK K)
    refine wpAnyH_take (i := 0) (v := ?_) rfl (by kernel_rfl) (by kernel_rfl) (by kernel_rfl) (fun _ _ _ h => h) (Or.inl ⟨by rfl, ?_⟩) (by assumption) ?_
    rotate_left
    · intro w hSw; (try dsimp only at hSw); go_simp; (try with_reducible rfl)
    (try simp only [Act.put, List.getElem_toArray, List.getElem_cons_zero, List.setIfInBounds_toArray, List.set_cons_zero, List.set_cons_succ])
    refine wpAnyH_take (i := 1) (v := ?_) rfl (by kernel_rfl) (by kernel_rfl) (by kernel_rfl) (fun _ _ _ h => h) (Or.inl ⟨by rfl, ?_⟩) (by assumption) ?_
    rotate_left
    · intro w hSw; (try dsimp only at hSw); go_simp; (try with_reducible rfl)
    (try simp only [Act.put, List.getElem_toArray, List.getElem_cons_succ, List.getElem_cons_zero, List.setIfInBounds_toArray, List.set_cons_zero, List.set_cons_succ])
    refine wpAnyH_take (i := 2) (v := ?_) rfl (by kernel_rfl) (by kernel_rfl) (by kernel_rfl) (fun _ _ _ h => h) (Or.inl ⟨by rfl, ?_⟩) (by assumption) ?_
    rotate_left
    · intro w hSw; (try dsimp only at hSw); go_simp; (try with_reducible rfl)
    (try simp only [Act.put, List.getElem_toArray, List.getElem_cons_succ, List.getElem_cons_zero, List.setIfInBounds_toArray, List.set_cons_zero, List.set_cons_succ])
    refine wpAnyH_take (i := 3) (v := ?_) rfl (by kernel_rfl) (by kernel_rfl) (by kernel_rfl) (fun _ _ _ h => h) (Or.inl ⟨by rfl, ?_⟩) (by assumption) ?_
    rotate_left
    · intro w hSw; (try dsimp only at hSw); go_simp; (try with_reducible rfl)
    (try simp only [Act.put, List.getElem_toArray, List.getElem_cons_succ, List.getElem_cons_zero, List.setIfInBounds_toArray, List.set_cons_zero, List.set_cons_succ])
    refine wpAnyH_take (i := 4) (v := ?_) rfl (by kernel_rfl) (by kernel_rfl) (by kernel_rfl) (fun _ _ _ h => h) (Or.inl ⟨by rfl, ?_⟩) (by assumption) ?_
    rotate_left
    · intro w hSw; (try dsimp only at hSw); go_simp; (try with_reducible rfl)
    (try simp only [Act.put, List.getElem_toArray, List.getElem_cons_succ, List.getElem_cons_zero, List.setIfInBounds_toArray, List.set_cons_zero, List.set_cons_succ])
    refine wpAnyH_take (i := 5) (v := ?_) rfl (by kernel_rfl) (by kernel_rfl) (by kernel_rfl) (fun _ _ _ h => h) (Or.inl ⟨by rfl, ?_⟩) (by assumption) ?_
    rotate_left
    · intro w hSw; (try dsimp only at hSw); go_simp; (try with_reducible rfl)
    (try simp only [Act.put, List.getElem_toArray, List.getElem_cons_succ, List.getElem_cons_zero, List.setIfInBounds_toArray, List.set_cons_zero, List.set_cons_succ])
    (try clear hK K)
    refine wpAnyH_ready (rs := [6]) (by kernel_rfl) (by simp) ?_
    refine AllReadyH.cons rfl (fun K hK => ?_) AllReadyH.nil
    go_simp
    (refine Calls.mono (HQ.out _ X0.be) ?_; rintro e w1 ⟨v', m, rfl, hmb, ⟨hmr, hmn⟩, hb⟩; have X1 := X0.below hb)
    refine hK.out _ _ ?_ (fun hHeld => ?_)
    · exact ⟨HTab.out.below X1.be 11 (by decide), HD.out _ X1⟩
    obtain ⟨av, cv, rfl, _⟩ := hmr.lies.slice
    have hsz := hb.size
    have HR : Hid ((PT.mk 12 0 Val.zero Val.zero (.slice av m.length cv) m).bare = t.bare ∧ Nw w1 TP (fun b => w.heap.size + 1 < b) (PT.mk 12 0 Val.zero Val.zero (.slice av m.length cv) m)) := ⟨HT.out m hmb _, .mk (by decide) (by decide) (hmr.imp fun b h _ => by simp at h; omega) (fun q hq => (hmn q hq).imp fun b h _ => by simp at h; omega)⟩
    obtain ⟨z0, z1, z2, z3, z4, z5, z6, z7, z8⟩ := X1.pz
    obtain ⟨lz, fz⟩ := X1.fz
    have HX : Hid (P2 w p w1) := X1
    clear X0 X1 hb hmb hmr hmn HQ HT HN hsz
    (try clear hK K)
    refine wpAnyH_take (i := 7) (v := ?_) rfl (by kernel_rfl) (by kernel_rfl) (by kernel_rfl) (fun _ _ _ h => h) (Or.inl ⟨by rfl, ?_⟩) (by assumption) ?_
    rotate_left
    · intro w hSw; (try dsimp only at hSw); go_simp; (try with_reducible rfl)
    (try simp only [Act.put, List.getElem_toArray, List.getElem_cons_succ, List.getElem_cons_zero, List.setIfInBounds_toArray, List.set_cons_zero, List.set_cons_succ])
    (try clear hK K)
    refine wpAnyH_ready (rs := [8]) (by kernel_rfl) (by simp) ?_
    refine AllReadyH.cons rfl (fun K hK => ?_) AllReadyH.nil
    go_simp
    refine hK.out _ _ ?_ (fun hHeld => ?_)
    · have hw0 : 0 < w.heap.size := World.block_lt_of_cell? _ _ (HTab.out 0 (by decide))
      refine ⟨?_, ?_, ?_⟩
      · repeat (refine cell_far' ?_ (by omega))
        exact HTab.out.below HX.out.be 11 (by decide)
      · repeat (refine cell_far' ?_ (by omega))
        exact (HD.out _ HX.out).1
      · repeat (refine cell_far' ?_ (by omega))
        exact (HD.out _ HX.out).2
    (try clear hK K)
    refine wpAnyH_done (by kernel_rfl) ?_ _
    go_wp2_with fail
    refine bodyPost_ret (v := (PT.mk 12 0 Val.zero Val.zero (.slice av m.length cv) m).val) (by simp [results, Tryd.results49, go_sem, PT.val, Val.zero, z0, z1, z2, z3, z4, z5, z6, z7, z8]) rfl ⟨_, rfl, HR.out.1, ?_, ?_⟩
    · refine Nw.imp (P := fun b => w.heap.size + 1 < b) ?_ (fun b hb _ => by omega)
      repeat (refine nw_set ?_ (fun x hx => by omega))
      exact HR.out.2
    · repeat (refine set_below ?_ (by omega) _)
      exact HX.out.be
  · go_enter Tryd.func49, Tryd.ntmps49
    go_wp2_with fail
    have X0 : P2 w p _ := HN.out.below (Below.refl _ _).drew
    refine wp_region_held_drew (S := fun w' => w'.cell? ⟨0, 12, none⟩ = some (.int .i64 11) ∧ w'.cell? ⟨w.heap.size, 0, none⟩ = some (.int .i64 12) ∧ w'.cell? ⟨w.heap.size, 8, none⟩ = some (.slice ap p.l.length cp)) (by kernel_rfl) ?_ (fun hHeld => ?_)
    · exact ⟨HTab.out.below X0.be 12 (by decide), HD.out _ X0⟩
    (try clear hK K)
    refine wpAnyH_take (i := 0) (v := ?_) rfl (by kernel_rfl) (by kernel_rfl) (by kernel_rfl) (fun _ _ _ h => h) (Or.inl ⟨by rfl, ?_⟩) (by assumption) ?_
    rotate_left
    · intro w hSw; (try dsimp only at hSw); go_simp; (try with_reducible rfl)
    (try simp only [Act.put, List.getElem_toArray, List.getElem_cons_zero, List.setIfInBounds_toArray, List.set_cons_zero, List.set_cons_succ])
    refine wpAnyH_take (i := 1) (v := ?_) rfl (by kernel_rfl) (by kernel_rfl) (by kernel_rfl) (fun _ _ _ h => h) (Or.inl ⟨by rfl, ?_⟩) (by assumption) ?_
    rotate_left
    · intro w hSw; (try dsimp only at hSw); go_simp; (try with_reducible rfl)
    (try simp only [Act.put, List.getElem_toArray, List.getElem_cons_succ, List.getElem_cons_zero, List.setIfInBounds_toArray, List.set_cons_zero, List.set_cons_succ])
    refine wpAnyH_take (i := 2) (v := ?_) rfl (by kernel_rfl) (by kernel_rfl) (by kernel_rfl) (fun _ _ _ h => h) (Or.inl ⟨by rfl, ?_⟩) (by assumption) ?_
    rotate_left
    · intro w hSw; (try dsimp only at hSw); go_simp; (try with_reducible rfl)
    (try simp only [Act.put, List.getElem_toArray, List.getElem_cons_succ, List.getElem_cons_zero, List.setIfInBounds_toArray, List.set_cons_zero, List.set_cons_succ])
    refine wpAnyH_take (i := 3) (v := ?_) rfl (by kernel_rfl) (by kernel_rfl) (by kernel_rfl) (fun _ _ _ h => h) (Or.inl ⟨by rfl, ?_⟩) (by assumption) ?_
    rotate_left
    · intro w hSw; (try dsimp only at hSw); go_simp; (try with_reducible rfl)
    (try simp only [Act.put, List.getElem_toArray, List.getElem_cons_succ, List.getElem_cons_zero, List.setIfInBounds_toArray, List.set_cons_zero, List.set_cons_succ])
    refine wpAnyH_take (i := 4) (v := ?_) rfl (by kernel_rfl) (by kernel_rfl) (by kernel_rfl) (fun _ _ _ h => h) (Or.inl ⟨by rfl, ?_⟩) (by assumption) ?_
    rotate_left
    · intro w hSw; (try dsimp only at hSw); go_simp; (try with_reducible rfl)
    (try simp only [Act.put, List.getElem_toArray, List.getElem_cons_succ, List.getElem_cons_zero, List.setIfInBounds_toArray, List.set_cons_zero, List.set_cons_succ])
    refine wpAnyH_take (i := 5) (v := ?_) rfl (by kernel_rfl) (by kernel_rfl) (by kernel_rfl) (fun _ _ _ h => h) (Or.inl ⟨by rfl, ?_⟩) (by assumption) ?_
    rotate_left
    · intro w hSw; (try dsimp only at hSw); go_simp; (try with_reducible rfl)
    (try simp only [Act.put, List.getElem_toArray, List.getElem_cons_succ, List.getElem_cons_zero, List.setIfInBounds_toArray, List.set_cons_zero, List.set_cons_succ])
    (try clear hK K)
    refine wpAnyH_ready (rs := [6]) (by kernel_rfl) (by simp) ?_
    refine AllReadyH.cons rfl (fun K hK => ?_) AllReadyH.nil
    go_simp
    (refine Calls.mono (HQ.out _ X0.be) ?_; rintro e w1 ⟨v', m, rfl, hmb, ⟨hmr, hmn⟩, hb⟩; have X1 := X0.below hb)
    refine hK.out _ _ ?_ (fun hHeld => ?_)
    · exact ⟨HTab.out.below X1.be 12 (by decide), HD.out _ X1⟩
    obtain ⟨av, cv, rfl, _⟩ := hmr.lies.slice
    have hsz := hb.size
    have HR : Hid ((PT.mk 11 0 Val.zero Val.zero (.slice av m.length cv) m).bare = t.bare ∧ Nw w1 TP (fun b => w.heap.size + 1 < b) (PT.mk 11 0 Val.zero Val.zero (.slice av m.length cv) m)) := ⟨HT.out m hmb _, .mk (by decide) (by decide) (hmr.imp fun b h _ => by simp at h; omega) (fun q hq => (hmn q hq).imp fun b h _ => by simp at h; omega)⟩
    obtain ⟨z0, z1, z2, z3, z4, z5, z6, z7, z8⟩ := X1.pz
    obtain ⟨lz, fz⟩ := X1.fz
    have HX : Hid (P2 w p w1) := X1
    clear X0 X1 hb hmb hmr hmn HQ HT HN hsz
    (try clear hK K)
    refine wpAnyH_take (i := 7) (v := ?_) rfl (by kernel_rfl) (by kernel_rfl) (by kernel_rfl) (fun _ _ _ h => h) (Or.inl ⟨by rfl, ?_⟩) (by assumption) ?_
    rotate_left
    · intro w hSw; (try dsimp only at hSw); go_simp; (try with_reducible rfl)
    (try simp only [Act.put, List.getElem_toArray, List.getElem_cons_succ, List.getElem_cons_zero, List.setIfInBounds_toArray, List.set_cons_zero, List.set_cons_succ])
    (try clear hK K)
    refine wpAnyH_ready (rs := [8]) (by kernel_rfl) (by simp) ?_
    refine AllReadyH.cons rfl (fun K hK => ?_) AllReadyH.nil
    go_simp
    refine hK.out _ _ ?_ (fun hHeld => ?_)
    · have hw0 : 0 < w.heap.size := World.block_lt_of_cell? _ _ (HTab.out 0 (by decide))
      refine ⟨?_, ?_, ?_⟩
      · repeat (refine cell_far' ?_ (by omega))
        exact HTab.out.below HX.out.be 12 (by decide)
      · repeat (refine cell_far' ?_ (by omega))
        exact (HD.out _ HX.out).1
      · repeat (refine cell_far' ?_ (by omega))
        exact (HD.out _ HX.out).2
    (try clear hK K)
    refine wpAnyH_done (by kernel_rfl) ?_ _
    go_wp2_with fail
    refine bodyPost_ret (v := (PT.mk 11 0 Val.zero Val.zero (.slice av m.length cv) m).val) (by simp [results, Tryd.results49, go_sem, PT.val, Val.zero, z0, z1, z2, z3, z4, z5, z6, z7, z8]) rfl ⟨_, rfl, HR.out.1, ?_, ?_⟩
    · refine Nw.imp (P := fun b => w.heap.size + 1 < b) ?_ (fun b hb _ => by omega)
      repeat (refine nw_set ?_ (fun x hx => by omega))
      exact HR.out.2
    · repeat (refine set_below ?_ (by omega) _)
      exact HX.out.be
end Go.Proofs.YtfkhfplibhnceaaDoor.Val
/- What opposite of package normal answers of a leaf. -/
namespace Go.Proofs.YtfkhfplibhnceaaDoor.Val
open Go.RowKit

set_option maxHeartbeats 4000000 in
/-- PEq to PGe. -/
theorem opp_leaf (p : PT) (op : Int) (h : p.op = op) (t : PT) (no : Int) (hno : (op = 3 ∧ no = 4) ∨ (op = 4 ∧ no = 3) ∨ (op = 5 ∧ no = 8) ∨ (op = 6 ∧ no = 7) ∨ (op = 7 ∧ no = 6) ∨ (op = 8 ∧ no = 5)) (ht : t.bare = (lfN no p.col p.v Val.zero).bare) : MadeOk 49 p t := by
  intro w hi hT
  have HV : Hid (p.v.s.size ≤ maxLen) := hi.sv
  have HTab : Hid (Tab w) := hT
  have HT : Hid (t.bare = (lfN no p.col p.v Val.zero).bare) := ht
  obtain ⟨ap, cp, hlp, _⟩ := hi.lies.slice
  have HN : Hid _ := P2.new w p 29 29
  have HD : Hid (∀ w1, P2 w p w1 → w1.cell? ⟨w.heap.size, 0, none⟩ = some (.int .i64 op)) := fun w1 h1 => by rw [h1.pb.c0, h]
  clear hi hT ht
  unfold PT.val
  rw [hlp, h]
  rw [pobj, hlp, h] at HN
  clear hlp h
  rcases hno with ⟨rfl, rfl⟩ | ⟨rfl, rfl⟩ | ⟨rfl, rfl⟩ | ⟨rfl, rfl⟩ | ⟨rfl, rfl⟩ | ⟨rfl, rfl⟩
  · go_enter Tryd.func49, Tryd.ntmps49
    go_wp2_with fail
    have X0 : P2 w p _ := HN.out.below (Below.refl _ _).drew
    refine wp_region_held_drew (S := fun w' => w'.cell? ⟨0, 3, none⟩ = some (.int .i64 4) ∧ w'.cell? ⟨w.heap.size, 0, none⟩ = some (.int .i64 3) ∧ w'.cell? ⟨w.heap.size, 1, none⟩ = some (.int .i64 p.col) ∧ w'.cell? ⟨w.heap.size, 2, none⟩ = some (.bool p.v.t) ∧ w'.cell? ⟨w.heap.size, 3, none⟩ = some (.int .i64 p.v.n) ∧ w'.cell? ⟨w.heap.size, 4, none⟩ = some (.string p.v.s)) (by kernel_rfl) ?_ (fun hHeld => ?_)
    · exact ⟨HTab.out.below X0.be 3 (by decide), HD.out _ X0, X0.pb.c1, X0.pb.c2, X0.pb.c3, X0.pb.c4⟩
    clear HN
    (try clear hK K)
    refine wpAnyH_take (i := 0) (v := ?_) rfl (by kernel_rfl) (by kernel_rfl) (by kernel_rfl) (fun _ _ _ h => h) (Or.inl ⟨by rfl, ?_⟩) (by assumption) ?_
    rotate_left
    · intro w hSw; (try dsimp only at hSw); go_simp; (try with_reducible rfl)
    (try simp only [Act.put, List.getElem_toArray, List.getElem_cons_zero, List.setIfInBounds_toArray, List.set_cons_zero, List.set_cons_succ])
    refine wpAnyH_take (i := 1) (v := ?_) rfl (by kernel_rfl) (by kernel_rfl) (by kernel_rfl) (fun _ _ _ h => h) (Or.inl ⟨by rfl, ?_⟩) (by assumption) ?_
    rotate_left
    · intro w hSw; (try dsimp only at hSw); go_simp; (try with_reducible rfl)
    (try simp only [Act.put, List.getElem_toArray, List.getElem_cons_succ, List.getElem_cons_zero, List.setIfInBounds_toArray, List.set_cons_zero, List.set_cons_succ])
    refine wpAnyH_take (i := 2) (v := ?_) rfl (by kernel_rfl) (by kernel_rfl) (by kernel_rfl) (fun _ _ _ h => h) (Or.inl ⟨by rfl, ?_⟩) (by assumption) ?_
    rotate_left
    · intro w hSw; (try dsimp only at hSw); go_simp; (try with_reducible rfl)
    (try simp only [Act.put, List.getElem_toArray, List.getElem_cons_succ, List.getElem_cons_zero, List.setIfInBounds_toArray, List.set_cons_zero, List.set_cons_succ])
    refine wpAnyH_take (i := 3) (v := ?_) rfl (by kernel_rfl) (by kernel_rfl) (by kernel_rfl) (fun _ _ _ h => h) (Or.inl ⟨by rfl, ?_⟩) (by assumption) ?_
    rotate_left
    · intro w hSw; (try dsimp only at hSw); go_simp; (try with_reducible rfl)
    (try simp only [Act.put, List.getElem_toArray, List.getElem_cons_succ, List.getElem_cons_zero, List.setIfInBounds_toArray, List.set_cons_zero, List.set_cons_succ])
    refine wpAnyH_take (i := 4) (v := ?_) rfl (by kernel_rfl) (by kernel_rfl) (by kernel_rfl) (fun _ _ _ h => h) (Or.inl ⟨by rfl, ?_⟩) (by assumption) ?_
    rotate_left
    · intro w hSw; (try dsimp only at hSw); go_simp; (try with_reducible rfl)
    (try simp only [Act.put, List.getElem_toArray, List.getElem_cons_succ, List.getElem_cons_zero, List.setIfInBounds_toArray, List.set_cons_zero, List.set_cons_succ])
    refine wpAnyH_take (i := 5) (v := ?_) rfl (by kernel_rfl) (by kernel_rfl) (by kernel_rfl) (fun _ _ _ h => h) (Or.inl ⟨by rfl, ?_⟩) (by assumption) ?_
    rotate_left
    · intro w hSw; (try dsimp only at hSw); go_simp; (try with_reducible rfl)
    (try simp only [Act.put, List.getElem_toArray, List.getElem_cons_succ, List.getElem_cons_zero, List.setIfInBounds_toArray, List.set_cons_zero, List.set_cons_succ])
    refine wpAnyH_take (i := 6) (v := ?_) rfl (by kernel_rfl) (by kernel_rfl) (by kernel_rfl) (fun _ _ _ h => h) (Or.inl ⟨by rfl, ?_⟩) (by assumption) ?_
    rotate_left
    · intro w hSw; (try dsimp only at hSw); go_simp; (try with_reducible rfl)
    (try simp only [Act.put, List.getElem_toArray, List.getElem_cons_succ, List.getElem_cons_zero, List.setIfInBounds_toArray, List.set_cons_zero, List.set_cons_succ])
    refine wpAnyH_take (i := 7) (v := ?_) rfl (by kernel_rfl) (by kernel_rfl) (by kernel_rfl) (fun _ _ _ h => h) (Or.inl ⟨by rfl, ?_⟩) (by assumption) ?_
    rotate_left
    · intro w hSw; (try dsimp only at hSw); go_simp; (try with_reducible rfl)
    (try simp only [Act.put, List.getElem_toArray, List.getElem_cons_succ, List.getElem_cons_zero, List.setIfInBounds_toArray, List.set_cons_zero, List.set_cons_succ])
    refine wpAnyH_take (i := 8) (v := ?_) rfl (by kernel_rfl) (by kernel_rfl) (by kernel_rfl) (fun _ _ _ h => h) (Or.inl ⟨by rfl, ?_⟩) (by assumption) ?_
    rotate_left
    · intro w hSw; (try dsimp only at hSw); go_simp; (try with_reducible rfl)
    (try simp only [Act.put, List.getElem_toArray, List.getElem_cons_succ, List.getElem_cons_zero, List.setIfInBounds_toArray, List.set_cons_zero, List.set_cons_succ])
    (try clear hK K)
    refine wpAnyH_ready (rs := [9]) (by kernel_rfl) (by simp) ?_
    refine AllReadyH.cons rfl (fun K hK => ?_) AllReadyH.nil
    go_simp
    refine hK.out _ _ ?_ (fun hHeld => ?_)
    · refine ⟨HTab.out.below (back1 (alloc1 _ _)).drew 3 (by decide), ?_, ?_, ?_, ?_, ?_⟩ <;> simp [go_sem]
    (try clear hK K)
    refine wpAnyH_done (by kernel_rfl) ?_ _
    clear X0
    go_wp2_with fail
    refine bodyPost_ret (v := (lfN 4 p.col p.v Val.zero).val) (by simp [results, Tryd.results49, go_sem, PT.val, lfN, Val.zero]) rfl ⟨_, rfl, HT.out.symm, Nw.leaf _ _ _ _ _ _ _ HV.out (by decide), ?_⟩
    exact (back1 (alloc1 _ _)).drew
  · go_enter Tryd.func49, Tryd.ntmps49
    go_wp2_with fail
    have X0 : P2 w p _ := HN.out.below (Below.refl _ _).drew
    refine wp_region_held_drew (S := fun w' => w'.cell? ⟨0, 4, none⟩ = some (.int .i64 3) ∧ w'.cell? ⟨w.heap.size, 0, none⟩ = some (.int .i64 4) ∧ w'.cell? ⟨w.heap.size, 1, none⟩ = some (.int .i64 p.col) ∧ w'.cell? ⟨w.heap.size, 2, none⟩ = some (.bool p.v.t) ∧ w'.cell? ⟨w.heap.size, 3, none⟩ = some (.int .i64 p.v.n) ∧ w'.cell? ⟨w.heap.size, 4, none⟩ = some (.string p.v.s)) (by kernel_rfl) ?_ (fun hHeld => ?_)
    · exact ⟨HTab.out.below X0.be 4 (by decide), HD.out _ X0, X0.pb.c1, X0.pb.c2, X0.pb.c3, X0.pb.c4⟩
    clear HN
    (try clear hK K)
    refine wpAnyH_take (i := 0) (v := ?_) rfl (by kernel_rfl) (by kernel_rfl) (by kernel_rfl) (fun _ _ _ h => h) (Or.inl ⟨by rfl, ?_⟩) (by assumption) ?_
    rotate_left
    · intro w hSw; (try dsimp only at hSw); go_simp; (try with_reducible rfl)
    (try simp only [Act.put, List.getElem_toArray, List.getElem_cons_zero, List.setIfInBounds_toArray, List.set_cons_zero, List.set_cons_succ])
    refine wpAnyH_take (i := 1) (v := ?_) rfl (by kernel_rfl) (by kernel_rfl) (by kernel_rfl) (fun _ _ _ h => h) (Or.inl ⟨by rfl, ?_⟩) (by assumption) ?_
    rotate_left
    · intro w hSw; (try dsimp only at hSw); go_simp; (try with_reducible rfl)
    (try simp only [Act.put, List.getElem_toArray, List.getElem_cons_succ, List.getElem_cons_zero, List.setIfInBounds_toArray, List.set_cons_zero, List.set_cons_succ])
    refine wpAnyH_take (i := 2) (v := ?_) rfl (by kernel_rfl) (by kernel_rfl) (by kernel_rfl) (fun _ _ _ h => h) (Or.inl ⟨by rfl, ?_⟩) (by assumption) ?_
    rotate_left
    · intro w hSw; (try dsimp only at hSw); go_simp; (try with_reducible rfl)
    (try simp only [Act.put, List.getElem_toArray, List.getElem_cons_succ, List.getElem_cons_zero, List.setIfInBounds_toArray, List.set_cons_zero, List.set_cons_succ])
    refine wpAnyH_take (i := 3) (v := ?_) rfl (by kernel_rfl) (by kernel_rfl) (by kernel_rfl) (fun _ _ _ h => h) (Or.inl ⟨by rfl, ?_⟩) (by assumption) ?_
    rotate_left
    · intro w hSw; (try dsimp only at hSw); go_simp; (try with_reducible rfl)
    (try simp only [Act.put, List.getElem_toArray, List.getElem_cons_succ, List.getElem_cons_zero, List.setIfInBounds_toArray, List.set_cons_zero, List.set_cons_succ])
    refine wpAnyH_take (i := 4) (v := ?_) rfl (by kernel_rfl) (by kernel_rfl) (by kernel_rfl) (fun _ _ _ h => h) (Or.inl ⟨by rfl, ?_⟩) (by assumption) ?_
    rotate_left
    · intro w hSw; (try dsimp only at hSw); go_simp; (try with_reducible rfl)
    (try simp only [Act.put, List.getElem_toArray, List.getElem_cons_succ, List.getElem_cons_zero, List.setIfInBounds_toArray, List.set_cons_zero, List.set_cons_succ])
    refine wpAnyH_take (i := 5) (v := ?_) rfl (by kernel_rfl) (by kernel_rfl) (by kernel_rfl) (fun _ _ _ h => h) (Or.inl ⟨by rfl, ?_⟩) (by assumption) ?_
    rotate_left
    · intro w hSw; (try dsimp only at hSw); go_simp; (try with_reducible rfl)
    (try simp only [Act.put, List.getElem_toArray, List.getElem_cons_succ, List.getElem_cons_zero, List.setIfInBounds_toArray, List.set_cons_zero, List.set_cons_succ])
    refine wpAnyH_take (i := 6) (v := ?_) rfl (by kernel_rfl) (by kernel_rfl) (by kernel_rfl) (fun _ _ _ h => h) (Or.inl ⟨by rfl, ?_⟩) (by assumption) ?_
    rotate_left
    · intro w hSw; (try dsimp only at hSw); go_simp; (try with_reducible rfl)
    (try simp only [Act.put, List.getElem_toArray, List.getElem_cons_succ, List.getElem_cons_zero, List.setIfInBounds_toArray, List.set_cons_zero, List.set_cons_succ])
    refine wpAnyH_take (i := 7) (v := ?_) rfl (by kernel_rfl) (by kernel_rfl) (by kernel_rfl) (fun _ _ _ h => h) (Or.inl ⟨by rfl, ?_⟩) (by assumption) ?_
    rotate_left
    · intro w hSw; (try dsimp only at hSw); go_simp; (try with_reducible rfl)
    (try simp only [Act.put, List.getElem_toArray, List.getElem_cons_succ, List.getElem_cons_zero, List.setIfInBounds_toArray, List.set_cons_zero, List.set_cons_succ])
    refine wpAnyH_take (i := 8) (v := ?_) rfl (by kernel_rfl) (by kernel_rfl) (by kernel_rfl) (fun _ _ _ h => h) (Or.inl ⟨by rfl, ?_⟩) (by assumption) ?_
    rotate_left
    · intro w hSw; (try dsimp only at hSw); go_simp; (try with_reducible rfl)
    (try simp only [Act.put, List.getElem_toArray, List.getElem_cons_succ, List.getElem_cons_zero, List.setIfInBounds_toArray, List.set_cons_zero, List.set_cons_succ])
    (try clear hK K)
    refine wpAnyH_ready (rs := [9]) (by kernel_rfl) (by simp) ?_
    refine AllReadyH.cons rfl (fun K hK => ?_) AllReadyH.nil
    go_simp
    refine hK.out _ _ ?_ (fun hHeld => ?_)
    · refine ⟨HTab.out.below (back1 (alloc1 _ _)).drew 4 (by decide), ?_, ?_, ?_, ?_, ?_⟩ <;> simp [go_sem]
    (try clear hK K)
    refine wpAnyH_done (by kernel_rfl) ?_ _
    clear X0
    go_wp2_with fail
    refine bodyPost_ret (v := (lfN 3 p.col p.v Val.zero).val) (by simp [results, Tryd.results49, go_sem, PT.val, lfN, Val.zero]) rfl ⟨_, rfl, HT.out.symm, Nw.leaf _ _ _ _ _ _ _ HV.out (by decide), ?_⟩
    exact (back1 (alloc1 _ _)).drew
  · go_enter Tryd.func49, Tryd.ntmps49
    go_wp2_with fail
    have X0 : P2 w p _ := HN.out.below (Below.refl _ _).drew
    refine wp_region_held_drew (S := fun w' => w'.cell? ⟨0, 5, none⟩ = some (.int .i64 8) ∧ w'.cell? ⟨w.heap.size, 0, none⟩ = some (.int .i64 5) ∧ w'.cell? ⟨w.heap.size, 1, none⟩ = some (.int .i64 p.col) ∧ w'.cell? ⟨w.heap.size, 2, none⟩ = some (.bool p.v.t) ∧ w'.cell? ⟨w.heap.size, 3, none⟩ = some (.int .i64 p.v.n) ∧ w'.cell? ⟨w.heap.size, 4, none⟩ = some (.string p.v.s)) (by kernel_rfl) ?_ (fun hHeld => ?_)
    · exact ⟨HTab.out.below X0.be 5 (by decide), HD.out _ X0, X0.pb.c1, X0.pb.c2, X0.pb.c3, X0.pb.c4⟩
    clear HN
    (try clear hK K)
    refine wpAnyH_take (i := 0) (v := ?_) rfl (by kernel_rfl) (by kernel_rfl) (by kernel_rfl) (fun _ _ _ h => h) (Or.inl ⟨by rfl, ?_⟩) (by assumption) ?_
    rotate_left
    · intro w hSw; (try dsimp only at hSw); go_simp; (try with_reducible rfl)
    (try simp only [Act.put, List.getElem_toArray, List.getElem_cons_zero, List.setIfInBounds_toArray, List.set_cons_zero, List.set_cons_succ])
    refine wpAnyH_take (i := 1) (v := ?_) rfl (by kernel_rfl) (by kernel_rfl) (by kernel_rfl) (fun _ _ _ h => h) (Or.inl ⟨by rfl, ?_⟩) (by assumption) ?_
    rotate_left
    · intro w hSw; (try dsimp only at hSw); go_simp; (try with_reducible rfl)
    (try simp only [Act.put, List.getElem_toArray, List.getElem_cons_succ, List.getElem_cons_zero, List.setIfInBounds_toArray, List.set_cons_zero, List.set_cons_succ])
    refine wpAnyH_take (i := 2) (v := ?_) rfl (by kernel_rfl) (by kernel_rfl) (by kernel_rfl) (fun _ _ _ h => h) (Or.inl ⟨by rfl, ?_⟩) (by assumption) ?_
    rotate_left
    · intro w hSw; (try dsimp only at hSw); go_simp; (try with_reducible rfl)
    (try simp only [Act.put, List.getElem_toArray, List.getElem_cons_succ, List.getElem_cons_zero, List.setIfInBounds_toArray, List.set_cons_zero, List.set_cons_succ])
    refine wpAnyH_take (i := 3) (v := ?_) rfl (by kernel_rfl) (by kernel_rfl) (by kernel_rfl) (fun _ _ _ h => h) (Or.inl ⟨by rfl, ?_⟩) (by assumption) ?_
    rotate_left
    · intro w hSw; (try dsimp only at hSw); go_simp; (try with_reducible rfl)
    (try simp only [Act.put, List.getElem_toArray, List.getElem_cons_succ, List.getElem_cons_zero, List.setIfInBounds_toArray, List.set_cons_zero, List.set_cons_succ])
    refine wpAnyH_take (i := 4) (v := ?_) rfl (by kernel_rfl) (by kernel_rfl) (by kernel_rfl) (fun _ _ _ h => h) (Or.inl ⟨by rfl, ?_⟩) (by assumption) ?_
    rotate_left
    · intro w hSw; (try dsimp only at hSw); go_simp; (try with_reducible rfl)
    (try simp only [Act.put, List.getElem_toArray, List.getElem_cons_succ, List.getElem_cons_zero, List.setIfInBounds_toArray, List.set_cons_zero, List.set_cons_succ])
    refine wpAnyH_take (i := 5) (v := ?_) rfl (by kernel_rfl) (by kernel_rfl) (by kernel_rfl) (fun _ _ _ h => h) (Or.inl ⟨by rfl, ?_⟩) (by assumption) ?_
    rotate_left
    · intro w hSw; (try dsimp only at hSw); go_simp; (try with_reducible rfl)
    (try simp only [Act.put, List.getElem_toArray, List.getElem_cons_succ, List.getElem_cons_zero, List.setIfInBounds_toArray, List.set_cons_zero, List.set_cons_succ])
    refine wpAnyH_take (i := 6) (v := ?_) rfl (by kernel_rfl) (by kernel_rfl) (by kernel_rfl) (fun _ _ _ h => h) (Or.inl ⟨by rfl, ?_⟩) (by assumption) ?_
    rotate_left
    · intro w hSw; (try dsimp only at hSw); go_simp; (try with_reducible rfl)
    (try simp only [Act.put, List.getElem_toArray, List.getElem_cons_succ, List.getElem_cons_zero, List.setIfInBounds_toArray, List.set_cons_zero, List.set_cons_succ])
    refine wpAnyH_take (i := 7) (v := ?_) rfl (by kernel_rfl) (by kernel_rfl) (by kernel_rfl) (fun _ _ _ h => h) (Or.inl ⟨by rfl, ?_⟩) (by assumption) ?_
    rotate_left
    · intro w hSw; (try dsimp only at hSw); go_simp; (try with_reducible rfl)
    (try simp only [Act.put, List.getElem_toArray, List.getElem_cons_succ, List.getElem_cons_zero, List.setIfInBounds_toArray, List.set_cons_zero, List.set_cons_succ])
    refine wpAnyH_take (i := 8) (v := ?_) rfl (by kernel_rfl) (by kernel_rfl) (by kernel_rfl) (fun _ _ _ h => h) (Or.inl ⟨by rfl, ?_⟩) (by assumption) ?_
    rotate_left
    · intro w hSw; (try dsimp only at hSw); go_simp; (try with_reducible rfl)
    (try simp only [Act.put, List.getElem_toArray, List.getElem_cons_succ, List.getElem_cons_zero, List.setIfInBounds_toArray, List.set_cons_zero, List.set_cons_succ])
    (try clear hK K)
    refine wpAnyH_ready (rs := [9]) (by kernel_rfl) (by simp) ?_
    refine AllReadyH.cons rfl (fun K hK => ?_) AllReadyH.nil
    go_simp
    refine hK.out _ _ ?_ (fun hHeld => ?_)
    · refine ⟨HTab.out.below (back1 (alloc1 _ _)).drew 5 (by decide), ?_, ?_, ?_, ?_, ?_⟩ <;> simp [go_sem]
    (try clear hK K)
    refine wpAnyH_done (by kernel_rfl) ?_ _
    clear X0
    go_wp2_with fail
    refine bodyPost_ret (v := (lfN 8 p.col p.v Val.zero).val) (by simp [results, Tryd.results49, go_sem, PT.val, lfN, Val.zero]) rfl ⟨_, rfl, HT.out.symm, Nw.leaf _ _ _ _ _ _ _ HV.out (by decide), ?_⟩
    exact (back1 (alloc1 _ _)).drew
  · go_enter Tryd.func49, Tryd.ntmps49
    go_wp2_with fail
    have X0 : P2 w p _ := HN.out.below (Below.refl _ _).drew
    refine wp_region_held_drew (S := fun w' => w'.cell? ⟨0, 6, none⟩ = some (.int .i64 7) ∧ w'.cell? ⟨w.heap.size, 0, none⟩ = some (.int .i64 6) ∧ w'.cell? ⟨w.heap.size, 1, none⟩ = some (.int .i64 p.col) ∧ w'.cell? ⟨w.heap.size, 2, none⟩ = some (.bool p.v.t) ∧ w'.cell? ⟨w.heap.size, 3, none⟩ = some (.int .i64 p.v.n) ∧ w'.cell? ⟨w.heap.size, 4, none⟩ = some (.string p.v.s)) (by kernel_rfl) ?_ (fun hHeld => ?_)
    · exact ⟨HTab.out.below X0.be 6 (by decide), HD.out _ X0, X0.pb.c1, X0.pb.c2, X0.pb.c3, X0.pb.c4⟩
    clear HN
    (try clear hK K)
    refine wpAnyH_take (i := 0) (v := ?_) rfl (by kernel_rfl) (by kernel_rfl) (by kernel_rfl) (fun _ _ _ h => h) (Or.inl ⟨by rfl, ?_⟩) (by assumption) ?_
    rotate_left
    · intro w hSw; (try dsimp only at hSw); go_simp; (try with_reducible rfl)
    (try simp only [Act.put, List.getElem_toArray, List.getElem_cons_zero, List.setIfInBounds_toArray, List.set_cons_zero, List.set_cons_succ])
    refine wpAnyH_take (i := 1) (v := ?_) rfl (by kernel_rfl) (by kernel_rfl) (by kernel_rfl) (fun _ _ _ h => h) (Or.inl ⟨by rfl, ?_⟩) (by assumption) ?_
    rotate_left
    · intro w hSw; (try dsimp only at hSw); go_simp; (try with_reducible rfl)
    (try simp only [Act.put, List.getElem_toArray, List.getElem_cons_succ, List.getElem_cons_zero, List.setIfInBounds_toArray, List.set_cons_zero, List.set_cons_succ])
    refine wpAnyH_take (i := 2) (v := ?_) rfl (by kernel_rfl) (by kernel_rfl) (by kernel_rfl) (fun _ _ _ h => h) (Or.inl ⟨by rfl, ?_⟩) (by assumption) ?_
    rotate_left
    · intro w hSw; (try dsimp only at hSw); go_simp; (try with_reducible rfl)
    (try simp only [Act.put, List.getElem_toArray, List.getElem_cons_succ, List.getElem_cons_zero, List.setIfInBounds_toArray, List.set_cons_zero, List.set_cons_succ])
    refine wpAnyH_take (i := 3) (v := ?_) rfl (by kernel_rfl) (by kernel_rfl) (by kernel_rfl) (fun _ _ _ h => h) (Or.inl ⟨by rfl, ?_⟩) (by assumption) ?_
    rotate_left
    · intro w hSw; (try dsimp only at hSw); go_simp; (try with_reducible rfl)
    (try simp only [Act.put, List.getElem_toArray, List.getElem_cons_succ, List.getElem_cons_zero, List.setIfInBounds_toArray, List.set_cons_zero, List.set_cons_succ])
    refine wpAnyH_take (i := 4) (v := ?_) rfl (by kernel_rfl) (by kernel_rfl) (by kernel_rfl) (fun _ _ _ h => h) (Or.inl ⟨by rfl, ?_⟩) (by assumption) ?_
    rotate_left
    · intro w hSw; (try dsimp only at hSw); go_simp; (try with_reducible rfl)
    (try simp only [Act.put, List.getElem_toArray, List.getElem_cons_succ, List.getElem_cons_zero, List.setIfInBounds_toArray, List.set_cons_zero, List.set_cons_succ])
    refine wpAnyH_take (i := 5) (v := ?_) rfl (by kernel_rfl) (by kernel_rfl) (by kernel_rfl) (fun _ _ _ h => h) (Or.inl ⟨by rfl, ?_⟩) (by assumption) ?_
    rotate_left
    · intro w hSw; (try dsimp only at hSw); go_simp; (try with_reducible rfl)
    (try simp only [Act.put, List.getElem_toArray, List.getElem_cons_succ, List.getElem_cons_zero, List.setIfInBounds_toArray, List.set_cons_zero, List.set_cons_succ])
    refine wpAnyH_take (i := 6) (v := ?_) rfl (by kernel_rfl) (by kernel_rfl) (by kernel_rfl) (fun _ _ _ h => h) (Or.inl ⟨by rfl, ?_⟩) (by assumption) ?_
    rotate_left
    · intro w hSw; (try dsimp only at hSw); go_simp; (try with_reducible rfl)
    (try simp only [Act.put, List.getElem_toArray, List.getElem_cons_succ, List.getElem_cons_zero, List.setIfInBounds_toArray, List.set_cons_zero, List.set_cons_succ])
    refine wpAnyH_take (i := 7) (v := ?_) rfl (by kernel_rfl) (by kernel_rfl) (by kernel_rfl) (fun _ _ _ h => h) (Or.inl ⟨by rfl, ?_⟩) (by assumption) ?_
    rotate_left
    · intro w hSw; (try dsimp only at hSw); go_simp; (try with_reducible rfl)
    (try simp only [Act.put, List.getElem_toArray, List.getElem_cons_succ, List.getElem_cons_zero, List.setIfInBounds_toArray, List.set_cons_zero, List.set_cons_succ])
    refine wpAnyH_take (i := 8) (v := ?_) rfl (by kernel_rfl) (by kernel_rfl) (by kernel_rfl) (fun _ _ _ h => h) (Or.inl ⟨by rfl, ?_⟩) (by assumption) ?_
    rotate_left
    · intro w hSw; (try dsimp only at hSw); go_simp; (try with_reducible rfl)
    (try simp only [Act.put, List.getElem_toArray, List.getElem_cons_succ, List.getElem_cons_zero, List.setIfInBounds_toArray, List.set_cons_zero, List.set_cons_succ])
    (try clear hK K)
    refine wpAnyH_ready (rs := [9]) (by kernel_rfl) (by simp) ?_
    refine AllReadyH.cons rfl (fun K hK => ?_) AllReadyH.nil
    go_simp
    refine hK.out _ _ ?_ (fun hHeld => ?_)
    · refine ⟨HTab.out.below (back1 (alloc1 _ _)).drew 6 (by decide), ?_, ?_, ?_, ?_, ?_⟩ <;> simp [go_sem]
    (try clear hK K)
    refine wpAnyH_done (by kernel_rfl) ?_ _
    clear X0
    go_wp2_with fail
    refine bodyPost_ret (v := (lfN 7 p.col p.v Val.zero).val) (by simp [results, Tryd.results49, go_sem, PT.val, lfN, Val.zero]) rfl ⟨_, rfl, HT.out.symm, Nw.leaf _ _ _ _ _ _ _ HV.out (by decide), ?_⟩
    exact (back1 (alloc1 _ _)).drew
  · go_enter Tryd.func49, Tryd.ntmps49
    go_wp2_with fail
    have X0 : P2 w p _ := HN.out.below (Below.refl _ _).drew
    refine wp_region_held_drew (S := fun w' => w'.cell? ⟨0, 7, none⟩ = some (.int .i64 6) ∧ w'.cell? ⟨w.heap.size, 0, none⟩ = some (.int .i64 7) ∧ w'.cell? ⟨w.heap.size, 1, none⟩ = some (.int .i64 p.col) ∧ w'.cell? ⟨w.heap.size, 2, none⟩ = some (.bool p.v.t) ∧ w'.cell? ⟨w.heap.size, 3, none⟩ = some (.int .i64 p.v.n) ∧ w'.cell? ⟨w.heap.size, 4, none⟩ = some (.string p.v.s)) (by kernel_rfl) ?_ (fun hHeld => ?_)
    · exact ⟨HTab.out.below X0.be 7 (by decide), HD.out _ X0, X0.pb.c1, X0.pb.c2, X0.pb.c3, X0.pb.c4⟩
    clear HN
    (try clear hK K)
    refine wpAnyH_take (i := 0) (v := ?_) rfl (by kernel_rfl) (by kernel_rfl) (by kernel_rfl) (fun _ _ _ h => h) (Or.inl ⟨by rfl, ?_⟩) (by assumption) ?_
    rotate_left
    · intro w hSw; (try dsimp only at hSw); go_simp; (try with_reducible rfl)
    (try simp only [Act.put, List.getElem_toArray, List.getElem_cons_zero, List.setIfInBounds_toArray, List.set_cons_zero, List.set_cons_succ])
    refine wpAnyH_take (i := 1) (v := ?_) rfl (by kernel_rfl) (by kernel_rfl) (by kernel_rfl) (fun _ _ _ h => h) (Or.inl ⟨by rfl, ?_⟩) (by assumption) ?_
    rotate_left
    · intro w hSw; (try dsimp only at hSw); go_simp; (try with_reducible rfl)
    (try simp only [Act.put, List.getElem_toArray, List.getElem_cons_succ, List.getElem_cons_zero, List.setIfInBounds_toArray, List.set_cons_zero, List.set_cons_succ])
    refine wpAnyH_take (i := 2) (v := ?_) rfl (by kernel_rfl) (by kernel_rfl) (by kernel_rfl) (fun _ _ _ h => h) (Or.inl ⟨by rfl, ?_⟩) (by assumption) ?_
    rotate_left
    · intro w hSw; (try dsimp only at hSw); go_simp; (try with_reducible rfl)
    (try simp only [Act.put, List.getElem_toArray, List.getElem_cons_succ, List.getElem_cons_zero, List.setIfInBounds_toArray, List.set_cons_zero, List.set_cons_succ])
    refine wpAnyH_take (i := 3) (v := ?_) rfl (by kernel_rfl) (by kernel_rfl) (by kernel_rfl) (fun _ _ _ h => h) (Or.inl ⟨by rfl, ?_⟩) (by assumption) ?_
    rotate_left
    · intro w hSw; (try dsimp only at hSw); go_simp; (try with_reducible rfl)
    (try simp only [Act.put, List.getElem_toArray, List.getElem_cons_succ, List.getElem_cons_zero, List.setIfInBounds_toArray, List.set_cons_zero, List.set_cons_succ])
    refine wpAnyH_take (i := 4) (v := ?_) rfl (by kernel_rfl) (by kernel_rfl) (by kernel_rfl) (fun _ _ _ h => h) (Or.inl ⟨by rfl, ?_⟩) (by assumption) ?_
    rotate_left
    · intro w hSw; (try dsimp only at hSw); go_simp; (try with_reducible rfl)
    (try simp only [Act.put, List.getElem_toArray, List.getElem_cons_succ, List.getElem_cons_zero, List.setIfInBounds_toArray, List.set_cons_zero, List.set_cons_succ])
    refine wpAnyH_take (i := 5) (v := ?_) rfl (by kernel_rfl) (by kernel_rfl) (by kernel_rfl) (fun _ _ _ h => h) (Or.inl ⟨by rfl, ?_⟩) (by assumption) ?_
    rotate_left
    · intro w hSw; (try dsimp only at hSw); go_simp; (try with_reducible rfl)
    (try simp only [Act.put, List.getElem_toArray, List.getElem_cons_succ, List.getElem_cons_zero, List.setIfInBounds_toArray, List.set_cons_zero, List.set_cons_succ])
    refine wpAnyH_take (i := 6) (v := ?_) rfl (by kernel_rfl) (by kernel_rfl) (by kernel_rfl) (fun _ _ _ h => h) (Or.inl ⟨by rfl, ?_⟩) (by assumption) ?_
    rotate_left
    · intro w hSw; (try dsimp only at hSw); go_simp; (try with_reducible rfl)
    (try simp only [Act.put, List.getElem_toArray, List.getElem_cons_succ, List.getElem_cons_zero, List.setIfInBounds_toArray, List.set_cons_zero, List.set_cons_succ])
    refine wpAnyH_take (i := 7) (v := ?_) rfl (by kernel_rfl) (by kernel_rfl) (by kernel_rfl) (fun _ _ _ h => h) (Or.inl ⟨by rfl, ?_⟩) (by assumption) ?_
    rotate_left
    · intro w hSw; (try dsimp only at hSw); go_simp; (try with_reducible rfl)
    (try simp only [Act.put, List.getElem_toArray, List.getElem_cons_succ, List.getElem_cons_zero, List.setIfInBounds_toArray, List.set_cons_zero, List.set_cons_succ])
    refine wpAnyH_take (i := 8) (v := ?_) rfl (by kernel_rfl) (by kernel_rfl) (by kernel_rfl) (fun _ _ _ h => h) (Or.inl ⟨by rfl, ?_⟩) (by assumption) ?_
    rotate_left
    · intro w hSw; (try dsimp only at hSw); go_simp; (try with_reducible rfl)
    (try simp only [Act.put, List.getElem_toArray, List.getElem_cons_succ, List.getElem_cons_zero, List.setIfInBounds_toArray, List.set_cons_zero, List.set_cons_succ])
    (try clear hK K)
    refine wpAnyH_ready (rs := [9]) (by kernel_rfl) (by simp) ?_
    refine AllReadyH.cons rfl (fun K hK => ?_) AllReadyH.nil
    go_simp
    refine hK.out _ _ ?_ (fun hHeld => ?_)
    · refine ⟨HTab.out.below (back1 (alloc1 _ _)).drew 7 (by decide), ?_, ?_, ?_, ?_, ?_⟩ <;> simp [go_sem]
    (try clear hK K)
    refine wpAnyH_done (by kernel_rfl) ?_ _
    clear X0
    go_wp2_with fail
    refine bodyPost_ret (v := (lfN 6 p.col p.v Val.zero).val) (by simp [results, Tryd.results49, go_sem, PT.val, lfN, Val.zero]) rfl ⟨_, rfl, HT.out.symm, Nw.leaf _ _ _ _ _ _ _ HV.out (by decide), ?_⟩
    exact (back1 (alloc1 _ _)).drew
  · go_enter Tryd.func49, Tryd.ntmps49
    go_wp2_with fail
    have X0 : P2 w p _ := HN.out.below (Below.refl _ _).drew
    refine wp_region_held_drew (S := fun w' => w'.cell? ⟨0, 8, none⟩ = some (.int .i64 5) ∧ w'.cell? ⟨w.heap.size, 0, none⟩ = some (.int .i64 8) ∧ w'.cell? ⟨w.heap.size, 1, none⟩ = some (.int .i64 p.col) ∧ w'.cell? ⟨w.heap.size, 2, none⟩ = some (.bool p.v.t) ∧ w'.cell? ⟨w.heap.size, 3, none⟩ = some (.int .i64 p.v.n) ∧ w'.cell? ⟨w.heap.size, 4, none⟩ = some (.string p.v.s)) (by kernel_rfl) ?_ (fun hHeld => ?_)
    · exact ⟨HTab.out.below X0.be 8 (by decide), HD.out _ X0, X0.pb.c1, X0.pb.c2, X0.pb.c3, X0.pb.c4⟩
    clear HN
    (try clear hK K)
    refine wpAnyH_take (i := 0) (v := ?_) rfl (by kernel_rfl) (by kernel_rfl) (by kernel_rfl) (fun _ _ _ h => h) (Or.inl ⟨by rfl, ?_⟩) (by assumption) ?_
    rotate_left
    · intro w hSw; (try dsimp only at hSw); go_simp; (try with_reducible rfl)
    (try simp only [Act.put, List.getElem_toArray, List.getElem_cons_zero, List.setIfInBounds_toArray, List.set_cons_zero, List.set_cons_succ])
    refine wpAnyH_take (i := 1) (v := ?_) rfl (by kernel_rfl) (by kernel_rfl) (by kernel_rfl) (fun _ _ _ h => h) (Or.inl ⟨by rfl, ?_⟩) (by assumption) ?_
    rotate_left
    · intro w hSw; (try dsimp only at hSw); go_simp; (try with_reducible rfl)
    (try simp only [Act.put, List.getElem_toArray, List.getElem_cons_succ, List.getElem_cons_zero, List.setIfInBounds_toArray, List.set_cons_zero, List.set_cons_succ])
    refine wpAnyH_take (i := 2) (v := ?_) rfl (by kernel_rfl) (by kernel_rfl) (by kernel_rfl) (fun _ _ _ h => h) (Or.inl ⟨by rfl, ?_⟩) (by assumption) ?_
    rotate_left
    · intro w hSw; (try dsimp only at hSw); go_simp; (try with_reducible rfl)
    (try simp only [Act.put, List.getElem_toArray, List.getElem_cons_succ, List.getElem_cons_zero, List.setIfInBounds_toArray, List.set_cons_zero, List.set_cons_succ])
    refine wpAnyH_take (i := 3) (v := ?_) rfl (by kernel_rfl) (by kernel_rfl) (by kernel_rfl) (fun _ _ _ h => h) (Or.inl ⟨by rfl, ?_⟩) (by assumption) ?_
    rotate_left
    · intro w hSw; (try dsimp only at hSw); go_simp; (try with_reducible rfl)
    (try simp only [Act.put, List.getElem_toArray, List.getElem_cons_succ, List.getElem_cons_zero, List.setIfInBounds_toArray, List.set_cons_zero, List.set_cons_succ])
    refine wpAnyH_take (i := 4) (v := ?_) rfl (by kernel_rfl) (by kernel_rfl) (by kernel_rfl) (fun _ _ _ h => h) (Or.inl ⟨by rfl, ?_⟩) (by assumption) ?_
    rotate_left
    · intro w hSw; (try dsimp only at hSw); go_simp; (try with_reducible rfl)
    (try simp only [Act.put, List.getElem_toArray, List.getElem_cons_succ, List.getElem_cons_zero, List.setIfInBounds_toArray, List.set_cons_zero, List.set_cons_succ])
    refine wpAnyH_take (i := 5) (v := ?_) rfl (by kernel_rfl) (by kernel_rfl) (by kernel_rfl) (fun _ _ _ h => h) (Or.inl ⟨by rfl, ?_⟩) (by assumption) ?_
    rotate_left
    · intro w hSw; (try dsimp only at hSw); go_simp; (try with_reducible rfl)
    (try simp only [Act.put, List.getElem_toArray, List.getElem_cons_succ, List.getElem_cons_zero, List.setIfInBounds_toArray, List.set_cons_zero, List.set_cons_succ])
    refine wpAnyH_take (i := 6) (v := ?_) rfl (by kernel_rfl) (by kernel_rfl) (by kernel_rfl) (fun _ _ _ h => h) (Or.inl ⟨by rfl, ?_⟩) (by assumption) ?_
    rotate_left
    · intro w hSw; (try dsimp only at hSw); go_simp; (try with_reducible rfl)
    (try simp only [Act.put, List.getElem_toArray, List.getElem_cons_succ, List.getElem_cons_zero, List.setIfInBounds_toArray, List.set_cons_zero, List.set_cons_succ])
    refine wpAnyH_take (i := 7) (v := ?_) rfl (by kernel_rfl) (by kernel_rfl) (by kernel_rfl) (fun _ _ _ h => h) (Or.inl ⟨by rfl, ?_⟩) (by assumption) ?_
    rotate_left
    · intro w hSw; (try dsimp only at hSw); go_simp; (try with_reducible rfl)
    (try simp only [Act.put, List.getElem_toArray, List.getElem_cons_succ, List.getElem_cons_zero, List.setIfInBounds_toArray, List.set_cons_zero, List.set_cons_succ])
    refine wpAnyH_take (i := 8) (v := ?_) rfl (by kernel_rfl) (by kernel_rfl) (by kernel_rfl) (fun _ _ _ h => h) (Or.inl ⟨by rfl, ?_⟩) (by assumption) ?_
    rotate_left
    · intro w hSw; (try dsimp only at hSw); go_simp; (try with_reducible rfl)
    (try simp only [Act.put, List.getElem_toArray, List.getElem_cons_succ, List.getElem_cons_zero, List.setIfInBounds_toArray, List.set_cons_zero, List.set_cons_succ])
    (try clear hK K)
    refine wpAnyH_ready (rs := [9]) (by kernel_rfl) (by simp) ?_
    refine AllReadyH.cons rfl (fun K hK => ?_) AllReadyH.nil
    go_simp
    refine hK.out _ _ ?_ (fun hHeld => ?_)
    · refine ⟨HTab.out.below (back1 (alloc1 _ _)).drew 8 (by decide), ?_, ?_, ?_, ?_, ?_⟩ <;> simp [go_sem]
    (try clear hK K)
    refine wpAnyH_done (by kernel_rfl) ?_ _
    clear X0
    go_wp2_with fail
    refine bodyPost_ret (v := (lfN 5 p.col p.v Val.zero).val) (by simp [results, Tryd.results49, go_sem, PT.val, lfN, Val.zero]) rfl ⟨_, rfl, HT.out.symm, Nw.leaf _ _ _ _ _ _ _ HV.out (by decide), ?_⟩
    exact (back1 (alloc1 _ _)).drew
end Go.Proofs.YtfkhfplibhnceaaDoor.Val
/- What opposite of package normal answers of PIn. -/
namespace Go.Proofs.YtfkhfplibhnceaaDoor.Val
open Go.RowKit

theorem owns_new (w : World) (N : Nat) (hN : w.heap.size = N) (cs : List Value) (n : Nat) (hn : cs.length = n * 9) (hm : n ≤ maxLen) : (w.alloc (.cells cs.toArray TP)).ownsRow 0 TP 9 (.slice (some ⟨N, 0, none⟩) n n) n cs := by
  subst hN
  refine ⟨hn, .inr ⟨w.heap.size, n, cs.toArray, rfl, Nat.zero_le _, heap_alloc_new w _, Nat.le_refl _, hm, by simpa using hn, ?_⟩⟩
  simp [← hn]
set_option maxHeartbeats 2000000 in
theorem opp_in (p : PT) (h : p.op = 9) (t : PT) (ht : t.bare = (PT.mk 12 0 Val.zero Val.zero (.slice none 0 0) [lfN 5 p.col p.v Val.zero, lfN 7 p.col p.w Val.zero]).bare) : MadeOk 49 p t := by
  intro w hi hT
  have HV : Hid (p.v.s.size ≤ maxLen ∧ p.w.s.size ≤ maxLen) := ⟨hi.sv, hi.sw⟩
  have HT : Hid (t.bare = (PT.mk 12 0 Val.zero Val.zero (.slice none 0 0) [lfN 5 p.col p.v Val.zero, lfN 7 p.col p.w Val.zero]).bare) := ht
  obtain ⟨ap, cp, hlp, _⟩ := hi.lies.slice
  clear hi hT ht
  unfold PT.val
  rw [hlp, h]
  clear hlp h
  go_enter Tryd.func49, Tryd.ntmps49
  go_wp2_with fail
  refine bodyPost_ret (v := (PT.mk 12 0 Val.zero Val.zero (.slice (some ⟨w.heap.size + 1 + 1 + 1 + 1, 0, none⟩) 2 2) [lfN 5 p.col p.v Val.zero, lfN 7 p.col p.w Val.zero]).val) (by simp [results, Tryd.results49, go_sem, PT.val, Val.zero]) rfl ⟨_, rfl, (by rw [HT.out, bare_mk, bare_mk]), ?_, ?_⟩
  · refine .mk (by decide) (by decide) (.inl ⟨owns_new _ _ (by simp) (([lfN 5 p.col p.v Val.zero, lfN 7 p.col p.w Val.zero] : List PT).flatMap PT.cells) 2 rfl (by decide), fun g hg => ?_⟩) fun q hq => ?_
    · simp [Value.ownBlock] at hg; omega
    · simp only [List.mem_cons, List.not_mem_nil, or_false] at hq
      rcases hq with rfl | rfl
      · exact Nw.leaf _ _ _ _ _ _ _ HV.out.1 (by decide)
      · exact Nw.leaf _ _ _ _ _ _ _ HV.out.2 (by decide)
  · exact back3 (back1 (alloc1 _ _))
/-- Of any that may be, but for how many parts it has. -/
theorem push_ok {cols : List Bool} (p : PT) : Good cols p → p.size ≤ 1000000 → PushOk p := by
  induction p using PT.ind with
  | h p ih =>
    intro hg hs
    have hp : ∀ q ∈ p.l, PushOk q := fun q hq => ih q hq (hg.part q hq) (by have := size_part (p := p) hq; omega)
    rcases suit_cases hg.suit with ⟨h, hl⟩ | ⟨h, hl, _⟩ | ⟨h, hl, _⟩ | ⟨h, q, hl⟩ | ⟨h, hl⟩
    · have e : ∀ b, pushP p b = lfN (if b then 3 - p.op else p.op) 0 Val.zero Val.zero := fun b => by rw [push_leaf (by omega) (by omega) (by omega), pushL, if_pos h]
      refine ⟨plain_list p p.op rfl (by omega) hs _ ?_ fun q hq => (hp q hq).1, opp_list p p.op rfl hs _ (3 - p.op) (by omega) ?_ fun q hq => (hp q hq).2⟩
      · rw [e, hl]; rfl
      · rw [e, hl]; rfl
    · have h6 : p.op = 3 ∨ p.op = 4 ∨ p.op = 5 ∨ p.op = 6 ∨ p.op = 7 ∨ p.op = 8 := by omega
      refine ⟨plain_leaf p (by omega) _ ?_, opp_leaf p p.op rfl _ (oppO p.op) ?_ ?_⟩
      · rw [push_leaf (by omega) (by omega) (by omega), pushL, if_neg (by omega)]; rfl
      · rcases h6 with h | h | h | h | h | h <;> simp [h, oppO]
      · rw [push_leaf (by omega) (by omega) (by omega), pushL, if_neg (by omega), if_pos rfl, if_neg (by omega)]
    · refine ⟨plain_leaf p (by omega) _ ?_, opp_in p h _ ?_⟩
      · rw [push_leaf (by omega) (by omega) (by omega), pushL, if_neg (by omega)]; rfl
      · rw [push_leaf (by omega) (by omega) (by omega), pushL, if_neg (by omega), if_pos rfl, if_pos h]
    · exact ⟨plain_not p q h hl (hp q (by rw [hl]; simp)).2, opp_not p q h hl (hp q (by rw [hl]; simp)).1⟩
    · refine ⟨plain_list p p.op rfl (by omega) hs _ ?_ fun q hq => (hp q hq).1, opp_list p p.op rfl hs _ (23 - p.op) (by omega) ?_ fun q hq => (hp q hq).2⟩
      · rw [push_list h]; rfl
      · rw [push_list h]; rfl
end Go.Proofs.YtfkhfplibhnceaaDoor.Val
