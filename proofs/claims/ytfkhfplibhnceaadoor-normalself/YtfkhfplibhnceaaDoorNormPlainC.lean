/- What plain of package normal answers. -/
import Derived.Test.YtfkhfplibhnceaaDoorNormEach
import Derived.Test.YtfkhfplibhnceaaDoorNormKeysP
import Derived.Test.YtfkhfplibhnceaaDoorNormApart
import Derived.Deep.RegionHeld3
namespace Go.Proofs.YtfkhfplibhnceaaDoor.Val
open Go.RowKit

/-- A predicate's box, and the answer's. -/
structure P2 (w0 : World) (p : PT) (w : World) : Prop where
  pb : Box w w0.heap.size p
  pz : Box w (w0.heap.size + 1) PT.zero
  fa : Fr w w0.heap.size
  fz : Fr w (w0.heap.size + 1)
  be : Below w0.heap.size w0 w
theorem P2.below {w0 w w' : World} {p : PT} (h : P2 w0 p w) (hb : Below w.heap.size w w') : P2 w0 p w' := ⟨h.pb.below hb, h.pz.below hb, h.fa.below hb, h.fz.below hb, on h.be hb⟩
theorem P2.new (w : World) (p : PT) (T1 T2 : TypeId) : P2 w p ((w.alloc (pobj p T1)).alloc (pobj PT.zero T2)) := by
  refine ⟨(Box.new w p T1).alloc _, ?_, (Fr.new w _ T1).alloc _, ?_, back1 (alloc1 _ _)⟩
  · have := Box.new (w.alloc (pobj p T1)) PT.zero T2; simpa using this
  · have := Fr.new (w.alloc (pobj p T1)) #[.int .i64 PT.zero.op, .int .i64 PT.zero.col, .bool PT.zero.v.t, .int .i64 PT.zero.v.n, .string PT.zero.v.s, .bool PT.zero.w.t, .int .i64 PT.zero.w.n, .string PT.zero.w.s, PT.zero.lv] T2; simpa using this
theorem nw_set {w : World} {P : Nat → Prop} {q : PT} {b j : Nat} {u : Value} (h : Nw w TP P q) (hP : ∀ x, P x → x ≠ b) : Nw (w.setCell ⟨b, j, none⟩ u) TP P q :=
  h.sv (X := fun x => x = b) (Sv.set (X := fun x => x = b) (Sv.refl _ _) (a := ⟨b, j, none⟩) rfl u) fun x hx e => hP x hx e
theorem cell_far' {w : World} {b o c j : Nat} {u x : Value} (h : w.cell? ⟨b, o, none⟩ = some x) (hne : c ≠ b) : (w.setCell ⟨c, j, none⟩ u).cell? ⟨b, o, none⟩ = some x := by rw [World.cell?_setCell_far _ _ _ _ hne]; exact h
theorem size_ok {p : PT} (h : p.size ≤ 1000000) : p.l.length ≤ 1000000 := by have := size_l p; have := length_sizeL p.l; omega
/-- What is answered of one. -/
def PushOk (p : PT) : Prop := MadeOk 29 p (pushP p false) ∧ MadeOk 49 p (pushP p true)
theorem enters_plain : Enters 29 := enters_of Tryd.func29 (by decide +kernel) rfl
theorem enters_opp : Enters 49 := enters_of Tryd.func49 (by decide +kernel) rfl
set_option maxHeartbeats 2000000 in
/-- PNot. -/
theorem plain_not (p q : PT) (h : p.op = 10) (hl : p.l = [q]) (ih : MadeOk 49 q (pushP q true)) : MadeOk 29 p (pushP p false) := by
  intro w hi hT
  rw [push_10 h q hl]
  have hin : In w q := hi.part q (by rw [hl]; simp)
  have HQ : Hid (∀ w1, Below w.heap.size w w1 → Calls Tryd.prog 49 #[q.val] w1 fun e w' => ∃ r : PT, e = .returned r.val ∧ r.bare = (pushP q true).bare ∧ Nw w' TP (fun b => w1.heap.size ≤ b) r ∧ Below w1.heap.size w1 w') := fun w1 hb => ih w1 (hin.keep hb) (hT.below hb)
  have hlie := hi.lies
  obtain ⟨ap, cp, hlp, _⟩ := hlie.slice
  have hlen : p.l.length = 1 := by rw [hl]; rfl
  rw [hlp] at hlie
  obtain ⟨b, o, rfl, hat⟩ := lies_at hlie 0 (by omega)
  have hq0 : p.l[0]'(by omega) = q := by simp [hl]
  rw [hq0, Nat.zero_mul, Nat.add_zero] at hat
  have HN : Hid _ := P2.new w p 29 29
  have A : ∀ o1 o2, At ((w.alloc o1).alloc o2) b o q := fun o1 o2 => (hat.below (alloc1 _ _)).below (alloc1 _ _)
  have HA : Hid _ := A
  clear hi hT hl hlie hat hq0 ih hin A
  unfold PT.val at *
  rw [hlp, hlen, h] 
  rw [pobj, hlp, hlen, h] at HN
  clear hlp hlen h
  obtain ⟨c0, c1, c2, c3, c4, c5, c6, c7, c8⟩ := HA.out (.cells #[.int .i64 10, .int .i64 p.col, .bool p.v.t, .int .i64 p.v.n, .string p.v.s, .bool p.w.t, .int .i64 p.w.n, .string p.w.s, .slice (some ⟨b, o, none⟩) 1 cp] 29) (.cells #[.int .i64 0, .int .i64 0, .bool false, .int .i64 0, .string ⟨#[]⟩, .bool false, .int .i64 0, .string ⟨#[]⟩, .slice none 0 0] 29)
  go_enter Tryd.func29, Tryd.ntmps29
  go_wp2_with fail
  refine Calls.mono (HQ.out _ (back1 (alloc1 _ _))) ?_
  rintro e w1 ⟨r, rfl, hrb, hrn, hb⟩
  have HX : Hid _ := HN.out.below hb
  have HR : Hid (r.bare = (pushP q true).bare ∧ Nw w1 TP (fun b => w.heap.size + 1 < b) r) := ⟨hrb, hrn.imp fun b h _ => by simp at h; omega⟩
  obtain ⟨ar, kr, hlr⟩ := hrn.slice
  obtain ⟨_, ⟨z0, z1, z2, z3, z4, z5, z6, z7, z8⟩, _, ⟨lz, fz⟩, _⟩ := HX.out
  have HB : Hid (Below w.heap.size w w1) := HX.out.be
  have HLR : Hid (r.lv = .slice ar r.l.length kr) := hlr
  rw [hlr]
  clear hlr hrb hrn hb HQ HN HX HA c0 c1 c2 c3 c4 c5 c6 c7 c8
  go_wp2_with fail
  refine bodyPost_ret (v := r.val) (by simp [results, Tryd.results29, go_sem, PT.val, HLR.out, z0, z1, z2, z3, z4, z5, z6, z7, z8]) rfl ⟨r, rfl, HR.out.1, ?_, ?_⟩
  · refine Nw.imp (P := fun b => w.heap.size + 1 < b) ?_ (fun b hb _ => by omega)
    repeat (refine nw_set ?_ (fun x hx => by omega))
    exact HR.out.2
  · repeat (refine set_below ?_ (by omega) _)
    exact HB.out
set_option maxHeartbeats 4000000 in
/-- PTrue, PFalse, PAnd, POr. -/
theorem plain_list (p : PT) (op : Int) (h : p.op = op) (ho : op = 1 ∨ op = 2 ∨ op = 11 ∨ op = 12) (hs : p.size ≤ 1000000) (t : PT) (ht : t.bare = (PT.mk op 0 Val.zero Val.zero (.slice none 0 0) (p.l.map fun q => pushP q false)).bare)
    (ih : ∀ q ∈ p.l, MadeOk 29 q (pushP q false)) : MadeOk 29 p t := by
  intro w hi hT
  have HQ : Hid (∀ w1, Below w.heap.size w w1 → Calls Tryd.prog 50 #[p.lv, FV 29 #[] #[]] w1 fun e w' => ∃ v' m, e = .returned v' ∧ m.map PT.bare = (p.l.map fun q => pushP q false).map PT.bare ∧ (RowNw w' TP (fun b => w1.heap.size ≤ b) v' m ∧ ∀ p ∈ m, Nw w' TP (fun b => w1.heap.size ≤ b) p) ∧ Below w1.heap.size w1 w') :=
    fun w1 hb => each_any _ enters_plain (fun q => pushP q false) p.lv p.l w1 (hi.list.below hb) (hT.below hb) (size_ok hs) ih
  have HT : Hid (∀ m : List PT, m.map PT.bare = (p.l.map fun q => pushP q false).map PT.bare → ∀ lv, (PT.mk op 0 Val.zero Val.zero lv m).bare = t.bare) := fun m hm lv => by rw [ht, bare_mk, bare_mk, hm]
  obtain ⟨ap, cp, hlp, _⟩ := hi.lies.slice
  have HN : Hid _ := P2.new w p 29 29
  clear hi hT ih hs ht
  have HO : Hid (p.op = op ∧ p.lv = .slice ap p.l.length cp) := ⟨h, hlp⟩
  have HD : Hid (∀ w1, P2 w p w1 → w1.cell? ⟨w.heap.size, 0, none⟩ = some (.int .i64 op) ∧ w1.cell? ⟨w.heap.size, 8, none⟩ = some (.slice ap p.l.length cp)) := fun w1 h1 => ⟨by rw [h1.pb.c0, HO.out.1], by rw [h1.pb.c8, HO.out.2]⟩
  unfold PT.val at *
  rw [hlp, h]
  rw [hlp] at HQ
  rw [pobj, hlp, h] at HN
  clear hlp h
  rcases ho with rfl | rfl | rfl | rfl
  · go_enter Tryd.func29, Tryd.ntmps29
    go_wp2_with fail
    have X0 : P2 w p _ := HN.out.below (Below.refl _ _).drew
    refine wp_region_held_drew (S := fun w' => w'.cell? ⟨w.heap.size, 0, none⟩ = some (.int .i64 1) ∧ w'.cell? ⟨w.heap.size, 8, none⟩ = some (.slice ap p.l.length cp)) (by kernel_rfl) ?_ (fun hHeld => ?_)
    · exact HD.out _ X0
    (try clear hK K)
    refine wpAnyH_take (i := 0) (v := ?_) rfl (by kernel_rfl) (by kernel_rfl) (by kernel_rfl) (fun _ _ _ h => h) (Or.inl ⟨by rfl, ?_⟩) (by assumption) ?_
    rotate_left
    · intro w hSw; (try dsimp only at hSw); go_simp; (try with_reducible rfl)
    (try simp only [Act.put, List.getElem_toArray, List.getElem_cons_zero, List.setIfInBounds_toArray, List.set_cons_zero, List.set_cons_succ])
    refine wpAnyH_take (i := 1) (v := ?_) rfl (by kernel_rfl) (by kernel_rfl) (by kernel_rfl) (fun _ _ _ h => h) (Or.inl ⟨by rfl, ?_⟩) (by assumption) ?_
    rotate_left
    · intro w hSw; (try dsimp only at hSw); go_simp; (try with_reducible rfl)
    (try simp only [Act.put, List.getElem_toArray, List.getElem_cons_succ, List.getElem_cons_zero, List.setIfInBounds_toArray, List.set_cons_zero, List.set_cons_succ])
    refine wpAnyH_take (i := 2) (v := ?_) rfl (by kernel_rfl) (by kernel_rfl) (by kernel_rfl) (fun _ _ _ h => h) (Or.inl ⟨by rfl, ?_⟩) (by assumption) ?_
    rotate_left
    · intro w hSw; (try dsimp only at hSw); go_simp; (try with_reducible rfl)
    (try simp only [Act.put, List.getElem_toArray, List.getElem_cons_succ, List.getElem_cons_zero, List.setIfInBounds_toArray, List.set_cons_zero, List.set_cons_succ])
    refine wpAnyH_take (i := 3) (v := ?_) rfl (by kernel_rfl) (by kernel_rfl) (by kernel_rfl) (fun _ _ _ h => h) (Or.inl ⟨by rfl, ?_⟩) (by assumption) ?_
    rotate_left
    · intro w hSw; (try dsimp only at hSw); go_simp; (try with_reducible rfl)
    (try simp only [Act.put, List.getElem_toArray, List.getElem_cons_succ, List.getElem_cons_zero, List.setIfInBounds_toArray, List.set_cons_zero, List.set_cons_succ])
    (try clear hK K)
    refine wpAnyH_ready (rs := [4]) (by kernel_rfl) (by simp) ?_
    refine AllReadyH.cons rfl (fun K hK => ?_) AllReadyH.nil
    go_simp
    (refine Calls.mono (HQ.out _ X0.be) ?_; rintro e w1 ⟨v', m, rfl, hmb, ⟨hmr, hmn⟩, hb⟩; have X1 := X0.below hb)
    refine hK.out _ _ ?_ (fun hHeld => ?_)
    · exact HD.out _ X1
    obtain ⟨av, cv, rfl, _⟩ := hmr.lies.slice
    have hsz := hb.size
    have HR : Hid ((PT.mk 1 0 Val.zero Val.zero (.slice av m.length cv) m).bare = t.bare ∧ Nw w1 TP (fun b => w.heap.size + 1 < b) (PT.mk 1 0 Val.zero Val.zero (.slice av m.length cv) m)) := ⟨HT.out m hmb _, .mk (by decide) (by decide) (hmr.imp fun b h _ => by simp at h; omega) (fun q hq => (hmn q hq).imp fun b h _ => by simp at h; omega)⟩
    obtain ⟨z0, z1, z2, z3, z4, z5, z6, z7, z8⟩ := X1.pz
    obtain ⟨lz, fz⟩ := X1.fz
    have HX : Hid (P2 w p w1) := X1
    clear X0 X1 hb hmb hmr hmn HQ HT HN hsz
    (try clear hK K)
    refine wpAnyH_take (i := 5) (v := ?_) rfl (by kernel_rfl) (by kernel_rfl) (by kernel_rfl) (fun _ _ _ h => h) (Or.inl ⟨by rfl, ?_⟩) (by assumption) ?_
    rotate_left
    · intro w hSw; (try dsimp only at hSw); go_simp; (try with_reducible rfl)
    (try simp only [Act.put, List.getElem_toArray, List.getElem_cons_succ, List.getElem_cons_zero, List.setIfInBounds_toArray, List.set_cons_zero, List.set_cons_succ])
    (try clear hK K)
    refine wpAnyH_ready (rs := [6]) (by kernel_rfl) (by simp) ?_
    refine AllReadyH.cons rfl (fun K hK => ?_) AllReadyH.nil
    go_simp
    refine hK.out _ _ ?_ (fun hHeld => ?_)
    · refine ⟨?_, ?_⟩
      · repeat (refine cell_far' ?_ (by omega))
        exact (HD.out _ HX.out).1
      · repeat (refine cell_far' ?_ (by omega))
        exact (HD.out _ HX.out).2
    (try clear hK K)
    refine wpAnyH_done (by kernel_rfl) ?_ _
    go_wp2_with fail
    refine bodyPost_ret (v := (PT.mk 1 0 Val.zero Val.zero (.slice av m.length cv) m).val) (by simp [results, Tryd.results29, go_sem, PT.val, Val.zero, z0, z1, z2, z3, z4, z5, z6, z7, z8]) rfl ⟨_, rfl, HR.out.1, ?_, ?_⟩
    · refine Nw.imp (P := fun b => w.heap.size + 1 < b) ?_ (fun b hb _ => by omega)
      repeat (refine nw_set ?_ (fun x hx => by omega))
      exact HR.out.2
    · repeat (refine set_below ?_ (by omega) _)
      exact HX.out.be
  · go_enter Tryd.func29, Tryd.ntmps29
    go_wp2_with fail
    have X0 : P2 w p _ := HN.out.below (Below.refl _ _).drew
    refine wp_region_held_drew (S := fun w' => w'.cell? ⟨w.heap.size, 0, none⟩ = some (.int .i64 2) ∧ w'.cell? ⟨w.heap.size, 8, none⟩ = some (.slice ap p.l.length cp)) (by kernel_rfl) ?_ (fun hHeld => ?_)
    · exact HD.out _ X0
    (try clear hK K)
    refine wpAnyH_take (i := 0) (v := ?_) rfl (by kernel_rfl) (by kernel_rfl) (by kernel_rfl) (fun _ _ _ h => h) (Or.inl ⟨by rfl, ?_⟩) (by assumption) ?_
    rotate_left
    · intro w hSw; (try dsimp only at hSw); go_simp; (try with_reducible rfl)
    (try simp only [Act.put, List.getElem_toArray, List.getElem_cons_zero, List.setIfInBounds_toArray, List.set_cons_zero, List.set_cons_succ])
    refine wpAnyH_take (i := 1) (v := ?_) rfl (by kernel_rfl) (by kernel_rfl) (by kernel_rfl) (fun _ _ _ h => h) (Or.inl ⟨by rfl, ?_⟩) (by assumption) ?_
    rotate_left
    · intro w hSw; (try dsimp only at hSw); go_simp; (try with_reducible rfl)
    (try simp only [Act.put, List.getElem_toArray, List.getElem_cons_succ, List.getElem_cons_zero, List.setIfInBounds_toArray, List.set_cons_zero, List.set_cons_succ])
    refine wpAnyH_take (i := 2) (v := ?_) rfl (by kernel_rfl) (by kernel_rfl) (by kernel_rfl) (fun _ _ _ h => h) (Or.inl ⟨by rfl, ?_⟩) (by assumption) ?_
    rotate_left
    · intro w hSw; (try dsimp only at hSw); go_simp; (try with_reducible rfl)
    (try simp only [Act.put, List.getElem_toArray, List.getElem_cons_succ, List.getElem_cons_zero, List.setIfInBounds_toArray, List.set_cons_zero, List.set_cons_succ])
    refine wpAnyH_take (i := 3) (v := ?_) rfl (by kernel_rfl) (by kernel_rfl) (by kernel_rfl) (fun _ _ _ h => h) (Or.inl ⟨by rfl, ?_⟩) (by assumption) ?_
    rotate_left
    · intro w hSw; (try dsimp only at hSw); go_simp; (try with_reducible rfl)
    (try simp only [Act.put, List.getElem_toArray, List.getElem_cons_succ, List.getElem_cons_zero, List.setIfInBounds_toArray, List.set_cons_zero, List.set_cons_succ])
    (try clear hK K)
    refine wpAnyH_ready (rs := [4]) (by kernel_rfl) (by simp) ?_
    refine AllReadyH.cons rfl (fun K hK => ?_) AllReadyH.nil
    go_simp
    (refine Calls.mono (HQ.out _ X0.be) ?_; rintro e w1 ⟨v', m, rfl, hmb, ⟨hmr, hmn⟩, hb⟩; have X1 := X0.below hb)
    refine hK.out _ _ ?_ (fun hHeld => ?_)
    · exact HD.out _ X1
    obtain ⟨av, cv, rfl, _⟩ := hmr.lies.slice
    have hsz := hb.size
    have HR : Hid ((PT.mk 2 0 Val.zero Val.zero (.slice av m.length cv) m).bare = t.bare ∧ Nw w1 TP (fun b => w.heap.size + 1 < b) (PT.mk 2 0 Val.zero Val.zero (.slice av m.length cv) m)) := ⟨HT.out m hmb _, .mk (by decide) (by decide) (hmr.imp fun b h _ => by simp at h; omega) (fun q hq => (hmn q hq).imp fun b h _ => by simp at h; omega)⟩
    obtain ⟨z0, z1, z2, z3, z4, z5, z6, z7, z8⟩ := X1.pz
    obtain ⟨lz, fz⟩ := X1.fz
    have HX : Hid (P2 w p w1) := X1
    clear X0 X1 hb hmb hmr hmn HQ HT HN hsz
    (try clear hK K)
    refine wpAnyH_take (i := 5) (v := ?_) rfl (by kernel_rfl) (by kernel_rfl) (by kernel_rfl) (fun _ _ _ h => h) (Or.inl ⟨by rfl, ?_⟩) (by assumption) ?_
    rotate_left
    · intro w hSw; (try dsimp only at hSw); go_simp; (try with_reducible rfl)
    (try simp only [Act.put, List.getElem_toArray, List.getElem_cons_succ, List.getElem_cons_zero, List.setIfInBounds_toArray, List.set_cons_zero, List.set_cons_succ])
    (try clear hK K)
    refine wpAnyH_ready (rs := [6]) (by kernel_rfl) (by simp) ?_
    refine AllReadyH.cons rfl (fun K hK => ?_) AllReadyH.nil
    go_simp
    refine hK.out _ _ ?_ (fun hHeld => ?_)
    · refine ⟨?_, ?_⟩
      · repeat (refine cell_far' ?_ (by omega))
        exact (HD.out _ HX.out).1
      · repeat (refine cell_far' ?_ (by omega))
        exact (HD.out _ HX.out).2
    (try clear hK K)
    refine wpAnyH_done (by kernel_rfl) ?_ _
    go_wp2_with fail
    refine bodyPost_ret (v := (PT.mk 2 0 Val.zero Val.zero (.slice av m.length cv) m).val) (by simp [results, Tryd.results29, go_sem, PT.val, Val.zero, z0, z1, z2, z3, z4, z5, z6, z7, z8]) rfl ⟨_, rfl, HR.out.1, ?_, ?_⟩
    · refine Nw.imp (P := fun b => w.heap.size + 1 < b) ?_ (fun b hb _ => by omega)
      repeat (refine nw_set ?_ (fun x hx => by omega))
      exact HR.out.2
    · repeat (refine set_below ?_ (by omega) _)
      exact HX.out.be
  · go_enter Tryd.func29, Tryd.ntmps29
    go_wp2_with fail
    have X0 : P2 w p _ := HN.out.below (Below.refl _ _).drew
    refine wp_region_held_drew (S := fun w' => w'.cell? ⟨w.heap.size, 0, none⟩ = some (.int .i64 11) ∧ w'.cell? ⟨w.heap.size, 8, none⟩ = some (.slice ap p.l.length cp)) (by kernel_rfl) ?_ (fun hHeld => ?_)
    · exact HD.out _ X0
    (try clear hK K)
    refine wpAnyH_take (i := 0) (v := ?_) rfl (by kernel_rfl) (by kernel_rfl) (by kernel_rfl) (fun _ _ _ h => h) (Or.inl ⟨by rfl, ?_⟩) (by assumption) ?_
    rotate_left
    · intro w hSw; (try dsimp only at hSw); go_simp; (try with_reducible rfl)
    (try simp only [Act.put, List.getElem_toArray, List.getElem_cons_zero, List.setIfInBounds_toArray, List.set_cons_zero, List.set_cons_succ])
    refine wpAnyH_take (i := 1) (v := ?_) rfl (by kernel_rfl) (by kernel_rfl) (by kernel_rfl) (fun _ _ _ h => h) (Or.inl ⟨by rfl, ?_⟩) (by assumption) ?_
    rotate_left
    · intro w hSw; (try dsimp only at hSw); go_simp; (try with_reducible rfl)
    (try simp only [Act.put, List.getElem_toArray, List.getElem_cons_succ, List.getElem_cons_zero, List.setIfInBounds_toArray, List.set_cons_zero, List.set_cons_succ])
    refine wpAnyH_take (i := 2) (v := ?_) rfl (by kernel_rfl) (by kernel_rfl) (by kernel_rfl) (fun _ _ _ h => h) (Or.inl ⟨by rfl, ?_⟩) (by assumption) ?_
    rotate_left
    · intro w hSw; (try dsimp only at hSw); go_simp; (try with_reducible rfl)
    (try simp only [Act.put, List.getElem_toArray, List.getElem_cons_succ, List.getElem_cons_zero, List.setIfInBounds_toArray, List.set_cons_zero, List.set_cons_succ])
    refine wpAnyH_take (i := 3) (v := ?_) rfl (by kernel_rfl) (by kernel_rfl) (by kernel_rfl) (fun _ _ _ h => h) (Or.inl ⟨by rfl, ?_⟩) (by assumption) ?_
    rotate_left
    · intro w hSw; (try dsimp only at hSw); go_simp; (try with_reducible rfl)
    (try simp only [Act.put, List.getElem_toArray, List.getElem_cons_succ, List.getElem_cons_zero, List.setIfInBounds_toArray, List.set_cons_zero, List.set_cons_succ])
    (try clear hK K)
    refine wpAnyH_ready (rs := [4]) (by kernel_rfl) (by simp) ?_
    refine AllReadyH.cons rfl (fun K hK => ?_) AllReadyH.nil
    go_simp
    (refine Calls.mono (HQ.out _ X0.be) ?_; rintro e w1 ⟨v', m, rfl, hmb, ⟨hmr, hmn⟩, hb⟩; have X1 := X0.below hb)
    refine hK.out _ _ ?_ (fun hHeld => ?_)
    · exact HD.out _ X1
    obtain ⟨av, cv, rfl, _⟩ := hmr.lies.slice
    have hsz := hb.size
    have HR : Hid ((PT.mk 11 0 Val.zero Val.zero (.slice av m.length cv) m).bare = t.bare ∧ Nw w1 TP (fun b => w.heap.size + 1 < b) (PT.mk 11 0 Val.zero Val.zero (.slice av m.length cv) m)) := ⟨HT.out m hmb _, .mk (by decide) (by decide) (hmr.imp fun b h _ => by simp at h; omega) (fun q hq => (hmn q hq).imp fun b h _ => by simp at h; omega)⟩
    obtain ⟨z0, z1, z2, z3, z4, z5, z6, z7, z8⟩ := X1.pz
    obtain ⟨lz, fz⟩ := X1.fz
    have HX : Hid (P2 w p w1) := X1
    clear X0 X1 hb hmb hmr hmn HQ HT HN hsz
    (try clear hK K)
    refine wpAnyH_take (i := 5) (v := ?_) rfl (by kernel_rfl) (by kernel_rfl) (by kernel_rfl) (fun _ _ _ h => h) (Or.inl ⟨by rfl, ?_⟩) (by assumption) ?_
    rotate_left
    · intro w hSw; (try dsimp only at hSw); go_simp; (try with_reducible rfl)
    (try simp only [Act.put, List.getElem_toArray, List.getElem_cons_succ, List.getElem_cons_zero, List.setIfInBounds_toArray, List.set_cons_zero, List.set_cons_succ])
    (try clear hK K)
    refine wpAnyH_ready (rs := [6]) (by kernel_rfl) (by simp) ?_
    refine AllReadyH.cons rfl (fun K hK => ?_) AllReadyH.nil
    go_simp
    refine hK.out _ _ ?_ (fun hHeld => ?_)
    · refine ⟨?_, ?_⟩
      · repeat (refine cell_far' ?_ (by omega))
        exact (HD.out _ HX.out).1
      · repeat (refine cell_far' ?_ (by omega))
        exact (HD.out _ HX.out).2
    (try clear hK K)
    refine wpAnyH_done (by kernel_rfl) ?_ _
    go_wp2_with fail
    refine bodyPost_ret (v := (PT.mk 11 0 Val.zero Val.zero (.slice av m.length cv) m).val) (by simp [results, Tryd.results29, go_sem, PT.val, Val.zero, z0, z1, z2, z3, z4, z5, z6, z7, z8]) rfl ⟨_, rfl, HR.out.1, ?_, ?_⟩
    · refine Nw.imp (P := fun b => w.heap.size + 1 < b) ?_ (fun b hb _ => by omega)
      repeat (refine nw_set ?_ (fun x hx => by omega))
      exact HR.out.2
    · repeat (refine set_below ?_ (by omega) _)
      exact HX.out.be
  · go_enter Tryd.func29, Tryd.ntmps29
    go_wp2_with fail
    have X0 : P2 w p _ := HN.out.below (Below.refl _ _).drew
    refine wp_region_held_drew (S := fun w' => w'.cell? ⟨w.heap.size, 0, none⟩ = some (.int .i64 12) ∧ w'.cell? ⟨w.heap.size, 8, none⟩ = some (.slice ap p.l.length cp)) (by kernel_rfl) ?_ (fun hHeld => ?_)
    · exact HD.out _ X0
    (try clear hK K)
    refine wpAnyH_take (i := 0) (v := ?_) rfl (by kernel_rfl) (by kernel_rfl) (by kernel_rfl) (fun _ _ _ h => h) (Or.inl ⟨by rfl, ?_⟩) (by assumption) ?_
    rotate_left
    · intro w hSw; (try dsimp only at hSw); go_simp; (try with_reducible rfl)
    (try simp only [Act.put, List.getElem_toArray, List.getElem_cons_zero, List.setIfInBounds_toArray, List.set_cons_zero, List.set_cons_succ])
    refine wpAnyH_take (i := 1) (v := ?_) rfl (by kernel_rfl) (by kernel_rfl) (by kernel_rfl) (fun _ _ _ h => h) (Or.inl ⟨by rfl, ?_⟩) (by assumption) ?_
    rotate_left
    · intro w hSw; (try dsimp only at hSw); go_simp; (try with_reducible rfl)
    (try simp only [Act.put, List.getElem_toArray, List.getElem_cons_succ, List.getElem_cons_zero, List.setIfInBounds_toArray, List.set_cons_zero, List.set_cons_succ])
    refine wpAnyH_take (i := 2) (v := ?_) rfl (by kernel_rfl) (by kernel_rfl) (by kernel_rfl) (fun _ _ _ h => h) (Or.inl ⟨by rfl, ?_⟩) (by assumption) ?_
    rotate_left
    · intro w hSw; (try dsimp only at hSw); go_simp; (try with_reducible rfl)
    (try simp only [Act.put, List.getElem_toArray, List.getElem_cons_succ, List.getElem_cons_zero, List.setIfInBounds_toArray, List.set_cons_zero, List.set_cons_succ])
    refine wpAnyH_take (i := 3) (v := ?_) rfl (by kernel_rfl) (by kernel_rfl) (by kernel_rfl) (fun _ _ _ h => h) (Or.inl ⟨by rfl, ?_⟩) (by assumption) ?_
    rotate_left
    · intro w hSw; (try dsimp only at hSw); go_simp; (try with_reducible rfl)
    (try simp only [Act.put, List.getElem_toArray, List.getElem_cons_succ, List.getElem_cons_zero, List.setIfInBounds_toArray, List.set_cons_zero, List.set_cons_succ])
    (try clear hK K)
    refine wpAnyH_ready (rs := [4]) (by kernel_rfl) (by simp) ?_
    refine AllReadyH.cons rfl (fun K hK => ?_) AllReadyH.nil
    go_simp
    (refine Calls.mono (HQ.out _ X0.be) ?_; rintro e w1 ⟨v', m, rfl, hmb, ⟨hmr, hmn⟩, hb⟩; have X1 := X0.below hb)
    refine hK.out _ _ ?_ (fun hHeld => ?_)
    · exact HD.out _ X1
    obtain ⟨av, cv, rfl, _⟩ := hmr.lies.slice
    have hsz := hb.size
    have HR : Hid ((PT.mk 12 0 Val.zero Val.zero (.slice av m.length cv) m).bare = t.bare ∧ Nw w1 TP (fun b => w.heap.size + 1 < b) (PT.mk 12 0 Val.zero Val.zero (.slice av m.length cv) m)) := ⟨HT.out m hmb _, .mk (by decide) (by decide) (hmr.imp fun b h _ => by simp at h; omega) (fun q hq => (hmn q hq).imp fun b h _ => by simp at h; omega)⟩
    obtain ⟨z0, z1, z2, z3, z4, z5, z6, z7, z8⟩ := X1.pz
    obtain ⟨lz, fz⟩ := X1.fz
    have HX : Hid (P2 w p w1) := X1
    clear X0 X1 hb hmb hmr hmn HQ HT HN hsz
    (try clear hK K)
    refine wpAnyH_take (i := 5) (v := ?_) rfl (by kernel_rfl) (by kernel_rfl) (by kernel_rfl) (fun _ _ _ h => h) (Or.inl ⟨by rfl, ?_⟩) (by assumption) ?_
    rotate_left
    · intro w hSw; (try dsimp only at hSw); go_simp; (try with_reducible rfl)
    (try simp only [Act.put, List.getElem_toArray, List.getElem_cons_succ, List.getElem_cons_zero, List.setIfInBounds_toArray, List.set_cons_zero, List.set_cons_succ])
    (try clear hK K)
    refine wpAnyH_ready (rs := [6]) (by kernel_rfl) (by simp) ?_
    refine AllReadyH.cons rfl (fun K hK => ?_) AllReadyH.nil
    go_simp
    refine hK.out _ _ ?_ (fun hHeld => ?_)
    · refine ⟨?_, ?_⟩
      · repeat (refine cell_far' ?_ (by omega))
        exact (HD.out _ HX.out).1
      · repeat (refine cell_far' ?_ (by omega))
        exact (HD.out _ HX.out).2
    (try clear hK K)
    refine wpAnyH_done (by kernel_rfl) ?_ _
    go_wp2_with fail
    refine bodyPost_ret (v := (PT.mk 12 0 Val.zero Val.zero (.slice av m.length cv) m).val) (by simp [results, Tryd.results29, go_sem, PT.val, Val.zero, z0, z1, z2, z3, z4, z5, z6, z7, z8]) rfl ⟨_, rfl, HR.out.1, ?_, ?_⟩
    · refine Nw.imp (P := fun b => w.heap.size + 1 < b) ?_ (fun b hb _ => by omega)
      repeat (refine nw_set ?_ (fun x hx => by omega))
      exact HR.out.2
    · repeat (refine set_below ?_ (by omega) _)
      exact HX.out.be
end Go.Proofs.YtfkhfplibhnceaaDoor.Val
