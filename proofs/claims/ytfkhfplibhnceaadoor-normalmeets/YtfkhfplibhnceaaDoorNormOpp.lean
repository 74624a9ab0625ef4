/- What plain of a leaf, and opposite of package normal answer. -/
import Derived.Test.YtfkhfplibhnceaaDoorNormPlainC
namespace Go.Proofs.YtfkhfplibhnceaaDoor.Val
open Go.RowKit

set_option maxHeartbeats 2000000 in
/-- A leaf. -/
theorem plain_leaf (p : PT) (ho : 3 ≤ p.op ∧ p.op ≤ 9) (t : PT) (ht : t.bare = (lfN p.op p.col p.v p.w).bare) : MadeOk 29 p t := by
  intro w hi hT
  have HV : Hid (p.v.s.size ≤ maxLen ∧ p.w.s.size ≤ maxLen) := ⟨hi.sv, hi.sw⟩
  have HT : Hid (t.bare = (lfN p.op p.col p.v p.w).bare) := ht
  obtain ⟨ap, cp, hlp, _⟩ := hi.lies.slice
  have e1 : (p.op == 10) = false := by rw [beq_eq_false_iff_ne]; omega
  have e2 : (p.op == 1) = false := by rw [beq_eq_false_iff_ne]; omega
  have e3 : (p.op == 2) = false := by rw [beq_eq_false_iff_ne]; omega
  have e4 : (p.op == 11) = false := by rw [beq_eq_false_iff_ne]; omega
  have e5 : (p.op == 12) = false := by rw [beq_eq_false_iff_ne]; omega
  clear hi hT ho ht
  unfold PT.val
  rw [hlp]
  clear hlp
  go_enter Tryd.func29, Tryd.ntmps29
  go_wp2_with fail
  refine bodyPost_ret (v := (lfN p.op p.col p.v p.w).val) (by simp [results, Tryd.results29, go_sem, PT.val, lfN]) rfl ⟨_, rfl, HT.out.symm, Nw.leaf _ _ _ _ _ _ _ HV.out.1 HV.out.2, ?_⟩
  exact back1 (alloc1 _ _)
set_option maxHeartbeats 2000000 in
/-- PNot. -/
theorem opp_not (p q : PT) (h : p.op = 10) (hl : p.l = [q]) (ih : MadeOk 29 q (pushP q false)) : MadeOk 49 p (pushP p true) := by
  intro w hi hT
  rw [push_10 h q hl]
  have hin : In w q := hi.part q (by rw [hl]; simp)
  have HQ : Hid (∀ w1, Below w.heap.size w w1 → Calls Tryd.prog 29 #[q.val] w1 fun e w' => ∃ r : PT, e = .returned r.val ∧ r.bare = (pushP q false).bare ∧ Nw w' TP (fun b => w1.heap.size ≤ b) r ∧ Below w1.heap.size w1 w') := fun w1 hb => ih w1 (hin.keep hb) (hT.below hb)
  have hlie := hi.lies
  obtain ⟨ap, cp, hlp, _⟩ := hlie.slice
  have hlen : p.l.length = 1 := by rw [hl]; rfl
  rw [hlp] at hlie
  obtain ⟨b, o, rfl, hat⟩ := lies_at hlie 0 (by omega)
  have hq0 : p.l[0]'(by omega) = q := by simp [hl]
  rw [hq0, Nat.zero_mul, Nat.add_zero] at hat
  have HN : Hid _ := P2.new w p 29 29
  have A : ∀ o1 o2, At ((w.alloc o1).alloc o2) b o q := fun o1 o2 => (hat.below (alloc1 _ _)).below (alloc1 _ _)
  have HA : Hid _ := A
  clear hi hT hl hlie hat hq0 ih hin A
  unfold PT.val at *
  rw [hlp, hlen, h] 
  rw [pobj, hlp, hlen, h] at HN
  clear hlp hlen h
  obtain ⟨c0, c1, c2, c3, c4, c5, c6, c7, c8⟩ := HA.out (.cells #[.int .i64 10, .int .i64 p.col, .bool p.v.t, .int .i64 p.v.n, .string p.v.s, .bool p.w.t, .int .i64 p.w.n, .string p.w.s, .slice (some ⟨b, o, none⟩) 1 cp] 29) (.cells #[.int .i64 0, .int .i64 0, .bool false, .int .i64 0, .string ⟨#[]⟩, .bool false, .int .i64 0, .string ⟨#[]⟩, .slice none 0 0] 29)
  go_enter Tryd.func49, Tryd.ntmps49
  go_wp2_with fail
  refine Calls.mono (HQ.out _ (back1 (alloc1 _ _))) ?_
  rintro e w1 ⟨r, rfl, hrb, hrn, hb⟩
  have HX : Hid _ := HN.out.below hb
  have HR : Hid (r.bare = (pushP q false).bare ∧ Nw w1 TP (fun b => w.heap.size + 1 < b) r) := ⟨hrb, hrn.imp fun b h _ => by simp at h; omega⟩
  obtain ⟨ar, kr, hlr⟩ := hrn.slice
  obtain ⟨_, ⟨z0, z1, z2, z3, z4, z5, z6, z7, z8⟩, _, ⟨lz, fz⟩, _⟩ := HX.out
  have HB : Hid (Below w.heap.size w w1) := HX.out.be
  have HLR : Hid (r.lv = .slice ar r.l.length kr) := hlr
  rw [hlr]
  clear hlr hrb hrn hb HQ HN HX HA c0 c1 c2 c3 c4 c5 c6 c7 c8
  go_wp2_with fail
  refine bodyPost_ret (v := r.val) (by simp [results, Tryd.results49, go_sem, PT.val, HLR.out, z0, z1, z2, z3, z4, z5, z6, z7, z8]) rfl ⟨r, rfl, HR.out.1, ?_, ?_⟩
  · refine Nw.imp (P := fun b => w.heap.size + 1 < b) ?_ (fun b hb _ => by omega)
    repeat (refine nw_set ?_ (fun x hx => by omega))
    exact HR.out.2
  · repeat (refine set_below ?_ (by omega) _)
    exact HB.out
set_option maxHeartbeats 4000000 in
/-- PTrue, PFalse, PAnd, POr. -/
theorem opp_list (p : PT) (op : Int) (h : p.op = op) (hs : p.size ≤ 1000000) (t : PT) (no : Int) (hno : (op = 1 ∧ no = 2) ∨ (op = 2 ∧ no = 1) ∨ (op = 11 ∧ no = 12) ∨ (op = 12 ∧ no = 11)) (ht : t.bare = (PT.mk no 0 Val.zero Val.zero (.slice none 0 0) (p.l.map fun q => pushP q true)).bare)
    (ih : ∀ q ∈ p.l, MadeOk 49 q (pushP q true)) : MadeOk 49 p t := by
  intro w hi hT
  have hT' := hT
  have HQ : Hid (∀ w1, Below w.heap.size w w1 → Calls Tryd.prog 50 #[p.lv, FV 49 #[] #[]] w1 fun e w' => ∃ v' m, e = .returned v' ∧ m.map PT.bare = (p.l.map fun q => pushP q true).map PT.bare ∧ (RowNw w' TP (fun b => w1.heap.size ≤ b) v' m ∧ ∀ p ∈ m, Nw w' TP (fun b => w1.heap.size ≤ b) p) ∧ Below w1.heap.size w1 w') :=
    fun w1 hb => each_any _ enters_opp (fun q => pushP q true) p.lv p.l w1 (hi.list.below hb) (hT.below hb) (size_ok hs) ih
  have HT : Hid (∀ m : List PT, m.map PT.bare = (p.l.map fun q => pushP q true).map PT.bare → ∀ lv, (PT.mk no 0 Val.zero Val.zero lv m).bare = t.bare) := fun m hm lv => by rw [ht, bare_mk, bare_mk, hm]
  obtain ⟨ap, cp, hlp, _⟩ := hi.lies.slice
  have HN : Hid _ := P2.new w p 29 29
  clear hi hT ih hs ht
  have HTab : Hid (Tab w) := hT'
  have HO : Hid (p.op = op ∧ p.lv = .slice ap p.l.length cp) := ⟨h, hlp⟩
  have HD : Hid (∀ w1, P2 w p w1 → w1.cell? ⟨w.heap.size, 0, none⟩ = some (.int .i64 op) ∧ w1.cell? ⟨w.heap.size, 8, none⟩ = some (.slice ap p.l.length cp)) := fun w1 h1 => ⟨by rw [h1.pb.c0, HO.out.1], by rw [h1.pb.c8, HO.out.2]⟩
  unfold PT.val at *
  rw [hlp, h]
  rw [hlp] at HQ
  rw [pobj, hlp, h] at HN
  clear hlp h
  clear hT'
  rcases hno with ⟨rfl, rfl⟩ | ⟨rfl, rfl⟩ | ⟨rfl, rfl⟩ | ⟨rfl, rfl⟩
  · go_enter Tryd.func49, Tryd.ntmps49
    go_wp2_with fail
    have X0 : P2 w p _ := HN.out.below (Below.refl _ _).drew
    refine wp_region_held_drew (S := fun w' => w'.cell? ⟨0, 1, none⟩ = some (.int .i64 2) ∧ w'.cell? ⟨w.heap.size, 0, none⟩ = some (.int .i64 1) ∧ w'.cell? ⟨w.heap.size, 8, none⟩ = some (.slice ap p.l.length cp)) (by kernel_rfl) ?_ (fun hHeld => ?_)
    · exact ⟨HTab.out.below X0.be 1 (by decide), HD.out _ X0⟩
    (try clear hK K)
    refine wpAnyH_take (i := 0) (v := ?_) rfl (by kernel_rfl) (by kernel_rfl) (by kernel_rfl) (fun _ _ _ h => h) (Or.inl ⟨by rfl, ?_⟩) (by assumption) ?_
    rotate_left
    · intro w hSw; (try dsimp only at hSw); go_simp; (try with_reducible rfl)
    (try simp only [Act.put, List.getElem_toArray, List.getElem_cons_zero, List.setIfInBounds_toArray, List.set_cons_zero, List.set_cons_succ])
    refine wpAnyH_take (i := 1) (v := ?_) rfl (by kernel_rfl) (by kernel_rfl) (by kernel_rfl) (fun _ _ _ h => h) (Or.inl ⟨by rfl, ?_⟩) (by assumption) ?_
    rotate_left
    · intro w hSw; (try dsimp only at hSw); go_simp; (try with_reducible rfl)
    (try simp only [Act.put, List.getElem_toArray, List.getElem_cons_succ, List.getElem_cons_zero, List.setIfInBounds_toArray, List.set_cons_zero, List.set_cons_succ])
    refine wpAnyH_take (i := 2) (v := ?_) rfl (by kernel_rfl) (by kernel_rfl) (by kernel_rfl) (fun _ _ _ h => h) (Or.inl ⟨by rfl, ?_⟩) (by assumption) ?_
    rotate_left
    · intro w hSw; (try dsimp only at hSw); go_simp; (try with_reducible rfl)
    (try simp only [Act.put, List.getElem_toArray, List.getElem_cons_succ, List.getElem_cons_zero, List.setIfInBounds_toArray, List.set_cons_zero, List.set_cons_succ])
    refine wpAnyH_take (i := 3) (v := ?_) rfl (by kernel_rfl) (by kernel_rfl) (by kernel_rfl) (fun _ _ _ h => h) (Or.inl ⟨by rfl, ?_⟩) (by assumption) ?_
    rotate_left
    · intro w hSw; (try dsimp only at hSw); go_simp; (try with_reducible rfl)
    (try simp only [Act.put, List.getElem_toArray, List.getElem_cons_succ, List.getElem_cons_zero, List.setIfInBounds_toArray, List.set_cons_zero, List.set_cons_succ])
    refine wpAnyH_take (i := 4) (v := ?_) rfl (by kernel_rfl) (by kernel_rfl) (by kernel_rfl) (fun _ _ _ h => h) (Or.inl ⟨by rfl, ?_⟩) (by assumption) ?_
    rotate_left
    · intro w hSw; (try dsimp only at hSw); go_simp; (try with_reducible rfl)
    (try simp only [Act.put, List.getElem_toArray, List.getElem_cons_succ, List.getElem_cons_zero, List.setIfInBounds_toArray, List.set_cons_zero, List.set_cons_succ])
    refine wpAnyH_take (i := 5) (v := ?_) rfl (by kernel_rfl) (by kernel_rfl) (by kernel_rfl) (fun _ _ _ h => h) (Or.inl ⟨by rfl, ?_⟩) (by assumption) ?_
    rotate_left
    · intro w hSw; (try dsimp only at hSw); go_simp; (try with_reducible rfl)
    (try simp only [Act.put, List.getElem_toArray, List.getElem_cons_succ, List.getElem_cons_zero, List.setIfInBounds_toArray, List.set_cons_zero, List.set_cons_succ])
    (try clear hK K)
    refine wpAnyH_ready (rs := [6]) (by kernel_rfl) (by simp) ?_
    refine AllReadyH.cons rfl (fun K hK => ?_) AllReadyH.nil
    go_simp
    (refine Calls.mono (HQ.out _ X0.be) ?_; rintro e w1 ⟨v', m, rfl, hmb, ⟨hmr, hmn⟩, hb⟩; have X1 := X0.below hb)
    refine hK.out _ _ ?_ (fun hHeld => ?_)
    · exact ⟨HTab.out.below X1.be 1 (by decide), HD.out _ X1⟩
    obtain ⟨av, cv, rfl, _⟩ := hmr.lies.slice
    have hsz := hb.size
    have HR : Hid ((PT.mk 2 0 Val.zero Val.zero (.slice av m.length cv) m).bare = t.bare ∧ Nw w1 TP (fun b => w.heap.size + 1 < b) (PT.mk 2 0 Val.zero Val.zero (.slice av m.length cv) m)) := ⟨HT.out m hmb _, .mk (by decide) (by decide) (hmr.imp fun b h _ => by simp at h; omega) (fun q hq => (hmn q hq).imp fun b h _ => by simp at h; omega)⟩
    obtain ⟨z0, z1, z2, z3, z4, z5, z6, z7, z8⟩ := X1.pz
    obtain ⟨lz, fz⟩ := X1.fz
    have HX : Hid (P2 w p w1) := X1
    clear X0 X1 hb hmb hmr hmn HQ HT HN hsz
    (try clear hK K)
    refine wpAnyH_take (i := 7) (v := ?_) rfl (by kernel_rfl) (by kernel_rfl) (by kernel_rfl) (fun _ _ _ h => h) (Or.inl ⟨by rfl, ?_⟩) (by assumption) ?_
    rotate_left
    · intro w hSw; (try dsimp only at hSw); go_simp; (try with_reducible rfl)
    (try simp only [Act.put, List.getElem_toArray, List.getElem_cons_succ, List.getElem_cons_zero, List.setIfInBounds_toArray, List.set_cons_zero, List.set_cons_succ])
    (try clear hK K)
    refine wpAnyH_ready (rs := [8]) (by kernel_rfl) (by simp) ?_
    refine AllReadyH.cons rfl (fun K hK => ?_) AllReadyH.nil
    go_simp
    refine hK.out _ _ ?_ (fun hHeld => ?_)
    · have hw0 : 0 < w.heap.size := World.block_lt_of_cell? _ _ (HTab.out 0 (by decide))
      refine ⟨?_, ?_, ?_⟩
      · repeat (refine cell_far' ?_ (by omega))
        exact HTab.out.below HX.out.be 1 (by decide)
      · repeat (refine cell_far' ?_ (by omega))
        exact (HD.out _ HX.out).1
      · repeat (refine cell_far' ?_ (by omega))
        exact (HD.out _ HX.out).2
    (try clear hK K)
    refine wpAnyH_done (by kernel_rfl) ?_ _
    go_wp2_with fail
    refine bodyPost_ret (v := (PT.mk 2 0 Val.zero Val.zero (.slice av m.length cv) m).val) (by simp [results, Tryd.results49, go_sem, PT.val, Val.zero, z0, z1, z2, z3, z4, z5, z6, z7, z8]) rfl ⟨_, rfl, HR.out.1, ?_, ?_⟩
    · refine Nw.imp (P := fun b => w.heap.size + 1 < b) ?_ (fun b hb _ => by omega)
      repeat (refine nw_set ?_ (fun x hx => by omega))
      exact HR.out.2
    · repeat (refine set_below ?_ (by omega) _)
      exact HX.out.be
  · go_enter Tryd.func49, Tryd.ntmps49
    go_wp2_with fail
    have X0 : P2 w p _ := HN.out.below (Below.refl _ _).drew
    refine wp_region_held_drew (S := fun w' => w'.cell? ⟨0, 2, none⟩ = some (.int .i64 1) ∧ w'.cell? ⟨w.heap.size, 0, none⟩ = some (.int .i64 2) ∧ w'.cell? ⟨w.heap.size, 8, none⟩ = some (.slice ap p.l.length cp)) (by kernel_rfl) ?_ (fun hHeld => ?_)
    · exact ⟨HTab.out.below X0.be 2 (by decide), HD.out _ X0⟩
    (try clear hK K)
    refine wpAnyH_take (i := 0) (v := ?_) rfl (by kernel_rfl) (by kernel_rfl) (by kernel_rfl) (fun _ _ _ h => h) (Or.inl ⟨by rfl, ?_⟩) (by assumption) ?_
    rotate_left
    · intro w hSw; (try dsimp only at hSw); go_simp; (try with_reducible rfl)
    (try simp only [Act.put, List.getElem_toArray, List.getElem_cons_zero, List.setIfInBounds_toArray, List.set_cons_zero, List.set_cons_succ])
    refine wpAnyH_take (i := 1) (v := ?_) rfl (by kernel_rfl) (by kernel_rfl) (by kernel_rfl) (fun _ _ _ h => h) (Or.inl ⟨by rfl, ?_⟩) (by assumption) ?_
    rotate_left
    · intro w hSw; (try dsimp only at hSw); go_simp; (try with_reducible rfl)
    (try simp only [Act.put, List.getElem_toArray, List.getElem_cons_succ, List.getElem_cons_zero, List.setIfInBounds_toArray, List.set_cons_zero, List.set_cons_succ])
    refine wpAnyH_take (i := 2) (v := ?_) rfl (by kernel_rfl) (by kernel_rfl) (by kernel_rfl) (fun _ _ _ h => h) (Or.inl ⟨by rfl, ?_⟩) (by assumption) ?_
    rotate_left
    · intro w hSw; (try dsimp only at hSw); go_simp; (try with_reducible rfl)
    (try simp only [Act.put, List.getElem_toArray, List.getElem_cons_succ, List.getElem_cons_zero, List.setIfInBounds_toArray, List.set_cons_zero, List.set_cons_succ])
    refine wpAnyH_take (i := 3) (v := ?_) rfl (by kernel_rfl) (by kernel_rfl) (by kernel_rfl) (fun _ _ _ h => h) (Or.inl ⟨by rfl, ?_⟩) (by assumption) ?_
    rotate_left
    · intro w hSw; (try dsimp only at hSw); go_simp; (try with_reducible rfl)
    (try simp only [Act.put, List.getElem_toArray, List.getElem_cons_succ, List.getElem_cons_zero, List.setIfInBounds_toArray, List.set_cons_zero, List.set_cons_succ])
    refine wpAnyH_take (i := 4) (v := ?_) rfl (by kernel_rfl) (by kernel_rfl) (by kernel_rfl) (fun _ _ _ h => h) (Or.inl ⟨by rfl, ?_⟩) (by assumption) ?_
    rotate_left
    · intro w hSw; (try dsimp only at hSw); go_simp; (try with_reducible rfl)
    (try simp only [Act.put, List.getElem_toArray, List.getElem_cons_succ, List.getElem_cons_zero, List.setIfInBounds_toArray, List.set_cons_zero, List.set_cons_succ])
    refine wpAnyH_take (i := 5) (v := ?_) rfl (by kernel_rfl) (by kernel_rfl) (by kernel_rfl) (fun _ _ _ h => h) (Or.inl ⟨by rfl, ?_⟩) (by assumption) ?_
    rotate_left
    · intro w hSw; (try dsimp only at hSw); go_simp; (try with_reducible rfl)
    (try simp only [Act.put, List.getElem_toArray, List.getElem_cons_succ, List.getElem_cons_zero, List.setIfInBounds_toArray, List.set_cons_zero, List.set_cons_succ])
    (try clear hK K)
    refine wpAnyH_ready (rs := [6]) (by kernel_rfl) (by simp) ?_
    refine AllReadyH.cons rfl (fun K hK => ?_) AllReadyH.nil
    go_simp
    (refine Calls.mono (HQ.out _ X0.be) ?_; rintro e w1 ⟨v', m, rfl, hmb, ⟨hmr, hmn⟩, hb⟩; have X1 := X0.below hb)
    refine hK.out _ _ ?_ (fun hHeld => ?_)
    · exact ⟨HTab.out.below X1.be 2 (by decide), HD.out _ X1⟩
    obtain ⟨av, cv, rfl, _⟩ := hmr.lies.slice
    have hsz := hb.size
    have HR : Hid ((PT.mk 1 0 Val.zero Val.zero (.slice av m.length cv) m).bare = t.bare ∧ Nw w1 TP (fun b => w.heap.size + 1 < b) (PT.mk 1 0 Val.zero Val.zero (.slice av m.length cv) m)) := ⟨HT.out m hmb _, .mk (by decide) (by decide) (hmr.imp fun b h _ => by simp at h; omega) (fun q hq => (hmn q hq).imp fun b h _ => by simp at h; omega)⟩
    obtain ⟨z0, z1, z2, z3, z4, z5, z6, z7, z8⟩ := X1.pz
    obtain ⟨lz, fz⟩ := X1.fz
    have HX : Hid (P2 w p w1) := X1
    clear X0 X1 hb hmb hmr hmn HQ HT HN hsz
    (try clear hK K)
    refine wpAnyH_take (i := 7) (v := ?_) rfl (by kernel_rfl) (by kernel_rfl) (by kernel_rfl) (fun _ _ _ h => h) (Or.inl ⟨by rfl, ?_⟩) (by assumption) ?_
    rotate_left
    · intro w hSw; (try dsimp only at hSw); go_simp; (try with_reducible rfl)
    (try simp only [Act.put, List.getElem_toArray, List.getElem_cons_succ, List.getElem_cons_zero, List.setIfInBounds_toArray, List.set_cons_zero, List.set_cons_succ])
    (try clear hK K)
    refine wpAnyH_ready (rs := [8]) (by kernel_rfl) (by simp) ?_
    refine AllReadyH.cons rfl (fun K hK => ?_) AllReadyH.nil
    go_simp
    refine hK.out _ _ ?_ (fun hHeld => ?_)
    · have hw0 : 0 < w.heap.size := World.block_lt_of_cell? _ _ (HTab.out 0 (by decide))
      refine ⟨?_, ?_, ?_⟩
      · repeat (refine cell_far' ?_ (by omega))
        exact HTab.out.below HX.out.be 2 (by decide)
      · repeat (refine cell_far' ?_ (by omega))
        exact (HD.out _ HX.out).1
      · repeat (refine cell_far' ?_ (by omega))
        exact (HD.out _ HX.out).2
    (try clear hK K)
    refine wpAnyH_done (by kernel_rfl) ?_ _
    go_wp2_with fail
    refine bodyPost_ret (v := (PT.mk 1 0 Val.zero Val.zero (.slice av m.length cv) m).val) (by simp [results, Tryd.results49, go_sem, PT.val, Val.zero, z0, z1, z2, z3, z4, z5, z6, z7, z8]) rfl ⟨_, rfl, HR.out.1, ?_, ?_⟩
    · refine Nw.imp (P := fun b => w.heap.size + 1 < b) ?_ (fun b hb _ => by omega)
      repeat (refine nw_set ?_ (fun x hx => by omega))
      exact HR.out.2
    · repeat (refine set_below ?_ (by omega) _)
      exact HX.out.be
  · go_enter Tryd.func49, Tryd.ntmps49
    go_wp2_with fail
    have X0 : P2 w p _ := HN.out.below (Below.refl _ _).drew
    refine wp_region_held_drew (S := fun w' => w'.cell? ⟨0, 11, none⟩ = some (.int .i64 12) ∧ w'.cell? ⟨w.heap.size, 0, none⟩ = some (.int .i64 11) ∧ w'.cell? ⟨w.heap.size, 8, none⟩ = some (.slice ap p.l.length cp)) (by kernel_rfl) ?_ (fun hHeld => ?_)
    · exact ⟨HTab.out.below X0.be 11 (by decide), HD.out _ X0⟩
    (try clear hK K)
    refine wpAnyH_take (i := 0) (v := ?_) rfl (by kernel_rfl) (by kernel_rfl) (by kernel_rfl) (fun _ _ _ h => h) (Or.inl ⟨by rfl, ?_⟩) (by assumption) ?_
    rotate_left
    · intro w hSw; (try dsimp only at hSw); go_simp; (try with_reducible rfl)
    (try simp only [Act.put, List.getElem_toArray, List.getElem_cons_zero, List.setIfInBounds_toArray, List.set_cons_zero, List.set_cons_succ])
    refine wpAnyH_take (i := 1) (v := ?_) rfl (by kernel_rfl) (by kernel_rfl) (by kernel_rfl) (fun _ _ _ h => h) (Or.inl ⟨by rfl, ?_⟩) (by assumption) ?_
    rotate_left
    · intro w hSw; (try dsimp only at hSw); go_simp; (try with_reducible rfl)
    (try simp only [Act.put, List.getElem_toArray, List.getElem_cons_succ, List.getElem_cons_zero, List.setIfInBounds_toArray, List.set_cons_zero, List.set_cons_succ])
    refine wpAnyH_take (i := 2) (v := ?_) rfl (by kernel_rfl) (by kernel_rfl) (by kernel_rfl) (fun _ _ _ h => h) (Or.inl ⟨by rfl, ?_⟩) (by assumption) ?_
    rotate_left
    · intro w hSw; (try dsimp only at hSw); go_simp; (try with_reducible rfl)
    (try simp only [Act.put, List.getElem_toArray, List.getElem_cons_succ, List.getElem_cons_zero, List.setIfInBounds_toArray, List.set_cons_zero, List.set_cons_succ])
    refine wpAnyH_take (i := 3) (v := ?_) rfl (by kernel_rfl) (by kernel_rfl) (by kernel_rfl) (fun _ _ _ h => h) (Or.inl ⟨by rfl, ?_⟩) (by assumption) ?_
    rotate_left
    · intro w hSw; (try dsimp only at hSw); go_simp; (try with_reducible rfl)
    (try simp only [Act.put, List.getElem_toArray, List.getElem_cons_succ, List.getElem_cons_zero, List.setIfInBounds_toArray, List.set_cons_zero, List.set_cons_succ])
    refine wpAnyH_take (i := 4) (v := ?_) rfl (by kernel_rfl) (by kernel_rfl) (by kernel_rfl) (fun _ _ _ h => h) (Or.inl ⟨by rfl, ?_⟩) (by assumption) ?_
    rotate_left
    · intro w hSw; (try dsimp only at hSw); go_simp; (try with_reducible rfl)
    (try simp only [Act.put, List.getElem_toArray, List.getElem_cons_succ, List.getElem_cons_zero, List.setIfInBounds_toArray, List.set_cons_zero, List.set_cons_succ])
    refine wpAnyH_take (i := 5) (v := ?_) rfl (by kernel_rfl) (by kernel_rfl) (by kernel_rfl) (fun _ _ _ h => h) (Or.inl ⟨by rfl, ?_⟩) (by assumption) ?_
    rotate_left
    · intro w hSw; (try dsimp only at hSw); go_simp; (try with_reducible rfl)
    (try simp only [Act.put, List.getElem_toArray, List.getElem_cons_succ, List.getElem_cons_zero, List.setIfInBounds_toArray, List.set_cons_zero, List.set_cons_succ])
    (try clear hK K)
    refine wpAnyH_ready (rs := [6]) (by kernel_rfl) (by simp) ?_
    refine AllReadyH.cons rfl (fun K hK => ?_) AllReadyH.nil
    go_simp
    (refine Calls.mono (HQ.out _ X0.be) ?_; rintro e w1 ⟨v', m, rfl, hmb, ⟨hmr, hmn⟩, hb⟩; have X1 := X0.below hb)
    refine hK.out _ _ ?_ (fun hHeld => ?_)
    · exact ⟨HTab.out.below X1.be 11 (by decide), HD.out _ X1⟩
    obtain ⟨av, cv, rfl, _⟩ := hmr.lies.slice
    have hsz := hb.size
    have HR : Hid ((PT.mk 12 0 Val.zero Val.zero (.slice av m.length cv) m).bare = t.bare ∧ Nw w1 TP (fun b => w.heap.size + 1 < b) (PT.mk 12 0 Val.zero Val.zero (.slice av m.length cv) m)) := ⟨HT.out m hmb _, .mk (by decide) (by decide) (hmr.imp fun b h _ => by simp at h; omega) (fun q hq => (hmn q hq).imp fun b h _ => by simp at h; omega)⟩
    obtain ⟨z0, z1, z2, z3, z4, z5, z6, z7, z8⟩ := X1.pz
    obtain ⟨lz, fz⟩ := X1.fz
    have HX : Hid (P2 w p w1) := X1
    clear X0 X1 hb hmb hmr hmn HQ HT HN hsz
    (try clear hK K)
    refine wpAnyH_take (i := 7) (v := ?_) rfl (by kernel_rfl) (by kernel_rfl) (by kernel_rfl) (fun _ _ _ h => h) (Or.inl ⟨by rfl, ?_⟩) (by assumption) ?_
    rotate_left
    · intro w hSw; (try dsimp only at hSw); go_simp; (try with_reducible rfl)
    (try simp only [Act.put, List.getElem_toArray, List.getElem_cons_succ, List.getElem_cons_zero, List.setIfInBounds_toArray, List.set_cons_zero, List.set_cons_succ])
    (try clear hK K)
    refine wpAnyH_ready (rs := [8]) (by kernel_rfl) (by simp) ?_
    refine AllReadyH.cons rfl (fun K hK => ?_) AllReadyH.nil
    go_simp
    refine hK.out _ _ ?_ (fun hHeld => ?_)
    · have hw0 : 0 < w.heap.size := World.block_lt_of_cell? _ _ (HTab.out 0 (by decide))
      refine ⟨?_, ?_, ?_⟩
      · repeat (refine cell_far' ?_ (by omega))
        exact HTab.out.below HX.out.be 11 (by decide)
      · repeat (refine cell_far' ?_ (by omega))
        exact (HD.out _ HX.out).1
      · repeat (refine cell_far' ?_ (by omega))
        exact (HD.out _ HX.out).2
    (try clear hK K)
    refine wpAnyH_done (by kernel_rfl) ?_ _
    go_wp2_with fail
    refine bodyPost_ret (v := (PT.mk 12 0 Val.zero Val.zero (.slice av m.length cv) m).val) (by simp [results, Tryd.results49, go_sem, PT.val, Val.zero, z0, z1, z2, z3, z4, z5, z6, z7, z8]) rfl ⟨_, rfl, HR.out.1, ?_, ?_⟩
    · refine Nw.imp (P := fun b => w.heap.size + 1 < b) ?_ (fun b hb _ => by omega)
      repeat (refine nw_set ?_ (fun x hx => by omega))
      exact HR.out.2
    · repeat (refine set_below ?_ (by omega) _)
      exact HX.out.be
  · go_enter Tryd.func49, Tryd.ntmps49
    go_wp2_with fail
    have X0 : P2 w p _ := HN.out.below (Below.refl _ _).drew
    refine wp_region_held_drew (S := fun w' => w'.cell? ⟨0, 12, none⟩ = some (.int .i64 11) ∧ w'.cell? ⟨w.heap.size, 0, none⟩ = some (.int .i64 12) ∧ w'.cell? ⟨w.heap.size, 8, none⟩ = some (.slice ap p.l.length cp)) (by kernel_rfl) ?_ (fun hHeld => ?_)
    · exact ⟨HTab.out.below X0.be 12 (by decide), HD.out _ X0⟩
    (try clear hK K)
    refine wpAnyH_take (i := 0) (v := ?_) rfl (by kernel_rfl) (by kernel_rfl) (by kernel_rfl) (fun _ _ _ h => h) (Or.inl ⟨by rfl, ?_⟩) (by assumption) ?_
    rotate_left
    · intro w hSw; (try dsimp only at hSw); go_simp; (try with_reducible rfl)
    (try simp only [Act.put, List.getElem_toArray, List.getElem_cons_zero, List.setIfInBounds_toArray, List.set_cons_zero, List.set_cons_succ])
    refine wpAnyH_take (i := 1) (v := ?_) rfl (by kernel_rfl) (by kernel_rfl) (by kernel_rfl) (fun _ _ _ h => h) (Or.inl ⟨by rfl, ?_⟩) (by assumption) ?_
    rotate_left
    · intro w hSw; (try dsimp only at hSw); go_simp; (try with_reducible rfl)
    (try simp only [Act.put, List.getElem_toArray, List.getElem_cons_succ, List.getElem_cons_zero, List.setIfInBounds_toArray, List.set_cons_zero, List.set_cons_succ])
    refine wpAnyH_take (i := 2) (v := ?_) rfl (by kernel_rfl) (by kernel_rfl) (by kernel_rfl) (fun _ _ _ h => h) (Or.inl ⟨by rfl, ?_⟩) (by assumption) ?_
    rotate_left
    · intro w hSw; (try dsimp only at hSw); go_simp; (try with_reducible rfl)
    (try simp only [Act.put, List.getElem_toArray, List.getElem_cons_succ, List.getElem_cons_zero, List.setIfInBounds_toArray, List.set_cons_zero, List.set_cons_succ])
    refine wpAnyH_take (i := 3) (v := ?_) rfl (by kernel_rfl) (by kernel_rfl) (by kernel_rfl) (fun _ _ _ h => h) (Or.inl ⟨by rfl, ?_⟩) (by assumption) ?_
    rotate_left
    · intro w hSw; (try dsimp only at hSw); go_simp; (try with_reducible rfl)
    (try simp only [Act.put, List.getElem_toArray, List.getElem_cons_succ, List.getElem_cons_zero, List.setIfInBounds_toArray, List.set_cons_zero, List.set_cons_succ])
    refine wpAnyH_take (i := 4) (v := ?_) rfl (by kernel_rfl) (by kernel_rfl) (by kernel_rfl) (fun _ _ _ h => h) (Or.inl ⟨by rfl, ?_⟩) (by assumption) ?_
    rotate_left
    · intro w hSw; (try dsimp only at hSw); go_simp; (try with_reducible rfl)
    (try simp only [Act.put, List.getElem_toArray, List.getElem_cons_succ, List.getElem_cons_zero, List.setIfInBounds_toArray, List.set_cons_zero, List.set_cons_succ])
    refine wpAnyH_take (i := 5) (v := ?_) rfl (by kernel_rfl) (by kernel_rfl) (by kernel_rfl) (fun _ _ _ h => h) (Or.inl ⟨by rfl, ?_⟩) (by assumption) ?_
    rotate_left
    · intro w hSw; (try dsimp only at hSw); go_simp; (try with_reducible rfl)
    (try simp only [Act.put, List.getElem_toArray, List.getElem_cons_succ, List.getElem_cons_zero, List.setIfInBounds_toArray, List.set_cons_zero, List.set_cons_succ])
    (try clear hK K)
    refine wpAnyH_ready (rs := [6]) (by kernel_rfl) (by simp) ?_
    refine AllReadyH.cons rfl (fun K hK => ?_) AllReadyH.nil
    go_simp
    (refine Calls.mono (HQ.out _ X0.be) ?_; rintro e w1 ⟨v', m, rfl, hmb, ⟨hmr, hmn⟩, hb⟩; have X1 := X0.below hb)
    refine hK.out _ _ ?_ (fun hHeld => ?_)
    · exact ⟨HTab.out.below X1.be 12 (by decide), HD.out _ X1⟩
    obtain ⟨av, cv, rfl, _⟩ := hmr.lies.slice
    have hsz := hb.size
    have HR : Hid ((PT.mk 11 0 Val.zero Val.zero (.slice av m.length cv) m).bare = t.bare ∧ Nw w1 TP (fun b => w.heap.size + 1 < b) (PT.mk 11 0 Val.zero Val.zero (.slice av m.length cv) m)) := ⟨HT.out m hmb _, .mk (by decide) (by decide) (hmr.imp fun b h _ => by simp at h; omega) (fun q hq => (hmn q hq).imp fun b h _ => by simp at h; omega)⟩
    obtain ⟨z0, z1, z2, z3, z4, z5, z6, z7, z8⟩ := X1.pz
    obtain ⟨lz, fz⟩ := X1.fz
    have HX : Hid (P2 w p w1) := X1
    clear X0 X1 hb hmb hmr hmn HQ HT HN hsz
    (try clear hK K)
    refine wpAnyH_take (i := 7) (v := ?_) rfl (by kernel_rfl) (by kernel_rfl) (by kernel_rfl) (fun _ _ _ h => h) (Or.inl ⟨by rfl, ?_⟩) (by assumption) ?_
    rotate_left
    · intro w hSw; (try dsimp only at hSw); go_simp; (try with_reducible rfl)
    (try simp only [Act.put, List.getElem_toArray, List.getElem_cons_succ, List.getElem_cons_zero, List.setIfInBounds_toArray, List.set_cons_zero, List.set_cons_succ])
    (try clear hK K)
    refine wpAnyH_ready (rs := [8]) (by kernel_rfl) (by simp) ?_
    refine AllReadyH.cons rfl (fun K hK => ?_) AllReadyH.nil
    go_simp
    refine hK.out _ _ ?_ (fun hHeld => ?_)
    · have hw0 : 0 < w.heap.size := World.block_lt_of_cell? _ _ (HTab.out 0 (by decide))
      refine ⟨?_, ?_, ?_⟩
      · repeat (refine cell_far' ?_ (by omega))
        exact HTab.out.below HX.out.be 12 (by decide)
      · repeat (refine cell_far' ?_ (by omega))
        exact (HD.out _ HX.out).1
      · repeat (refine cell_far' ?_ (by omega))
        exact (HD.out _ HX.out).2
    (try clear hK K)
    refine wpAnyH_done (by kernel_rfl) ?_ _
    go_wp2_with fail
    refine bodyPost_ret (v := (PT.mk 11 0 Val.zero Val.zero (.slice av m.length cv) m).val) (by simp [results, Tryd.results49, go_sem, PT.val, Val.zero, z0, z1, z2, z3, z4, z5, z6, z7, z8]) rfl ⟨_, rfl, HR.out.1, ?_, ?_⟩
    · refine Nw.imp (P := fun b => w.heap.size + 1 < b) ?_ (fun b hb _ => by omega)
      repeat (refine nw_set ?_ (fun x hx => by omega))
      exact HR.out.2
    · repeat (refine set_below ?_ (by omega) _)
      exact HX.out.be
end Go.Proofs.YtfkhfplibhnceaaDoor.Val
