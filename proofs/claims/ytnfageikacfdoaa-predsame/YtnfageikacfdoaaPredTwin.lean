/- What the law's twin answers: the same, in memory of its own. -/
import Derived.Test.YtnfageikacfdoaaPredTwinPlain
import Derived.Deep.RegionHeld3
namespace Go.Proofs.Ytnfageikacfdoaa.Val
open Go.RowKit

set_option maxHeartbeats 8000000 in
theorem twin_step (p : PT) (ih : ∀ q ∈ p.l, CloneOk 21 q) : CloneOk 21 p := by
  intro w hi hs
  obtain ⟨i0, hi0, hz0, hz1, hz2⟩ := info_parts info_P
  have I0 : Hid (Try.prog.info? 26 = some i0 ∧ i0.zero = some (PV 0 0 false 0 ⟨#[]⟩ false 0 ⟨#[]⟩ (.slice none 0 0)) ∧ i0.size = 9 ∧ i0.bytes = 104) := ⟨hi0, hz0, hz1, hz2⟩
  obtain ⟨ap, cp, hlp, hln⟩ := hi.lies.slice
  have hsz := size_l p
  have hlen : p.l.length ≤ 1000000 := by have := length_sizeL p.l; omega
  have HI : Hid (In w p ∧ p.size ≤ 1000000 ∧ ∀ q ∈ p.l, CloneOk 21 q) := ⟨hi, hs, ih⟩
  have HLV : Hid (p.lv = .slice ap p.l.length cp) := hlp
  clear hi0 hz0 hz1 hz2 hi hs ih hsz
  unfold PT.val
  rw [hlp]
  clear hlp
  go_enter Try.func21, Try.ntmps21
  go_wp2_with fail
  go_loopw [4] (fun i wr => ∃ (k : Nat) (own : Value), k ≤ p.l.length ∧ i = .int .i64 k ∧ Hid (CLb (w.heap.size + 1 + 1) wr TP p.l k own) ∧ Hid (Below w.heap.size w wr ∧ TW w.heap.size p own wr ∧ w.heap.size + 1 + 1 ≤ wr.heap.size))
    (fun i _ => p.l.length - (intOf i).toNat)
  case atStart =>
    refine ⟨0, .slice none 0 0, Nat.zero_le _, rfl, CLb.start _ _ _ _, back1 (alloc1 _ _), ⟨?_, ?_, ?_, ?_⟩, by simp⟩
    · constructor <;> simp [go_sem]
    · constructor <;> simp [go_sem, PT.zero, Val.zero]
    · intro j; simp [go_sem]
    · intro j; simp [go_sem]
  case round =>
    obtain ⟨k, own, hk, rfl, HK, HB⟩ := hrel
    by_cases h1 : k < p.l.length
    · have j0 : (0 : Int) ≤ (k : Int) := by omega
      have j1 : (k : Int) < (p.l.length : Int) := by omega
      have hl := HI.out.1.lies
      rw [HLV.out] at hl
      obtain ⟨b, o, rfl, hat0⟩ := lies_at hl k h1
      have hm := List.getElem_mem h1
      have HQ : Hid (∀ w1, Below w.heap.size w w1 → Calls Try.prog 21 #[p.l[k].val] w1 fun e w' => ∃ q : PT, e = .returned q.val ∧ q.bare = p.l[k].bare ∧ New w' TP (fun b => w1.heap.size ≤ b) q ∧ Below w1.heap.size w1 w') :=
        fun w1 hb => HI.out.2.2 _ hm w1 ((HI.out.1.part _ hm).keep hb) (by have := size_part (p := p) hm; have := HI.out.2.1; omega)
      have hS : ∀ w1, Below w.heap.size w w1 → (fun w' => w'.cell? ⟨b, o + k * 9, none⟩ = some (.int .i64 p.l[k].op) ∧ w'.cell? ⟨b, o + k * 9 + 1, none⟩ = some (.int .i64 p.l[k].col) ∧ w'.cell? ⟨b, o + k * 9 + 2, none⟩ = some (.bool p.l[k].v.t) ∧ w'.cell? ⟨b, o + k * 9 + 3, none⟩ = some (.int .i64 p.l[k].v.n) ∧ w'.cell? ⟨b, o + k * 9 + 4, none⟩ = some (.string p.l[k].v.s) ∧ w'.cell? ⟨b, o + k * 9 + 5, none⟩ = some (.bool p.l[k].w.t) ∧ w'.cell? ⟨b, o + k * 9 + 6, none⟩ = some (.int .i64 p.l[k].w.n) ∧ w'.cell? ⟨b, o + k * 9 + 7, none⟩ = some (.string p.l[k].w.s) ∧ w'.cell? ⟨b, o + k * 9 + 8, none⟩ = some p.l[k].lv) w1 := fun w1 hb => by
        have h := hat0.below hb
        exact ⟨h.c0, h.c1, h.c2, h.c3, h.c4, h.c5, h.c6, h.c7, h.c8⟩
      have T0 : TW w.heap.size p own wr.drew := HB.out.2.1.below (Below.refl _ _).drew
      have HBd : Below w.heap.size w wr.drew := HB.out.1.drew
      clear hm hl hat0
      unfold PT.val at HQ
      go_wp2_with fail
      refine wp_region_held_drew (S := fun w' => w'.cell? ⟨b, o + k * 9, none⟩ = some (.int .i64 p.l[k].op) ∧ w'.cell? ⟨b, o + k * 9 + 1, none⟩ = some (.int .i64 p.l[k].col) ∧ w'.cell? ⟨b, o + k * 9 + 2, none⟩ = some (.bool p.l[k].v.t) ∧ w'.cell? ⟨b, o + k * 9 + 3, none⟩ = some (.int .i64 p.l[k].v.n) ∧ w'.cell? ⟨b, o + k * 9 + 4, none⟩ = some (.string p.l[k].v.s) ∧ w'.cell? ⟨b, o + k * 9 + 5, none⟩ = some (.bool p.l[k].w.t) ∧ w'.cell? ⟨b, o + k * 9 + 6, none⟩ = some (.int .i64 p.l[k].w.n) ∧ w'.cell? ⟨b, o + k * 9 + 7, none⟩ = some (.string p.l[k].w.s) ∧ w'.cell? ⟨b, o + k * 9 + 8, none⟩ = some p.l[k].lv) (by kernel_rfl) ?_ (fun hHeld => ?_)
      · exact hS _ HBd
      (try clear hK K)
      refine wpAnyH_take (i := 0) (v := ?_) rfl (by kernel_rfl) (by kernel_rfl) (by kernel_rfl) (fun _ _ _ h => h) (Or.inl ⟨by rfl, ?_⟩) (by assumption) ?_
      rotate_left
      · intro w hSw; (try dsimp only at hSw); go_simp; (try with_reducible rfl)
      (try simp only [Act.put, List.getElem_toArray, List.getElem_cons_zero, List.setIfInBounds_toArray, List.set_cons_zero, List.set_cons_succ])
      refine wpAnyH_take (i := 2) (v := ?_) rfl (by kernel_rfl) (by kernel_rfl) (by kernel_rfl) (fun _ _ _ h => h) (Or.inl ⟨by rfl, ?_⟩) (by assumption) ?_
      rotate_left
      · intro w hSw; (try dsimp only at hSw); go_simp; (try with_reducible rfl)
      (try simp only [Act.put, List.getElem_toArray, List.getElem_cons_succ, List.getElem_cons_zero, List.setIfInBounds_toArray, List.set_cons_zero, List.set_cons_succ])
      refine wpAnyH_take (i := 3) (v := ?_) rfl (by kernel_rfl) (by kernel_rfl) (by kernel_rfl) (fun _ _ _ h => h) (Or.inl ⟨by rfl, ?_⟩) (by assumption) ?_
      rotate_left
      · intro w hSw; (try dsimp only at hSw); go_simp; (try with_reducible rfl)
      (try simp only [Act.put, List.getElem_toArray, List.getElem_cons_succ, List.getElem_cons_zero, List.setIfInBounds_toArray, List.set_cons_zero, List.set_cons_succ])
      refine wpAnyH_take (i := 4) (v := ?_) rfl (by kernel_rfl) (by kernel_rfl) (by kernel_rfl) (fun _ _ _ h => h) (Or.inl ⟨by rfl, ?_⟩) (by assumption) ?_
      rotate_left
      · intro w hSw; (try dsimp only at hSw); go_simp; (try with_reducible rfl)
      (try simp only [Act.put, List.getElem_toArray, List.getElem_cons_succ, List.getElem_cons_zero, List.setIfInBounds_toArray, List.set_cons_zero, List.set_cons_succ])
      refine wpAnyH_take (i := 5) (v := ?_) rfl (by kernel_rfl) (by kernel_rfl) (by kernel_rfl) (fun _ _ _ h => h) (Or.inl ⟨by rfl, ?_⟩) (by assumption) ?_
      rotate_left
      · intro w hSw; (try dsimp only at hSw); go_simp; (try with_reducible rfl)
      (try simp only [Act.put, List.getElem_toArray, List.getElem_cons_succ, List.getElem_cons_zero, List.setIfInBounds_toArray, List.set_cons_zero, List.set_cons_succ])
      refine wpAnyH_ready (rs := [1, 6]) (by kernel_rfl) (by simp) ?_
      refine AllReadyH.cons rfl (fun K hK => ?_) (AllReadyH.cons rfl (fun K hK => ?_) AllReadyH.nil)
      · have c8 := T0.pb.c8
        dsimp only at c8
        go_simp
        refine hK.out _ _ ?_ (fun hHeld => ?_)
        · exact hS _ (HBd)
        (try clear c8)
        refine wpAnyH_ready (rs := [6]) (by kernel_rfl) (by simp) ?_
        refine AllReadyH.cons rfl (fun K hK => ?_) AllReadyH.nil
        go_simp
        refine Calls.mono (HQ.out _ HBd) ?_
        rintro e w1 ⟨q, rfl, hqb, hqn, hb1⟩
        have HB1 := on HBd hb1
        have T1 := T0.below hb1
        refine hK.out _ _ ?_ (fun hHeld => ?_)
        · exact hS _ (HB1)
        refine wpAnyH_ready (rs := [7]) (by kernel_rfl) (by simp) ?_
        refine AllReadyH.cons rfl (fun K hK => ?_) AllReadyH.nil
        go_simp
        have HB2 := on HB1 (alloc1 w1 (pobj q 26))
        have T2 := T1.below (alloc1 w1 (pobj q 26))
        refine hK.out _ _ ?_ (fun hHeld => ?_)
        · exact hS _ (HB2)
        (try clear hK K)
        obtain ⟨aq, cq, hlq⟩ := hqn.row.slice
        obtain ⟨m, hown, hsz, hnext⟩ := CLb.owns HK.out HB.out.2.2 (wb := w1.alloc (pobj q 26)) (on ((Below.refl _ _).drew.trans hb1) (alloc1 _ _))
        refine wpAnyH_ready (rs := [8]) (by kernel_rfl) (by simp) ?_
        refine AllReadyH.cons rfl (fun K hK => ?_) AllReadyH.nil
        refine step_append_own_at rfl (.tmp 15) (.tmp 21) 24 rfl (w.heap.size + 1 + 1) TP i0 _ 9 104 Try.underlying24 I0.out.1 I0.out.2.1 I0.out.2.2.1 I0.out.2.2.2 rfl (by decide) own k (m.flatMap PT.cells) rfl hown ⟨w1.heap.size, 0, none⟩ 1 1 q.cells rfl rfl (new_cells w1 q _) (one_cells q _ _ _ hlq) ?_ ?_ hsz ?_
        · unfold maxLen; omega
        · omega
        intro v' w2 hown' hgrow hat
        obtain ⟨hcl, hsv⟩ := hnext q wr.drew w2 v' h1 (Nat.le_refl _) hqb (hqn.keep (alloc1 _ _)) hown' hgrow (by simpa using hat)
        have T3 := T2.sv hsv (by omega) (by omega)
        have HB3 : Below w.heap.size w w2 := HB2.trans (hsv.below (Nat.le_trans (by omega) HB2.size) fun b hb hx => by omega)
        have HZ3 : w.heap.size + 1 + 1 ≤ w2.heap.size := Nat.le_trans hsz hsv.size
        obtain ⟨av, nv, cv, hv'⟩ := hcl.slice
        refine hK.out _ _ ?_ (fun hHeld => ?_)
        · exact hS _ (HB3)
        clear hK K
        (try clear hK K)
        refine wpAnyH_take (i := 9) (v := ?_) rfl (by kernel_rfl) (by kernel_rfl) (by kernel_rfl) (fun _ _ _ h => h) (Or.inl ⟨by rfl, ?_⟩) (by assumption) ?_
        rotate_left
        · intro w hSw; (try dsimp only at hSw); go_simp; (try with_reducible rfl)
        (try simp only [Act.put, List.getElem_toArray, List.getElem_cons_succ, List.getElem_cons_zero, List.setIfInBounds_toArray, List.set_cons_zero, List.set_cons_succ])
        have c8 := T3.pb.c8
        have f8 := T3.f0 8
        dsimp only at c8
        subst hv'
        refine wpAnyH_ready (rs := [10]) (by kernel_rfl) (by simp) ?_
        refine AllReadyH.cons rfl (fun K hK => ?_) AllReadyH.nil
        go_simp
        have T4 := T3.set (.slice av nv cv)
        have HB4 : Below w.heap.size w (w2.setCell ⟨w.heap.size, 8, none⟩ (.slice av nv cv)) := HB3.setCell (Nat.le_refl _) _
        have hcl4 : CLb (w.heap.size + 1 + 1) (w2.setCell ⟨w.heap.size, 8, none⟩ (.slice av nv cv)) TP p.l (k + 1) (.slice av nv cv) := hcl.sv (Sv.set (X := fun b => b = w.heap.size) (Sv.refl _ w2) (a := ⟨w.heap.size, 8, none⟩) (show w.heap.size = w.heap.size from rfl) _) fun b hb e => by omega
        refine hK.out _ _ ?_ (fun hHeld => ?_)
        · exact hS _ (HB4)
        clear hK K c8 f8
        refine wpAnyH_done (by kernel_rfl) ?_ _
        have HC4 : Hid (CLb (w.heap.size + 1 + 1) (w2.setCell ⟨w.heap.size, 8, none⟩ (.slice av nv cv)) TP p.l (k + 1) (.slice av nv cv)) := hcl4
        have HT4 : Hid (Below w.heap.size w (w2.setCell ⟨w.heap.size, 8, none⟩ (.slice av nv cv)) ∧ TW w.heap.size p (.slice av nv cv) (w2.setCell ⟨w.heap.size, 8, none⟩ (.slice av nv cv)) ∧ w.heap.size + 1 + 1 ≤ (w2.setCell ⟨w.heap.size, 8, none⟩ (.slice av nv cv)).heap.size) := ⟨HB4, T4, by simpa [World.setCell] using HZ3⟩
        clear hcl4 T4 HB4 HZ3 HB3 T3 hcl hsv hown' hgrow hat hnext hsz hown hlq T2 HB2 T1 HB1 hqb hqn hb1 T0 HBd hHeld HQ hS HK HB
        generalize w2.setCell ⟨w.heap.size, 8, none⟩ (.slice av nv cv) = w3 at *
        go_wp2_with fail
        go_roundw
        case rel => exact ⟨k + 1, _, by omega, by go_num, HC4, HT4⟩
        case measure => simp [intOf]; omega
      · go_simp
        refine Calls.mono (HQ.out _ HBd) ?_
        rintro e w1 ⟨q, rfl, hqb, hqn, hb1⟩
        have HB1 := on HBd hb1
        have T1 := T0.below hb1
        refine hK.out _ _ ?_ (fun hHeld => ?_)
        · exact hS _ (HB1)
        refine wpAnyH_ready (rs := [1, 7]) (by kernel_rfl) (by simp) ?_
        refine AllReadyH.cons rfl (fun K hK => ?_) (AllReadyH.cons rfl (fun K hK => ?_) AllReadyH.nil)
        · have c8 := T1.pb.c8
          dsimp only at c8
          go_simp
          refine hK.out _ _ ?_ (fun hHeld => ?_)
          · exact hS _ (HB1)
          (try clear c8)
          refine wpAnyH_ready (rs := [7]) (by kernel_rfl) (by simp) ?_
          refine AllReadyH.cons rfl (fun K hK => ?_) AllReadyH.nil
          go_simp
          have HB2 := on HB1 (alloc1 w1 (pobj q 26))
          have T2 := T1.below (alloc1 w1 (pobj q 26))
          refine hK.out _ _ ?_ (fun hHeld => ?_)
          · exact hS _ (HB2)
          (try clear hK K)
          obtain ⟨aq, cq, hlq⟩ := hqn.row.slice
          obtain ⟨m, hown, hsz, hnext⟩ := CLb.owns HK.out HB.out.2.2 (wb := w1.alloc (pobj q 26)) (on ((Below.refl _ _).drew.trans hb1) (alloc1 _ _))
          refine wpAnyH_ready (rs := [8]) (by kernel_rfl) (by simp) ?_
          refine AllReadyH.cons rfl (fun K hK => ?_) AllReadyH.nil
          refine step_append_own_at rfl (.tmp 15) (.tmp 21) 24 rfl (w.heap.size + 1 + 1) TP i0 _ 9 104 Try.underlying24 I0.out.1 I0.out.2.1 I0.out.2.2.1 I0.out.2.2.2 rfl (by decide) own k (m.flatMap PT.cells) rfl hown ⟨w1.heap.size, 0, none⟩ 1 1 q.cells rfl rfl (new_cells w1 q _) (one_cells q _ _ _ hlq) ?_ ?_ hsz ?_
          · unfold maxLen; omega
          · omega
          intro v' w2 hown' hgrow hat
          obtain ⟨hcl, hsv⟩ := hnext q wr.drew w2 v' h1 (Nat.le_refl _) hqb (hqn.keep (alloc1 _ _)) hown' hgrow (by simpa using hat)
          have T3 := T2.sv hsv (by omega) (by omega)
          have HB3 : Below w.heap.size w w2 := HB2.trans (hsv.below (Nat.le_trans (by omega) HB2.size) fun b hb hx => by omega)
          have HZ3 : w.heap.size + 1 + 1 ≤ w2.heap.size := Nat.le_trans hsz hsv.size
          obtain ⟨av, nv, cv, hv'⟩ := hcl.slice
          refine hK.out _ _ ?_ (fun hHeld => ?_)
          · exact hS _ (HB3)
          clear hK K
          (try clear hK K)
          refine wpAnyH_take (i := 9) (v := ?_) rfl (by kernel_rfl) (by kernel_rfl) (by kernel_rfl) (fun _ _ _ h => h) (Or.inl ⟨by rfl, ?_⟩) (by assumption) ?_
          rotate_left
          · intro w hSw; (try dsimp only at hSw); go_simp; (try with_reducible rfl)
          (try simp only [Act.put, List.getElem_toArray, List.getElem_cons_succ, List.getElem_cons_zero, List.setIfInBounds_toArray, List.set_cons_zero, List.set_cons_succ])
          have c8 := T3.pb.c8
          have f8 := T3.f0 8
          dsimp only at c8
          subst hv'
          refine wpAnyH_ready (rs := [10]) (by kernel_rfl) (by simp) ?_
          refine AllReadyH.cons rfl (fun K hK => ?_) AllReadyH.nil
          go_simp
          have T4 := T3.set (.slice av nv cv)
          have HB4 : Below w.heap.size w (w2.setCell ⟨w.heap.size, 8, none⟩ (.slice av nv cv)) := HB3.setCell (Nat.le_refl _) _
          have hcl4 : CLb (w.heap.size + 1 + 1) (w2.setCell ⟨w.heap.size, 8, none⟩ (.slice av nv cv)) TP p.l (k + 1) (.slice av nv cv) := hcl.sv (Sv.set (X := fun b => b = w.heap.size) (Sv.refl _ w2) (a := ⟨w.heap.size, 8, none⟩) (show w.heap.size = w.heap.size from rfl) _) fun b hb e => by omega
          refine hK.out _ _ ?_ (fun hHeld => ?_)
          · exact hS _ (HB4)
          clear hK K c8 f8
          refine wpAnyH_done (by kernel_rfl) ?_ _
          have HC4 : Hid (CLb (w.heap.size + 1 + 1) (w2.setCell ⟨w.heap.size, 8, none⟩ (.slice av nv cv)) TP p.l (k + 1) (.slice av nv cv)) := hcl4
          have HT4 : Hid (Below w.heap.size w (w2.setCell ⟨w.heap.size, 8, none⟩ (.slice av nv cv)) ∧ TW w.heap.size p (.slice av nv cv) (w2.setCell ⟨w.heap.size, 8, none⟩ (.slice av nv cv)) ∧ w.heap.size + 1 + 1 ≤ (w2.setCell ⟨w.heap.size, 8, none⟩ (.slice av nv cv)).heap.size) := ⟨HB4, T4, by simpa [World.setCell] using HZ3⟩
          clear hcl4 T4 HB4 HZ3 HB3 T3 hcl hsv hown' hgrow hat hnext hsz hown hlq T2 HB2 T1 HB1 hqb hqn hb1 T0 HBd hHeld HQ hS HK HB
          generalize w2.setCell ⟨w.heap.size, 8, none⟩ (.slice av nv cv) = w3 at *
          go_wp2_with fail
          go_roundw
          case rel => exact ⟨k + 1, _, by omega, by go_num, HC4, HT4⟩
          case measure => simp [intOf]; omega
        · go_simp
          have HB2 := on HB1 (alloc1 w1 (pobj q 26))
          have T2 := T1.below (alloc1 w1 (pobj q 26))
          refine hK.out _ _ ?_ (fun hHeld => ?_)
          · exact hS _ (HB2)
          refine wpAnyH_ready (rs := [1]) (by kernel_rfl) (by simp) ?_
          refine AllReadyH.cons rfl (fun K hK => ?_) AllReadyH.nil
          have c8 := T2.pb.c8
          dsimp only at c8
          go_simp
          refine hK.out _ _ ?_ (fun hHeld => ?_)
          · exact hS _ (HB2)
          (try clear c8)
          (try clear hK K)
          obtain ⟨aq, cq, hlq⟩ := hqn.row.slice
          obtain ⟨m, hown, hsz, hnext⟩ := CLb.owns HK.out HB.out.2.2 (wb := w1.alloc (pobj q 26)) (on ((Below.refl _ _).drew.trans hb1) (alloc1 _ _))
          refine wpAnyH_ready (rs := [8]) (by kernel_rfl) (by simp) ?_
          refine AllReadyH.cons rfl (fun K hK => ?_) AllReadyH.nil
          refine step_append_own_at rfl (.tmp 15) (.tmp 21) 24 rfl (w.heap.size + 1 + 1) TP i0 _ 9 104 Try.underlying24 I0.out.1 I0.out.2.1 I0.out.2.2.1 I0.out.2.2.2 rfl (by decide) own k (m.flatMap PT.cells) rfl hown ⟨w1.heap.size, 0, none⟩ 1 1 q.cells rfl rfl (new_cells w1 q _) (one_cells q _ _ _ hlq) ?_ ?_ hsz ?_
          · unfold maxLen; omega
          · omega
          intro v' w2 hown' hgrow hat
          obtain ⟨hcl, hsv⟩ := hnext q wr.drew w2 v' h1 (Nat.le_refl _) hqb (hqn.keep (alloc1 _ _)) hown' hgrow (by simpa using hat)
          have T3 := T2.sv hsv (by omega) (by omega)
          have HB3 : Below w.heap.size w w2 := HB2.trans (hsv.below (Nat.le_trans (by omega) HB2.size) fun b hb hx => by omega)
          have HZ3 : w.heap.size + 1 + 1 ≤ w2.heap.size := Nat.le_trans hsz hsv.size
          obtain ⟨av, nv, cv, hv'⟩ := hcl.slice
          refine hK.out _ _ ?_ (fun hHeld => ?_)
          · exact hS _ (HB3)
          clear hK K
          (try clear hK K)
          refine wpAnyH_take (i := 9) (v := ?_) rfl (by kernel_rfl) (by kernel_rfl) (by kernel_rfl) (fun _ _ _ h => h) (Or.inl ⟨by rfl, ?_⟩) (by assumption) ?_
          rotate_left
          · intro w hSw; (try dsimp only at hSw); go_simp; (try with_reducible rfl)
          (try simp only [Act.put, List.getElem_toArray, List.getElem_cons_succ, List.getElem_cons_zero, List.setIfInBounds_toArray, List.set_cons_zero, List.set_cons_succ])
          have c8 := T3.pb.c8
          have f8 := T3.f0 8
          dsimp only at c8
          subst hv'
          refine wpAnyH_ready (rs := [10]) (by kernel_rfl) (by simp) ?_
          refine AllReadyH.cons rfl (fun K hK => ?_) AllReadyH.nil
          go_simp
          have T4 := T3.set (.slice av nv cv)
          have HB4 : Below w.heap.size w (w2.setCell ⟨w.heap.size, 8, none⟩ (.slice av nv cv)) := HB3.setCell (Nat.le_refl _) _
          have hcl4 : CLb (w.heap.size + 1 + 1) (w2.setCell ⟨w.heap.size, 8, none⟩ (.slice av nv cv)) TP p.l (k + 1) (.slice av nv cv) := hcl.sv (Sv.set (X := fun b => b = w.heap.size) (Sv.refl _ w2) (a := ⟨w.heap.size, 8, none⟩) (show w.heap.size = w.heap.size from rfl) _) fun b hb e => by omega
          refine hK.out _ _ ?_ (fun hHeld => ?_)
          · exact hS _ (HB4)
          clear hK K c8 f8
          refine wpAnyH_done (by kernel_rfl) ?_ _
          have HC4 : Hid (CLb (w.heap.size + 1 + 1) (w2.setCell ⟨w.heap.size, 8, none⟩ (.slice av nv cv)) TP p.l (k + 1) (.slice av nv cv)) := hcl4
          have HT4 : Hid (Below w.heap.size w (w2.setCell ⟨w.heap.size, 8, none⟩ (.slice av nv cv)) ∧ TW w.heap.size p (.slice av nv cv) (w2.setCell ⟨w.heap.size, 8, none⟩ (.slice av nv cv)) ∧ w.heap.size + 1 + 1 ≤ (w2.setCell ⟨w.heap.size, 8, none⟩ (.slice av nv cv)).heap.size) := ⟨HB4, T4, by simpa [World.setCell] using HZ3⟩
          clear hcl4 T4 HB4 HZ3 HB3 T3 hcl hsv hown' hgrow hat hnext hsz hown hlq T2 HB2 T1 HB1 hqb hqn hb1 T0 HBd hHeld HQ hS HK HB
          generalize w2.setCell ⟨w.heap.size, 8, none⟩ (.slice av nv cv) = w3 at *
          go_wp2_with fail
          go_roundw
          case rel => exact ⟨k + 1, _, by omega, by go_num, HC4, HT4⟩
          case measure => simp [intOf]; omega
    · have j1 : decide ((k : Int) < (p.l.length : Int)) = false := by simp; omega
      obtain rfl : k = p.l.length := by omega
      obtain ⟨m, hm1, hm2⟩ := CLb.done HK.out
      have HM : Hid (m.map PT.bare = p.l.map PT.bare ∧ NewL wr TP (fun b => w.heap.size + 1 + 1 ≤ b) own m) := ⟨hm1, hm2⟩
      have HV : Hid (p.v.s.size ≤ maxLen ∧ p.w.s.size ≤ maxLen) := ⟨HI.out.1.sv, HI.out.1.sw⟩
      obtain ⟨av, cv, hv⟩ := hm2.slice
      have T0 := HB.out.2.1
      obtain ⟨b0, b1, b2, b3, b4, b5, b6, b7, b8⟩ := T0.pb
      obtain ⟨z0, z1, z2, z3, z4, z5, z6, z7, z8⟩ := T0.z
      have f0 := T0.f0
      have f1 := T0.f1
      dsimp only [PT.zero, Val.zero] at b0 b1 b2 b3 b4 b5 b6 b7 b8 z0 z1 z2 z3 z4 z5 z6 z7 z8
      have HBw : Hid (Below w.heap.size w wr) := HB.out.1
      clear hm1 hm2 T0 HB HK HI
      subst hv
      go_wp2_with fail
      refine bodyPost_ret (v := (PT.mk p.op p.col p.v p.w (.slice av m.length cv) m).val) (by simp [results, Try.results21, go_sem, PT.val, z0, z1, z2, z3, z4, z5, z6, z7, z8]) rfl ⟨_, rfl, bare_of HM.out.1, ?_, ?_⟩
      · obtain ⟨_, h1, h2, h3⟩ := HM.out
        refine .mk HV.out.1 HV.out.2 (owns_sv (X := fun b => b ≤ w.heap.size + 1) h1 ?_ fun g hg => by have := h2 g hg; omega) (fun g hg => by have := h2 g hg; omega) fun q hq => ((h3 q hq).sv (X := fun b => b ≤ w.heap.size + 1) ?_ fun b hb => by omega).imp fun b hb _ => by omega
        all_goals
          repeat (refine Sv.set ?_ (by simp) _)
          exact Sv.refl _ _
      · repeat (refine Below.setCell ?_ (by simp) _)
        exact HBw.out
theorem twin_ok (p : PT) : CloneOk 21 p := by
  induction p using PT.ind with
  | h p ih => exact twin_step p ih
end Go.Proofs.Ytnfageikacfdoaa.Val
