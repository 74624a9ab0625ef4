/- The walk of the law ClaimImages. -/
import Derived.Test.YtkkbbpldeeajaaaDoorUIM
import Derived.Test.YtkkbbpldeeajaaaDoorUC3
import Derived.Test.YtkkbbpldeeajaaaDoorULr
import Derived.Deep.RegionHeld3
import Derived.Test.YtkkbbpldeeajaaaDoorUF
import Derived.Test.YtkkbbpldeeajaaaDoorUC2
namespace Go.Proofs.YtkkbbpldeeajaaaDoor.Val
open Go.RowKit
set_option maxRecDepth 100000

set_option maxHeartbeats 8000000 in
theorem cimages_walk (a b : CP) (w : World) (hT : TabC w) (ha : CIn w a) (hb : CIn w b) : Tells 10 #[a.val, b.val] w (.bool true) := by
  obtain ⟨i0, hi, hz0, hz1, hz2⟩ := info_parts info_R
  have I0 : Hid (Tryd.prog.info? 43 = some i0 ∧ i0.zero = some (.slice none 0 0) ∧ i0.size = 1 ∧ i0.bytes = 24) := ⟨hi, hz0, hz1, hz2⟩
  obtain ⟨s, hs⟩ := some_b (a.p.bare = b.p.bare)
  obtain ⟨t, ht⟩ := some_b (b.p.bare = a.p.bare)
  have HW : Hid (∀ w1, Below w.heap.size w w1 → Tells 11 #[] w1 (.bool true)) := fun w1 h => awake_any w1 (hT.below h)
  have HA : Hid (∀ w1, Below w.heap.size w w1 → Calls Tryd.prog 12 #[a.val] w1 fun e w' => ∃ q, e = .returned (.bool q) ∧ (q = true → FewC a) ∧ Below w1.heap.size w1 w') := fun w1 h => few_any a w1 (ha.below h)
  have HB : Hid (∀ w1, Below w.heap.size w w1 → Calls Tryd.prog 12 #[b.val] w1 fun e w' => ∃ q, e = .returned (.bool q) ∧ (q = true → FewC b) ∧ Below w1.heap.size w1 w') := fun w1 h => few_any b w1 (hb.below h)
  have HC1 : Hid (∀ v w1, Below w.heap.size w w1 → CIn w1 (turnedC a v) → Tells 17 #[(turnedC a v).val, b.val] w1 (.bool (conflictC a b))) := fun v w1 h hi => by rw [← turned_conflict a b v]; exact conflict_any _ b w1 (hT.below h) hi (hb.below h)
  have HC2 : Hid (∀ w1, Below w.heap.size w w1 → Tells 17 #[a.val, b.val] w1 (.bool (conflictC a b))) := fun w1 h => conflict_any a b w1 (hT.below h) (ha.below h) (hb.below h)
  have HV1 : Hid (∀ v w1, Below w.heap.size w w1 → CIn w1 (turnedC a v) → Tells 19 #[(turnedC a v).val, b.val] w1 (.bool (coversC s a b))) := fun v w1 h hi => by rw [← turned_covers s a b v]; exact ccovers_any (turnedC a v) b s hs w1 (hT.below h) hi (hb.below h)
  have HV2 : Hid (∀ w1, Below w.heap.size w w1 → Tells 19 #[a.val, b.val] w1 (.bool (coversC s a b))) := fun w1 h => ccovers_any a b s hs w1 (hT.below h) (ha.below h) (hb.below h)
  have HU1 : Hid (∀ v w1, Below w.heap.size w w1 → CIn w1 (turnedC a v) → Tells 19 #[b.val, (turnedC a v).val] w1 (.bool (coversC t b a))) := fun v w1 h hi => by rw [← turned_covered t a b v]; exact ccovers_any b (turnedC a v) t ht w1 (hT.below h) (hb.below h) hi
  have HU2 : Hid (∀ w1, Below w.heap.size w w1 → Tells 19 #[b.val, a.val] w1 (.bool (coversC t b a))) := fun w1 h => ccovers_any b a t ht w1 (hT.below h) (hb.below h) (ha.below h)
  have HI : Hid (CIn w a) := ha
  have HO : Hid (OneC a) := ha.one
  have HN : Hid (AB w ((w.alloc (cobj a TC)).alloc (cobj b TC)) a b) := AB.new w a b
  obtain ⟨ai, ci, hiv, hn⟩ := ha.ims.slice
  have HE : Hid (a.iv = .slice ai a.ims.length ci) := hiv
  have HIM : Hid (ImsIn w (.slice ai a.ims.length ci) a.ims) := hiv ▸ ha.ims
  generalize conflictC a b = u1 at *
  generalize coversC s a b = u2 at *
  generalize coversC t b a = u3 at *
  clear hs ht hT ha hb hiv hi hz0 hz1 hz2
  unfold cobj at HN
  unfold CP.val
  go_enter Tryd.func10, Tryd.ntmps10
  go_wp2_with fail
  refine Calls.mono (HW.out _ HN.out.bel) ?_
  rintro e w1 ⟨rfl, hb1⟩
  have H1 : Hid (AB w w1 a b) := HN.out.below hb1
  clear hb1 HN HW
  go_wp2_with (first | (refine step_cload rfl _ rfl w.heap.size a rfl H1.out.ca ?_) | fail)
  refine Calls.mono (HA.out _ H1.out.bel) ?_
  rintro e w2 ⟨qa, rfl, hfa, hb2⟩
  have H2 : Hid (AB w w2 a b) := H1.out.below hb2
  have HFA : Hid (qa = true → FewC a) := hfa
  clear hb2 hfa H1 HA
  go_wp2_with (first | (refine step_cload rfl _ rfl (w.heap.size + 1) b rfl H2.out.cb ?_) | fail)
  refine Calls.mono (HB.out _ H2.out.bel) ?_
  rintro e w3 ⟨qb, rfl, -, hb3⟩
  have H3 : Hid (AB w w3 a b) := H2.out.below hb3
  clear hb3 H2 HB
  cases qa
  · go_wp2_with fail
    go_ret
    exact ⟨rfl, H3.out.bel⟩
  cases qb
  · go_wp2_with fail
    go_ret
    exact ⟨rfl, H3.out.bel⟩
  have hfew : a.ims.length ≤ 20 := (HFA.out rfl).n
  clear HFA
  have HS : Hid (∀ w4, CB w4 w3.heap.size a → Sv (fun k => k = w3.heap.size) (w3.alloc (cobj zeroC TC)) w4 → IX w (w4.setCell ⟨w3.heap.size, 6, none⟩ (.slice none 0 0)) a b w3.heap.size (.slice none 0 0) [] ∧ w4.cell? ⟨w3.heap.size, 6, none⟩ = some a.iv ∧ ∀ j, w4.frozen? ⟨w3.heap.size, j, none⟩ = false) := fun w4 h1 h2 => by
    have hab := H3.out.below (new_store h2)
    exact ⟨IX.put hab h1 (by have := H3.out.cb.lt; omega) (World.ownsRow_nil _ _ _ _), h1.cell 6, fun j => h1.free j⟩
  have HX3 := H3
  clear H3
  go_wp2_with (first
    | (refine step_cload rfl _ rfl w.heap.size a rfl HX3.out.ca ?_)
    | (refine step_cstore rfl _ _ rfl w3.heap.size a zeroC rfl rfl HO.out (CB.new w3 zeroC) ?_; intro w4 h1 h2
       obtain ⟨h41, c6, f6⟩ := HS.out w4 h1 h2
       have H4 : Hid _ := h41
       have t6 : (w4.setCell ⟨w3.heap.size, 6, none⟩ (.slice none 0 0)).cell? ⟨w.heap.size, 6, none⟩ = some (.slice ai a.ims.length ci) := by have := h41.ab.ca.box.c6; rwa [HE.out] at this
       clear h1 h2 HS h41)
    | fail)
  generalize w3.heap.size = C at *
  generalize w4.setCell ⟨C, 6, none⟩ (.slice none 0 0) = w5 at *
  go_loopw [9] (fun i wr => ∃ (k : Nat) (own : Value), k ≤ a.ims.length ∧ i = .int .i64 ((k : Int) - 1) ∧ Hid (IX w wr a b C own (a.ims.reverse.take (a.ims.length - k))))
    (fun i _ => (intOf i + 1).toNat)
  case atStart => exact ⟨a.ims.length, _, Nat.le_refl _, by go_num, by rw [Nat.sub_self, List.take_zero]; exact H4⟩
  case round =>
    clear H4 t6
    obtain ⟨k, own, hk, rfl, HX⟩ := hrel
    cases k with
    | succ j =>
      have hj : j < a.ims.length := hk
      have e1 : ((j + 1 : Nat) : Int) - 1 = (j : Int) := by omega
      have j0 : (0 : Int) ≤ (j : Int) := by omega
      have j1 : (j : Int) < (a.ims.length : Int) := by omega
      rw [e1]
      obtain ⟨b1, o, rfl, hat0⟩ := HIM.out.at j hj
      obtain ⟨ak, ck, hvk, _⟩ := (HIM.out.2 _ (List.getElem_mem hj)).slice
      have HSB : Hid (∀ w', AB w w' a b → w'.cell? ⟨w.heap.size, 6, none⟩ = some (.slice (some ⟨b1, o, none⟩) a.ims.length ci) ∧ w'.cell? ⟨b1, o + j, none⟩ = some (.slice ak a.ims[j].r.length ck)) := fun w' h => by
        refine ⟨by have := h.ca.box.c6; rwa [HE.out] at this, ?_⟩
        rw [← hvk, h.bel.cell (World.block_lt_of_cell? w _ hat0)]
        exact hat0
      have HD0 : Hid (IX w wr.drew a b C own (a.ims.reverse.take (a.ims.length - (j + 1)))) := HX.out.below (Below.refl _ _).drew
      have HML : Hid ((a.ims.reverse.take (a.ims.length - (j + 1))).length ≤ 40) := by
        have h1 : a.ims.length ≤ 20 := hfew
        show _ ≤ _
        simp only [List.length_take, List.length_reverse]
        omega
      have hvk' : a.ims[j].v = .slice ak a.ims[j].r.length ck := hvk
      have HVK : Hid (a.ims[j].v = .slice ak a.ims[j].r.length ck) := hvk
      clear hat0 HX hvk hvk'
      go_wp2_with fail
      refine wp_region_held_drew (S := fun w' => w'.cell? ⟨w.heap.size, 6, none⟩ = some (.slice (some ⟨b1, o, none⟩) a.ims.length ci) ∧ w'.cell? ⟨b1, o + j, none⟩ = some (.slice ak a.ims[j].r.length ck)) (by kernel_rfl) ?_ (fun hHeld => ?_)
      · exact HSB.out _ HD0.out.ab
      generalize wr.drew = wd at *
      have HD : Hid (IX w wd a b C own (a.ims.reverse.take (a.ims.length - (j + 1)))) := HD0.out
      have HY : Hid (IX w (wd.alloc (.cells #[.slice ak a.ims[j].r.length ck] TRo)) a b C own (a.ims.reverse.take (a.ims.length - (j + 1)))) := HD.out.below (alloc1 _ _)
      have HCL : Hid (∀ jj u, [a.ims[j].v][jj]? = some u → (wd.alloc (.cells #[.slice ak a.ims[j].r.length ck] TRo)).cell? ((⟨wd.heap.size, 0, none⟩ : Addr).add jj) = some u) := fun jj u hjj => by
        match jj, hjj with
        | 0, hjj => rw [HVK.out] at hjj; simpa [Addr.add_lit, go_sem] using hjj
      have HOC : Hid (∀ u ∈ [a.ims[j].v], u.oneCell' = true) := fun u hu => by
        rw [List.mem_singleton] at hu
        rw [hu, HVK.out]; rfl
      clear HD0
      (try clear hK K)
      refine wpAnyH_take (i := 0) (v := ?_) rfl (by kernel_rfl) (by kernel_rfl) (by kernel_rfl) (fun _ _ _ h => h) (Or.inl ⟨by rfl, ?_⟩) (by assumption) ?_
      rotate_left
      · intro w hSw; (try dsimp only at hSw); go_simp; (try with_reducible rfl)
      (try simp only [Act.put, List.getElem_toArray, List.getElem_cons_zero, List.setIfInBounds_toArray, List.set_cons_zero, List.set_cons_succ])
      refine wpAnyH_take (i := 2) (v := ?_) rfl (by kernel_rfl) (by kernel_rfl) (by kernel_rfl) (fun _ _ _ h => h) (Or.inl ⟨by rfl, ?_⟩) (by assumption) ?_
      rotate_left
      · intro w hSw; (try dsimp only at hSw); go_simp; (try with_reducible rfl)
      (try simp only [Act.put, List.getElem_toArray, List.getElem_cons_succ, List.getElem_cons_zero, List.setIfInBounds_toArray, List.set_cons_zero, List.set_cons_succ])
      refine wpAnyH_take (i := 3) (v := ?_) rfl (by kernel_rfl) (by kernel_rfl) (by kernel_rfl) (fun _ _ _ h => h) (Or.inl ⟨by rfl, ?_⟩) (by assumption) ?_
      rotate_left
      · intro w hSw; (try dsimp only at hSw); go_simp; (try with_reducible rfl)
      (try simp only [Act.put, List.getElem_toArray, List.getElem_cons_succ, List.getElem_cons_zero, List.setIfInBounds_toArray, List.set_cons_zero, List.set_cons_succ])
      refine wpAnyH_take (i := 4) (v := ?_) rfl (by kernel_rfl) (by kernel_rfl) (by kernel_rfl) (fun _ _ _ h => h) (Or.inl ⟨by rfl, ?_⟩) (by assumption) ?_
      rotate_left
      · intro w hSw; (try dsimp only at hSw); go_simp; (try with_reducible rfl)
      (try simp only [Act.put, List.getElem_toArray, List.getElem_cons_succ, List.getElem_cons_zero, List.setIfInBounds_toArray, List.set_cons_zero, List.set_cons_succ])
      refine wpAnyH_take (i := 5) (v := ?_) rfl (by kernel_rfl) (by kernel_rfl) (by kernel_rfl) (fun _ _ _ h => h) (Or.inl ⟨by rfl, ?_⟩) (by assumption) ?_
      rotate_left
      · intro w hSw; (try dsimp only at hSw); go_simp; (try with_reducible rfl)
      (try simp only [Act.put, List.getElem_toArray, List.getElem_cons_succ, List.getElem_cons_zero, List.setIfInBounds_toArray, List.set_cons_zero, List.set_cons_succ])
      refine wpAnyH_take (i := 6) (v := ?_) rfl (by kernel_rfl) (by kernel_rfl) (by kernel_rfl) (fun _ _ _ h => h) (Or.inl ⟨by rfl, ?_⟩) (by assumption) ?_
      rotate_left
      · intro w hSw; (try dsimp only at hSw); go_simp; (try with_reducible rfl)
      (try simp only [Act.put, List.getElem_toArray, List.getElem_cons_succ, List.getElem_cons_zero, List.setIfInBounds_toArray, List.set_cons_zero, List.set_cons_succ])
      refine wpAnyH_ready (rs := [1, 7]) (by kernel_rfl) (by simp) ?_
      refine AllReadyH.cons rfl (fun K hK => ?_) (AllReadyH.cons rfl (fun K hK => ?_) AllReadyH.nil)
      · have c6 : wd.cell? ⟨C, 6, none⟩ = some own := HD.out.cc.cell 6
        go_simp
        refine hK.out _ _ ?_ (fun hHeld => ?_)
        · exact HSB.out _ HD.out.ab
        (try clear c6)
        refine wpAnyH_ready (rs := [7]) (by kernel_rfl) (by simp) ?_
        refine AllReadyH.cons rfl (fun K hK => ?_) AllReadyH.nil
        go_simp
        refine hK.out _ _ ?_ (fun hHeld => ?_)
        · exact HSB.out _ HY.out.ab
        (try clear hK K)
        have hown := HY.out.own
        have hsz := HY.out.size
        refine wpAnyH_ready (rs := [8]) (by kernel_rfl) (by simp) ?_
        refine AllReadyH.cons rfl (fun K hK => ?_) AllReadyH.nil
        refine step_append_own_at rfl (.tmp 35) (.tmp 41) 26 rfl (w.heap.size + 2) TRo i0 _ 1 24 Tryd.underlying26 I0.out.1 I0.out.2.1 I0.out.2.2.1 I0.out.2.2.2 rfl (by decide) own (a.ims.reverse.take (a.ims.length - (j + 1))).length ((a.ims.reverse.take (a.ims.length - (j + 1))).map Im.v) rfl hown ⟨wd.heap.size, 0, none⟩ 1 1 [a.ims[j].v] rfl rfl HCL.out HOC.out ?_ ?_ hsz ?_
        · have := HML.out; unfold maxLen; omega
        · have := HML.out; omega
        intro v' w2 hown' hgrow _
        obtain ⟨hab2, hcc2, hbel2⟩ := HY.out.grown hgrow
        have hS2 := HSB.out w2 hab2
        have HP : Hid (IX w (w2.setCell ⟨C, 6, none⟩ v') a b C v' ((a.ims.reverse.take (a.ims.length - (j + 1))) ++ [a.ims[j]])) := IX.put hab2 hcc2 HY.out.lo (own_snoc hown')
        have c6 : w2.cell? ⟨C, 6, none⟩ = some own := hcc2.cell 6
        have f6 : w2.frozen? ⟨C, 6, none⟩ = false := hcc2.free 6
        have hone : v'.oneCell' = true := by
          rcases hown'.2 with ⟨rfl, _⟩ | ⟨g, cap, cur, rfl, _⟩ <;> rfl
        have hSP := HSB.out _ HP.out.ab
        obtain ⟨av, nv, cv, rfl⟩ : ∃ av nv cv, v' = .slice av nv cv := by
          rcases hown'.2 with ⟨rfl, _⟩ | ⟨g, cap, cur, rfl, _⟩ <;> exact ⟨_, _, _, rfl⟩
        clear hab2 hcc2 hbel2 hown' hgrow hown hsz hone
        refine hK.out _ _ ?_ (fun hHeld => ?_)
        · exact hS2
        clear hK K hS2
        (try clear hK K)
        refine wpAnyH_take (i := 9) (v := ?_) rfl (by kernel_rfl) (by kernel_rfl) (by kernel_rfl) (fun _ _ _ h => h) (Or.inl ⟨by rfl, ?_⟩) (by assumption) ?_
        rotate_left
        · intro w hSw; (try dsimp only at hSw); go_simp; (try with_reducible rfl)
        (try simp only [Act.put, List.getElem_toArray, List.getElem_cons_succ, List.getElem_cons_zero, List.setIfInBounds_toArray, List.set_cons_zero, List.set_cons_succ])
        refine wpAnyH_ready (rs := [10]) (by kernel_rfl) (by simp) ?_
        refine AllReadyH.cons rfl (fun K hK => ?_) AllReadyH.nil
        go_simp
        refine hK.out _ _ ?_ (fun hHeld => ?_)
        · exact hSP
        clear hK K c6 f6 hSP
        refine wpAnyH_done (by kernel_rfl) ?_ _
        clear hHeld HY HSB HCL HOC
        generalize w2.setCell ⟨C, 6, none⟩ (.slice av nv cv) = w5 at *
        go_wp2_with fail
        go_roundw
        case rel => exact ⟨j, _, by omega, by go_num, by rw [rev_take _ _ hj]; exact HP⟩
        case measure => simp [intOf]
      · go_simp
        refine hK.out _ _ ?_ (fun hHeld => ?_)
        · exact HSB.out _ HY.out.ab
        refine wpAnyH_ready (rs := [1]) (by kernel_rfl) (by simp) ?_
        refine AllReadyH.cons rfl (fun K hK => ?_) AllReadyH.nil
        have c6 : (wd.alloc (.cells #[.slice ak a.ims[j].r.length ck] TRo)).cell? ⟨C, 6, none⟩ = some own := HY.out.cc.cell 6
        go_simp
        refine hK.out _ _ ?_ (fun hHeld => ?_)
        · exact HSB.out _ HY.out.ab
        (try clear c6)
        (try clear hK K)
        have hown := HY.out.own
        have hsz := HY.out.size
        refine wpAnyH_ready (rs := [8]) (by kernel_rfl) (by simp) ?_
        refine AllReadyH.cons rfl (fun K hK => ?_) AllReadyH.nil
        refine step_append_own_at rfl (.tmp 35) (.tmp 41) 26 rfl (w.heap.size + 2) TRo i0 _ 1 24 Tryd.underlying26 I0.out.1 I0.out.2.1 I0.out.2.2.1 I0.out.2.2.2 rfl (by decide) own (a.ims.reverse.take (a.ims.length - (j + 1))).length ((a.ims.reverse.take (a.ims.length - (j + 1))).map Im.v) rfl hown ⟨wd.heap.size, 0, none⟩ 1 1 [a.ims[j].v] rfl rfl HCL.out HOC.out ?_ ?_ hsz ?_
        · have := HML.out; unfold maxLen; omega
        · have := HML.out; omega
        intro v' w2 hown' hgrow _
        obtain ⟨hab2, hcc2, hbel2⟩ := HY.out.grown hgrow
        have hS2 := HSB.out w2 hab2
        have HP : Hid (IX w (w2.setCell ⟨C, 6, none⟩ v') a b C v' ((a.ims.reverse.take (a.ims.length - (j + 1))) ++ [a.ims[j]])) := IX.put hab2 hcc2 HY.out.lo (own_snoc hown')
        have c6 : w2.cell? ⟨C, 6, none⟩ = some own := hcc2.cell 6
        have f6 : w2.frozen? ⟨C, 6, none⟩ = false := hcc2.free 6
        have hone : v'.oneCell' = true := by
          rcases hown'.2 with ⟨rfl, _⟩ | ⟨g, cap, cur, rfl, _⟩ <;> rfl
        have hSP := HSB.out _ HP.out.ab
        obtain ⟨av, nv, cv, rfl⟩ : ∃ av nv cv, v' = .slice av nv cv := by
          rcases hown'.2 with ⟨rfl, _⟩ | ⟨g, cap, cur, rfl, _⟩ <;> exact ⟨_, _, _, rfl⟩
        clear hab2 hcc2 hbel2 hown' hgrow hown hsz hone
        refine hK.out _ _ ?_ (fun hHeld => ?_)
        · exact hS2
        clear hK K hS2
        (try clear hK K)
        refine wpAnyH_take (i := 9) (v := ?_) rfl (by kernel_rfl) (by kernel_rfl) (by kernel_rfl) (fun _ _ _ h => h) (Or.inl ⟨by rfl, ?_⟩) (by assumption) ?_
        rotate_left
        · intro w hSw; (try dsimp only at hSw); go_simp; (try with_reducible rfl)
        (try simp only [Act.put, List.getElem_toArray, List.getElem_cons_succ, List.getElem_cons_zero, List.setIfInBounds_toArray, List.set_cons_zero, List.set_cons_succ])
        refine wpAnyH_ready (rs := [10]) (by kernel_rfl) (by simp) ?_
        refine AllReadyH.cons rfl (fun K hK => ?_) AllReadyH.nil
        go_simp
        refine hK.out _ _ ?_ (fun hHeld => ?_)
        · exact hSP
        clear hK K c6 f6 hSP
        refine wpAnyH_done (by kernel_rfl) ?_ _
        clear hHeld HY HSB HCL HOC
        generalize w2.setCell ⟨C, 6, none⟩ (.slice av nv cv) = w5 at *
        go_wp2_with fail
        go_roundw
        case rel => exact ⟨j, _, by omega, by go_num, by rw [rev_take _ _ hj]; exact HP⟩
        case measure => simp [intOf]
    | zero =>
      have e1 : ((0 : Nat) : Int) - 1 = -1 := by omega
      rw [e1]
      have HX1 : Hid (IX w wr a b C own (a.ims.reverse ++ a.ims.take 0)) := by
        have h := HX.out
        rw [Nat.sub_zero, ← List.length_reverse, List.take_length] at h
        rw [List.take_zero, List.append_nil]
        exact h
      clear HX
      go_wp2_with fail
      go_loopw [10] (fun i wr => ∃ (k : Nat) (own : Value), k ≤ a.ims.length ∧ i = .int .i64 k ∧ Hid (IX w wr a b C own (a.ims.reverse ++ a.ims.take k)))
        (fun i _ => a.ims.length - (intOf i).toNat)
      case atStart => exact ⟨0, _, Nat.zero_le _, rfl, HX1⟩
      case round =>
        clear HX1
        obtain ⟨j, own, hk, rfl, HX⟩ := hrel
        have t6 : wr.cell? ⟨w.heap.size, 6, none⟩ = some (.slice ai a.ims.length ci) := by have := HX.out.ab.ca.box.c6; rwa [HE.out] at this
        by_cases hj : j < a.ims.length
        · have j0 : (0 : Int) ≤ (j : Int) := by omega
          have j1 : (j : Int) < (a.ims.length : Int) := by omega
          obtain ⟨b1, o, rfl, hat0⟩ := HIM.out.at j hj
          obtain ⟨ak, ck, hvk, _⟩ := (HIM.out.2 _ (List.getElem_mem hj)).slice
          have HSB : Hid (∀ w', AB w w' a b → w'.cell? ⟨w.heap.size, 6, none⟩ = some (.slice (some ⟨b1, o, none⟩) a.ims.length ci) ∧ w'.cell? ⟨b1, o + j, none⟩ = some (.slice ak a.ims[j].r.length ck)) := fun w' h => by
            refine ⟨by have := h.ca.box.c6; rwa [HE.out] at this, ?_⟩
            rw [← hvk, h.bel.cell (World.block_lt_of_cell? w _ hat0)]
            exact hat0
          have HD0 : Hid (IX w wr.drew a b C own (a.ims.reverse ++ a.ims.take j)) := HX.out.below (Below.refl _ _).drew
          have HML : Hid ((a.ims.reverse ++ a.ims.take j).length ≤ 40) := by
            have h1 : a.ims.length ≤ 20 := hfew
            show _ ≤ _
            simp only [List.length_append, List.length_take, List.length_reverse]
            omega
          have hvk' : a.ims[j].v = .slice ak a.ims[j].r.length ck := hvk
          have HVK : Hid (a.ims[j].v = .slice ak a.ims[j].r.length ck) := hvk
          clear hat0 HX hvk hvk'
          go_wp2_with fail
          refine wp_region_held_drew (S := fun w' => w'.cell? ⟨w.heap.size, 6, none⟩ = some (.slice (some ⟨b1, o, none⟩) a.ims.length ci) ∧ w'.cell? ⟨b1, o + j, none⟩ = some (.slice ak a.ims[j].r.length ck)) (by kernel_rfl) ?_ (fun hHeld => ?_)
          · exact HSB.out _ HD0.out.ab
          generalize wr.drew = wd at *
          have HD : Hid (IX w wd a b C own (a.ims.reverse ++ a.ims.take j)) := HD0.out
          have HY : Hid (IX w (wd.alloc (.cells #[.slice ak a.ims[j].r.length ck] TRo)) a b C own (a.ims.reverse ++ a.ims.take j)) := HD.out.below (alloc1 _ _)
          have HCL : Hid (∀ jj u, [a.ims[j].v][jj]? = some u → (wd.alloc (.cells #[.slice ak a.ims[j].r.length ck] TRo)).cell? ((⟨wd.heap.size, 0, none⟩ : Addr).add jj) = some u) := fun jj u hjj => by
            match jj, hjj with
            | 0, hjj => rw [HVK.out] at hjj; simpa [Addr.add_lit, go_sem] using hjj
          have HOC : Hid (∀ u ∈ [a.ims[j].v], u.oneCell' = true) := fun u hu => by
            rw [List.mem_singleton] at hu
            rw [hu, HVK.out]; rfl
          clear HD0
          (try clear hK K)
          refine wpAnyH_take (i := 0) (v := ?_) rfl (by kernel_rfl) (by kernel_rfl) (by kernel_rfl) (fun _ _ _ h => h) (Or.inl ⟨by rfl, ?_⟩) (by assumption) ?_
          rotate_left
          · intro w hSw; (try dsimp only at hSw); go_simp; (try with_reducible rfl)
          (try simp only [Act.put, List.getElem_toArray, List.getElem_cons_zero, List.setIfInBounds_toArray, List.set_cons_zero, List.set_cons_succ])
          refine wpAnyH_take (i := 2) (v := ?_) rfl (by kernel_rfl) (by kernel_rfl) (by kernel_rfl) (fun _ _ _ h => h) (Or.inl ⟨by rfl, ?_⟩) (by assumption) ?_
          rotate_left
          · intro w hSw; (try dsimp only at hSw); go_simp; (try with_reducible rfl)
          (try simp only [Act.put, List.getElem_toArray, List.getElem_cons_succ, List.getElem_cons_zero, List.setIfInBounds_toArray, List.set_cons_zero, List.set_cons_succ])
          refine wpAnyH_take (i := 3) (v := ?_) rfl (by kernel_rfl) (by kernel_rfl) (by kernel_rfl) (fun _ _ _ h => h) (Or.inl ⟨by rfl, ?_⟩) (by assumption) ?_
          rotate_left
          · intro w hSw; (try dsimp only at hSw); go_simp; (try with_reducible rfl)
          (try simp only [Act.put, List.getElem_toArray, List.getElem_cons_succ, List.getElem_cons_zero, List.setIfInBounds_toArray, List.set_cons_zero, List.set_cons_succ])
          refine wpAnyH_take (i := 4) (v := ?_) rfl (by kernel_rfl) (by kernel_rfl) (by kernel_rfl) (fun _ _ _ h => h) (Or.inl ⟨by rfl, ?_⟩) (by assumption) ?_
          rotate_left
          · intro w hSw; (try dsimp only at hSw); go_simp; (try with_reducible rfl)
          (try simp only [Act.put, List.getElem_toArray, List.getElem_cons_succ, List.getElem_cons_zero, List.setIfInBounds_toArray, List.set_cons_zero, List.set_cons_succ])
          refine wpAnyH_take (i := 5) (v := ?_) rfl (by kernel_rfl) (by kernel_rfl) (by kernel_rfl) (fun _ _ _ h => h) (Or.inl ⟨by rfl, ?_⟩) (by assumption) ?_
          rotate_left
          · intro w hSw; (try dsimp only at hSw); go_simp; (try with_reducible rfl)
          (try simp only [Act.put, List.getElem_toArray, List.getElem_cons_succ, List.getElem_cons_zero, List.setIfInBounds_toArray, List.set_cons_zero, List.set_cons_succ])
          refine wpAnyH_take (i := 6) (v := ?_) rfl (by kernel_rfl) (by kernel_rfl) (by kernel_rfl) (fun _ _ _ h => h) (Or.inl ⟨by rfl, ?_⟩) (by assumption) ?_
          rotate_left
          · intro w hSw; (try dsimp only at hSw); go_simp; (try with_reducible rfl)
          (try simp only [Act.put, List.getElem_toArray, List.getElem_cons_succ, List.getElem_cons_zero, List.setIfInBounds_toArray, List.set_cons_zero, List.set_cons_succ])
          refine wpAnyH_ready (rs := [1, 7]) (by kernel_rfl) (by simp) ?_
          refine AllReadyH.cons rfl (fun K hK => ?_) (AllReadyH.cons rfl (fun K hK => ?_) AllReadyH.nil)
          · have c6 : wd.cell? ⟨C, 6, none⟩ = some own := HD.out.cc.cell 6
            go_simp
            refine hK.out _ _ ?_ (fun hHeld => ?_)
            · exact HSB.out _ HD.out.ab
            (try clear c6)
            refine wpAnyH_ready (rs := [7]) (by kernel_rfl) (by simp) ?_
            refine AllReadyH.cons rfl (fun K hK => ?_) AllReadyH.nil
            go_simp
            refine hK.out _ _ ?_ (fun hHeld => ?_)
            · exact HSB.out _ HY.out.ab
            (try clear hK K)
            have hown := HY.out.own
            have hsz := HY.out.size
            refine wpAnyH_ready (rs := [8]) (by kernel_rfl) (by simp) ?_
            refine AllReadyH.cons rfl (fun K hK => ?_) AllReadyH.nil
            refine step_append_own_at rfl (.tmp 52) (.tmp 58) 26 rfl (w.heap.size + 2) TRo i0 _ 1 24 Tryd.underlying26 I0.out.1 I0.out.2.1 I0.out.2.2.1 I0.out.2.2.2 rfl (by decide) own (a.ims.reverse ++ a.ims.take j).length ((a.ims.reverse ++ a.ims.take j).map Im.v) rfl hown ⟨wd.heap.size, 0, none⟩ 1 1 [a.ims[j].v] rfl rfl HCL.out HOC.out ?_ ?_ hsz ?_
            · have := HML.out; unfold maxLen; omega
            · have := HML.out; omega
            intro v' w2 hown' hgrow _
            obtain ⟨hab2, hcc2, hbel2⟩ := HY.out.grown hgrow
            have hS2 := HSB.out w2 hab2
            have HP : Hid (IX w (w2.setCell ⟨C, 6, none⟩ v') a b C v' ((a.ims.reverse ++ a.ims.take j) ++ [a.ims[j]])) := IX.put hab2 hcc2 HY.out.lo (own_snoc hown')
            have c6 : w2.cell? ⟨C, 6, none⟩ = some own := hcc2.cell 6
            have f6 : w2.frozen? ⟨C, 6, none⟩ = false := hcc2.free 6
            have hone : v'.oneCell' = true := by
              rcases hown'.2 with ⟨rfl, _⟩ | ⟨g, cap, cur, rfl, _⟩ <;> rfl
            have hSP := HSB.out _ HP.out.ab
            obtain ⟨av, nv, cv, rfl⟩ : ∃ av nv cv, v' = .slice av nv cv := by
              rcases hown'.2 with ⟨rfl, _⟩ | ⟨g, cap, cur, rfl, _⟩ <;> exact ⟨_, _, _, rfl⟩
            clear hab2 hcc2 hbel2 hown' hgrow hown hsz hone
            refine hK.out _ _ ?_ (fun hHeld => ?_)
            · exact hS2
            clear hK K hS2
            (try clear hK K)
            refine wpAnyH_take (i := 9) (v := ?_) rfl (by kernel_rfl) (by kernel_rfl) (by kernel_rfl) (fun _ _ _ h => h) (Or.inl ⟨by rfl, ?_⟩) (by assumption) ?_
            rotate_left
            · intro w hSw; (try dsimp only at hSw); go_simp; (try with_reducible rfl)
            (try simp only [Act.put, List.getElem_toArray, List.getElem_cons_succ, List.getElem_cons_zero, List.setIfInBounds_toArray, List.set_cons_zero, List.set_cons_succ])
            refine wpAnyH_ready (rs := [10]) (by kernel_rfl) (by simp) ?_
            refine AllReadyH.cons rfl (fun K hK => ?_) AllReadyH.nil
            go_simp
            refine hK.out _ _ ?_ (fun hHeld => ?_)
            · exact hSP
            clear hK K c6 f6 hSP
            refine wpAnyH_done (by kernel_rfl) ?_ _
            clear hHeld HY HSB HCL HOC
            generalize w2.setCell ⟨C, 6, none⟩ (.slice av nv cv) = w5 at *
            go_wp2_with fail
            go_roundw
            case rel => exact ⟨j + 1, _, by omega, by go_num, by rw [for_take _ _ hj]; exact HP⟩
            case measure => simp [intOf]; omega
          · go_simp
            refine hK.out _ _ ?_ (fun hHeld => ?_)
            · exact HSB.out _ HY.out.ab
            refine wpAnyH_ready (rs := [1]) (by kernel_rfl) (by simp) ?_
            refine AllReadyH.cons rfl (fun K hK => ?_) AllReadyH.nil
            have c6 : (wd.alloc (.cells #[.slice ak a.ims[j].r.length ck] TRo)).cell? ⟨C, 6, none⟩ = some own := HY.out.cc.cell 6
            go_simp
            refine hK.out _ _ ?_ (fun hHeld => ?_)
            · exact HSB.out _ HY.out.ab
            (try clear c6)
            (try clear hK K)
            have hown := HY.out.own
            have hsz := HY.out.size
            refine wpAnyH_ready (rs := [8]) (by kernel_rfl) (by simp) ?_
            refine AllReadyH.cons rfl (fun K hK => ?_) AllReadyH.nil
            refine step_append_own_at rfl (.tmp 52) (.tmp 58) 26 rfl (w.heap.size + 2) TRo i0 _ 1 24 Tryd.underlying26 I0.out.1 I0.out.2.1 I0.out.2.2.1 I0.out.2.2.2 rfl (by decide) own (a.ims.reverse ++ a.ims.take j).length ((a.ims.reverse ++ a.ims.take j).map Im.v) rfl hown ⟨wd.heap.size, 0, none⟩ 1 1 [a.ims[j].v] rfl rfl HCL.out HOC.out ?_ ?_ hsz ?_
            · have := HML.out; unfold maxLen; omega
            · have := HML.out; omega
            intro v' w2 hown' hgrow _
            obtain ⟨hab2, hcc2, hbel2⟩ := HY.out.grown hgrow
            have hS2 := HSB.out w2 hab2
            have HP : Hid (IX w (w2.setCell ⟨C, 6, none⟩ v') a b C v' ((a.ims.reverse ++ a.ims.take j) ++ [a.ims[j]])) := IX.put hab2 hcc2 HY.out.lo (own_snoc hown')
            have c6 : w2.cell? ⟨C, 6, none⟩ = some own := hcc2.cell 6
            have f6 : w2.frozen? ⟨C, 6, none⟩ = false := hcc2.free 6
            have hone : v'.oneCell' = true := by
              rcases hown'.2 with ⟨rfl, _⟩ | ⟨g, cap, cur, rfl, _⟩ <;> rfl
            have hSP := HSB.out _ HP.out.ab
            obtain ⟨av, nv, cv, rfl⟩ : ∃ av nv cv, v' = .slice av nv cv := by
              rcases hown'.2 with ⟨rfl, _⟩ | ⟨g, cap, cur, rfl, _⟩ <;> exact ⟨_, _, _, rfl⟩
            clear hab2 hcc2 hbel2 hown' hgrow hown hsz hone
            refine hK.out _ _ ?_ (fun hHeld => ?_)
            · exact hS2
            clear hK K hS2
            (try clear hK K)
            refine wpAnyH_take (i := 9) (v := ?_) rfl (by kernel_rfl) (by kernel_rfl) (by kernel_rfl) (fun _ _ _ h => h) (Or.inl ⟨by rfl, ?_⟩) (by assumption) ?_
            rotate_left
            · intro w hSw; (try dsimp only at hSw); go_simp; (try with_reducible rfl)
            (try simp only [Act.put, List.getElem_toArray, List.getElem_cons_succ, List.getElem_cons_zero, List.setIfInBounds_toArray, List.set_cons_zero, List.set_cons_succ])
            refine wpAnyH_ready (rs := [10]) (by kernel_rfl) (by simp) ?_
            refine AllReadyH.cons rfl (fun K hK => ?_) AllReadyH.nil
            go_simp
            refine hK.out _ _ ?_ (fun hHeld => ?_)
            · exact hSP
            clear hK K c6 f6 hSP
            refine wpAnyH_done (by kernel_rfl) ?_ _
            clear hHeld HY HSB HCL HOC
            generalize w2.setCell ⟨C, 6, none⟩ (.slice av nv cv) = w5 at *
            go_wp2_with fail
            go_roundw
            case rel => exact ⟨j + 1, _, by omega, by go_num, by rw [for_take _ _ hj]; exact HP⟩
            case measure => simp [intOf]; omega
        · have j1 : decide ((j : Int) < (a.ims.length : Int)) = false := by simp; omega
          obtain rfl : j = a.ims.length := by omega
          rw [List.take_length] at HX
          have HZ : Hid (∀ w', IX w w' a b C own (a.ims.reverse ++ a.ims) → CIn w' (turnedC a own)) := fun w' h => h.isIn (HI.out.below h.ab.bel)
          have HD : Hid (IX w wr.drew a b C own (a.ims.reverse ++ a.ims)) := HX.out.below (Below.refl _ _).drew
          clear HX
          go_wp2_with fail
          refine wp_region_held_drew (S := fun w' => IX w w' a b C own (a.ims.reverse ++ a.ims)) (by kernel_rfl) ?_ (fun hHeld => ?_)
          · exact HD.out
          (try clear hK K)
          refine wpAnyH_take (i := 0) (v := ((turnedC a own)).val) rfl (by kernel_rfl) (by kernel_rfl) (by kernel_rfl) (fun _ _ _ h => h) (yieldsIf_load_mid (by rfl) 31 _ rfl (C) 0 rfl (ccells (turnedC a own)) _ (fun _ h => (h.cc).range) Tryd.underlying31 rfl isize_C) (by assumption) ?_
          (try simp only [Act.put, List.getElem_toArray, List.getElem_cons_zero, List.setIfInBounds_toArray, List.set_cons_zero, List.set_cons_succ])
          (try clear hK K)
          refine wpAnyH_take (i := 1) (v := (b).val) rfl (by kernel_rfl) (by kernel_rfl) (by kernel_rfl) (fun _ _ _ h => h) (yieldsIf_load_mid (by rfl) 31 _ rfl (w.heap.size + 1) 0 rfl (ccells b) _ (fun _ h => (h.ab.cb).range) Tryd.underlying31 rfl isize_C) (by assumption) ?_
          (try simp only [Act.put, List.getElem_toArray, List.getElem_cons_succ, List.getElem_cons_zero, List.setIfInBounds_toArray, List.set_cons_zero, List.set_cons_succ])
          (try clear hK K)
          refine wpAnyH_take (i := 3) (v := (a).val) rfl (by kernel_rfl) (by kernel_rfl) (by kernel_rfl) (fun _ _ _ h => h) (yieldsIf_load_mid (by rfl) 31 _ rfl (w.heap.size) 0 rfl (ccells a) _ (fun _ h => (h.ab.ca).range) Tryd.underlying31 rfl isize_C) (by assumption) ?_
          (try simp only [Act.put, List.getElem_toArray, List.getElem_cons_succ, List.getElem_cons_zero, List.setIfInBounds_toArray, List.set_cons_zero, List.set_cons_succ])
          (try clear hK K)
          refine wpAnyH_take (i := 4) (v := (b).val) rfl (by kernel_rfl) (by kernel_rfl) (by kernel_rfl) (fun _ _ _ h => h) (yieldsIf_load_mid (by rfl) 31 _ rfl (w.heap.size + 1) 0 rfl (ccells b) _ (fun _ h => (h.ab.cb).range) Tryd.underlying31 rfl isize_C) (by assumption) ?_
          (try simp only [Act.put, List.getElem_toArray, List.getElem_cons_succ, List.getElem_cons_zero, List.setIfInBounds_toArray, List.set_cons_zero, List.set_cons_succ])
          (try clear hK K)
          refine wpAnyH_ready (rs := [2]) (by kernel_rfl) (by simp) ?_
          refine AllReadyH.cons rfl (fun K hK => ?_) AllReadyH.nil
          go_simp
          (refine Calls.mono (HC1.out own _ HD.out.ab.bel (HZ.out _ HD.out)) ?_; rintro e x1 ⟨rfl, hb⟩)
          refine hK.out _ _ ?_ (fun hHeld => ?_)
          · exact HD.out.below hb
          have HQ1 : Hid (IX w x1 a b C own (a.ims.reverse ++ a.ims)) := HD.out.below hb
          clear hb
          (try clear hK K)
          refine wpAnyH_ready (rs := [5]) (by kernel_rfl) (by simp) ?_
          refine AllReadyH.cons rfl (fun K hK => ?_) AllReadyH.nil
          go_simp
          (refine Calls.mono (HC2.out _ HQ1.out.ab.bel) ?_; rintro e x2 ⟨rfl, hb⟩)
          refine hK.out _ _ ?_ (fun hHeld => ?_)
          · exact HQ1.out.below hb
          have HQ2 : Hid (IX w x2 a b C own (a.ims.reverse ++ a.ims)) := HQ1.out.below hb
          clear hb
          (try clear hK K)
          refine wpAnyH_take (i := 6) (v := ?_) rfl (by kernel_rfl) (by kernel_rfl) (by kernel_rfl) (fun _ _ _ h => h) (Or.inl ⟨by rfl, ?_⟩) (by assumption) ?_
          rotate_left
          · intro w hSw; (try dsimp only at hSw); go_simp; (try with_reducible rfl)
          (try simp only [Act.put, List.getElem_toArray, List.getElem_cons_succ, List.getElem_cons_zero, List.setIfInBounds_toArray, List.set_cons_zero, List.set_cons_succ])
          refine wpAnyH_take (i := 7) (v := ?_) rfl (by kernel_rfl) (by kernel_rfl) (by kernel_rfl) (fun _ _ _ h => h) (Or.inl ⟨by rfl, ?_⟩) (by assumption) ?_
          rotate_left
          · intro w hSw; (try dsimp only at hSw); go_simp; (try with_reducible rfl)
          (try simp only [Act.put, List.getElem_toArray, List.getElem_cons_succ, List.getElem_cons_zero, List.setIfInBounds_toArray, List.set_cons_zero, List.set_cons_succ])
          (try clear hK K)
          refine wpAnyH_take (i := 8) (v := ((turnedC a own)).val) rfl (by kernel_rfl) (by kernel_rfl) (by kernel_rfl) (fun _ _ _ h => h) (yieldsIf_load_mid (by rfl) 31 _ rfl (C) 0 rfl (ccells (turnedC a own)) _ (fun _ h => (h.cc).range) Tryd.underlying31 rfl isize_C) (by assumption) ?_
          (try simp only [Act.put, List.getElem_toArray, List.getElem_cons_succ, List.getElem_cons_zero, List.setIfInBounds_toArray, List.set_cons_zero, List.set_cons_succ])
          (try clear hK K)
          refine wpAnyH_take (i := 9) (v := (b).val) rfl (by kernel_rfl) (by kernel_rfl) (by kernel_rfl) (fun _ _ _ h => h) (yieldsIf_load_mid (by rfl) 31 _ rfl (w.heap.size + 1) 0 rfl (ccells b) _ (fun _ h => (h.ab.cb).range) Tryd.underlying31 rfl isize_C) (by assumption) ?_
          (try simp only [Act.put, List.getElem_toArray, List.getElem_cons_succ, List.getElem_cons_zero, List.setIfInBounds_toArray, List.set_cons_zero, List.set_cons_succ])
          (try clear hK K)
          refine wpAnyH_take (i := 11) (v := (a).val) rfl (by kernel_rfl) (by kernel_rfl) (by kernel_rfl) (fun _ _ _ h => h) (yieldsIf_load_mid (by rfl) 31 _ rfl (w.heap.size) 0 rfl (ccells a) _ (fun _ h => (h.ab.ca).range) Tryd.underlying31 rfl isize_C) (by assumption) ?_
          (try simp only [Act.put, List.getElem_toArray, List.getElem_cons_succ, List.getElem_cons_zero, List.setIfInBounds_toArray, List.set_cons_zero, List.set_cons_succ])
          (try clear hK K)
          refine wpAnyH_take (i := 12) (v := (b).val) rfl (by kernel_rfl) (by kernel_rfl) (by kernel_rfl) (fun _ _ _ h => h) (yieldsIf_load_mid (by rfl) 31 _ rfl (w.heap.size + 1) 0 rfl (ccells b) _ (fun _ h => (h.ab.cb).range) Tryd.underlying31 rfl isize_C) (by assumption) ?_
          (try simp only [Act.put, List.getElem_toArray, List.getElem_cons_succ, List.getElem_cons_zero, List.setIfInBounds_toArray, List.set_cons_zero, List.set_cons_succ])
          (try clear hK K)
          refine wpAnyH_ready (rs := [10]) (by kernel_rfl) (by simp) ?_
          refine AllReadyH.cons rfl (fun K hK => ?_) AllReadyH.nil
          go_simp
          (refine Calls.mono (HV1.out own _ HQ2.out.ab.bel (HZ.out _ HQ2.out)) ?_; rintro e x3 ⟨rfl, hb⟩)
          refine hK.out _ _ ?_ (fun hHeld => ?_)
          · exact HQ2.out.below hb
          have HQ3 : Hid (IX w x3 a b C own (a.ims.reverse ++ a.ims)) := HQ2.out.below hb
          clear hb
          (try clear hK K)
          refine wpAnyH_ready (rs := [13]) (by kernel_rfl) (by simp) ?_
          refine AllReadyH.cons rfl (fun K hK => ?_) AllReadyH.nil
          go_simp
          (refine Calls.mono (HV2.out _ HQ3.out.ab.bel) ?_; rintro e x4 ⟨rfl, hb⟩)
          refine hK.out _ _ ?_ (fun hHeld => ?_)
          · exact HQ3.out.below hb
          have HQ4 : Hid (IX w x4 a b C own (a.ims.reverse ++ a.ims)) := HQ3.out.below hb
          clear hb
          (try clear hK K)
          refine wpAnyH_take (i := 14) (v := ?_) rfl (by kernel_rfl) (by kernel_rfl) (by kernel_rfl) (fun _ _ _ h => h) (Or.inl ⟨by rfl, ?_⟩) (by assumption) ?_
          rotate_left
          · intro w hSw; (try dsimp only at hSw); go_simp; (try with_reducible rfl)
          (try simp only [Act.put, List.getElem_toArray, List.getElem_cons_succ, List.getElem_cons_zero, List.setIfInBounds_toArray, List.set_cons_zero, List.set_cons_succ])
          refine wpAnyH_take (i := 15) (v := ?_) rfl (by kernel_rfl) (by kernel_rfl) (by kernel_rfl) (fun _ _ _ h => h) (Or.inl ⟨by rfl, ?_⟩) (by assumption) ?_
          rotate_left
          · intro w hSw; (try dsimp only at hSw); go_simp; (try with_reducible rfl)
          (try simp only [Act.put, List.getElem_toArray, List.getElem_cons_succ, List.getElem_cons_zero, List.setIfInBounds_toArray, List.set_cons_zero, List.set_cons_succ])
          refine wpAnyH_take (i := 16) (v := ?_) rfl (by kernel_rfl) (by kernel_rfl) (by kernel_rfl) (fun _ _ _ h => h) (Or.inl ⟨by rfl, ?_⟩) (by assumption) ?_
          rotate_left
          · intro w hSw; (try dsimp only at hSw); go_simp; (try with_reducible rfl)
          (try simp only [Act.put, List.getElem_toArray, List.getElem_cons_succ, List.getElem_cons_zero, List.setIfInBounds_toArray, List.set_cons_zero, List.set_cons_succ])
          (try clear hK K)
          refine wpAnyH_take (i := 17) (v := (b).val) rfl (by kernel_rfl) (by kernel_rfl) (by kernel_rfl) (fun _ _ _ h => h) (yieldsIf_load_mid (by rfl) 31 _ rfl (w.heap.size + 1) 0 rfl (ccells b) _ (fun _ h => (h.ab.cb).range) Tryd.underlying31 rfl isize_C) (by assumption) ?_
          (try simp only [Act.put, List.getElem_toArray, List.getElem_cons_succ, List.getElem_cons_zero, List.setIfInBounds_toArray, List.set_cons_zero, List.set_cons_succ])
          (try clear hK K)
          refine wpAnyH_take (i := 18) (v := ((turnedC a own)).val) rfl (by kernel_rfl) (by kernel_rfl) (by kernel_rfl) (fun _ _ _ h => h) (yieldsIf_load_mid (by rfl) 31 _ rfl (C) 0 rfl (ccells (turnedC a own)) _ (fun _ h => (h.cc).range) Tryd.underlying31 rfl isize_C) (by assumption) ?_
          (try simp only [Act.put, List.getElem_toArray, List.getElem_cons_succ, List.getElem_cons_zero, List.setIfInBounds_toArray, List.set_cons_zero, List.set_cons_succ])
          (try clear hK K)
          refine wpAnyH_take (i := 20) (v := (b).val) rfl (by kernel_rfl) (by kernel_rfl) (by kernel_rfl) (fun _ _ _ h => h) (yieldsIf_load_mid (by rfl) 31 _ rfl (w.heap.size + 1) 0 rfl (ccells b) _ (fun _ h => (h.ab.cb).range) Tryd.underlying31 rfl isize_C) (by assumption) ?_
          (try simp only [Act.put, List.getElem_toArray, List.getElem_cons_succ, List.getElem_cons_zero, List.setIfInBounds_toArray, List.set_cons_zero, List.set_cons_succ])
          (try clear hK K)
          refine wpAnyH_take (i := 21) (v := (a).val) rfl (by kernel_rfl) (by kernel_rfl) (by kernel_rfl) (fun _ _ _ h => h) (yieldsIf_load_mid (by rfl) 31 _ rfl (w.heap.size) 0 rfl (ccells a) _ (fun _ h => (h.ab.ca).range) Tryd.underlying31 rfl isize_C) (by assumption) ?_
          (try simp only [Act.put, List.getElem_toArray, List.getElem_cons_succ, List.getElem_cons_zero, List.setIfInBounds_toArray, List.set_cons_zero, List.set_cons_succ])
          (try clear hK K)
          refine wpAnyH_ready (rs := [19]) (by kernel_rfl) (by simp) ?_
          refine AllReadyH.cons rfl (fun K hK => ?_) AllReadyH.nil
          go_simp
          (refine Calls.mono (HU1.out own _ HQ4.out.ab.bel (HZ.out _ HQ4.out)) ?_; rintro e x5 ⟨rfl, hb⟩)
          refine hK.out _ _ ?_ (fun hHeld => ?_)
          · exact HQ4.out.below hb
          have HQ5 : Hid (IX w x5 a b C own (a.ims.reverse ++ a.ims)) := HQ4.out.below hb
          clear hb
          (try clear hK K)
          refine wpAnyH_ready (rs := [22]) (by kernel_rfl) (by simp) ?_
          refine AllReadyH.cons rfl (fun K hK => ?_) AllReadyH.nil
          go_simp
          (refine Calls.mono (HU2.out _ HQ5.out.ab.bel) ?_; rintro e x6 ⟨rfl, hb⟩)
          refine hK.out _ _ ?_ (fun hHeld => ?_)
          · exact HQ5.out.below hb
          have HQ6 : Hid (IX w x6 a b C own (a.ims.reverse ++ a.ims)) := HQ5.out.below hb
          clear hb
          (try clear hK K)
          refine wpAnyH_take (i := 23) (v := ?_) rfl (by kernel_rfl) (by kernel_rfl) (by kernel_rfl) (fun _ _ _ h => h) (Or.inl ⟨by rfl, ?_⟩) (by assumption) ?_
          rotate_left
          · intro w hSw; (try dsimp only at hSw); go_simp; (try with_reducible rfl)
          (try simp only [Act.put, List.getElem_toArray, List.getElem_cons_succ, List.getElem_cons_zero, List.setIfInBounds_toArray, List.set_cons_zero, List.set_cons_succ])
          refine wpAnyH_take (i := 24) (v := ?_) rfl (by kernel_rfl) (by kernel_rfl) (by kernel_rfl) (fun _ _ _ h => h) (Or.inl ⟨by rfl, ?_⟩) (by assumption) ?_
          rotate_left
          · intro w hSw; (try dsimp only at hSw); go_simp; (try with_reducible rfl)
          (try simp only [Act.put, List.getElem_toArray, List.getElem_cons_succ, List.getElem_cons_zero, List.setIfInBounds_toArray, List.set_cons_zero, List.set_cons_succ])
          refine wpAnyH_take (i := 25) (v := ?_) rfl (by kernel_rfl) (by kernel_rfl) (by kernel_rfl) (fun _ _ _ h => h) (Or.inl ⟨by rfl, ?_⟩) (by assumption) ?_
          rotate_left
          · intro w hSw; (try dsimp only at hSw); go_simp; (try with_reducible rfl)
          (try simp only [Act.put, List.getElem_toArray, List.getElem_cons_succ, List.getElem_cons_zero, List.setIfInBounds_toArray, List.set_cons_zero, List.set_cons_succ])
          have HR : Hid (Below w.heap.size w x6) := HQ6.out.ab.bel
          (try clear hK K)
          refine wpAnyH_done (by kernel_rfl) ?_ _
          go_wp2_with fail
          go_ret
          exact ⟨rfl, HR.out⟩
end Go.Proofs.YtkkbbpldeeajaaaDoor.Val
/- The law ClaimImages holds: the order of images, and how often one is there, play no part for who is in conflict and who covers. Conditions: the listed package-level variables lie as the program's text lays them (the card ties them). -/
namespace Go.Proofs.YtkkbbpldeeajaaaDoor.Val
open Go.ChangeShapes Go.WideShapes Go.ChangeAt Go.RowKit
open Go.ChangeMaps (open_string)

theorem cimages_contract (H : Type) (enc : TypeId × Value → H) (W : World) (base : Nat) (args : Array Value) (ds gs : List (DataW H)) (before : List MemPlace)
    (hval : ∀ (j : Nat) t v, Tryd.f10.params[j]? = some t → args[j]? = some v → Value.okWide Tryd.prog W .any base t v)
    (hW : DataW.Whole enc Tryd.prog Tryd.f10.params.toList Rows.claimImagesSpec.vars false W args.toList ds gs before) (hL : laidMetH Tryd.prog Rows.claimImagesRow.laid W) :
    Calls Tryd.prog 10 args W fun e W' => ∃ v, e = .returned v ∧ Rows.claimImagesSpec.post enc Tryd.prog Tryd.f10 false true false false W args v W' := by
  have hW' := hW
  obtain ⟨p, q, hA0, hV, rfl, hfz, hnd⟩ := hW
  have hA : DataW.TrodAll enc Tryd.prog W 0 (fun _ => true) true Tryd.f10.params.toList args.toList ds p := hA0
  rw [Tryd.params10] at hA hval
  obtain ⟨v0, vs0, d0, ds0, p0, q0, hargs, rfl, rfl, h0, r0⟩ := trodAll_cons hA
  obtain ⟨v1, vs1, d1, ds1, p1, q1, rfl, rfl, rfl, h1, r1⟩ := trodAll_cons r0
  obtain ⟨rfl, rfl, rfl⟩ := trodAll_nil r1
  obtain rfl : args = #[v0, v1] := by cases args; simp_all
  obtain ⟨rfl, rfl⟩ := trodVars_none hV
  have k0 := h0
  have lt0 : ∀ x ∈ p0, x.block < W.heap.size := by obtain ⟨m, hm⟩ := k0; exact DataW.trod_lt m _ _ _ hm
  obtain ⟨x0, rfl, o0⟩ := open_claim (hval 0 31 v0 rfl rfl) h0
  have k1 := h1
  have lt1 : ∀ x ∈ p1, x.block < W.heap.size := by obtain ⟨m, hm⟩ := k1; exact DataW.trod_lt m _ _ _ hm
  obtain ⟨x1, rfl, o1⟩ := open_claim (hval 1 31 v1 rfl rfl) h1
  clear hA0
  have hT := tabOf hL
  refine (cimages_walk x0 x1 W hT o0.isIn o1.isIn).mono fun e W' ⟨he, bel⟩ => ?_
  subst he
  exact ⟨_, rfl, _, _, _, [], _, [], hW', trodAll_mk1 (shut_bool Tryd.underlying4 _), (trodAll_cons_mk (Below.trod laidOut (by kernel_rfl) (of_decide_eq_true (by kernel_rfl)) k0 bel lt0) (trodAll_cons_mk (Below.trod laidOut (by kernel_rfl) (of_decide_eq_true (by kernel_rfl)) k1 bel lt1) trodAll_mk0)), rfl, bel.frame _, fun h => by cases h⟩

set_option maxRecDepth 100000 in
theorem cimages_lifted (os : Os) (started : os.Started) (H : Type) (enc : TypeId × Value → H) (F : Stop.Interp) :
    ReturnsInHanded {} Tryd.checked os 10 .any ((OpenSpec.ofChange Rows.claimImagesSpec).preRow enc Tryd.prog Tryd.f10 Rows.claimImagesRow.domain false Rows.claimImagesRow.laid) (((OpenSpec.ofChange Rows.claimImagesSpec).at F).post enc Tryd.prog Tryd.f10 false true false false) := by
  refine returnsInHanded_of_row (C := Tryd.checked) (s := OpenSpec.ofChange Rows.claimImagesSpec) own started (by kernel_rfl) Tryd.func10
    (witness_row_at (enc := enc) (C := Tryd.checked) false
      { World.holding Tryd.prog os ⟨#[], #[], []⟩ with heap := ((World.holding Tryd.prog os ⟨#[], #[], []⟩).heap.modify 0 (putCells (dataCells .u8 clashT))) }
      #[.agg #[.int .i64 0, .int .i64 0, .int .i64 0, .bool false, .int .i64 0, .string ⟨#[]⟩, .slice none 0 0, .int .i64 0, .int .i64 0, .bool false, .int .i64 0, .string ⟨#[]⟩, .bool false, .int .i64 0, .string ⟨#[]⟩, .slice none 0 0], .agg #[.int .i64 0, .int .i64 0, .int .i64 0, .bool false, .int .i64 0, .string ⟨#[]⟩, .slice none 0 0, .int .i64 0, .int .i64 0, .bool false, .int .i64 0, .string ⟨#[]⟩, .bool false, .int .i64 0, .string ⟨#[]⟩, .slice none 0 0]] rfl (by kernel_rfl) (by kernel_rfl) (by kernel_rfl)
      (OpenSpec.preRow_of_cond 8 (x := ([.agg [.lit (.int .i64 0), .lit (.int .i64 0), .lit (.int .i64 0), .agg [.lit (.bool false), .lit (.int .i64 0), .lit (.string [])], .nil, .agg [.lit (.int .i64 0), .lit (.int .i64 0), .agg [.lit (.bool false), .lit (.int .i64 0), .lit (.string [])], .agg [.lit (.bool false), .lit (.int .i64 0), .lit (.string [])], .nil]], .agg [.lit (.int .i64 0), .lit (.int .i64 0), .lit (.int .i64 0), .agg [.lit (.bool false), .lit (.int .i64 0), .lit (.string [])], .nil, .agg [.lit (.int .i64 0), .lit (.int .i64 0), .agg [.lit (.bool false), .lit (.int .i64 0), .lit (.string [])], .agg [.lit (.bool false), .lit (.int .i64 0), .lit (.string [])], .nil]]], [], [])) (by kernel_rfl) (by kernel_rfl) (fun k hk => by cases hk) (by kernel_rfl) (laidMet_of_run' 8 (by kernel_rfl) (by kernel_rfl)))) ?_
  intro W base args ds gs before hval hW _ _ _ hL _ _
  exact cimages_contract H enc W base args ds gs before hval hW hL

theorem cimages_said : Rows.ClaimImagesSaid :=
  OpenClaim.holds_of_cond 10 Tryd.f10 rfl rfl rfl rfl rfl rfl rfl ⟨rfl, rfl, rfl, rfl, rfl⟩ rfl rfl rfl rfl rfl (by kernel_rfl) Tryd.func10 (by kernel_rfl)
    (of_decide_eq_true (by kernel_rfl)) (by unfold Func.isWrapper; first | (rw [if_pos (by decide +kernel)]; kernel_rfl) | (rw [if_neg (by decide +kernel)]; exact ⟨rfl, rfl⟩))
    (fun os started H enc _ F => by rw [OpenClaim.pre_eq_preRow]; exact cimages_lifted os started H enc F)

theorem cimages_plain (f : FuncId) (fn : Func) (hf : Tryd.pinned.checked.prog.funcNamed "ratline/ratlinelaw09.ClaimImages" = some f) (hfn : Tryd.pinned.checked.prog.funcs[f]? = some fn) :
    false = Tryd.pinned.checked.prog.looks [] ∧ ∀ (j : Nat) t, fn.params[j]? = some t → Tryd.pinned.checked.prog.wantsStandIn t = false := by
  obtain rfl : f = 10 := Option.some.inj ((show Tryd.prog.funcNamed "ratline/ratlinelaw09.ClaimImages" = some 10 by kernel_rfl).symm.trans hf) |>.symm
  obtain rfl : fn = Tryd.f10 := (Option.some.inj (Tryd.func10.symm.trans hfn)).symm
  refine ⟨by kernel_rfl, fun j t ht => ?_⟩
  rw [Tryd.params10] at ht
  have hm : t = 31 ∨ t = 31 := by simpa using Array.mem_of_getElem? ht
  rcases hm with rfl | rfl
  · exact (show Tryd.prog.wantsStandIn 31 = false by kernel_rfl)
  · exact (show Tryd.prog.wantsStandIn 31 = false by kernel_rfl)

/-- The card. -/
theorem cimages_card : Rows.ClaimImagesCardSaid :=
  Claim7.holds_tied_plain_at .later [] _ _ _ _ cimages_said (fun _ h => by cases h) (by kernel_rfl) (fun _ h => by cases h) claimImages_row_tie rfl ⟨rfl, rfl⟩ (by kernel_rfl) rfl cimages_plain (by kernel_rfl)
end Go.Proofs.YtkkbbpldeeajaaaDoor.Val
