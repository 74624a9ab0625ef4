/- The walk of the law ClaimPairs. -/
import Derived.Test.YtkkbbpldeeajaaaDoorUC5
import Derived.Test.YtkkbbpldeeajaaaDoorUE4
import Derived.Test.YtkkbbpldeeajaaaDoorUE2
import Derived.Test.YtkkbbpldeeajaaaDoorUE5
import Derived.Test.YtkkbbpldeeajaaaDoorUC2
import Derived.Deep.RegionHeld3
import Derived.Test.YtkkbbpldeeajaaaDoorUF
namespace Go.Proofs.YtkkbbpldeeajaaaDoor.Val
open Go.RowKit
set_option maxRecDepth 100000

theorem joined_equal {s : Bool} {a b d d2 : CP} (h : JoinC s a b d) (h2 : JoinC s a b d2) : equalC true d d2 = true := by
  have e1 : d.rows = d2.rows := h.rows.trans h2.rows.symm
  have e2 : d.mode = d2.mode := h.mode.trans h2.mode.symm
  unfold equalC
  rw [e1, e2, h.kind, h2.kind, h.table, h2.table, h.key, h2.key, eqRows_iff.2 rfl, eqV_iff.2 rfl]
  simp
set_option maxHeartbeats 8000000 in
theorem cpairs_walk' (a b : CP) (w : World) (hT : TabC w) (ha : CIn w a) (hb : CIn w b) (hoa : OkC a) (hob : OkC b) : Tells 4 #[a.val, b.val] w (.bool true) := by
  obtain ⟨s, hs⟩ := some_b (a.p.bare = b.p.bare)
  have HW : Hid (∀ w1, Below w.heap.size w w1 → Tells 11 #[] w1 (.bool true)) := fun w1 h => awake_any w1 (hT.below h)
  have HA : Hid (∀ w1, Below w.heap.size w w1 → Calls Tryd.prog 12 #[a.val] w1 fun e w' => ∃ q, e = .returned (.bool q) ∧ (q = true → FewC a) ∧ Below w1.heap.size w1 w') := fun w1 h => few_any a w1 (ha.below h)
  have HB : Hid (∀ w1, Below w.heap.size w w1 → Calls Tryd.prog 12 #[b.val] w1 fun e w' => ∃ q, e = .returned (.bool q) ∧ (q = true → FewC b) ∧ Below w1.heap.size w1 w') := fun w1 h => few_any b w1 (hb.below h)
  have HS1 : Hid (∀ w1, Below w.heap.size w w1 → Tells 15 #[a.val, b.val] w1 (.bool (sameC s a b))) := fun w1 h => csame_any a b s hs w1 (ha.below h) (hb.below h)
  have HS2 : Hid (∀ w1, Below w.heap.size w w1 → Tells 16 #[a.val, b.val] w1 (.bool (sameC s a b))) := fun w1 h => rcsame_any a b s hs w1 (ha.below h) (hb.below h)
  have HC1 : Hid (∀ w1, Below w.heap.size w w1 → Tells 17 #[a.val, b.val] w1 (.bool (conflictC a b))) := fun w1 h => conflict_any a b w1 (hT.below h) (ha.below h) (hb.below h)
  have HC2 : Hid (∀ w1, Below w.heap.size w w1 → Tells 18 #[a.val, b.val] w1 (.bool (conflictC a b))) := fun w1 h => rconflict_any a b w1 (ha.below h) (hb.below h) hoa hob
  have HV1 : Hid (∀ w1, Below w.heap.size w w1 → Tells 19 #[a.val, b.val] w1 (.bool (coversC s a b))) := fun w1 h => ccovers_any a b s hs w1 (hT.below h) (ha.below h) (hb.below h)
  have HV2 : Hid (∀ w1, Below w.heap.size w w1 → Tells 20 #[a.val, b.val] w1 (.bool (coversC s a b))) := fun w1 h => rccovers_any a b s hs w1 (ha.below h) (hb.below h)
  have HJ1 : Hid (FewC a → FewC b → ∀ w1, Below w.heap.size w w1 → Calls Tryd.prog 22 #[a.val, b.val] w1 fun e w' => ∃ d, e = .returned d.val ∧ JoinC s a b d ∧ NewC w' w1.heap.size d ∧ Below w1.heap.size w1 w') := fun h1 h2 w1 h => cjoin_any a b s hs w1 (hT.below h) (ha.below h) (hb.below h) h1 h2
  have HJ2 : Hid (FewC a → FewC b → ∀ w1, Below w.heap.size w w1 → Calls Tryd.prog 23 #[a.val, b.val] w1 fun e w' => ∃ d, e = .returned d.val ∧ JoinC s a b d ∧ CIn w' d ∧ Below w1.heap.size w1 w') := fun h1 h2 w1 h => rcjoin_any a b s hs w1 (ha.below h) (hb.below h) h1.n h2.n
  have HN : Hid (AB w ((w.alloc (cobj a TC)).alloc (cobj b TC)) a b) := AB.new w a b
  generalize sameC s a b = u1 at *
  generalize conflictC a b = u2 at *
  generalize coversC s a b = u3 at *
  clear hs hT ha hb hoa hob
  unfold cobj at HN
  unfold CP.val
  go_enter Tryd.func4, Tryd.ntmps4
  go_wp2_with fail
  refine Calls.mono (HW.out _ HN.out.bel) ?_
  rintro e w1 ⟨rfl, hb1⟩
  have H1 : Hid (AB w w1 a b) := HN.out.below hb1
  clear hb1 HN HW
  go_wp2_with (first | (refine step_cload rfl _ rfl w.heap.size a rfl H1.out.ca ?_) | fail)
  refine Calls.mono (HA.out _ H1.out.bel) ?_
  rintro e w2 ⟨qa, rfl, hfa, hb2⟩
  have HFA : Hid (qa = true → FewC a) := hfa
  have H2 : Hid (AB w w2 a b) := H1.out.below hb2
  clear hb2 H1 HA hfa
  go_wp2_with (first | (refine step_cload rfl _ rfl (w.heap.size + 1) b rfl H2.out.cb ?_) | fail)
  refine Calls.mono (HB.out _ H2.out.bel) ?_
  rintro e w3 ⟨qb, rfl, hfb, hb3⟩
  have HFB : Hid (qb = true → FewC b) := hfb
  have H3 : Hid (AB w w3 a b) := H2.out.below hb3
  clear hb3 H2 HB hfb
  cases qa
  · go_wp2_with fail
    go_ret
    exact ⟨rfl, H3.out.bel⟩
  cases qb
  · go_wp2_with fail
    go_ret
    exact ⟨rfl, H3.out.bel⟩
  have HF : Hid (FewC a ∧ FewC b) := ⟨HFA.out rfl, HFB.out rfl⟩
  have HD : Hid (AB w w3.drew a b) := H3.out.below (Below.refl _ _).drew
  clear HFA HFB H3
  go_wp2_with fail
  refine wp_region_held_drew (S := fun w' => AB w w' a b) (by kernel_rfl) ?_ (fun hHeld => ?_)
  · exact HD.out
  (try clear hK K)
  refine wpAnyH_take (i := 0) (v := (a).val) rfl (by kernel_rfl) (by kernel_rfl) (by kernel_rfl) (fun _ _ _ h => h) (yieldsIf_load_mid (by rfl) 31 _ rfl (w.heap.size) 0 rfl (ccells a) _ (fun _ h => (h.ca).range) Tryd.underlying31 rfl isize_C) (by assumption) ?_
  (try simp only [Act.put, List.getElem_toArray, List.getElem_cons_zero, List.setIfInBounds_toArray, List.set_cons_zero, List.set_cons_succ])
  (try clear hK K)
  refine wpAnyH_take (i := 1) (v := (b).val) rfl (by kernel_rfl) (by kernel_rfl) (by kernel_rfl) (fun _ _ _ h => h) (yieldsIf_load_mid (by rfl) 31 _ rfl (w.heap.size + 1) 0 rfl (ccells b) _ (fun _ h => (h.cb).range) Tryd.underlying31 rfl isize_C) (by assumption) ?_
  (try simp only [Act.put, List.getElem_toArray, List.getElem_cons_succ, List.getElem_cons_zero, List.setIfInBounds_toArray, List.set_cons_zero, List.set_cons_succ])
  (try clear hK K)
  refine wpAnyH_take (i := 3) (v := (a).val) rfl (by kernel_rfl) (by kernel_rfl) (by kernel_rfl) (fun _ _ _ h => h) (yieldsIf_load_mid (by rfl) 31 _ rfl (w.heap.size) 0 rfl (ccells a) _ (fun _ h => (h.ca).range) Tryd.underlying31 rfl isize_C) (by assumption) ?_
  (try simp only [Act.put, List.getElem_toArray, List.getElem_cons_succ, List.getElem_cons_zero, List.setIfInBounds_toArray, List.set_cons_zero, List.set_cons_succ])
  (try clear hK K)
  refine wpAnyH_take (i := 4) (v := (b).val) rfl (by kernel_rfl) (by kernel_rfl) (by kernel_rfl) (fun _ _ _ h => h) (yieldsIf_load_mid (by rfl) 31 _ rfl (w.heap.size + 1) 0 rfl (ccells b) _ (fun _ h => (h.cb).range) Tryd.underlying31 rfl isize_C) (by assumption) ?_
  (try simp only [Act.put, List.getElem_toArray, List.getElem_cons_succ, List.getElem_cons_zero, List.setIfInBounds_toArray, List.set_cons_zero, List.set_cons_succ])
  (try clear hK K)
  refine wpAnyH_ready (rs := [2]) (by kernel_rfl) (by simp) ?_
  refine AllReadyH.cons rfl (fun K hK => ?_) AllReadyH.nil
  go_simp
  (refine Calls.mono (HS1.out _ HD.out.bel) ?_; rintro e w4 ⟨rfl, hb⟩)
  refine hK.out _ _ ?_ (fun hHeld => ?_)
  · exact HD.out.below hb
  have H4 : Hid (AB w w4 a b) := HD.out.below hb
  clear hb
  (try clear hK K)
  refine wpAnyH_ready (rs := [5]) (by kernel_rfl) (by simp) ?_
  refine AllReadyH.cons rfl (fun K hK => ?_) AllReadyH.nil
  go_simp
  (refine Calls.mono (HS2.out _ H4.out.bel) ?_; rintro e w5 ⟨rfl, hb⟩)
  refine hK.out _ _ ?_ (fun hHeld => ?_)
  · exact H4.out.below hb
  have H5 : Hid (AB w w5 a b) := H4.out.below hb
  clear hb
  (try clear hK K)
  refine wpAnyH_take (i := 6) (v := ?_) rfl (by kernel_rfl) (by kernel_rfl) (by kernel_rfl) (fun _ _ _ h => h) (Or.inl ⟨by rfl, ?_⟩) (by assumption) ?_
  rotate_left
  · intro w hSw; (try dsimp only at hSw); go_simp; (try with_reducible rfl)
  (try simp only [Act.put, List.getElem_toArray, List.getElem_cons_succ, List.getElem_cons_zero, List.setIfInBounds_toArray, List.set_cons_zero, List.set_cons_succ])
  refine wpAnyH_take (i := 7) (v := ?_) rfl (by kernel_rfl) (by kernel_rfl) (by kernel_rfl) (fun _ _ _ h => h) (Or.inl ⟨by rfl, ?_⟩) (by assumption) ?_
  rotate_left
  · intro w hSw; (try dsimp only at hSw); go_simp; (try with_reducible rfl)
  (try simp only [Act.put, List.getElem_toArray, List.getElem_cons_succ, List.getElem_cons_zero, List.setIfInBounds_toArray, List.set_cons_zero, List.set_cons_succ])
  (try clear hK K)
  refine wpAnyH_take (i := 8) (v := (a).val) rfl (by kernel_rfl) (by kernel_rfl) (by kernel_rfl) (fun _ _ _ h => h) (yieldsIf_load_mid (by rfl) 31 _ rfl (w.heap.size) 0 rfl (ccells a) _ (fun _ h => (h.ca).range) Tryd.underlying31 rfl isize_C) (by assumption) ?_
  (try simp only [Act.put, List.getElem_toArray, List.getElem_cons_succ, List.getElem_cons_zero, List.setIfInBounds_toArray, List.set_cons_zero, List.set_cons_succ])
  (try clear hK K)
  refine wpAnyH_take (i := 9) (v := (b).val) rfl (by kernel_rfl) (by kernel_rfl) (by kernel_rfl) (fun _ _ _ h => h) (yieldsIf_load_mid (by rfl) 31 _ rfl (w.heap.size + 1) 0 rfl (ccells b) _ (fun _ h => (h.cb).range) Tryd.underlying31 rfl isize_C) (by assumption) ?_
  (try simp only [Act.put, List.getElem_toArray, List.getElem_cons_succ, List.getElem_cons_zero, List.setIfInBounds_toArray, List.set_cons_zero, List.set_cons_succ])
  (try clear hK K)
  refine wpAnyH_take (i := 11) (v := (a).val) rfl (by kernel_rfl) (by kernel_rfl) (by kernel_rfl) (fun _ _ _ h => h) (yieldsIf_load_mid (by rfl) 31 _ rfl (w.heap.size) 0 rfl (ccells a) _ (fun _ h => (h.ca).range) Tryd.underlying31 rfl isize_C) (by assumption) ?_
  (try simp only [Act.put, List.getElem_toArray, List.getElem_cons_succ, List.getElem_cons_zero, List.setIfInBounds_toArray, List.set_cons_zero, List.set_cons_succ])
  (try clear hK K)
  refine wpAnyH_take (i := 12) (v := (b).val) rfl (by kernel_rfl) (by kernel_rfl) (by kernel_rfl) (fun _ _ _ h => h) (yieldsIf_load_mid (by rfl) 31 _ rfl (w.heap.size + 1) 0 rfl (ccells b) _ (fun _ h => (h.cb).range) Tryd.underlying31 rfl isize_C) (by assumption) ?_
  (try simp only [Act.put, List.getElem_toArray, List.getElem_cons_succ, List.getElem_cons_zero, List.setIfInBounds_toArray, List.set_cons_zero, List.set_cons_succ])
  (try clear hK K)
  refine wpAnyH_ready (rs := [10]) (by kernel_rfl) (by simp) ?_
  refine AllReadyH.cons rfl (fun K hK => ?_) AllReadyH.nil
  go_simp
  (refine Calls.mono (HC1.out _ H5.out.bel) ?_; rintro e w6 ⟨rfl, hb⟩)
  refine hK.out _ _ ?_ (fun hHeld => ?_)
  · exact H5.out.below hb
  have H6 : Hid (AB w w6 a b) := H5.out.below hb
  clear hb
  (try clear hK K)
  refine wpAnyH_ready (rs := [13]) (by kernel_rfl) (by simp) ?_
  refine AllReadyH.cons rfl (fun K hK => ?_) AllReadyH.nil
  go_simp
  (refine Calls.mono (HC2.out _ H6.out.bel) ?_; rintro e w7 ⟨rfl, hb⟩)
  refine hK.out _ _ ?_ (fun hHeld => ?_)
  · exact H6.out.below hb
  have H7 : Hid (AB w w7 a b) := H6.out.below hb
  clear hb
  (try clear hK K)
  refine wpAnyH_take (i := 14) (v := ?_) rfl (by kernel_rfl) (by kernel_rfl) (by kernel_rfl) (fun _ _ _ h => h) (Or.inl ⟨by rfl, ?_⟩) (by assumption) ?_
  rotate_left
  · intro w hSw; (try dsimp only at hSw); go_simp; (try with_reducible rfl)
  (try simp only [Act.put, List.getElem_toArray, List.getElem_cons_succ, List.getElem_cons_zero, List.setIfInBounds_toArray, List.set_cons_zero, List.set_cons_succ])
  refine wpAnyH_take (i := 15) (v := ?_) rfl (by kernel_rfl) (by kernel_rfl) (by kernel_rfl) (fun _ _ _ h => h) (Or.inl ⟨by rfl, ?_⟩) (by assumption) ?_
  rotate_left
  · intro w hSw; (try dsimp only at hSw); go_simp; (try with_reducible rfl)
  (try simp only [Act.put, List.getElem_toArray, List.getElem_cons_succ, List.getElem_cons_zero, List.setIfInBounds_toArray, List.set_cons_zero, List.set_cons_succ])
  refine wpAnyH_take (i := 16) (v := ?_) rfl (by kernel_rfl) (by kernel_rfl) (by kernel_rfl) (fun _ _ _ h => h) (Or.inl ⟨by rfl, ?_⟩) (by assumption) ?_
  rotate_left
  · intro w hSw; (try dsimp only at hSw); go_simp; (try with_reducible rfl)
  (try simp only [Act.put, List.getElem_toArray, List.getElem_cons_succ, List.getElem_cons_zero, List.setIfInBounds_toArray, List.set_cons_zero, List.set_cons_succ])
  (try clear hK K)
  refine wpAnyH_take (i := 17) (v := (a).val) rfl (by kernel_rfl) (by kernel_rfl) (by kernel_rfl) (fun _ _ _ h => h) (yieldsIf_load_mid (by rfl) 31 _ rfl (w.heap.size) 0 rfl (ccells a) _ (fun _ h => (h.ca).range) Tryd.underlying31 rfl isize_C) (by assumption) ?_
  (try simp only [Act.put, List.getElem_toArray, List.getElem_cons_succ, List.getElem_cons_zero, List.setIfInBounds_toArray, List.set_cons_zero, List.set_cons_succ])
  (try clear hK K)
  refine wpAnyH_take (i := 18) (v := (b).val) rfl (by kernel_rfl) (by kernel_rfl) (by kernel_rfl) (fun _ _ _ h => h) (yieldsIf_load_mid (by rfl) 31 _ rfl (w.heap.size + 1) 0 rfl (ccells b) _ (fun _ h => (h.cb).range) Tryd.underlying31 rfl isize_C) (by assumption) ?_
  (try simp only [Act.put, List.getElem_toArray, List.getElem_cons_succ, List.getElem_cons_zero, List.setIfInBounds_toArray, List.set_cons_zero, List.set_cons_succ])
  (try clear hK K)
  refine wpAnyH_take (i := 20) (v := (a).val) rfl (by kernel_rfl) (by kernel_rfl) (by kernel_rfl) (fun _ _ _ h => h) (yieldsIf_load_mid (by rfl) 31 _ rfl (w.heap.size) 0 rfl (ccells a) _ (fun _ h => (h.ca).range) Tryd.underlying31 rfl isize_C) (by assumption) ?_
  (try simp only [Act.put, List.getElem_toArray, List.getElem_cons_succ, List.getElem_cons_zero, List.setIfInBounds_toArray, List.set_cons_zero, List.set_cons_succ])
  (try clear hK K)
  refine wpAnyH_take (i := 21) (v := (b).val) rfl (by kernel_rfl) (by kernel_rfl) (by kernel_rfl) (fun _ _ _ h => h) (yieldsIf_load_mid (by rfl) 31 _ rfl (w.heap.size + 1) 0 rfl (ccells b) _ (fun _ h => (h.cb).range) Tryd.underlying31 rfl isize_C) (by assumption) ?_
  (try simp only [Act.put, List.getElem_toArray, List.getElem_cons_succ, List.getElem_cons_zero, List.setIfInBounds_toArray, List.set_cons_zero, List.set_cons_succ])
  (try clear hK K)
  refine wpAnyH_ready (rs := [19]) (by kernel_rfl) (by simp) ?_
  refine AllReadyH.cons rfl (fun K hK => ?_) AllReadyH.nil
  go_simp
  (refine Calls.mono (HV1.out _ H7.out.bel) ?_; rintro e w8 ⟨rfl, hb⟩)
  refine hK.out _ _ ?_ (fun hHeld => ?_)
  · exact H7.out.below hb
  have H8 : Hid (AB w w8 a b) := H7.out.below hb
  clear hb
  (try clear hK K)
  refine wpAnyH_ready (rs := [22]) (by kernel_rfl) (by simp) ?_
  refine AllReadyH.cons rfl (fun K hK => ?_) AllReadyH.nil
  go_simp
  (refine Calls.mono (HV2.out _ H8.out.bel) ?_; rintro e w9 ⟨rfl, hb⟩)
  refine hK.out _ _ ?_ (fun hHeld => ?_)
  · exact H8.out.below hb
  have H9 : Hid (AB w w9 a b) := H8.out.below hb
  clear hb
  (try clear hK K)
  refine wpAnyH_take (i := 23) (v := ?_) rfl (by kernel_rfl) (by kernel_rfl) (by kernel_rfl) (fun _ _ _ h => h) (Or.inl ⟨by rfl, ?_⟩) (by assumption) ?_
  rotate_left
  · intro w hSw; (try dsimp only at hSw); go_simp; (try with_reducible rfl)
  (try simp only [Act.put, List.getElem_toArray, List.getElem_cons_succ, List.getElem_cons_zero, List.setIfInBounds_toArray, List.set_cons_zero, List.set_cons_succ])
  refine wpAnyH_take (i := 24) (v := ?_) rfl (by kernel_rfl) (by kernel_rfl) (by kernel_rfl) (fun _ _ _ h => h) (Or.inl ⟨by rfl, ?_⟩) (by assumption) ?_
  rotate_left
  · intro w hSw; (try dsimp only at hSw); go_simp; (try with_reducible rfl)
  (try simp only [Act.put, List.getElem_toArray, List.getElem_cons_succ, List.getElem_cons_zero, List.setIfInBounds_toArray, List.set_cons_zero, List.set_cons_succ])
  refine wpAnyH_take (i := 25) (v := ?_) rfl (by kernel_rfl) (by kernel_rfl) (by kernel_rfl) (fun _ _ _ h => h) (Or.inl ⟨by rfl, ?_⟩) (by assumption) ?_
  rotate_left
  · intro w hSw; (try dsimp only at hSw); go_simp; (try with_reducible rfl)
  (try simp only [Act.put, List.getElem_toArray, List.getElem_cons_succ, List.getElem_cons_zero, List.setIfInBounds_toArray, List.set_cons_zero, List.set_cons_succ])
  (try clear hK K)
  refine wpAnyH_take (i := 26) (v := (a).val) rfl (by kernel_rfl) (by kernel_rfl) (by kernel_rfl) (fun _ _ _ h => h) (yieldsIf_load_mid (by rfl) 31 _ rfl (w.heap.size) 0 rfl (ccells a) _ (fun _ h => (h.ca).range) Tryd.underlying31 rfl isize_C) (by assumption) ?_
  (try simp only [Act.put, List.getElem_toArray, List.getElem_cons_succ, List.getElem_cons_zero, List.setIfInBounds_toArray, List.set_cons_zero, List.set_cons_succ])
  (try clear hK K)
  refine wpAnyH_take (i := 27) (v := (b).val) rfl (by kernel_rfl) (by kernel_rfl) (by kernel_rfl) (fun _ _ _ h => h) (yieldsIf_load_mid (by rfl) 31 _ rfl (w.heap.size + 1) 0 rfl (ccells b) _ (fun _ h => (h.cb).range) Tryd.underlying31 rfl isize_C) (by assumption) ?_
  (try simp only [Act.put, List.getElem_toArray, List.getElem_cons_succ, List.getElem_cons_zero, List.setIfInBounds_toArray, List.set_cons_zero, List.set_cons_succ])
  (try clear hK K)
  refine wpAnyH_take (i := 29) (v := (a).val) rfl (by kernel_rfl) (by kernel_rfl) (by kernel_rfl) (fun _ _ _ h => h) (yieldsIf_load_mid (by rfl) 31 _ rfl (w.heap.size) 0 rfl (ccells a) _ (fun _ h => (h.ca).range) Tryd.underlying31 rfl isize_C) (by assumption) ?_
  (try simp only [Act.put, List.getElem_toArray, List.getElem_cons_succ, List.getElem_cons_zero, List.setIfInBounds_toArray, List.set_cons_zero, List.set_cons_succ])
  (try clear hK K)
  refine wpAnyH_take (i := 30) (v := (b).val) rfl (by kernel_rfl) (by kernel_rfl) (by kernel_rfl) (fun _ _ _ h => h) (yieldsIf_load_mid (by rfl) 31 _ rfl (w.heap.size + 1) 0 rfl (ccells b) _ (fun _ h => (h.cb).range) Tryd.underlying31 rfl isize_C) (by assumption) ?_
  (try simp only [Act.put, List.getElem_toArray, List.getElem_cons_succ, List.getElem_cons_zero, List.setIfInBounds_toArray, List.set_cons_zero, List.set_cons_succ])
  (try clear hK K)
  refine wpAnyH_ready (rs := [28]) (by kernel_rfl) (by simp) ?_
  refine AllReadyH.cons rfl (fun K hK => ?_) AllReadyH.nil
  go_simp
  (refine Calls.mono (HJ1.out HF.out.1 HF.out.2 _ H9.out.bel) ?_; rintro e w10 ⟨d, rfl, hd, hn, hb⟩)
  refine hK.out _ _ ?_ (fun hHeld => ?_)
  · exact H9.out.below hb
  have HX1 : Hid (JoinC s a b d ∧ CIn w10 d) := ⟨hd, hn.isIn⟩
  have H10 : Hid (AB w w10 a b) := H9.out.below hb
  clear hb hd hn
  (try clear hK K)
  refine wpAnyH_ready (rs := [31]) (by kernel_rfl) (by simp) ?_
  refine AllReadyH.cons rfl (fun K hK => ?_) AllReadyH.nil
  go_simp
  (refine Calls.mono (HJ2.out HF.out.1 HF.out.2 _ H10.out.bel) ?_; rintro e w11 ⟨d2, rfl, hd, hn, hb⟩)
  refine hK.out _ _ ?_ (fun hHeld => ?_)
  · exact H10.out.below hb
  have HX2 : Hid (equalC true d d2 = true ∧ (true = true ↔ d.p.bare = d2.p.bare) ∧ CIn w11 d ∧ CIn w11 d2) := ⟨joined_equal HX1.out.1 hd, by rw [HX1.out.1.p, hd.p]; simp, HX1.out.2.below hb, hn⟩
  have H11 : Hid (AB w w11 a b) := H10.out.below hb
  clear hb hd hn HX1
  (try clear hK K)
  refine wpAnyH_ready (rs := [32]) (by kernel_rfl) (by simp) ?_
  refine AllReadyH.cons rfl (fun K hK => ?_) AllReadyH.nil
  go_simp
  (refine Calls.mono (rcequal_any d d2 true HX2.out.2.1 _ HX2.out.2.2.1 HX2.out.2.2.2) ?_; rw [HX2.out.1]; rintro e w12 ⟨rfl, hb⟩)
  refine hK.out _ _ ?_ (fun hHeld => ?_)
  · exact H11.out.below hb
  have HZ : Hid (Below w.heap.size w w12) := on H11.out.bel hb
  (try clear hK K)
  refine wpAnyH_take (i := 33) (v := ?_) rfl (by kernel_rfl) (by kernel_rfl) (by kernel_rfl) (fun _ _ _ h => h) (Or.inl ⟨by rfl, ?_⟩) (by assumption) ?_
  rotate_left
  · intro w hSw; (try dsimp only at hSw); go_simp; (try with_reducible rfl)
  (try simp only [Act.put, List.getElem_toArray, List.getElem_cons_succ, List.getElem_cons_zero, List.setIfInBounds_toArray, List.set_cons_zero, List.set_cons_succ])
  refine wpAnyH_take (i := 34) (v := ?_) rfl (by kernel_rfl) (by kernel_rfl) (by kernel_rfl) (fun _ _ _ h => h) (Or.inl ⟨by rfl, ?_⟩) (by assumption) ?_
  rotate_left
  · intro w hSw; (try dsimp only at hSw); go_simp; (try with_reducible rfl)
  (try simp only [Act.put, List.getElem_toArray, List.getElem_cons_succ, List.getElem_cons_zero, List.setIfInBounds_toArray, List.set_cons_zero, List.set_cons_succ])
  (try clear hK K)
  refine wpAnyH_done (by kernel_rfl) ?_ _
  go_wp2_with fail
  go_ret
  exact ⟨rfl, HZ.out⟩
theorem cpairs_walk (a b : CP) (w : World) (hT : TabC w) (ha : GoodC w a) (hb : GoodC w b) : Tells 4 #[a.val, b.val] w (.bool true) := cpairs_walk' a b w hT ha.isIn hb.isIn ha.ok hb.ok
end Go.Proofs.YtkkbbpldeeajaaaDoor.Val
/- The law ClaimPairs holds: whether any two claims are about one thing, in conflict, cover one another, and what they join to, is what the document tells. Conditions: the listed package-level variables lie as the program's text lays them (the card ties them). -/
namespace Go.Proofs.YtkkbbpldeeajaaaDoor.Val
open Go.ChangeShapes Go.WideShapes Go.ChangeAt Go.RowKit
open Go.ChangeMaps (open_string)

theorem cpairs_contract (H : Type) (enc : TypeId × Value → H) (W : World) (base : Nat) (args : Array Value) (ds gs : List (DataW H)) (before : List MemPlace)
    (hval : ∀ (j : Nat) t v, Tryd.f4.params[j]? = some t → args[j]? = some v → Value.okWide Tryd.prog W .any base t v)
    (hW : DataW.Whole enc Tryd.prog Tryd.f4.params.toList Rows.claimPairsSpec.vars false W args.toList ds gs before) (hL : laidMetH Tryd.prog Rows.claimPairsRow.laid W) :
    Calls Tryd.prog 4 args W fun e W' => ∃ v, e = .returned v ∧ Rows.claimPairsSpec.post enc Tryd.prog Tryd.f4 false true false false W args v W' := by
  have hW' := hW
  obtain ⟨p, q, hA0, hV, rfl, hfz, hnd⟩ := hW
  have hA : DataW.TrodAll enc Tryd.prog W 0 (fun _ => true) true Tryd.f4.params.toList args.toList ds p := hA0
  rw [Tryd.params4] at hA hval
  obtain ⟨v0, vs0, d0, ds0, p0, q0, hargs, rfl, rfl, h0, r0⟩ := trodAll_cons hA
  obtain ⟨v1, vs1, d1, ds1, p1, q1, rfl, rfl, rfl, h1, r1⟩ := trodAll_cons r0
  obtain ⟨rfl, rfl, rfl⟩ := trodAll_nil r1
  obtain rfl : args = #[v0, v1] := by cases args; simp_all
  obtain ⟨rfl, rfl⟩ := trodVars_none hV
  have k0 := h0
  have lt0 : ∀ x ∈ p0, x.block < W.heap.size := by obtain ⟨m, hm⟩ := k0; exact DataW.trod_lt m _ _ _ hm
  obtain ⟨x0, rfl, o0⟩ := open_claim (hval 0 31 v0 rfl rfl) h0
  have k1 := h1
  have lt1 : ∀ x ∈ p1, x.block < W.heap.size := by obtain ⟨m, hm⟩ := k1; exact DataW.trod_lt m _ _ _ hm
  obtain ⟨x1, rfl, o1⟩ := open_claim (hval 1 31 v1 rfl rfl) h1
  clear hA0
  have hT := tabOf hL
  refine (cpairs_walk x0 x1 W hT o0 o1).mono fun e W' ⟨he, bel⟩ => ?_
  subst he
  exact ⟨_, rfl, _, _, _, [], _, [], hW', trodAll_mk1 (shut_bool Tryd.underlying4 _), (trodAll_cons_mk (Below.trod laidOut (by kernel_rfl) (of_decide_eq_true (by kernel_rfl)) k0 bel lt0) (trodAll_cons_mk (Below.trod laidOut (by kernel_rfl) (of_decide_eq_true (by kernel_rfl)) k1 bel lt1) trodAll_mk0)), rfl, bel.frame _, fun h => by cases h⟩

set_option maxRecDepth 100000 in
theorem cpairs_lifted (os : Os) (started : os.Started) (H : Type) (enc : TypeId × Value → H) (F : Stop.Interp) :
    ReturnsInHanded {} Tryd.checked os 4 .any ((OpenSpec.ofChange Rows.claimPairsSpec).preRow enc Tryd.prog Tryd.f4 Rows.claimPairsRow.domain false Rows.claimPairsRow.laid) (((OpenSpec.ofChange Rows.claimPairsSpec).at F).post enc Tryd.prog Tryd.f4 false true false false) := by
  refine returnsInHanded_of_row (C := Tryd.checked) (s := OpenSpec.ofChange Rows.claimPairsSpec) own started (by kernel_rfl) Tryd.func4
    (witness_row_at (enc := enc) (C := Tryd.checked) false
      { World.holding Tryd.prog os ⟨#[], #[], []⟩ with heap := ((World.holding Tryd.prog os ⟨#[], #[], []⟩).heap.modify 0 (putCells (dataCells .u8 clashT))) }
      #[.agg #[.int .i64 0, .int .i64 0, .int .i64 0, .bool false, .int .i64 0, .string ⟨#[]⟩, .slice none 0 0, .int .i64 0, .int .i64 0, .bool false, .int .i64 0, .string ⟨#[]⟩, .bool false, .int .i64 0, .string ⟨#[]⟩, .slice none 0 0], .agg #[.int .i64 0, .int .i64 0, .int .i64 0, .bool false, .int .i64 0, .string ⟨#[]⟩, .slice none 0 0, .int .i64 0, .int .i64 0, .bool false, .int .i64 0, .string ⟨#[]⟩, .bool false, .int .i64 0, .string ⟨#[]⟩, .slice none 0 0]] rfl (by kernel_rfl) (by kernel_rfl) (by kernel_rfl)
      (OpenSpec.preRow_of_cond 8 (x := ([.agg [.lit (.int .i64 0), .lit (.int .i64 0), .lit (.int .i64 0), .agg [.lit (.bool false), .lit (.int .i64 0), .lit (.string [])], .nil, .agg [.lit (.int .i64 0), .lit (.int .i64 0), .agg [.lit (.bool false), .lit (.int .i64 0), .lit (.string [])], .agg [.lit (.bool false), .lit (.int .i64 0), .lit (.string [])], .nil]], .agg [.lit (.int .i64 0), .lit (.int .i64 0), .lit (.int .i64 0), .agg [.lit (.bool false), .lit (.int .i64 0), .lit (.string [])], .nil, .agg [.lit (.int .i64 0), .lit (.int .i64 0), .agg [.lit (.bool false), .lit (.int .i64 0), .lit (.string [])], .agg [.lit (.bool false), .lit (.int .i64 0), .lit (.string [])], .nil]]], [], [])) (by kernel_rfl) (by kernel_rfl) (fun k hk => by cases hk) (by kernel_rfl) (laidMet_of_run' 8 (by kernel_rfl) (by kernel_rfl)))) ?_
  intro W base args ds gs before hval hW _ _ _ hL _ _
  exact cpairs_contract H enc W base args ds gs before hval hW hL

theorem cpairs_said : Rows.ClaimPairsSaid :=
  OpenClaim.holds_of_cond 4 Tryd.f4 rfl rfl rfl rfl rfl rfl rfl ⟨rfl, rfl, rfl, rfl, rfl⟩ rfl rfl rfl rfl rfl (by kernel_rfl) Tryd.func4 (by kernel_rfl)
    (of_decide_eq_true (by kernel_rfl)) (by unfold Func.isWrapper; first | (rw [if_pos (by decide +kernel)]; kernel_rfl) | (rw [if_neg (by decide +kernel)]; exact ⟨rfl, rfl⟩))
    (fun os started H enc _ F => by rw [OpenClaim.pre_eq_preRow]; exact cpairs_lifted os started H enc F)

theorem cpairs_plain (f : FuncId) (fn : Func) (hf : Tryd.pinned.checked.prog.funcNamed "ratline/ratlinelaw09.ClaimPairs" = some f) (hfn : Tryd.pinned.checked.prog.funcs[f]? = some fn) :
    false = Tryd.pinned.checked.prog.looks [] ∧ ∀ (j : Nat) t, fn.params[j]? = some t → Tryd.pinned.checked.prog.wantsStandIn t = false := by
  obtain rfl : f = 4 := Option.some.inj ((show Tryd.prog.funcNamed "ratline/ratlinelaw09.ClaimPairs" = some 4 by kernel_rfl).symm.trans hf) |>.symm
  obtain rfl : fn = Tryd.f4 := (Option.some.inj (Tryd.func4.symm.trans hfn)).symm
  refine ⟨by kernel_rfl, fun j t ht => ?_⟩
  rw [Tryd.params4] at ht
  have hm : t = 31 ∨ t = 31 := by simpa using Array.mem_of_getElem? ht
  rcases hm with rfl | rfl
  · exact (show Tryd.prog.wantsStandIn 31 = false by kernel_rfl)
  · exact (show Tryd.prog.wantsStandIn 31 = false by kernel_rfl)

/-- The card. -/
theorem cpairs_card : Rows.ClaimPairsCardSaid :=
  Claim7.holds_tied_plain_at .later [] _ _ _ _ cpairs_said (fun _ h => by cases h) (by kernel_rfl) (fun _ h => by cases h) claimPairs_row_tie rfl ⟨rfl, rfl⟩ (by kernel_rfl) rfl cpairs_plain (by kernel_rfl)
end Go.Proofs.YtkkbbpldeeajaaaDoor.Val
