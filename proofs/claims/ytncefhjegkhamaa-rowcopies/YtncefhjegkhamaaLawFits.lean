/- The law RowFits answers true for any table, row and sets. -/
import Derived.Test.YtncefhjegkhamaaAwakeR
import Derived.Test.YtncefhjegkhamaaRefSets
import Derived.Test.YtncefhjegkhamaaRefFits
namespace Go.Proofs.Ytncefhjegkhamaa.Val
open Go.RowKit

/-- A row's facts, behind calls that keep what lies below. -/
theorem kept_box {w w1 : World} {v : Value} {T : TypeId} (h : Below (w.alloc (.cells #[v] T)).heap.size (w.alloc (.cells #[v] T)) w1) : w1.cell? ⟨w.heap.size, 0, none⟩ = some v ∧ Below w.heap.size w w1 := ⟨in1' h, back1' h⟩
theorem cell_on {w w1 w2 : World} {b : Nat} {v : Value} (h : w1.cell? ⟨b, 0, none⟩ = some v ∧ Below w.heap.size w w1) (hb : Below w1.heap.size w1 w2) : w2.cell? ⟨b, 0, none⟩ = some v ∧ Below w.heap.size w w2 :=
  ⟨by rw [hb.cell (World.block_lt_of_cell? _ _ h.1)]; exact h.1, h.2.trans (hb.mono h.2.size)⟩
set_option maxHeartbeats 1000000 in
theorem fits_walk (vc vr vs : Value) (cols : List Bool) (xs : List Val) (l : List SetP) (w : World) (hc : BoolsIn w vc cols) (hr : RowIn w vr xs) (hs : SetsIn w vs l) (ho : RowOk xs) (hso : SetsOk l) :
    Calls Try.prog 3 #[.agg #[vc], vr, vs] w fun e w' => e = .returned (.bool true) ∧ Below w.heap.size w w' := by
  have H0 : Hid (∀ w1, Calls Try.prog 10 #[] w1 fun e w' => e = .returned (.bool true) ∧ Below w1.heap.size w1 w') := awake_any
  obtain ⟨lg, hlg⟩ : ∃ lg, (decide (1000 < cols.length) || decide (1000 < xs.length) || decide (1000 < l.length)) = lg := ⟨_, rfl⟩
  have H1 : Hid (∀ w1, Below w.heap.size w w1 → Calls Try.prog 11 #[.agg #[vc], vr, vs] w1 fun e w' => e = .returned (.bool lg) ∧ Below w1.heap.size w1 w') := fun w1 hb => by
    have := long_any vc vr vs cols xs l w1 (hc.below hb) (hr.below hb) (hs.below hb); rw [hlg] at this; exact this
  have H2 : Hid (∀ w1, Below w.heap.size w w1 → Calls Try.prog 12 #[.agg #[vc]] w1 fun e w' => e = .returned (.bool (mayT cols)) ∧ Below w1.heap.size w1 w') := fun w1 hb => rmay_any vc cols w1 (hc.below hb)
  have H3 : Hid (∀ w1, Below w.heap.size w w1 → Calls Try.prog 13 #[.agg #[vc]] w1 fun e w' => e = .returned (.int .i64 (errIf (!mayT cols) 1)) ∧ Below w1.heap.size w1 w') := fun w1 hb => check_any vc cols w1 (hc.below hb)
  have H4 : Hid (∀ w1, Below w.heap.size w w1 → Calls Try.prog 14 #[.agg #[vc], vs] w1 fun e w' => e = .returned (.int .i64 (checkSetsN cols l)) ∧ Below w1.heap.size w1 w') := fun w1 hb => checkSets_any vc vs cols l w1 (hc.below hb) (hs.below hb) fun s h => (hso s h).2
  have H5 : Hid (∀ w1, Below w.heap.size w w1 → Calls Try.prog 15 #[.agg #[vc], vr] w1 fun e w' => e = .returned (.bool (fitsRow cols xs)) ∧ Below w1.heap.size w1 w') := fun w1 hb => fits_any vc vr cols xs w1 (hc.below hb) (hr.below hb) ho
  have H6 : Hid (∀ w1, Below w.heap.size w w1 → Calls Try.prog 16 #[.agg #[vc], vr] w1 fun e w' => e = .returned (.bool (fitsRow cols xs)) ∧ Below w1.heap.size w1 w') := fun w1 hb => rfits_any vc vr cols xs w1 (hc.below hb) (hr.below hb) ho
  have H7 : Hid (∀ w1, Below w.heap.size w w1 → Calls Try.prog 17 #[.agg #[vc], vs] w1 fun e w' => e = .returned (.bool (setsB cols l)) ∧ Below w1.heap.size w1 w') := fun w1 hb => rsets_all vc vs cols l w1 (hc.below hb) (hs.below hb) fun s h => (hso s h).2
  unfold checkSetsN errIf at *
  clear hc hr hs ho hso hlg
  generalize fitsRow cols xs = ft at *
  generalize setsB cols l = sb at *
  generalize mayT cols = my at *
  go_enter Try.func3, Try.ntmps3
  go_wp2_with fail
  refine Calls.mono (H0.out _) ?_
  rintro e w1 ⟨rfl, hb⟩
  have HK1 : Hid _ := kept_box hb
  have c1 := HK1.out.1
  clear hb
  go_wp2_with fail
  refine Calls.mono (H1.out _ HK1.out.2) ?_
  rintro e w2 ⟨rfl, hb⟩
  have HK2 : Hid _ := cell_on HK1.out hb
  have c2 := HK2.out.1
  clear hb c1
  cases lg
  · go_wp2_with fail
    refine Calls.mono (H2.out _ HK2.out.2) ?_
    rintro e w3 ⟨rfl, hb⟩
    have HK3 : Hid _ := cell_on HK2.out hb
    have c3 := HK3.out.1
    clear hb c2
    cases my <;> cases sb
    all_goals
      go_wp2_with fail
      refine Calls.mono (H3.out _ HK3.out.2) ?_
      rintro e w4 ⟨rfl, hb⟩
      have HK4 : Hid _ := cell_on HK3.out hb
      have c4 := HK4.out.1
      clear hb
      go_wp2_with fail
      refine Calls.mono (H4.out _ HK4.out.2) ?_
      rintro e w5 ⟨rfl, hb⟩
      have HK5 : Hid _ := cell_on HK4.out hb
      have c5 := HK5.out.1
      clear hb c4
      go_wp2_with fail
      refine wp_region_held_drew (S := fun w' => w'.cell? ⟨w.heap.size, 0, none⟩ = some vc) (by kernel_rfl) ?_ (fun hHeld => ?_)
      · exact c5
      (try clear hK K)
      refine wpAnyH_take (i := 0) (v := ?_) rfl (by kernel_rfl) (by kernel_rfl) (by kernel_rfl) (fun _ _ _ h => h) (Or.inl ⟨by rfl, ?_⟩) (by assumption) ?_
      rotate_left
      · intro w hSw; (try dsimp only at hSw); go_simp; (try with_reducible rfl)
      (try simp only [Act.put, List.getElem_toArray, List.getElem_cons_zero, List.setIfInBounds_toArray, List.set_cons_zero, List.set_cons_succ])
      refine wpAnyH_take (i := 1) (v := ?_) rfl (by kernel_rfl) (by kernel_rfl) (by kernel_rfl) (fun _ _ _ h => h) (Or.inl ⟨by rfl, ?_⟩) (by assumption) ?_
      rotate_left
      · intro w hSw; (try dsimp only at hSw); go_simp; (try with_reducible rfl)
      (try simp only [Act.put, List.getElem_toArray, List.getElem_cons_succ, List.getElem_cons_zero, List.setIfInBounds_toArray, List.set_cons_zero, List.set_cons_succ])
      refine wpAnyH_take (i := 2) (v := ?_) rfl (by kernel_rfl) (by kernel_rfl) (by kernel_rfl) (fun _ _ _ h => h) (Or.inl ⟨by rfl, ?_⟩) (by assumption) ?_
      rotate_left
      · intro w hSw; (try dsimp only at hSw); go_simp; (try with_reducible rfl)
      (try simp only [Act.put, List.getElem_toArray, List.getElem_cons_succ, List.getElem_cons_zero, List.setIfInBounds_toArray, List.set_cons_zero, List.set_cons_succ])
      refine wpAnyH_take (i := 3) (v := ?_) rfl (by kernel_rfl) (by kernel_rfl) (by kernel_rfl) (fun _ _ _ h => h) (Or.inl ⟨by rfl, ?_⟩) (by assumption) ?_
      rotate_left
      · intro w hSw; (try dsimp only at hSw); go_simp; (try with_reducible rfl)
      (try simp only [Act.put, List.getElem_toArray, List.getElem_cons_succ, List.getElem_cons_zero, List.setIfInBounds_toArray, List.set_cons_zero, List.set_cons_succ])
      refine wpAnyH_take (i := 4) (v := ?_) rfl (by kernel_rfl) (by kernel_rfl) (by kernel_rfl) (fun _ _ _ h => h) (Or.inl ⟨by rfl, ?_⟩) (by assumption) ?_
      rotate_left
      · intro w hSw; (try dsimp only at hSw); go_simp; (try with_reducible rfl)
      (try simp only [Act.put, List.getElem_toArray, List.getElem_cons_succ, List.getElem_cons_zero, List.setIfInBounds_toArray, List.set_cons_zero, List.set_cons_succ])
      refine wpAnyH_take (i := 5) (v := ?_) rfl (by kernel_rfl) (by kernel_rfl) (by kernel_rfl) (fun _ _ _ h => h) (Or.inl ⟨by rfl, ?_⟩) (by assumption) ?_
      rotate_left
      · intro w hSw; (try dsimp only at hSw); go_simp; (try with_reducible rfl)
      (try simp only [Act.put, List.getElem_toArray, List.getElem_cons_succ, List.getElem_cons_zero, List.setIfInBounds_toArray, List.set_cons_zero, List.set_cons_succ])
      refine wpAnyH_take (i := 7) (v := ?_) rfl (by kernel_rfl) (by kernel_rfl) (by kernel_rfl) (fun _ _ _ h => h) (Or.inl ⟨by rfl, ?_⟩) (by assumption) ?_
      rotate_left
      · intro w hSw; (try dsimp only at hSw); go_simp; (try with_reducible rfl)
      (try simp only [Act.put, List.getElem_toArray, List.getElem_cons_succ, List.getElem_cons_zero, List.setIfInBounds_toArray, List.set_cons_zero, List.set_cons_succ])
      refine wpAnyH_take (i := 8) (v := ?_) rfl (by kernel_rfl) (by kernel_rfl) (by kernel_rfl) (fun _ _ _ h => h) (Or.inl ⟨by rfl, ?_⟩) (by assumption) ?_
      rotate_left
      · intro w hSw; (try dsimp only at hSw); go_simp; (try with_reducible rfl)
      (try simp only [Act.put, List.getElem_toArray, List.getElem_cons_succ, List.getElem_cons_zero, List.setIfInBounds_toArray, List.set_cons_zero, List.set_cons_succ])
      (try clear hK K)
      refine wpAnyH_ready (rs := [6]) (by kernel_rfl) (by simp) ?_
      refine AllReadyH.cons rfl (fun K hK => ?_) AllReadyH.nil
      go_simp
      (refine Calls.mono (H5.out _ HK5.out.2.drew) ?_; rintro e w6 ⟨rfl, hb⟩)
      refine hK.out _ _ ?_ (fun hHeld => ?_)
      · exact (cell_on ⟨HK5.out.1, HK5.out.2⟩ (undrew hb)).1
      have HK6 : Hid _ := cell_on HK5.out (undrew hb)
      have c6 := HK6.out.1
      clear hb c5
      (try clear hK K)
      refine wpAnyH_ready (rs := [9]) (by kernel_rfl) (by simp) ?_
      refine AllReadyH.cons rfl (fun K hK => ?_) AllReadyH.nil
      go_simp
      (refine Calls.mono (H6.out _ HK6.out.2) ?_; rintro e w7 ⟨rfl, hb⟩)
      refine hK.out _ _ ?_ (fun hHeld => ?_)
      · exact (cell_on HK6.out hb).1
      have HK7 : Hid _ := cell_on HK6.out hb
      have c7 := HK7.out.1
      clear hb c6
      (try clear hK K)
      refine wpAnyH_take (i := 10) (v := ?_) rfl (by kernel_rfl) (by kernel_rfl) (by kernel_rfl) (fun _ _ _ h => h) (Or.inl ⟨by rfl, ?_⟩) (by assumption) ?_
      rotate_left
      · intro w hSw; (try dsimp only at hSw); go_simp; (try with_reducible rfl)
      (try simp only [Act.put, List.getElem_toArray, List.getElem_cons_succ, List.getElem_cons_zero, List.setIfInBounds_toArray, List.set_cons_zero, List.set_cons_succ])
      refine wpAnyH_take (i := 11) (v := ?_) rfl (by kernel_rfl) (by kernel_rfl) (by kernel_rfl) (fun _ _ _ h => h) (Or.inl ⟨by rfl, ?_⟩) (by assumption) ?_
      rotate_left
      · intro w hSw; (try dsimp only at hSw); go_simp; (try with_reducible rfl)
      (try simp only [Act.put, List.getElem_toArray, List.getElem_cons_succ, List.getElem_cons_zero, List.setIfInBounds_toArray, List.set_cons_zero, List.set_cons_succ])
      (try clear hK K)
      refine wpAnyH_done (by kernel_rfl) ?_ _
      clear hHeld
      go_wp2_with fail
    all_goals first | (go_ret; exact ⟨rfl, HK7.out.2⟩) | skip
    all_goals
      refine Calls.mono (H7.out _ HK7.out.2) ?_
      rintro e w8 ⟨rfl, hb⟩
      have HK8 : Hid _ := cell_on HK7.out hb
      clear hb
      go_wp2_with fail
      go_ret
      exact ⟨rfl, HK8.out.2⟩
  · go_wp2_with fail
    go_ret
    exact ⟨rfl, HK2.out.2⟩
end Go.Proofs.Ytncefhjegkhamaa.Val
