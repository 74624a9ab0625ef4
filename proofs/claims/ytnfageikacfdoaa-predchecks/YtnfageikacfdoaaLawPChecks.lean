/- The walk of the law on what may be a table's. -/
import Derived.Test.YtnfageikacfdoaaPredMk
import Derived.Test.YtnfageikacfdoaaRefPPart2
namespace Go.Proofs.Ytnfageikacfdoaa.Val
open Go.RowKit

set_option maxHeartbeats 8000000 in
theorem checks_walk (vc : Value) (cols : List Bool) (p : PT) (w : World) (hbo : BoolsIn w vc cols) (hi : In w p) :
    Calls Try.prog 4 #[.agg #[vc], p.val] w fun e w' => e = .returned (.bool true) ∧ Below w.heap.size w w' := by
  have H0 : Hid (∀ w1, Calls Try.prog 11 #[] w1 fun e w' => e = .returned (.bool true) ∧ Below w1.heap.size w1 w') := awake_any
  obtain ⟨ac, cc, rfl, hn⟩ := hbo.slice
  have HP : Hid (BoolsIn w (.slice ac cols.length cc) cols ∧ In w p) := ⟨hbo, hi⟩
  have HT : Hid _ := TB.new w (.slice ac cols.length cc) p 34 26
  clear hbo hi
  have FA : Hid (∀ w1, Below w.heap.size w w1 → Calls Try.prog 12 #[p.val, .int .i64 0] w1 fun e w' => ∃ b, e = .returned (.bool b) ∧ (b = true → p.size ≤ 200) ∧ Below w1.heap.size w1 w') := fun w1 hb => few_any p w1 (HP.out.2.keep hb)
  unfold PT.val at *
  go_enter Try.func4, Try.ntmps4
  go_wp2_with fail
  refine Calls.mono (H0.out _) ?_
  rintro e w1 ⟨rfl, hb⟩
  have T1 : Hid (TB w.heap.size (.slice ac cols.length cc) p w1) := HT.out.below hb
  have HB1 : Hid (Below w.heap.size w w1) := back2 hb
  clear hb H0 HT
  obtain ⟨t0, ⟨b0, b1, b2, b3, b4, b5, b6, b7, b8⟩⟩ := T1.out
  go_wp2_with fail
  refine Calls.mono (FA.out _ HB1.out) ?_
  rintro e w2 ⟨bb, rfl, hsz, hb⟩
  have T2 : Hid (TB w.heap.size (.slice ac cols.length cc) p w2) := T1.out.below hb
  have HB2 : Hid (Below w.heap.size w w2) := on HB1.out hb
  have HS : Hid (bb = true → p.size ≤ 200) := hsz
  clear hb hsz T1 HB1 FA t0 b0 b1 b2 b3 b4 b5 b6 b7 b8
  cases bb
  · go_wp2_with fail
    go_ret
    exact ⟨rfl, HB2.out⟩
  have sp := HS.out rfl
  clear HS
  obtain ⟨t0, ⟨b0, b1, b2, b3, b4, b5, b6, b7, b8⟩⟩ := T2.out
  by_cases hlen : 1000 < cols.length
  · have e1 : (1000 : Int) < (cols.length : Int) := by omega
    go_wp2_with fail
    go_ret
    exact ⟨rfl, HB2.out⟩
  have e1 : decide ((1000 : Int) < (cols.length : Int)) = false := by simp; omega
  obtain ⟨t, ht⟩ : ∃ t, mayT cols = t := ⟨_, rfl⟩
  obtain ⟨m, hm⟩ : ∃ m, mayP cols p = m := ⟨_, rfl⟩
  have C1 : Hid (∀ w1, Below w.heap.size w w1 → Calls Try.prog 15 #[.agg #[.slice ac cols.length cc], p.val] w1 fun e w' => e = .returned (.bool (t && m)) ∧ Below w1.heap.size w1 w') := fun w1 hb => by rw [← ht, ← hm]; exact rmayP_any _ cols p w1 (HP.out.1.below hb) (HP.out.2.keep hb) (by omega)
  have C2 : Hid (∀ w1, Below w.heap.size w w1 → Calls Try.prog 16 #[.agg #[.slice ac cols.length cc]] w1 fun e w' => e = .returned (.bool t) ∧ Below w1.heap.size w1 w') := fun w1 hb => by rw [← ht]; exact rmay_any _ cols w1 (HP.out.1.below hb)
  have C3 : Hid (∀ w1, Below w.heap.size w w1 → Calls Try.prog 17 #[.agg #[.slice ac cols.length cc], p.val] w1 fun e w' => e = .returned (.int .i64 (if t then (if m then 0 else 30) else 1)) ∧ Below w1.heap.size w1 w') := fun w1 hb => by rw [← ht, ← hm]; exact pcheck_any _ cols p w1 (HP.out.1.below hb) (HP.out.2.keep hb) (by omega)
  have C4 : Hid (∀ w1, Below w.heap.size w w1 → Calls Try.prog 18 #[p.val] w1 fun e w' => e = .returned (.int .i64 (p.size : Int)) ∧ Below w1.heap.size w1 w') := fun w1 hb => size_any p w1 (HP.out.2.keep hb) (by omega)
  have C5 : Hid (∀ w1, Below w.heap.size w w1 → Calls Try.prog 19 #[p.val] w1 fun e w' => e = .returned (.int .i64 (p.size : Int)) ∧ Below w1.heap.size w1 w') := fun w1 hb => rsize_any p w1 (HP.out.2.keep hb) (by omega)
  clear HP ht hm sp hlen
  unfold PT.val at *
  generalize (p.size : Int) = sz at *
  go_wp2_with fail
  refine Calls.mono (C1.out _ HB2.out) ?_
  rintro e w3 ⟨rfl, hb⟩
  have T3 : Hid (TB w.heap.size (.slice ac cols.length cc) p w3) := T2.out.below hb
  have HB3 : Hid (Below w.heap.size w w3) := on HB2.out hb
  clear hb T2 HB2 C1 t0 b0 b1 b2 b3 b4 b5 b6 b7 b8
  obtain ⟨t0, _⟩ := T3.out
  cases t <;> cases m
  all_goals
    simp only [Bool.and_self, Bool.and_true, Bool.and_false]
    simp only [Bool.false_eq_true, if_true, if_false] at C3
    go_wp2_with fail
    refine Calls.mono (C2.out _ HB3.out) ?_
    rintro e w4 ⟨rfl, hb⟩
    have T4 := T3.out.below hb
    have HB4 : Hid (Below w.heap.size w w4) := on HB3.out hb
    clear hb T3 HB3 C2 t0
    go_wp2_with fail
    have T5 : TB w.heap.size (.slice ac cols.length cc) p w4.drew := T4.below (Below.refl _ _).drew
    have HB5 : Below w.heap.size w w4.drew := HB4.out.drew
    refine wp_region_held_drew (S := fun w' => w'.cell? ⟨w.heap.size, 0, none⟩ = some (.slice ac cols.length cc) ∧ w'.cell? ⟨w.heap.size + 1, 0, none⟩ = some (.int .i64 p.op) ∧ w'.cell? ⟨w.heap.size + 1, 1, none⟩ = some (.int .i64 p.col) ∧ w'.cell? ⟨w.heap.size + 1, 2, none⟩ = some (.bool p.v.t) ∧ w'.cell? ⟨w.heap.size + 1, 3, none⟩ = some (.int .i64 p.v.n) ∧ w'.cell? ⟨w.heap.size + 1, 4, none⟩ = some (.string p.v.s) ∧ w'.cell? ⟨w.heap.size + 1, 5, none⟩ = some (.bool p.w.t) ∧ w'.cell? ⟨w.heap.size + 1, 6, none⟩ = some (.int .i64 p.w.n) ∧ w'.cell? ⟨w.heap.size + 1, 7, none⟩ = some (.string p.w.s) ∧ w'.cell? ⟨w.heap.size + 1, 8, none⟩ = some p.lv) (by kernel_rfl) ?_ (fun hHeld => ?_)
    · exact ⟨T5.t, T5.pb.c0, T5.pb.c1, T5.pb.c2, T5.pb.c3, T5.pb.c4, T5.pb.c5, T5.pb.c6, T5.pb.c7, T5.pb.c8⟩
    (try clear hK K)
    refine wpAnyH_take (i := 0) (v := ?_) rfl (by kernel_rfl) (by kernel_rfl) (by kernel_rfl) (fun _ _ _ h => h) (Or.inl ⟨by rfl, ?_⟩) (by assumption) ?_
    rotate_left
    · intro w hSw; (try dsimp only at hSw); go_simp; (try with_reducible rfl)
    (try simp only [Act.put, List.getElem_toArray, List.getElem_cons_zero, List.setIfInBounds_toArray, List.set_cons_zero, List.set_cons_succ])
    refine wpAnyH_take (i := 1) (v := ?_) rfl (by kernel_rfl) (by kernel_rfl) (by kernel_rfl) (fun _ _ _ h => h) (Or.inl ⟨by rfl, ?_⟩) (by assumption) ?_
    rotate_left
    · intro w hSw; (try dsimp only at hSw); go_simp; (try with_reducible rfl)
    (try simp only [Act.put, List.getElem_toArray, List.getElem_cons_succ, List.getElem_cons_zero, List.setIfInBounds_toArray, List.set_cons_zero, List.set_cons_succ])
    refine wpAnyH_take (i := 3) (v := ?_) rfl (by kernel_rfl) (by kernel_rfl) (by kernel_rfl) (fun _ _ _ h => h) (Or.inl ⟨by rfl, ?_⟩) (by assumption) ?_
    rotate_left
    · intro w hSw; (try dsimp only at hSw); go_simp; (try with_reducible rfl)
    (try simp only [Act.put, List.getElem_toArray, List.getElem_cons_succ, List.getElem_cons_zero, List.setIfInBounds_toArray, List.set_cons_zero, List.set_cons_succ])
    (try clear hK K)
    refine wpAnyH_ready (rs := [2]) (by kernel_rfl) (by simp) ?_
    refine AllReadyH.cons rfl (fun K hK => ?_) AllReadyH.nil
    go_simp
    (refine Calls.mono (C3.out _ HB5) ?_; rintro e w6 ⟨rfl, hb6⟩; have T6 := T5.below hb6; have HB6 := on HB5 hb6)
    refine hK.out _ _ ?_ (fun hHeld => ?_)
    · exact ⟨T6.t, T6.pb.c0, T6.pb.c1, T6.pb.c2, T6.pb.c3, T6.pb.c4, T6.pb.c5, T6.pb.c6, T6.pb.c7, T6.pb.c8⟩
    (try clear hK K)
    refine wpAnyH_take (i := 4) (v := ?_) rfl (by kernel_rfl) (by kernel_rfl) (by kernel_rfl) (fun _ _ _ h => h) (Or.inl ⟨by rfl, ?_⟩) (by assumption) ?_
    rotate_left
    · intro w hSw; (try dsimp only at hSw); go_simp; (try with_reducible rfl)
    (try simp only [Act.put, List.getElem_toArray, List.getElem_cons_succ, List.getElem_cons_zero, List.setIfInBounds_toArray, List.set_cons_zero, List.set_cons_succ])
    refine wpAnyH_take (i := 5) (v := ?_) rfl (by kernel_rfl) (by kernel_rfl) (by kernel_rfl) (fun _ _ _ h => h) (Or.inl ⟨by rfl, ?_⟩) (by assumption) ?_
    rotate_left
    · intro w hSw; (try dsimp only at hSw); go_simp; (try with_reducible rfl)
    (try simp only [Act.put, List.getElem_toArray, List.getElem_cons_succ, List.getElem_cons_zero, List.setIfInBounds_toArray, List.set_cons_zero, List.set_cons_succ])
    refine wpAnyH_take (i := 6) (v := ?_) rfl (by kernel_rfl) (by kernel_rfl) (by kernel_rfl) (fun _ _ _ h => h) (Or.inl ⟨by rfl, ?_⟩) (by assumption) ?_
    rotate_left
    · intro w hSw; (try dsimp only at hSw); go_simp; (try with_reducible rfl)
    (try simp only [Act.put, List.getElem_toArray, List.getElem_cons_succ, List.getElem_cons_zero, List.setIfInBounds_toArray, List.set_cons_zero, List.set_cons_succ])
    refine wpAnyH_take (i := 8) (v := ?_) rfl (by kernel_rfl) (by kernel_rfl) (by kernel_rfl) (fun _ _ _ h => h) (Or.inl ⟨by rfl, ?_⟩) (by assumption) ?_
    rotate_left
    · intro w hSw; (try dsimp only at hSw); go_simp; (try with_reducible rfl)
    (try simp only [Act.put, List.getElem_toArray, List.getElem_cons_succ, List.getElem_cons_zero, List.setIfInBounds_toArray, List.set_cons_zero, List.set_cons_succ])
    (try clear hK K)
    refine wpAnyH_ready (rs := [7]) (by kernel_rfl) (by simp) ?_
    refine AllReadyH.cons rfl (fun K hK => ?_) AllReadyH.nil
    go_simp
    (refine Calls.mono (C4.out _ HB6) ?_; rintro e w7 ⟨rfl, hb7⟩; have T7 := T6.below hb7; have HB7 := on HB6 hb7)
    refine hK.out _ _ ?_ (fun hHeld => ?_)
    · exact ⟨T7.t, T7.pb.c0, T7.pb.c1, T7.pb.c2, T7.pb.c3, T7.pb.c4, T7.pb.c5, T7.pb.c6, T7.pb.c7, T7.pb.c8⟩
    (try clear hK K)
    refine wpAnyH_ready (rs := [9]) (by kernel_rfl) (by simp) ?_
    refine AllReadyH.cons rfl (fun K hK => ?_) AllReadyH.nil
    go_simp
    (refine Calls.mono (C5.out _ HB7) ?_; rintro e w8 ⟨rfl, hb8⟩; have T8 := T7.below hb8; have HB8 := on HB7 hb8)
    refine hK.out _ _ ?_ (fun hHeld => ?_)
    · exact ⟨T8.t, T8.pb.c0, T8.pb.c1, T8.pb.c2, T8.pb.c3, T8.pb.c4, T8.pb.c5, T8.pb.c6, T8.pb.c7, T8.pb.c8⟩
    (try clear hK K)
    refine wpAnyH_take (i := 10) (v := ?_) rfl (by kernel_rfl) (by kernel_rfl) (by kernel_rfl) (fun _ _ _ h => h) (Or.inl ⟨by rfl, ?_⟩) (by assumption) ?_
    rotate_left
    · intro w hSw; (try dsimp only at hSw); go_simp; (try with_reducible rfl)
    (try simp only [Act.put, List.getElem_toArray, List.getElem_cons_succ, List.getElem_cons_zero, List.setIfInBounds_toArray, List.set_cons_zero, List.set_cons_succ])
    refine wpAnyH_take (i := 11) (v := ?_) rfl (by kernel_rfl) (by kernel_rfl) (by kernel_rfl) (fun _ _ _ h => h) (Or.inl ⟨by rfl, ?_⟩) (by assumption) ?_
    rotate_left
    · intro w hSw; (try dsimp only at hSw); go_simp; (try with_reducible rfl)
    (try simp only [Act.put, List.getElem_toArray, List.getElem_cons_succ, List.getElem_cons_zero, List.setIfInBounds_toArray, List.set_cons_zero, List.set_cons_succ])
    refine wpAnyH_take (i := 12) (v := ?_) rfl (by kernel_rfl) (by kernel_rfl) (by kernel_rfl) (fun _ _ _ h => h) (Or.inl ⟨by rfl, ?_⟩) (by assumption) ?_
    rotate_left
    · intro w hSw; (try dsimp only at hSw); go_simp; (try with_reducible rfl)
    (try simp only [Act.put, List.getElem_toArray, List.getElem_cons_succ, List.getElem_cons_zero, List.setIfInBounds_toArray, List.set_cons_zero, List.set_cons_succ])
    (try clear hK K)
    refine wpAnyH_done (by kernel_rfl) ?_ _
    go_wp2_with fail
    go_ret
    exact ⟨by simp, HB8⟩
end Go.Proofs.Ytnfageikacfdoaa.Val
