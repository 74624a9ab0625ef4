/- The walk of the law on what holds. -/
import Derived.Test.YtnfageikacfdoaaPredMk
import Derived.Test.YtnfageikacfdoaaRefPSize
import Derived.Test.YtnfageikacfdoaaRefPHolds2
import Derived.Deep.RegionHeld3
namespace Go.Proofs.Ytnfageikacfdoaa.Val
open Go.RowKit

set_option maxHeartbeats 4000000 in
theorem pholds_walk (p : PT) (vr : Value) (r : List Val) (w : World) (hi : In w p) (hr : RowIn w vr r) (hok : RowOk r) :
    Calls Try.prog 3 #[p.val, vr] w fun e w' => e = .returned (.bool true) ∧ Below w.heap.size w w' := by
  have H0 : Hid (∀ w1, Calls Try.prog 11 #[] w1 fun e w' => e = .returned (.bool true) ∧ Below w1.heap.size w1 w') := awake_any
  obtain ⟨ar, cr, rfl, hn⟩ := hr.slice
  obtain ⟨a, ha⟩ : ∃ a, holdsP r p = a := ⟨_, rfl⟩
  have H1 : Hid (∀ w1, Below w.heap.size w w1 → Calls Try.prog 12 #[p.val, .int .i64 0] w1 fun e w' => ∃ b, e = .returned (.bool b) ∧ (b = true → p.size ≤ 200) ∧ Below w1.heap.size w1 w') := fun w1 hb => few_any p w1 (hi.keep hb)
  have H2 : Hid (∀ w1, Below w.heap.size w w1 → Calls Try.prog 13 #[p.val, .slice ar r.length cr] w1 fun e w' => e = .returned (.bool a) ∧ Below w1.heap.size w1 w') := fun w1 hb => by rw [← ha]; exact holds_any p _ r w1 (hi.keep hb) (hr.below hb)
  have H3 : Hid (∀ w1, Below w.heap.size w w1 → Calls Try.prog 14 #[p.val, .slice ar r.length cr] w1 fun e w' => e = .returned (.bool a) ∧ Below w1.heap.size w1 w') := fun w1 hb => by rw [← ha]; exact rholds_ok _ r hok p w1 (hi.keep hb) (hr.below hb)
  clear hi hr hok ha
  unfold PT.val at *
  go_enter Try.func3, Try.ntmps3
  go_wp2_with fail
  refine Calls.mono (H0.out _) ?_
  rintro e w1 ⟨rfl, hb⟩
  have B1 := (Box.new w p 26).below hb
  have HB : Hid (Below w.heap.size w w1 ∧ Box w1 w.heap.size p) := ⟨back1 hb, B1⟩
  obtain ⟨b0, b1, b2, b3, b4, b5, b6, b7, b8⟩ := B1
  clear hb H0
  go_wp2_with fail
  refine Calls.mono (H1.out _ HB.out.1) ?_
  rintro e w2 ⟨b, rfl, _, hb2⟩
  have B2 := HB.out.2.below hb2
  have HB2 : Hid (Below w.heap.size w w2) := on HB.out.1 hb2
  clear hb2 HB b0 b1 b2 b3 b4 b5 b6 b7 b8 H1
  cases b
  · clear B2 H2 H3
    go_wp2_with fail
    go_ret
    exact ⟨rfl, HB2.out⟩
  by_cases hl : 1000 < r.length
  · have e1 : (1000 : Int) < (r.length : Int) := by omega
    clear B2 H2 H3
    go_wp2_with fail
    go_ret
    exact ⟨rfl, HB2.out⟩
  have e1 : decide ((1000 : Int) < (r.length : Int)) = false := by simp; omega
  go_wp2_with fail
  have B3 : Box w2.drew w.heap.size p := B2.below (Below.refl _ _).drew
  have HB3 : Below w.heap.size w w2.drew := HB2.out.drew
  refine wp_region_held_drew (S := fun w' => w'.cell? ⟨w.heap.size, 0, none⟩ = some (.int .i64 p.op) ∧ w'.cell? ⟨w.heap.size, 1, none⟩ = some (.int .i64 p.col) ∧ w'.cell? ⟨w.heap.size, 2, none⟩ = some (.bool p.v.t) ∧ w'.cell? ⟨w.heap.size, 3, none⟩ = some (.int .i64 p.v.n) ∧ w'.cell? ⟨w.heap.size, 4, none⟩ = some (.string p.v.s) ∧ w'.cell? ⟨w.heap.size, 5, none⟩ = some (.bool p.w.t) ∧ w'.cell? ⟨w.heap.size, 6, none⟩ = some (.int .i64 p.w.n) ∧ w'.cell? ⟨w.heap.size, 7, none⟩ = some (.string p.w.s) ∧ w'.cell? ⟨w.heap.size, 8, none⟩ = some p.lv) (by kernel_rfl) ?_ (fun hHeld => ?_)
  · exact ⟨B3.c0, B3.c1, B3.c2, B3.c3, B3.c4, B3.c5, B3.c6, B3.c7, B3.c8⟩
  (try clear hK K)
  refine wpAnyH_take (i := 0) (v := ?_) rfl (by kernel_rfl) (by kernel_rfl) (by kernel_rfl) (fun _ _ _ h => h) (Or.inl ⟨by rfl, ?_⟩) (by assumption) ?_
  rotate_left
  · intro w hSw; (try dsimp only at hSw); go_simp; (try with_reducible rfl)
  (try simp only [Act.put, List.getElem_toArray, List.getElem_cons_zero, List.setIfInBounds_toArray, List.set_cons_zero, List.set_cons_succ])
  refine wpAnyH_take (i := 1) (v := ?_) rfl (by kernel_rfl) (by kernel_rfl) (by kernel_rfl) (fun _ _ _ h => h) (Or.inl ⟨by rfl, ?_⟩) (by assumption) ?_
  rotate_left
  · intro w hSw; (try dsimp only at hSw); go_simp; (try with_reducible rfl)
  (try simp only [Act.put, List.getElem_toArray, List.getElem_cons_succ, List.getElem_cons_zero, List.setIfInBounds_toArray, List.set_cons_zero, List.set_cons_succ])
  refine wpAnyH_take (i := 3) (v := ?_) rfl (by kernel_rfl) (by kernel_rfl) (by kernel_rfl) (fun _ _ _ h => h) (Or.inl ⟨by rfl, ?_⟩) (by assumption) ?_
  rotate_left
  · intro w hSw; (try dsimp only at hSw); go_simp; (try with_reducible rfl)
  (try simp only [Act.put, List.getElem_toArray, List.getElem_cons_succ, List.getElem_cons_zero, List.setIfInBounds_toArray, List.set_cons_zero, List.set_cons_succ])
  refine wpAnyH_take (i := 4) (v := ?_) rfl (by kernel_rfl) (by kernel_rfl) (by kernel_rfl) (fun _ _ _ h => h) (Or.inl ⟨by rfl, ?_⟩) (by assumption) ?_
  rotate_left
  · intro w hSw; (try dsimp only at hSw); go_simp; (try with_reducible rfl)
  (try simp only [Act.put, List.getElem_toArray, List.getElem_cons_succ, List.getElem_cons_zero, List.setIfInBounds_toArray, List.set_cons_zero, List.set_cons_succ])
  (try clear hK K)
  refine wpAnyH_ready (rs := [2]) (by kernel_rfl) (by simp) ?_
  refine AllReadyH.cons rfl (fun K hK => ?_) AllReadyH.nil
  go_simp
  (refine Calls.mono (H2.out _ HB3) ?_; rintro e w4 ⟨rfl, hb4⟩; have B4 := B3.below hb4; have HB4 := on HB3 hb4)
  refine hK.out _ _ ?_ (fun hHeld => ?_)
  · exact ⟨B4.c0, B4.c1, B4.c2, B4.c3, B4.c4, B4.c5, B4.c6, B4.c7, B4.c8⟩
  (try clear hK K)
  refine wpAnyH_ready (rs := [5]) (by kernel_rfl) (by simp) ?_
  refine AllReadyH.cons rfl (fun K hK => ?_) AllReadyH.nil
  go_simp
  (refine Calls.mono (H3.out _ HB4) ?_; rintro e w5 ⟨rfl, hb5⟩; have B5 := B4.below hb5; have HB5 := on HB4 hb5)
  refine hK.out _ _ ?_ (fun hHeld => ?_)
  · exact ⟨B5.c0, B5.c1, B5.c2, B5.c3, B5.c4, B5.c5, B5.c6, B5.c7, B5.c8⟩
  (try clear hK K)
  refine wpAnyH_take (i := 6) (v := ?_) rfl (by kernel_rfl) (by kernel_rfl) (by kernel_rfl) (fun _ _ _ h => h) (Or.inl ⟨by rfl, ?_⟩) (by assumption) ?_
  rotate_left
  · intro w hSw; (try dsimp only at hSw); go_simp; (try with_reducible rfl)
  (try simp only [Act.put, List.getElem_toArray, List.getElem_cons_succ, List.getElem_cons_zero, List.setIfInBounds_toArray, List.set_cons_zero, List.set_cons_succ])
  refine wpAnyH_take (i := 7) (v := ?_) rfl (by kernel_rfl) (by kernel_rfl) (by kernel_rfl) (fun _ _ _ h => h) (Or.inl ⟨by rfl, ?_⟩) (by assumption) ?_
  rotate_left
  · intro w hSw; (try dsimp only at hSw); go_simp; (try with_reducible rfl)
  (try simp only [Act.put, List.getElem_toArray, List.getElem_cons_succ, List.getElem_cons_zero, List.setIfInBounds_toArray, List.set_cons_zero, List.set_cons_succ])
  (try clear hK K)
  refine wpAnyH_done (by kernel_rfl) ?_ _
  go_wp2_with fail
  go_ret
  exact ⟨by simp, HB5⟩
end Go.Proofs.Ytnfageikacfdoaa.Val
