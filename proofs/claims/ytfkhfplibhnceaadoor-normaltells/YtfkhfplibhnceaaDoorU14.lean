/- What the reference's opposite answers. -/
import Derived.Test.YtfkhfplibhnceaaDoorU6
import Derived.Test.YtfkhfplibhnceaaDoorU4
import Derived.Deep.RegionLaw
import Derived.Deep.RegionHeld3
namespace Go.Proofs.YtfkhfplibhnceaaDoor.Val
open Go.RowKit

def ROppOk (p t : PT) : Prop := ∀ w, In w p → Calls Tryd.prog 51 #[p.val] w fun e w' => ∃ q : PT, e = .returned q.val ∧ q.bare = t.bare ∧ Nw w' TP (fun b => w.heap.size ≤ b) q ∧ Below w.heap.size w w'
set_option maxHeartbeats 4000000 in
theorem ropp_1 (p : PT) (h : p.op = 1) : ROppOk p (lfN 2 0 Val.zero Val.zero) := by
  intro w hi
  have HV : Hid (p.v.s.size ≤ maxLen ∧ p.w.s.size ≤ maxLen) := ⟨hi.sv, hi.sw⟩
  obtain ⟨ap, cp, hlp, _⟩ := hi.lies.slice
  have HN : Hid _ := P2.new w p 29 29
  clear hi
  unfold PT.val
  rw [hlp, h]
  rw [pobj, hlp, h] at HN
  clear hlp
  clear HN h
  go_enter Tryd.func51, Tryd.ntmps51
  go_wp2_with fail
  refine bodyPost_ret (v := (lfN 2 0 Val.zero Val.zero).val) (by simp [results, Tryd.results51, go_sem, PT.val, lfN, Val.zero]) rfl ⟨_, rfl, rfl, Nw.leaf _ _ _ _ _ _ _ (by decide) (by decide), ?_⟩
  exact back1 (alloc1 _ _)
set_option maxHeartbeats 4000000 in
theorem ropp_2 (p : PT) (h : p.op = 2) : ROppOk p (lfN 1 0 Val.zero Val.zero) := by
  intro w hi
  have HV : Hid (p.v.s.size ≤ maxLen ∧ p.w.s.size ≤ maxLen) := ⟨hi.sv, hi.sw⟩
  obtain ⟨ap, cp, hlp, _⟩ := hi.lies.slice
  have HN : Hid _ := P2.new w p 29 29
  clear hi
  unfold PT.val
  rw [hlp, h]
  rw [pobj, hlp, h] at HN
  clear hlp
  clear HN h
  go_enter Tryd.func51, Tryd.ntmps51
  go_wp2_with fail
  refine bodyPost_ret (v := (lfN 1 0 Val.zero Val.zero).val) (by simp [results, Tryd.results51, go_sem, PT.val, lfN, Val.zero]) rfl ⟨_, rfl, rfl, Nw.leaf _ _ _ _ _ _ _ (by decide) (by decide), ?_⟩
  exact back1 (alloc1 _ _)
set_option maxHeartbeats 4000000 in
theorem ropp_3 (p : PT) (h : p.op = 3) : ROppOk p (lfN 4 p.col p.v Val.zero) := by
  intro w hi
  have HV : Hid (p.v.s.size ≤ maxLen ∧ p.w.s.size ≤ maxLen) := ⟨hi.sv, hi.sw⟩
  obtain ⟨ap, cp, hlp, _⟩ := hi.lies.slice
  have HN : Hid _ := P2.new w p 29 29
  clear hi
  unfold PT.val
  rw [hlp, h]
  rw [pobj, hlp, h] at HN
  clear hlp
  go_enter Tryd.func51, Tryd.ntmps51
  clear HN h
  go_wp2_with fail
  refine wp_region_held_drew (S := fun w' => w'.cell? ⟨w.heap.size + 1 + 1, 3, none⟩ = some (.int .i64 4) ∧ w'.cell? ⟨w.heap.size, 0, none⟩ = some (.int .i64 3) ∧ w'.cell? ⟨w.heap.size, 1, none⟩ = some (.int .i64 p.col) ∧ w'.cell? ⟨w.heap.size, 2, none⟩ = some (.bool p.v.t) ∧ w'.cell? ⟨w.heap.size, 3, none⟩ = some (.int .i64 p.v.n) ∧ w'.cell? ⟨w.heap.size, 4, none⟩ = some (.string p.v.s)) (by kernel_rfl) ?_ (fun hHeld => ?_)
  · refine ⟨?_, ?_, ?_, ?_, ?_, ?_⟩ <;> simp [go_sem]
  (try clear hK K)
  refine wpAnyH_take (i := 0) (v := ?_) rfl (by kernel_rfl) (by kernel_rfl) (by kernel_rfl) (fun _ _ _ h => h) (Or.inl ⟨by rfl, ?_⟩) (by assumption) ?_
  rotate_left
  · intro w hSw; (try dsimp only at hSw); go_simp; (try with_reducible rfl)
  (try simp only [Act.put, List.getElem_toArray, List.getElem_cons_zero, List.setIfInBounds_toArray, List.set_cons_zero, List.set_cons_succ])
  refine wpAnyH_take (i := 1) (v := ?_) rfl (by kernel_rfl) (by kernel_rfl) (by kernel_rfl) (fun _ _ _ h => h) (Or.inl ⟨by rfl, ?_⟩) (by assumption) ?_
  rotate_left
  · intro w hSw; (try dsimp only at hSw); go_simp; (try with_reducible rfl)
  (try simp only [Act.put, List.getElem_toArray, List.getElem_cons_succ, List.getElem_cons_zero, List.setIfInBounds_toArray, List.set_cons_zero, List.set_cons_succ])
  refine wpAnyH_take (i := 2) (v := ?_) rfl (by kernel_rfl) (by kernel_rfl) (by kernel_rfl) (fun _ _ _ h => h) (Or.inl ⟨by rfl, ?_⟩) (by assumption) ?_
  rotate_left
  · intro w hSw; (try dsimp only at hSw); go_simp; (try with_reducible rfl)
  (try simp only [Act.put, List.getElem_toArray, List.getElem_cons_succ, List.getElem_cons_zero, List.setIfInBounds_toArray, List.set_cons_zero, List.set_cons_succ])
  refine wpAnyH_take (i := 3) (v := ?_) rfl (by kernel_rfl) (by kernel_rfl) (by kernel_rfl) (fun _ _ _ h => h) (Or.inl ⟨by rfl, ?_⟩) (by assumption) ?_
  rotate_left
  · intro w hSw; (try dsimp only at hSw); go_simp; (try with_reducible rfl)
  (try simp only [Act.put, List.getElem_toArray, List.getElem_cons_succ, List.getElem_cons_zero, List.setIfInBounds_toArray, List.set_cons_zero, List.set_cons_succ])
  refine wpAnyH_take (i := 4) (v := ?_) rfl (by kernel_rfl) (by kernel_rfl) (by kernel_rfl) (fun _ _ _ h => h) (Or.inl ⟨by rfl, ?_⟩) (by assumption) ?_
  rotate_left
  · intro w hSw; (try dsimp only at hSw); go_simp; (try with_reducible rfl)
  (try simp only [Act.put, List.getElem_toArray, List.getElem_cons_succ, List.getElem_cons_zero, List.setIfInBounds_toArray, List.set_cons_zero, List.set_cons_succ])
  refine wpAnyH_take (i := 5) (v := ?_) rfl (by kernel_rfl) (by kernel_rfl) (by kernel_rfl) (fun _ _ _ h => h) (Or.inl ⟨by rfl, ?_⟩) (by assumption) ?_
  rotate_left
  · intro w hSw; (try dsimp only at hSw); go_simp; (try with_reducible rfl)
  (try simp only [Act.put, List.getElem_toArray, List.getElem_cons_succ, List.getElem_cons_zero, List.setIfInBounds_toArray, List.set_cons_zero, List.set_cons_succ])
  refine wpAnyH_take (i := 6) (v := ?_) rfl (by kernel_rfl) (by kernel_rfl) (by kernel_rfl) (fun _ _ _ h => h) (Or.inl ⟨by rfl, ?_⟩) (by assumption) ?_
  rotate_left
  · intro w hSw; (try dsimp only at hSw); go_simp; (try with_reducible rfl)
  (try simp only [Act.put, List.getElem_toArray, List.getElem_cons_succ, List.getElem_cons_zero, List.setIfInBounds_toArray, List.set_cons_zero, List.set_cons_succ])
  refine wpAnyH_take (i := 7) (v := ?_) rfl (by kernel_rfl) (by kernel_rfl) (by kernel_rfl) (fun _ _ _ h => h) (Or.inl ⟨by rfl, ?_⟩) (by assumption) ?_
  rotate_left
  · intro w hSw; (try dsimp only at hSw); go_simp; (try with_reducible rfl)
  (try simp only [Act.put, List.getElem_toArray, List.getElem_cons_succ, List.getElem_cons_zero, List.setIfInBounds_toArray, List.set_cons_zero, List.set_cons_succ])
  refine wpAnyH_take (i := 8) (v := ?_) rfl (by kernel_rfl) (by kernel_rfl) (by kernel_rfl) (fun _ _ _ h => h) (Or.inl ⟨by rfl, ?_⟩) (by assumption) ?_
  rotate_left
  · intro w hSw; (try dsimp only at hSw); go_simp; (try with_reducible rfl)
  (try simp only [Act.put, List.getElem_toArray, List.getElem_cons_succ, List.getElem_cons_zero, List.setIfInBounds_toArray, List.set_cons_zero, List.set_cons_succ])
  refine wpAnyH_take (i := 9) (v := ?_) rfl (by kernel_rfl) (by kernel_rfl) (by kernel_rfl) (fun _ _ _ h => h) (Or.inl ⟨by rfl, ?_⟩) (by assumption) ?_
  rotate_left
  · intro w hSw; (try dsimp only at hSw); go_simp; (try with_reducible rfl)
  (try simp only [Act.put, List.getElem_toArray, List.getElem_cons_succ, List.getElem_cons_zero, List.setIfInBounds_toArray, List.set_cons_zero, List.set_cons_succ])
  (try clear hK K)
  refine wpAnyH_ready (rs := [10]) (by kernel_rfl) (by simp) ?_
  refine AllReadyH.cons rfl (fun K hK => ?_) AllReadyH.nil
  go_simp
  refine hK.out _ _ ?_ (fun hHeld => ?_)
  · refine ⟨?_, ?_, ?_, ?_, ?_, ?_⟩ <;> simp [go_sem]
  (try clear hK K)
  refine wpAnyH_done (by kernel_rfl) ?_ _
  go_wp2_with fail
  refine bodyPost_ret (v := (lfN 4 p.col p.v Val.zero).val) (by simp [results, Tryd.results51, go_sem, PT.val, lfN, Val.zero]) rfl ⟨_, rfl, rfl, Nw.leaf _ _ _ _ _ _ _ HV.out.1 (by decide), ?_⟩
  exact (back2 (alloc1 _ _)).drew
set_option maxHeartbeats 4000000 in
theorem ropp_4 (p : PT) (h : p.op = 4) : ROppOk p (lfN 3 p.col p.v Val.zero) := by
  intro w hi
  have HV : Hid (p.v.s.size ≤ maxLen ∧ p.w.s.size ≤ maxLen) := ⟨hi.sv, hi.sw⟩
  obtain ⟨ap, cp, hlp, _⟩ := hi.lies.slice
  have HN : Hid _ := P2.new w p 29 29
  clear hi
  unfold PT.val
  rw [hlp, h]
  rw [pobj, hlp, h] at HN
  clear hlp
  go_enter Tryd.func51, Tryd.ntmps51
  clear HN h
  go_wp2_with fail
  refine wp_region_held_drew (S := fun w' => w'.cell? ⟨w.heap.size + 1 + 1, 4, none⟩ = some (.int .i64 3) ∧ w'.cell? ⟨w.heap.size, 0, none⟩ = some (.int .i64 4) ∧ w'.cell? ⟨w.heap.size, 1, none⟩ = some (.int .i64 p.col) ∧ w'.cell? ⟨w.heap.size, 2, none⟩ = some (.bool p.v.t) ∧ w'.cell? ⟨w.heap.size, 3, none⟩ = some (.int .i64 p.v.n) ∧ w'.cell? ⟨w.heap.size, 4, none⟩ = some (.string p.v.s)) (by kernel_rfl) ?_ (fun hHeld => ?_)
  · refine ⟨?_, ?_, ?_, ?_, ?_, ?_⟩ <;> simp [go_sem]
  (try clear hK K)
  refine wpAnyH_take (i := 0) (v := ?_) rfl (by kernel_rfl) (by kernel_rfl) (by kernel_rfl) (fun _ _ _ h => h) (Or.inl ⟨by rfl, ?_⟩) (by assumption) ?_
  rotate_left
  · intro w hSw; (try dsimp only at hSw); go_simp; (try with_reducible rfl)
  (try simp only [Act.put, List.getElem_toArray, List.getElem_cons_zero, List.setIfInBounds_toArray, List.set_cons_zero, List.set_cons_succ])
  refine wpAnyH_take (i := 1) (v := ?_) rfl (by kernel_rfl) (by kernel_rfl) (by kernel_rfl) (fun _ _ _ h => h) (Or.inl ⟨by rfl, ?_⟩) (by assumption) ?_
  rotate_left
  · intro w hSw; (try dsimp only at hSw); go_simp; (try with_reducible rfl)
  (try simp only [Act.put, List.getElem_toArray, List.getElem_cons_succ, List.getElem_cons_zero, List.setIfInBounds_toArray, List.set_cons_zero, List.set_cons_succ])
  refine wpAnyH_take (i := 2) (v := ?_) rfl (by kernel_rfl) (by kernel_rfl) (by kernel_rfl) (fun _ _ _ h => h) (Or.inl ⟨by rfl, ?_⟩) (by assumption) ?_
  rotate_left
  · intro w hSw; (try dsimp only at hSw); go_simp; (try with_reducible rfl)
  (try simp only [Act.put, List.getElem_toArray, List.getElem_cons_succ, List.getElem_cons_zero, List.setIfInBounds_toArray, List.set_cons_zero, List.set_cons_succ])
  refine wpAnyH_take (i := 3) (v := ?_) rfl (by kernel_rfl) (by kernel_rfl) (by kernel_rfl) (fun _ _ _ h => h) (Or.inl ⟨by rfl, ?_⟩) (by assumption) ?_
  rotate_left
  · intro w hSw; (try dsimp only at hSw); go_simp; (try with_reducible rfl)
  (try simp only [Act.put, List.getElem_toArray, List.getElem_cons_succ, List.getElem_cons_zero, List.setIfInBounds_toArray, List.set_cons_zero, List.set_cons_succ])
  refine wpAnyH_take (i := 4) (v := ?_) rfl (by kernel_rfl) (by kernel_rfl) (by kernel_rfl) (fun _ _ _ h => h) (Or.inl ⟨by rfl, ?_⟩) (by assumption) ?_
  rotate_left
  · intro w hSw; (try dsimp only at hSw); go_simp; (try with_reducible rfl)
  (try simp only [Act.put, List.getElem_toArray, List.getElem_cons_succ, List.getElem_cons_zero, List.setIfInBounds_toArray, List.set_cons_zero, List.set_cons_succ])
  refine wpAnyH_take (i := 5) (v := ?_) rfl (by kernel_rfl) (by kernel_rfl) (by kernel_rfl) (fun _ _ _ h => h) (Or.inl ⟨by rfl, ?_⟩) (by assumption) ?_
  rotate_left
  · intro w hSw; (try dsimp only at hSw); go_simp; (try with_reducible rfl)
  (try simp only [Act.put, List.getElem_toArray, List.getElem_cons_succ, List.getElem_cons_zero, List.setIfInBounds_toArray, List.set_cons_zero, List.set_cons_succ])
  refine wpAnyH_take (i := 6) (v := ?_) rfl (by kernel_rfl) (by kernel_rfl) (by kernel_rfl) (fun _ _ _ h => h) (Or.inl ⟨by rfl, ?_⟩) (by assumption) ?_
  rotate_left
  · intro w hSw; (try dsimp only at hSw); go_simp; (try with_reducible rfl)
  (try simp only [Act.put, List.getElem_toArray, List.getElem_cons_succ, List.getElem_cons_zero, List.setIfInBounds_toArray, List.set_cons_zero, List.set_cons_succ])
  refine wpAnyH_take (i := 7) (v := ?_) rfl (by kernel_rfl) (by kernel_rfl) (by kernel_rfl) (fun _ _ _ h => h) (Or.inl ⟨by rfl, ?_⟩) (by assumption) ?_
  rotate_left
  · intro w hSw; (try dsimp only at hSw); go_simp; (try with_reducible rfl)
  (try simp only [Act.put, List.getElem_toArray, List.getElem_cons_succ, List.getElem_cons_zero, List.setIfInBounds_toArray, List.set_cons_zero, List.set_cons_succ])
  refine wpAnyH_take (i := 8) (v := ?_) rfl (by kernel_rfl) (by kernel_rfl) (by kernel_rfl) (fun _ _ _ h => h) (Or.inl ⟨by rfl, ?_⟩) (by assumption) ?_
  rotate_left
  · intro w hSw; (try dsimp only at hSw); go_simp; (try with_reducible rfl)
  (try simp only [Act.put, List.getElem_toArray, List.getElem_cons_succ, List.getElem_cons_zero, List.setIfInBounds_toArray, List.set_cons_zero, List.set_cons_succ])
  refine wpAnyH_take (i := 9) (v := ?_) rfl (by kernel_rfl) (by kernel_rfl) (by kernel_rfl) (fun _ _ _ h => h) (Or.inl ⟨by rfl, ?_⟩) (by assumption) ?_
  rotate_left
  · intro w hSw; (try dsimp only at hSw); go_simp; (try with_reducible rfl)
  (try simp only [Act.put, List.getElem_toArray, List.getElem_cons_succ, List.getElem_cons_zero, List.setIfInBounds_toArray, List.set_cons_zero, List.set_cons_succ])
  (try clear hK K)
  refine wpAnyH_ready (rs := [10]) (by kernel_rfl) (by simp) ?_
  refine AllReadyH.cons rfl (fun K hK => ?_) AllReadyH.nil
  go_simp
  refine hK.out _ _ ?_ (fun hHeld => ?_)
  · refine ⟨?_, ?_, ?_, ?_, ?_, ?_⟩ <;> simp [go_sem]
  (try clear hK K)
  refine wpAnyH_done (by kernel_rfl) ?_ _
  go_wp2_with fail
  refine bodyPost_ret (v := (lfN 3 p.col p.v Val.zero).val) (by simp [results, Tryd.results51, go_sem, PT.val, lfN, Val.zero]) rfl ⟨_, rfl, rfl, Nw.leaf _ _ _ _ _ _ _ HV.out.1 (by decide), ?_⟩
  exact (back2 (alloc1 _ _)).drew
set_option maxHeartbeats 4000000 in
theorem ropp_5 (p : PT) (h : p.op = 5) : ROppOk p (lfN 8 p.col p.v Val.zero) := by
  intro w hi
  have HV : Hid (p.v.s.size ≤ maxLen ∧ p.w.s.size ≤ maxLen) := ⟨hi.sv, hi.sw⟩
  obtain ⟨ap, cp, hlp, _⟩ := hi.lies.slice
  have HN : Hid _ := P2.new w p 29 29
  clear hi
  unfold PT.val
  rw [hlp, h]
  rw [pobj, hlp, h] at HN
  clear hlp
  go_enter Tryd.func51, Tryd.ntmps51
  clear HN h
  go_wp2_with fail
  refine wp_region_held_drew (S := fun w' => w'.cell? ⟨w.heap.size + 1 + 1, 5, none⟩ = some (.int .i64 8) ∧ w'.cell? ⟨w.heap.size, 0, none⟩ = some (.int .i64 5) ∧ w'.cell? ⟨w.heap.size, 1, none⟩ = some (.int .i64 p.col) ∧ w'.cell? ⟨w.heap.size, 2, none⟩ = some (.bool p.v.t) ∧ w'.cell? ⟨w.heap.size, 3, none⟩ = some (.int .i64 p.v.n) ∧ w'.cell? ⟨w.heap.size, 4, none⟩ = some (.string p.v.s)) (by kernel_rfl) ?_ (fun hHeld => ?_)
  · refine ⟨?_, ?_, ?_, ?_, ?_, ?_⟩ <;> simp [go_sem]
  (try clear hK K)
  refine wpAnyH_take (i := 0) (v := ?_) rfl (by kernel_rfl) (by kernel_rfl) (by kernel_rfl) (fun _ _ _ h => h) (Or.inl ⟨by rfl, ?_⟩) (by assumption) ?_
  rotate_left
  · intro w hSw; (try dsimp only at hSw); go_simp; (try with_reducible rfl)
  (try simp only [Act.put, List.getElem_toArray, List.getElem_cons_zero, List.setIfInBounds_toArray, List.set_cons_zero, List.set_cons_succ])
  refine wpAnyH_take (i := 1) (v := ?_) rfl (by kernel_rfl) (by kernel_rfl) (by kernel_rfl) (fun _ _ _ h => h) (Or.inl ⟨by rfl, ?_⟩) (by assumption) ?_
  rotate_left
  · intro w hSw; (try dsimp only at hSw); go_simp; (try with_reducible rfl)
  (try simp only [Act.put, List.getElem_toArray, List.getElem_cons_succ, List.getElem_cons_zero, List.setIfInBounds_toArray, List.set_cons_zero, List.set_cons_succ])
  refine wpAnyH_take (i := 2) (v := ?_) rfl (by kernel_rfl) (by kernel_rfl) (by kernel_rfl) (fun _ _ _ h => h) (Or.inl ⟨by rfl, ?_⟩) (by assumption) ?_
  rotate_left
  · intro w hSw; (try dsimp only at hSw); go_simp; (try with_reducible rfl)
  (try simp only [Act.put, List.getElem_toArray, List.getElem_cons_succ, List.getElem_cons_zero, List.setIfInBounds_toArray, List.set_cons_zero, List.set_cons_succ])
  refine wpAnyH_take (i := 3) (v := ?_) rfl (by kernel_rfl) (by kernel_rfl) (by kernel_rfl) (fun _ _ _ h => h) (Or.inl ⟨by rfl, ?_⟩) (by assumption) ?_
  rotate_left
  · intro w hSw; (try dsimp only at hSw); go_simp; (try with_reducible rfl)
  (try simp only [Act.put, List.getElem_toArray, List.getElem_cons_succ, List.getElem_cons_zero, List.setIfInBounds_toArray, List.set_cons_zero, List.set_cons_succ])
  refine wpAnyH_take (i := 4) (v := ?_) rfl (by kernel_rfl) (by kernel_rfl) (by kernel_rfl) (fun _ _ _ h => h) (Or.inl ⟨by rfl, ?_⟩) (by assumption) ?_
  rotate_left
  · intro w hSw; (try dsimp only at hSw); go_simp; (try with_reducible rfl)
  (try simp only [Act.put, List.getElem_toArray, List.getElem_cons_succ, List.getElem_cons_zero, List.setIfInBounds_toArray, List.set_cons_zero, List.set_cons_succ])
  refine wpAnyH_take (i := 5) (v := ?_) rfl (by kernel_rfl) (by kernel_rfl) (by kernel_rfl) (fun _ _ _ h => h) (Or.inl ⟨by rfl, ?_⟩) (by assumption) ?_
  rotate_left
  · intro w hSw; (try dsimp only at hSw); go_simp; (try with_reducible rfl)
  (try simp only [Act.put, List.getElem_toArray, List.getElem_cons_succ, List.getElem_cons_zero, List.setIfInBounds_toArray, List.set_cons_zero, List.set_cons_succ])
  refine wpAnyH_take (i := 6) (v := ?_) rfl (by kernel_rfl) (by kernel_rfl) (by kernel_rfl) (fun _ _ _ h => h) (Or.inl ⟨by rfl, ?_⟩) (by assumption) ?_
  rotate_left
  · intro w hSw; (try dsimp only at hSw); go_simp; (try with_reducible rfl)
  (try simp only [Act.put, List.getElem_toArray, List.getElem_cons_succ, List.getElem_cons_zero, List.setIfInBounds_toArray, List.set_cons_zero, List.set_cons_succ])
  refine wpAnyH_take (i := 7) (v := ?_) rfl (by kernel_rfl) (by kernel_rfl) (by kernel_rfl) (fun _ _ _ h => h) (Or.inl ⟨by rfl, ?_⟩) (by assumption) ?_
  rotate_left
  · intro w hSw; (try dsimp only at hSw); go_simp; (try with_reducible rfl)
  (try simp only [Act.put, List.getElem_toArray, List.getElem_cons_succ, List.getElem_cons_zero, List.setIfInBounds_toArray, List.set_cons_zero, List.set_cons_succ])
  refine wpAnyH_take (i := 8) (v := ?_) rfl (by kernel_rfl) (by kernel_rfl) (by kernel_rfl) (fun _ _ _ h => h) (Or.inl ⟨by rfl, ?_⟩) (by assumption) ?_
  rotate_left
  · intro w hSw; (try dsimp only at hSw); go_simp; (try with_reducible rfl)
  (try simp only [Act.put, List.getElem_toArray, List.getElem_cons_succ, List.getElem_cons_zero, List.setIfInBounds_toArray, List.set_cons_zero, List.set_cons_succ])
  refine wpAnyH_take (i := 9) (v := ?_) rfl (by kernel_rfl) (by kernel_rfl) (by kernel_rfl) (fun _ _ _ h => h) (Or.inl ⟨by rfl, ?_⟩) (by assumption) ?_
  rotate_left
  · intro w hSw; (try dsimp only at hSw); go_simp; (try with_reducible rfl)
  (try simp only [Act.put, List.getElem_toArray, List.getElem_cons_succ, List.getElem_cons_zero, List.setIfInBounds_toArray, List.set_cons_zero, List.set_cons_succ])
  (try clear hK K)
  refine wpAnyH_ready (rs := [10]) (by kernel_rfl) (by simp) ?_
  refine AllReadyH.cons rfl (fun K hK => ?_) AllReadyH.nil
  go_simp
  refine hK.out _ _ ?_ (fun hHeld => ?_)
  · refine ⟨?_, ?_, ?_, ?_, ?_, ?_⟩ <;> simp [go_sem]
  (try clear hK K)
  refine wpAnyH_done (by kernel_rfl) ?_ _
  go_wp2_with fail
  refine bodyPost_ret (v := (lfN 8 p.col p.v Val.zero).val) (by simp [results, Tryd.results51, go_sem, PT.val, lfN, Val.zero]) rfl ⟨_, rfl, rfl, Nw.leaf _ _ _ _ _ _ _ HV.out.1 (by decide), ?_⟩
  exact (back2 (alloc1 _ _)).drew
set_option maxHeartbeats 4000000 in
theorem ropp_6 (p : PT) (h : p.op = 6) : ROppOk p (lfN 7 p.col p.v Val.zero) := by
  intro w hi
  have HV : Hid (p.v.s.size ≤ maxLen ∧ p.w.s.size ≤ maxLen) := ⟨hi.sv, hi.sw⟩
  obtain ⟨ap, cp, hlp, _⟩ := hi.lies.slice
  have HN : Hid _ := P2.new w p 29 29
  clear hi
  unfold PT.val
  rw [hlp, h]
  rw [pobj, hlp, h] at HN
  clear hlp
  go_enter Tryd.func51, Tryd.ntmps51
  clear HN h
  go_wp2_with fail
  refine wp_region_held_drew (S := fun w' => w'.cell? ⟨w.heap.size + 1 + 1, 6, none⟩ = some (.int .i64 7) ∧ w'.cell? ⟨w.heap.size, 0, none⟩ = some (.int .i64 6) ∧ w'.cell? ⟨w.heap.size, 1, none⟩ = some (.int .i64 p.col) ∧ w'.cell? ⟨w.heap.size, 2, none⟩ = some (.bool p.v.t) ∧ w'.cell? ⟨w.heap.size, 3, none⟩ = some (.int .i64 p.v.n) ∧ w'.cell? ⟨w.heap.size, 4, none⟩ = some (.string p.v.s)) (by kernel_rfl) ?_ (fun hHeld => ?_)
  · refine ⟨?_, ?_, ?_, ?_, ?_, ?_⟩ <;> simp [go_sem]
  (try clear hK K)
  refine wpAnyH_take (i := 0) (v := ?_) rfl (by kernel_rfl) (by kernel_rfl) (by kernel_rfl) (fun _ _ _ h => h) (Or.inl ⟨by rfl, ?_⟩) (by assumption) ?_
  rotate_left
  · intro w hSw; (try dsimp only at hSw); go_simp; (try with_reducible rfl)
  (try simp only [Act.put, List.getElem_toArray, List.getElem_cons_zero, List.setIfInBounds_toArray, List.set_cons_zero, List.set_cons_succ])
  refine wpAnyH_take (i := 1) (v := ?_) rfl (by kernel_rfl) (by kernel_rfl) (by kernel_rfl) (fun _ _ _ h => h) (Or.inl ⟨by rfl, ?_⟩) (by assumption) ?_
  rotate_left
  · intro w hSw; (try dsimp only at hSw); go_simp; (try with_reducible rfl)
  (try simp only [Act.put, List.getElem_toArray, List.getElem_cons_succ, List.getElem_cons_zero, List.setIfInBounds_toArray, List.set_cons_zero, List.set_cons_succ])
  refine wpAnyH_take (i := 2) (v := ?_) rfl (by kernel_rfl) (by kernel_rfl) (by kernel_rfl) (fun _ _ _ h => h) (Or.inl ⟨by rfl, ?_⟩) (by assumption) ?_
  rotate_left
  · intro w hSw; (try dsimp only at hSw); go_simp; (try with_reducible rfl)
  (try simp only [Act.put, List.getElem_toArray, List.getElem_cons_succ, List.getElem_cons_zero, List.setIfInBounds_toArray, List.set_cons_zero, List.set_cons_succ])
  refine wpAnyH_take (i := 3) (v := ?_) rfl (by kernel_rfl) (by kernel_rfl) (by kernel_rfl) (fun _ _ _ h => h) (Or.inl ⟨by rfl, ?_⟩) (by assumption) ?_
  rotate_left
  · intro w hSw; (try dsimp only at hSw); go_simp; (try with_reducible rfl)
  (try simp only [Act.put, List.getElem_toArray, List.getElem_cons_succ, List.getElem_cons_zero, List.setIfInBounds_toArray, List.set_cons_zero, List.set_cons_succ])
  refine wpAnyH_take (i := 4) (v := ?_) rfl (by kernel_rfl) (by kernel_rfl) (by kernel_rfl) (fun _ _ _ h => h) (Or.inl ⟨by rfl, ?_⟩) (by assumption) ?_
  rotate_left
  · intro w hSw; (try dsimp only at hSw); go_simp; (try with_reducible rfl)
  (try simp only [Act.put, List.getElem_toArray, List.getElem_cons_succ, List.getElem_cons_zero, List.setIfInBounds_toArray, List.set_cons_zero, List.set_cons_succ])
  refine wpAnyH_take (i := 5) (v := ?_) rfl (by kernel_rfl) (by kernel_rfl) (by kernel_rfl) (fun _ _ _ h => h) (Or.inl ⟨by rfl, ?_⟩) (by assumption) ?_
  rotate_left
  · intro w hSw; (try dsimp only at hSw); go_simp; (try with_reducible rfl)
  (try simp only [Act.put, List.getElem_toArray, List.getElem_cons_succ, List.getElem_cons_zero, List.setIfInBounds_toArray, List.set_cons_zero, List.set_cons_succ])
  refine wpAnyH_take (i := 6) (v := ?_) rfl (by kernel_rfl) (by kernel_rfl) (by kernel_rfl) (fun _ _ _ h => h) (Or.inl ⟨by rfl, ?_⟩) (by assumption) ?_
  rotate_left
  · intro w hSw; (try dsimp only at hSw); go_simp; (try with_reducible rfl)
  (try simp only [Act.put, List.getElem_toArray, List.getElem_cons_succ, List.getElem_cons_zero, List.setIfInBounds_toArray, List.set_cons_zero, List.set_cons_succ])
  refine wpAnyH_take (i := 7) (v := ?_) rfl (by kernel_rfl) (by kernel_rfl) (by kernel_rfl) (fun _ _ _ h => h) (Or.inl ⟨by rfl, ?_⟩) (by assumption) ?_
  rotate_left
  · intro w hSw; (try dsimp only at hSw); go_simp; (try with_reducible rfl)
  (try simp only [Act.put, List.getElem_toArray, List.getElem_cons_succ, List.getElem_cons_zero, List.setIfInBounds_toArray, List.set_cons_zero, List.set_cons_succ])
  refine wpAnyH_take (i := 8) (v := ?_) rfl (by kernel_rfl) (by kernel_rfl) (by kernel_rfl) (fun _ _ _ h => h) (Or.inl ⟨by rfl, ?_⟩) (by assumption) ?_
  rotate_left
  · intro w hSw; (try dsimp only at hSw); go_simp; (try with_reducible rfl)
  (try simp only [Act.put, List.getElem_toArray, List.getElem_cons_succ, List.getElem_cons_zero, List.setIfInBounds_toArray, List.set_cons_zero, List.set_cons_succ])
  refine wpAnyH_take (i := 9) (v := ?_) rfl (by kernel_rfl) (by kernel_rfl) (by kernel_rfl) (fun _ _ _ h => h) (Or.inl ⟨by rfl, ?_⟩) (by assumption) ?_
  rotate_left
  · intro w hSw; (try dsimp only at hSw); go_simp; (try with_reducible rfl)
  (try simp only [Act.put, List.getElem_toArray, List.getElem_cons_succ, List.getElem_cons_zero, List.setIfInBounds_toArray, List.set_cons_zero, List.set_cons_succ])
  (try clear hK K)
  refine wpAnyH_ready (rs := [10]) (by kernel_rfl) (by simp) ?_
  refine AllReadyH.cons rfl (fun K hK => ?_) AllReadyH.nil
  go_simp
  refine hK.out _ _ ?_ (fun hHeld => ?_)
  · refine ⟨?_, ?_, ?_, ?_, ?_, ?_⟩ <;> simp [go_sem]
  (try clear hK K)
  refine wpAnyH_done (by kernel_rfl) ?_ _
  go_wp2_with fail
  refine bodyPost_ret (v := (lfN 7 p.col p.v Val.zero).val) (by simp [results, Tryd.results51, go_sem, PT.val, lfN, Val.zero]) rfl ⟨_, rfl, rfl, Nw.leaf _ _ _ _ _ _ _ HV.out.1 (by decide), ?_⟩
  exact (back2 (alloc1 _ _)).drew
set_option maxHeartbeats 4000000 in
theorem ropp_7 (p : PT) (h : p.op = 7) : ROppOk p (lfN 6 p.col p.v Val.zero) := by
  intro w hi
  have HV : Hid (p.v.s.size ≤ maxLen ∧ p.w.s.size ≤ maxLen) := ⟨hi.sv, hi.sw⟩
  obtain ⟨ap, cp, hlp, _⟩ := hi.lies.slice
  have HN : Hid _ := P2.new w p 29 29
  clear hi
  unfold PT.val
  rw [hlp, h]
  rw [pobj, hlp, h] at HN
  clear hlp
  go_enter Tryd.func51, Tryd.ntmps51
  clear HN h
  go_wp2_with fail
  refine wp_region_held_drew (S := fun w' => w'.cell? ⟨w.heap.size + 1 + 1, 7, none⟩ = some (.int .i64 6) ∧ w'.cell? ⟨w.heap.size, 0, none⟩ = some (.int .i64 7) ∧ w'.cell? ⟨w.heap.size, 1, none⟩ = some (.int .i64 p.col) ∧ w'.cell? ⟨w.heap.size, 2, none⟩ = some (.bool p.v.t) ∧ w'.cell? ⟨w.heap.size, 3, none⟩ = some (.int .i64 p.v.n) ∧ w'.cell? ⟨w.heap.size, 4, none⟩ = some (.string p.v.s)) (by kernel_rfl) ?_ (fun hHeld => ?_)
  · refine ⟨?_, ?_, ?_, ?_, ?_, ?_⟩ <;> simp [go_sem]
  (try clear hK K)
  refine wpAnyH_take (i := 0) (v := ?_) rfl (by kernel_rfl) (by kernel_rfl) (by kernel_rfl) (fun _ _ _ h => h) (Or.inl ⟨by rfl, ?_⟩) (by assumption) ?_
  rotate_left
  · intro w hSw; (try dsimp only at hSw); go_simp; (try with_reducible rfl)
  (try simp only [Act.put, List.getElem_toArray, List.getElem_cons_zero, List.setIfInBounds_toArray, List.set_cons_zero, List.set_cons_succ])
  refine wpAnyH_take (i := 1) (v := ?_) rfl (by kernel_rfl) (by kernel_rfl) (by kernel_rfl) (fun _ _ _ h => h) (Or.inl ⟨by rfl, ?_⟩) (by assumption) ?_
  rotate_left
  · intro w hSw; (try dsimp only at hSw); go_simp; (try with_reducible rfl)
  (try simp only [Act.put, List.getElem_toArray, List.getElem_cons_succ, List.getElem_cons_zero, List.setIfInBounds_toArray, List.set_cons_zero, List.set_cons_succ])
  refine wpAnyH_take (i := 2) (v := ?_) rfl (by kernel_rfl) (by kernel_rfl) (by kernel_rfl) (fun _ _ _ h => h) (Or.inl ⟨by rfl, ?_⟩) (by assumption) ?_
  rotate_left
  · intro w hSw; (try dsimp only at hSw); go_simp; (try with_reducible rfl)
  (try simp only [Act.put, List.getElem_toArray, List.getElem_cons_succ, List.getElem_cons_zero, List.setIfInBounds_toArray, List.set_cons_zero, List.set_cons_succ])
  refine wpAnyH_take (i := 3) (v := ?_) rfl (by kernel_rfl) (by kernel_rfl) (by kernel_rfl) (fun _ _ _ h => h) (Or.inl ⟨by rfl, ?_⟩) (by assumption) ?_
  rotate_left
  · intro w hSw; (try dsimp only at hSw); go_simp; (try with_reducible rfl)
  (try simp only [Act.put, List.getElem_toArray, List.getElem_cons_succ, List.getElem_cons_zero, List.setIfInBounds_toArray, List.set_cons_zero, List.set_cons_succ])
  refine wpAnyH_take (i := 4) (v := ?_) rfl (by kernel_rfl) (by kernel_rfl) (by kernel_rfl) (fun _ _ _ h => h) (Or.inl ⟨by rfl, ?_⟩) (by assumption) ?_
  rotate_left
  · intro w hSw; (try dsimp only at hSw); go_simp; (try with_reducible rfl)
  (try simp only [Act.put, List.getElem_toArray, List.getElem_cons_succ, List.getElem_cons_zero, List.setIfInBounds_toArray, List.set_cons_zero, List.set_cons_succ])
  refine wpAnyH_take (i := 5) (v := ?_) rfl (by kernel_rfl) (by kernel_rfl) (by kernel_rfl) (fun _ _ _ h => h) (Or.inl ⟨by rfl, ?_⟩) (by assumption) ?_
  rotate_left
  · intro w hSw; (try dsimp only at hSw); go_simp; (try with_reducible rfl)
  (try simp only [Act.put, List.getElem_toArray, List.getElem_cons_succ, List.getElem_cons_zero, List.setIfInBounds_toArray, List.set_cons_zero, List.set_cons_succ])
  refine wpAnyH_take (i := 6) (v := ?_) rfl (by kernel_rfl) (by kernel_rfl) (by kernel_rfl) (fun _ _ _ h => h) (Or.inl ⟨by rfl, ?_⟩) (by assumption) ?_
  rotate_left
  · intro w hSw; (try dsimp only at hSw); go_simp; (try with_reducible rfl)
  (try simp only [Act.put, List.getElem_toArray, List.getElem_cons_succ, List.getElem_cons_zero, List.setIfInBounds_toArray, List.set_cons_zero, List.set_cons_succ])
  refine wpAnyH_take (i := 7) (v := ?_) rfl (by kernel_rfl) (by kernel_rfl) (by kernel_rfl) (fun _ _ _ h => h) (Or.inl ⟨by rfl, ?_⟩) (by assumption) ?_
  rotate_left
  · intro w hSw; (try dsimp only at hSw); go_simp; (try with_reducible rfl)
  (try simp only [Act.put, List.getElem_toArray, List.getElem_cons_succ, List.getElem_cons_zero, List.setIfInBounds_toArray, List.set_cons_zero, List.set_cons_succ])
  refine wpAnyH_take (i := 8) (v := ?_) rfl (by kernel_rfl) (by kernel_rfl) (by kernel_rfl) (fun _ _ _ h => h) (Or.inl ⟨by rfl, ?_⟩) (by assumption) ?_
  rotate_left
  · intro w hSw; (try dsimp only at hSw); go_simp; (try with_reducible rfl)
  (try simp only [Act.put, List.getElem_toArray, List.getElem_cons_succ, List.getElem_cons_zero, List.setIfInBounds_toArray, List.set_cons_zero, List.set_cons_succ])
  refine wpAnyH_take (i := 9) (v := ?_) rfl (by kernel_rfl) (by kernel_rfl) (by kernel_rfl) (fun _ _ _ h => h) (Or.inl ⟨by rfl, ?_⟩) (by assumption) ?_
  rotate_left
  · intro w hSw; (try dsimp only at hSw); go_simp; (try with_reducible rfl)
  (try simp only [Act.put, List.getElem_toArray, List.getElem_cons_succ, List.getElem_cons_zero, List.setIfInBounds_toArray, List.set_cons_zero, List.set_cons_succ])
  (try clear hK K)
  refine wpAnyH_ready (rs := [10]) (by kernel_rfl) (by simp) ?_
  refine AllReadyH.cons rfl (fun K hK => ?_) AllReadyH.nil
  go_simp
  refine hK.out _ _ ?_ (fun hHeld => ?_)
  · refine ⟨?_, ?_, ?_, ?_, ?_, ?_⟩ <;> simp [go_sem]
  (try clear hK K)
  refine wpAnyH_done (by kernel_rfl) ?_ _
  go_wp2_with fail
  refine bodyPost_ret (v := (lfN 6 p.col p.v Val.zero).val) (by simp [results, Tryd.results51, go_sem, PT.val, lfN, Val.zero]) rfl ⟨_, rfl, rfl, Nw.leaf _ _ _ _ _ _ _ HV.out.1 (by decide), ?_⟩
  exact (back2 (alloc1 _ _)).drew
set_option maxHeartbeats 4000000 in
theorem ropp_8 (p : PT) (h : p.op = 8) : ROppOk p (lfN 5 p.col p.v Val.zero) := by
  intro w hi
  have HV : Hid (p.v.s.size ≤ maxLen ∧ p.w.s.size ≤ maxLen) := ⟨hi.sv, hi.sw⟩
  obtain ⟨ap, cp, hlp, _⟩ := hi.lies.slice
  have HN : Hid _ := P2.new w p 29 29
  clear hi
  unfold PT.val
  rw [hlp, h]
  rw [pobj, hlp, h] at HN
  clear hlp
  go_enter Tryd.func51, Tryd.ntmps51
  clear HN h
  go_wp2_with fail
  refine wp_region_held_drew (S := fun w' => w'.cell? ⟨w.heap.size + 1 + 1, 8, none⟩ = some (.int .i64 5) ∧ w'.cell? ⟨w.heap.size, 0, none⟩ = some (.int .i64 8) ∧ w'.cell? ⟨w.heap.size, 1, none⟩ = some (.int .i64 p.col) ∧ w'.cell? ⟨w.heap.size, 2, none⟩ = some (.bool p.v.t) ∧ w'.cell? ⟨w.heap.size, 3, none⟩ = some (.int .i64 p.v.n) ∧ w'.cell? ⟨w.heap.size, 4, none⟩ = some (.string p.v.s)) (by kernel_rfl) ?_ (fun hHeld => ?_)
  · refine ⟨?_, ?_, ?_, ?_, ?_, ?_⟩ <;> simp [go_sem]
  (try clear hK K)
  refine wpAnyH_take (i := 0) (v := ?_) rfl (by kernel_rfl) (by kernel_rfl) (by kernel_rfl) (fun _ _ _ h => h) (Or.inl ⟨by rfl, ?_⟩) (by assumption) ?_
  rotate_left
  · intro w hSw; (try dsimp only at hSw); go_simp; (try with_reducible rfl)
  (try simp only [Act.put, List.getElem_toArray, List.getElem_cons_zero, List.setIfInBounds_toArray, List.set_cons_zero, List.set_cons_succ])
  refine wpAnyH_take (i := 1) (v := ?_) rfl (by kernel_rfl) (by kernel_rfl) (by kernel_rfl) (fun _ _ _ h => h) (Or.inl ⟨by rfl, ?_⟩) (by assumption) ?_
  rotate_left
  · intro w hSw; (try dsimp only at hSw); go_simp; (try with_reducible rfl)
  (try simp only [Act.put, List.getElem_toArray, List.getElem_cons_succ, List.getElem_cons_zero, List.setIfInBounds_toArray, List.set_cons_zero, List.set_cons_succ])
  refine wpAnyH_take (i := 2) (v := ?_) rfl (by kernel_rfl) (by kernel_rfl) (by kernel_rfl) (fun _ _ _ h => h) (Or.inl ⟨by rfl, ?_⟩) (by assumption) ?_
  rotate_left
  · intro w hSw; (try dsimp only at hSw); go_simp; (try with_reducible rfl)
  (try simp only [Act.put, List.getElem_toArray, List.getElem_cons_succ, List.getElem_cons_zero, List.setIfInBounds_toArray, List.set_cons_zero, List.set_cons_succ])
  refine wpAnyH_take (i := 3) (v := ?_) rfl (by kernel_rfl) (by kernel_rfl) (by kernel_rfl) (fun _ _ _ h => h) (Or.inl ⟨by rfl, ?_⟩) (by assumption) ?_
  rotate_left
  · intro w hSw; (try dsimp only at hSw); go_simp; (try with_reducible rfl)
  (try simp only [Act.put, List.getElem_toArray, List.getElem_cons_succ, List.getElem_cons_zero, List.setIfInBounds_toArray, List.set_cons_zero, List.set_cons_succ])
  refine wpAnyH_take (i := 4) (v := ?_) rfl (by kernel_rfl) (by kernel_rfl) (by kernel_rfl) (fun _ _ _ h => h) (Or.inl ⟨by rfl, ?_⟩) (by assumption) ?_
  rotate_left
  · intro w hSw; (try dsimp only at hSw); go_simp; (try with_reducible rfl)
  (try simp only [Act.put, List.getElem_toArray, List.getElem_cons_succ, List.getElem_cons_zero, List.setIfInBounds_toArray, List.set_cons_zero, List.set_cons_succ])
  refine wpAnyH_take (i := 5) (v := ?_) rfl (by kernel_rfl) (by kernel_rfl) (by kernel_rfl) (fun _ _ _ h => h) (Or.inl ⟨by rfl, ?_⟩) (by assumption) ?_
  rotate_left
  · intro w hSw; (try dsimp only at hSw); go_simp; (try with_reducible rfl)
  (try simp only [Act.put, List.getElem_toArray, List.getElem_cons_succ, List.getElem_cons_zero, List.setIfInBounds_toArray, List.set_cons_zero, List.set_cons_succ])
  refine wpAnyH_take (i := 6) (v := ?_) rfl (by kernel_rfl) (by kernel_rfl) (by kernel_rfl) (fun _ _ _ h => h) (Or.inl ⟨by rfl, ?_⟩) (by assumption) ?_
  rotate_left
  · intro w hSw; (try dsimp only at hSw); go_simp; (try with_reducible rfl)
  (try simp only [Act.put, List.getElem_toArray, List.getElem_cons_succ, List.getElem_cons_zero, List.setIfInBounds_toArray, List.set_cons_zero, List.set_cons_succ])
  refine wpAnyH_take (i := 7) (v := ?_) rfl (by kernel_rfl) (by kernel_rfl) (by kernel_rfl) (fun _ _ _ h => h) (Or.inl ⟨by rfl, ?_⟩) (by assumption) ?_
  rotate_left
  · intro w hSw; (try dsimp only at hSw); go_simp; (try with_reducible rfl)
  (try simp only [Act.put, List.getElem_toArray, List.getElem_cons_succ, List.getElem_cons_zero, List.setIfInBounds_toArray, List.set_cons_zero, List.set_cons_succ])
  refine wpAnyH_take (i := 8) (v := ?_) rfl (by kernel_rfl) (by kernel_rfl) (by kernel_rfl) (fun _ _ _ h => h) (Or.inl ⟨by rfl, ?_⟩) (by assumption) ?_
  rotate_left
  · intro w hSw; (try dsimp only at hSw); go_simp; (try with_reducible rfl)
  (try simp only [Act.put, List.getElem_toArray, List.getElem_cons_succ, List.getElem_cons_zero, List.setIfInBounds_toArray, List.set_cons_zero, List.set_cons_succ])
  refine wpAnyH_take (i := 9) (v := ?_) rfl (by kernel_rfl) (by kernel_rfl) (by kernel_rfl) (fun _ _ _ h => h) (Or.inl ⟨by rfl, ?_⟩) (by assumption) ?_
  rotate_left
  · intro w hSw; (try dsimp only at hSw); go_simp; (try with_reducible rfl)
  (try simp only [Act.put, List.getElem_toArray, List.getElem_cons_succ, List.getElem_cons_zero, List.setIfInBounds_toArray, List.set_cons_zero, List.set_cons_succ])
  (try clear hK K)
  refine wpAnyH_ready (rs := [10]) (by kernel_rfl) (by simp) ?_
  refine AllReadyH.cons rfl (fun K hK => ?_) AllReadyH.nil
  go_simp
  refine hK.out _ _ ?_ (fun hHeld => ?_)
  · refine ⟨?_, ?_, ?_, ?_, ?_, ?_⟩ <;> simp [go_sem]
  (try clear hK K)
  refine wpAnyH_done (by kernel_rfl) ?_ _
  go_wp2_with fail
  refine bodyPost_ret (v := (lfN 5 p.col p.v Val.zero).val) (by simp [results, Tryd.results51, go_sem, PT.val, lfN, Val.zero]) rfl ⟨_, rfl, rfl, Nw.leaf _ _ _ _ _ _ _ HV.out.1 (by decide), ?_⟩
  exact (back2 (alloc1 _ _)).drew
end Go.Proofs.YtfkhfplibhnceaaDoor.Val
/- What the reference's opposite answers of PIn. -/
namespace Go.Proofs.YtfkhfplibhnceaaDoor.Val
open Go.RowKit

theorem new_cells2 (w : World) (o1 o2 : Obj) (q : PT) (T : TypeId) : ∀ j u, q.cells[j]? = some u → (((w.alloc o1).alloc o2).alloc (pobj q T)).cell? ((⟨w.heap.size + 1 + 1, 0, none⟩ : Addr).add j) = some u := by
  have h := new_cells ((w.alloc o1).alloc o2) q T
  have e : ((w.alloc o1).alloc o2).heap.size = w.heap.size + 1 + 1 := by simp
  rw [e] at h
  exact h
theorem Fr.sv {X : Nat → Prop} {w w' : World} {b : Nat} (h : Fr w b) (hs : Sv X w w') (hx : ¬ X b) : Fr w' b := ⟨Nat.lt_of_lt_of_le h.1 hs.size, fun j => by rw [hs.frozen (p := ⟨b, j, none⟩) h.1 hx]; exact h.2 j⟩
theorem P2.sv {w0 w w' : World} {p : PT} {X : Nat → Prop} (h : P2 w0 p w) (hs : Sv X w w') (h1 : ¬ X w0.heap.size) (h2 : ¬ X (w0.heap.size + 1)) (hz : w0.heap.size ≤ w.heap.size) (hx : ∀ b, b < w0.heap.size → ¬ X b) : P2 w0 p w' :=
  ⟨h.pb.sv hs h1, h.pz.sv hs h2, h.fa.sv hs h1, h.fz.sv hs h2, h.be.trans (hs.below hz fun b hb hxx => hx b hb hxx)⟩
set_option maxHeartbeats 4000000 in
theorem ropp_9 (p : PT) (h : p.op = 9) : ROppOk p (PT.mk 12 0 Val.zero Val.zero (.slice none 0 0) [lfN 5 p.col p.v Val.zero, lfN 7 p.col p.w Val.zero]) := by
  intro w hi
  have HV : Hid (p.v.s.size ≤ maxLen ∧ p.w.s.size ≤ maxLen) := ⟨hi.sv, hi.sw⟩
  obtain ⟨ap, cp, hlp, _⟩ := hi.lies.slice
  have HN : Hid _ := P2.new w p 29 29
  clear hi
  unfold PT.val
  rw [hlp, h]
  rw [pobj, hlp, h] at HN
  clear hlp
  obtain ⟨i0, hi0, hz0, hz1, hz2⟩ := info_parts info_P
  have I0 : Hid (Tryd.prog.info? 29 = some i0 ∧ i0.zero = some (PV 0 0 false 0 ⟨#[]⟩ false 0 ⟨#[]⟩ (.slice none 0 0)) ∧ i0.size = 9 ∧ i0.bytes = 104) := ⟨hi0, hz0, hz1, hz2⟩
  have HP9 : Hid (p.op = 9) := h
  clear hi0 hz0 hz1 hz2 h
  go_enter Tryd.func51, Tryd.ntmps51
  have HW0 : Hid (P2 w p ((w.alloc (.cells #[.int .i64 9, .int .i64 p.col, .bool p.v.t, .int .i64 p.v.n, .string p.v.s, .bool p.w.t, .int .i64 p.w.n, .string p.w.s, .slice ap p.l.length cp] 29)).alloc (pobj PT.zero 29))) := HN.out
  clear HN
  obtain ⟨m, hown, hsz, hnext⟩ := CLw.owns (CLw.start (w.heap.size + 1 + 1) ((w.alloc (.cells #[.int .i64 9, .int .i64 p.col, .bool p.v.t, .int .i64 p.v.n, .string p.v.s, .bool p.w.t, .int .i64 p.w.n, .string p.w.s, .slice ap p.l.length cp] 29)).alloc (pobj PT.zero 29)) TP [lfN 5 p.col p.v Val.zero, lfN 7 p.col p.w Val.zero]) (by simp) (alloc1 _ (.cells #[.int .i64 5, .int .i64 p.col, .bool p.v.t, .int .i64 p.v.n, .string p.v.s, .bool false, .int .i64 0, .string ⟨#[]⟩, .slice none 0 0] 29))
  have HN1 : Hid _ := hnext
  have HW1 : Hid _ := And.intro hown hsz
  clear hnext hown hsz
  go_wp2_with (at_builtin; refine wpList_append_own_at _ rfl _ _ _ rfl (w.heap.size + 1 + 1) TP i0 _ 9 104 Tryd.underlying27 I0.out.1 I0.out.2.1 I0.out.2.2.1 I0.out.2.2.2 rfl (by decide) (.slice none 0 0) 0 (m.flatMap PT.cells) rfl HW1.out.1 ⟨w.heap.size + 1 + 1, 0, none⟩ 1 1 (lfN 5 p.col p.v Val.zero).cells rfl rfl (new_cells2 w _ _ (lfN 5 p.col p.v Val.zero) _) (one_cells _ none 0 0 rfl) ?_ ?_ HW1.out.2 ?_)
  · unfold maxLen; omega
  · omega
  intro v1 w1 hown1 hgrow1 _ hat1
  obtain ⟨r1, r2⟩ := HN1.out (lfN 5 p.col p.v Val.zero) ((w.alloc (.cells #[.int .i64 9, .int .i64 p.col, .bool p.v.t, .int .i64 p.v.n, .string p.v.s, .bool p.w.t, .int .i64 p.w.n, .string p.w.s, .slice ap p.l.length cp] 29)).alloc (pobj PT.zero 29)) w1 v1 (by simp) (Nat.le_refl _) rfl (Nw.leaf _ _ _ _ _ _ _ HV.out.1 (by decide)) hown1 hgrow1 (by simpa using hat1)
  have X1 : Hid (P2 w p w1) := (HW0.out.below (alloc1 _ _)).sv r2 (by omega) (by omega) (by simp; omega) (by intro b hb; omega)
  have HC1 : Hid (CLw (w.heap.size + 1 + 1) w1 TP [lfN 5 p.col p.v Val.zero, lfN 7 p.col p.w Val.zero] 1 v1) := r1
  have hs1 : w.heap.size + 1 + 1 ≤ w1.heap.size := Nat.le_trans (by simp) r2.size
  clear hown1 hgrow1 hat1 r1 r2 HN1 HW1 HW0
  obtain ⟨m1, hown, hsz, hnext⟩ := CLw.owns HC1.out hs1 (alloc1 w1 (.cells #[.int .i64 7, .int .i64 p.col, .bool p.w.t, .int .i64 p.w.n, .string p.w.s, .bool false, .int .i64 0, .string ⟨#[]⟩, .slice none 0 0] 29))
  have HN1 : Hid _ := hnext
  have HW1 : Hid _ := And.intro hown hsz
  clear hnext hown hsz
  obtain ⟨⟨b0, b1, b2, b3, b4, b5, b6, b7, b8⟩, _, _, _, _⟩ := X1.out
  go_wp2_with (at_builtin; refine wpList_append_own_at _ rfl _ _ _ rfl (w.heap.size + 1 + 1) TP i0 _ 9 104 Tryd.underlying27 I0.out.1 I0.out.2.1 I0.out.2.2.1 I0.out.2.2.2 rfl (by decide) v1 1 (m1.flatMap PT.cells) rfl HW1.out.1 ⟨w1.heap.size, 0, none⟩ 1 1 (lfN 7 p.col p.w Val.zero).cells rfl rfl (new_cells w1 (lfN 7 p.col p.w Val.zero) _) (one_cells _ none 0 0 rfl) ?_ ?_ HW1.out.2 ?_)
  · unfold maxLen; omega
  · omega
  intro v2 w2 hown2 hgrow2 _ hat2
  obtain ⟨r1, r2⟩ := HN1.out (lfN 7 p.col p.w Val.zero) w1 w2 v2 (by simp) (Nat.le_refl _) rfl (Nw.leaf _ _ _ _ _ _ _ HV.out.2 (by decide)) hown2 hgrow2 (by simpa using hat2)
  have X2 : Hid (P2 w p w2) := (X1.out.below (alloc1 _ _)).sv r2 (by omega) (by omega) (by have := hs1; simp; omega) (by intro b hb; omega)
  obtain ⟨m2, hm1, hm2, hm3⟩ := CLw.done r1 rfl
  obtain ⟨av, cv, hv, _⟩ := hm2.lies.slice
  have HM : Hid ((PT.mk 12 0 Val.zero Val.zero (.slice av m2.length cv) m2).bare = (PT.mk 12 0 Val.zero Val.zero (.slice none 0 0) [lfN 5 p.col p.v Val.zero, lfN 7 p.col p.w Val.zero]).bare ∧ Nw w2 TP (fun b => w.heap.size + 1 < b) (PT.mk 12 0 Val.zero Val.zero (.slice av m2.length cv) m2)) := by
    rw [hv] at hm2
    exact ⟨by rw [bare_mk, bare_mk, hm1], .mk (by decide) (by decide) (hm2.imp fun b h _ => by omega) fun q hq => (hm3 q hq).imp fun b h _ => by omega⟩
  subst hv
  clear hm1 hm2 hm3 r1 r2 hown2 hgrow2 hat2 HN1 HW1 X1 HC1 hs1 b0 b1 b2 b3 b4 b5 b6 b7 b8
  obtain ⟨_, ⟨z0, z1, z2, z3, z4, z5, z6, z7, z8⟩, _, ⟨lz, fz⟩, _⟩ := X2.out
  go_wp2_with fail
  refine bodyPost_ret (v := (PT.mk 12 0 Val.zero Val.zero (.slice av m2.length cv) m2).val) (by simp [results, Tryd.results51, go_sem, PT.val, Val.zero, z0, z1, z2, z3, z4, z5, z6, z7, z8]) rfl ⟨_, rfl, HM.out.1, ?_, ?_⟩
  · refine Nw.imp (P := fun b => w.heap.size + 1 < b) ?_ (fun b hb _ => by omega)
    repeat (refine nw_set ?_ (fun x hx => by omega))
    exact HM.out.2
  · repeat (refine set_below ?_ (by omega) _)
    exact X2.out.be
end Go.Proofs.YtfkhfplibhnceaaDoor.Val
/- What the reference's push answers of PNot and of leaves. -/
namespace Go.Proofs.YtfkhfplibhnceaaDoor.Val
open Go.RowKit

def RPushOk (p : PT) (b : Bool) : Prop := ∀ w, In w p → Calls Tryd.prog 30 #[p.val, .bool b] w fun e w' => ∃ q : PT, e = .returned q.val ∧ q.bare = (pushP p b).bare ∧ Nw w' TP (fun x => w.heap.size ≤ x) q ∧ Below w.heap.size w w'
set_option maxHeartbeats 2000000 in
/-- PNot. -/
theorem rpush_10 (p q : PT) (bb : Bool) (h : p.op = 10) (hl : p.l = [q]) (ih : RPushOk q (!bb)) : RPushOk p bb := by
  intro w hi
  rw [push_10 h q hl]
  have hin : In w q := hi.part q (by rw [hl]; simp)
  have HQ : Hid (∀ w1, Below w.heap.size w w1 → Calls Tryd.prog 30 #[q.val, .bool (!bb)] w1 fun e w' => ∃ r : PT, e = .returned r.val ∧ r.bare = (pushP q (!bb)).bare ∧ Nw w' TP (fun b => w1.heap.size ≤ b) r ∧ Below w1.heap.size w1 w') := fun w1 hb => ih w1 (hin.keep hb)
  have hlie := hi.lies
  obtain ⟨ap, cp, hlp, _⟩ := hlie.slice
  have hlen : p.l.length = 1 := by rw [hl]; rfl
  rw [hlp] at hlie
  obtain ⟨b, o, rfl, hat⟩ := lies_at hlie 0 (by omega)
  have hq0 : p.l[0]'(by omega) = q := by simp [hl]
  rw [hq0, Nat.zero_mul, Nat.add_zero] at hat
  have HN : Hid _ := P2.new w p 29 29
  have A : ∀ o1 o2, At ((w.alloc o1).alloc o2) b o q := fun o1 o2 => (hat.below (alloc1 _ _)).below (alloc1 _ _)
  have HA : Hid _ := A
  clear hi hl hlie hat hq0 ih hin A
  unfold PT.val at *
  rw [hlp, hlen, h]
  rw [pobj, hlp, hlen, h] at HN
  clear hlp hlen h
  obtain ⟨c0, c1, c2, c3, c4, c5, c6, c7, c8⟩ := HA.out (.cells #[.int .i64 10, .int .i64 p.col, .bool p.v.t, .int .i64 p.v.n, .string p.v.s, .bool p.w.t, .int .i64 p.w.n, .string p.w.s, .slice (some ⟨b, o, none⟩) 1 cp] 29) (.cells #[.int .i64 0, .int .i64 0, .bool false, .int .i64 0, .string ⟨#[]⟩, .bool false, .int .i64 0, .string ⟨#[]⟩, .slice none 0 0] 29)
  go_enter Tryd.func30, Tryd.ntmps30
  go_wp2_with fail
  refine Calls.mono (HQ.out _ (back1 (alloc1 _ _))) ?_
  rintro e w1 ⟨r, rfl, hrb, hrn, hb⟩
  have HX : Hid _ := HN.out.below hb
  have HR : Hid (r.bare = (pushP q (!bb)).bare ∧ Nw w1 TP (fun b => w.heap.size + 1 < b) r) := ⟨hrb, hrn.imp fun b h _ => by simp at h; omega⟩
  obtain ⟨ar, kr, hlr⟩ := hrn.slice
  obtain ⟨_, ⟨z0, z1, z2, z3, z4, z5, z6, z7, z8⟩, _, ⟨lz, fz⟩, _⟩ := HX.out
  have HB : Hid (Below w.heap.size w w1) := HX.out.be
  have HLR : Hid (r.lv = .slice ar r.l.length kr) := hlr
  rw [hlr]
  clear hlr hrb hrn hb HQ HN HX HA c0 c1 c2 c3 c4 c5 c6 c7 c8
  go_wp2_with fail
  refine bodyPost_ret (v := r.val) (by simp [results, Tryd.results30, go_sem, PT.val, HLR.out, z0, z1, z2, z3, z4, z5, z6, z7, z8]) rfl ⟨r, rfl, HR.out.1, ?_, ?_⟩
  · refine Nw.imp (P := fun b => w.heap.size + 1 < b) ?_ (fun b hb _ => by omega)
    repeat (refine nw_set ?_ (fun x hx => by omega))
    exact HR.out.2
  · repeat (refine set_below ?_ (by omega) _)
    exact HB.out
set_option maxHeartbeats 2000000 in
/-- The opposite of a leaf. -/
theorem rpush_opp (p t : PT) (h10 : (p.op == 10) = false) (h11 : (p.op == 11) = false) (h12 : (p.op == 12) = false) (hO : ROppOk p t) (w : World) (hi : In w p) : Calls Tryd.prog 30 #[p.val, .bool true] w fun e w' => ∃ q : PT, e = .returned q.val ∧ q.bare = t.bare ∧ Nw w' TP (fun x => w.heap.size ≤ x) q ∧ Below w.heap.size w w' := by
  have HQ : Hid (∀ w1, Below w.heap.size w w1 → Calls Tryd.prog 51 #[p.val] w1 fun e w' => ∃ r : PT, e = .returned r.val ∧ r.bare = t.bare ∧ Nw w' TP (fun b => w1.heap.size ≤ b) r ∧ Below w1.heap.size w1 w') := fun w1 hb => hO w1 (hi.keep hb)
  obtain ⟨ap, cp, hlp, _⟩ := hi.lies.slice
  have HN : Hid _ := P2.new w p 29 29
  clear hi hO
  unfold PT.val at *
  rw [hlp] at HQ ⊢
  rw [pobj, hlp] at HN
  clear hlp
  go_enter Tryd.func30, Tryd.ntmps30
  go_wp2_with fail
  refine Calls.mono (HQ.out _ (back1 (alloc1 _ _))) ?_
  rintro e w1 ⟨r, rfl, hrb, hrn, hb⟩
  have HX : Hid _ := HN.out.below hb
  have HR : Hid (r.bare = t.bare ∧ Nw w1 TP (fun b => w.heap.size + 1 < b) r) := ⟨hrb, hrn.imp fun b h _ => by simp at h; omega⟩
  obtain ⟨ar, kr, hlr⟩ := hrn.slice
  obtain ⟨_, ⟨z0, z1, z2, z3, z4, z5, z6, z7, z8⟩, _, ⟨lz, fz⟩, _⟩ := HX.out
  have HB : Hid (Below w.heap.size w w1) := HX.out.be
  have HLR : Hid (r.lv = .slice ar r.l.length kr) := hlr
  rw [hlr]
  clear hlr hrb hrn hb HQ HN HX
  go_wp2_with fail
  refine bodyPost_ret (v := r.val) (by simp [results, Tryd.results30, go_sem, PT.val, HLR.out, z0, z1, z2, z3, z4, z5, z6, z7, z8]) rfl ⟨r, rfl, HR.out.1, ?_, ?_⟩
  · refine Nw.imp (P := fun b => w.heap.size + 1 < b) ?_ (fun b hb _ => by omega)
    repeat (refine nw_set ?_ (fun x hx => by omega))
    exact HR.out.2
  · repeat (refine set_below ?_ (by omega) _)
    exact HB.out
set_option maxHeartbeats 2000000 in
/-- A leaf as it is. -/
theorem rpush_self (p : PT) (h10 : (p.op == 10) = false) (h11 : (p.op == 11) = false) (h12 : (p.op == 12) = false) (h2 : decide (p.op ≤ 2) = false) (hl : p.l = []) (w : World) (hi : In w p) : Calls Tryd.prog 30 #[p.val, .bool false] w fun e w' => ∃ q : PT, e = .returned q.val ∧ q.bare = (lfN p.op p.col p.v p.w).bare ∧ Nw w' TP (fun x => w.heap.size ≤ x) q ∧ Below w.heap.size w w' := by
  have HV : Hid (p.v.s.size ≤ maxLen ∧ p.w.s.size ≤ maxLen) := ⟨hi.sv, hi.sw⟩
  have hlie := hi.lies
  obtain ⟨ap, cp, hlp, _⟩ := hlie.slice
  have hlen : p.l.length = 0 := by rw [hl]; rfl
  rw [hlp, hl] at hlie
  have HL : Hid (Lies w (.slice ap 0 cp) 0 []) := hlie
  clear hi hlie
  unfold PT.val at *
  rw [hlp, hlen]
  clear hlp hlen hl
  go_enter Tryd.func30, Tryd.ntmps30
  go_wp2_with fail
  refine bodyPost_ret (v := (PT.mk p.op p.col p.v p.w (.slice ap 0 cp) []).val) (by simp [results, Tryd.results30, go_sem, PT.val]) rfl ⟨_, rfl, by rw [bare_mk, lfN_bare]; rfl, .mk HV.out.1 HV.out.2 (.inr ⟨rfl, lies_nil HL.out⟩) (by simp), ?_⟩
  exact back1 (alloc1 _ _)
set_option maxHeartbeats 2000000 in
theorem rpush_1 (p : PT) (h : p.op = 1) (w : World) (hi : In w p) : Calls Tryd.prog 30 #[p.val, .bool false] w fun e w' => ∃ q : PT, e = .returned q.val ∧ q.bare = (lfN 1 0 Val.zero Val.zero).bare ∧ Nw w' TP (fun x => w.heap.size ≤ x) q ∧ Below w.heap.size w w' := by
  obtain ⟨ap, cp, hlp, _⟩ := hi.lies.slice
  clear hi
  unfold PT.val at *
  rw [hlp, h]
  clear hlp h
  go_enter Tryd.func30, Tryd.ntmps30
  go_wp2_with fail
  refine bodyPost_ret (v := (lfN 1 0 Val.zero Val.zero).val) (by simp [results, Tryd.results30, go_sem, PT.val, lfN, Val.zero]) rfl ⟨_, rfl, rfl, Nw.leaf _ _ _ _ _ _ _ (by decide) (by decide), ?_⟩
  exact back1 (alloc1 _ _)
set_option maxHeartbeats 2000000 in
theorem rpush_2 (p : PT) (h : p.op = 2) (w : World) (hi : In w p) : Calls Tryd.prog 30 #[p.val, .bool false] w fun e w' => ∃ q : PT, e = .returned q.val ∧ q.bare = (lfN 2 0 Val.zero Val.zero).bare ∧ Nw w' TP (fun x => w.heap.size ≤ x) q ∧ Below w.heap.size w w' := by
  obtain ⟨ap, cp, hlp, _⟩ := hi.lies.slice
  clear hi
  unfold PT.val at *
  rw [hlp, h]
  clear hlp h
  go_enter Tryd.func30, Tryd.ntmps30
  go_wp2_with fail
  refine bodyPost_ret (v := (lfN 2 0 Val.zero Val.zero).val) (by simp [results, Tryd.results30, go_sem, PT.val, lfN, Val.zero]) rfl ⟨_, rfl, rfl, Nw.leaf _ _ _ _ _ _ _ (by decide) (by decide), ?_⟩
  exact back1 (alloc1 _ _)
theorem beqf {a b : Int} (h : a ≠ b) : (a == b) = false := by rw [beq_eq_false_iff_ne]; exact h
theorem rpush_leaf {cols : List Bool} (p : PT) (b : Bool) (hg : Good cols p) (h : 1 ≤ p.op ∧ p.op ≤ 9) : RPushOk p b := by
  intro w hi
  rw [push_leaf (by omega) (by omega) (by omega)]
  have h10 : (p.op == 10) = false := beqf (by omega)
  have h11 : (p.op == 11) = false := beqf (by omega)
  have h12 : (p.op == 12) = false := beqf (by omega)
  unfold pushL
  by_cases h1 : p.op = 1
  · rw [if_pos (.inl h1)]
    cases b
    · rw [h1]; exact rpush_1 p h1 w hi
    · rw [h1]; exact rpush_opp p _ h10 h11 h12 (ropp_1 p h1) w hi
  by_cases h2 : p.op = 2
  · rw [if_pos (.inr h2)]
    cases b
    · rw [h2]; exact rpush_2 p h2 w hi
    · rw [h2]; exact rpush_opp p _ h10 h11 h12 (ropp_2 p h2) w hi
  rw [if_neg (by omega)]
  cases b
  · have hl : p.l = [] := by
      rcases suit_cases hg.suit with ⟨h, hl⟩ | ⟨h, hl, ho⟩ | ⟨h, hl, ho, ho'⟩ | ⟨h, q, hl⟩ | ⟨h, hl⟩
      · exact hl
      · exact hl
      · exact hl
      · omega
      · omega
    exact rpush_self p h10 h11 h12 (by simp; omega) hl w hi
  · rw [if_pos rfl]
    by_cases h9 : p.op = 9
    · rw [if_pos h9]; exact rpush_opp p _ h10 h11 h12 (ropp_9 p h9) w hi
    rw [if_neg h9]
    rcases (by omega : p.op = 3 ∨ p.op = 4 ∨ p.op = 5 ∨ p.op = 6 ∨ p.op = 7 ∨ p.op = 8) with e | e | e | e | e | e
    · rw [e]; exact rpush_opp p _ h10 h11 h12 (ropp_3 p e) w hi
    · rw [e]; exact rpush_opp p _ h10 h11 h12 (ropp_4 p e) w hi
    · rw [e]; exact rpush_opp p _ h10 h11 h12 (ropp_5 p e) w hi
    · rw [e]; exact rpush_opp p _ h10 h11 h12 (ropp_6 p e) w hi
    · rw [e]; exact rpush_opp p _ h10 h11 h12 (ropp_7 p e) w hi
    · rw [e]; exact rpush_opp p _ h10 h11 h12 (ropp_8 p e) w hi
end Go.Proofs.YtfkhfplibhnceaaDoor.Val
/- An append to a row of the call's own, as a step of a region that draws its order. -/
namespace Go.Proofs.YtfkhfplibhnceaaDoor.Val
open Go Go.RowKit

theorem step_append_own_at {P : Program} {ops : Array Oper} {o : Oper} {a : Act} {w : World} {K : Act → World → Prop} {Q : Exit → Act → World → Prop} {E : Prop}
    (hg : o.guard = none) (s x : Operand) (t : TypeId) (hop : o.op = Op.call { callee := Callee.builtin Builtin.append, args := #[s, x], argTypes := #[t, t] })
    (base : Nat) (e : TypeId) (i : TypeInfo) (z : Value) (size bytes : Nat) (h1 : P.underlying t = some (.slice e)) (h2 : P.info? e = some i) (h3 : i.zero = some z) (h4 : i.size = size) (h5 : i.bytes = bytes) (h6 : z.cells.size = size) (h7 : 0 < size)
    (v : Value) (n : Nat) (xs : List Value) (hs : a.eval s = v) (hown : w.ownsRow base e size v n xs)
    (ad : Addr) (m c : Nat) (news : List Value) (hx : a.eval x = .slice (some ad) m c) (hn : news.length = m * size) (hc : ∀ j u, news[j]? = some u → w.cell? (ad.add j) = some u) (h1c : ∀ u ∈ news, u.oneCell' = true)
    (b1 : n + m ≤ maxLen) (b2 : (n + m) * bytes ≤ 140737488355328) (hbase : base ≤ w.heap.size)
    (hK : ∀ v' w', w'.ownsRow base e size v' (n + m) (xs ++ news) → w.grownBy w' v.ownBlock → (v'.ownBlock = v.ownBlock ∨ v'.ownBlock = some w.heap.size) → K (a.put o.dst v') w') :
    if Region.wanted o (yielded ops a.tmps) = true then Oper.wp P o a w K Q else E := by
  have hw : Region.wanted o (yielded ops a.tmps) = true := by simp [Region.wanted, hg]
  rw [if_pos hw]
  obtain ⟨v', w', hrun, r1, r2, _, r3⟩ := run_append_own_at (P := P) w base t o.type e i z size bytes h1 h2 h3 h4 h5 h6 h7 v n xs hown ad m c news hn hc h1c b1 b2 hbase
  unfold Oper.wp
  simp [execOp, hop, resolve, invoke, builtin, hs, hx, hrun, Result.andThen]
  exact hK v' w' r1 r2 r3
end Go.Proofs.YtfkhfplibhnceaaDoor.Val
/- Plain: the boxes of the reference's push over a list. -/
namespace Go.Proofs.YtfkhfplibhnceaaDoor.Val
open Go.RowKit

theorem Fr.set' {w : World} {b c j : Nat} {u : Value} (h : Fr w b) : Fr (w.setCell ⟨c, j, none⟩ u) b := ⟨by simpa [World.setCell] using h.1, fun k => by rw [World.frozen?_setCell]; exact h.2 k⟩
structure TQ (N : Nat) (p : PT) (o : Int) (own : Value) (w : World) : Prop where
  pb : Box w N p
  z : Box w (N + 1) PT.zero
  qb : Box w (N + 1 + 1) (PT.mk o 0 Val.zero Val.zero own [])
  f1 : Fr w (N + 1)
  f2 : Fr w (N + 1 + 1)
theorem TQ.sv {N : Nat} {p : PT} {o : Int} {own : Value} {X : Nat → Prop} {w w' : World} (h : TQ N p o own w) (hs : Sv X w w') (h0 : ¬ X N) (h1 : ¬ X (N + 1)) (h2 : ¬ X (N + 1 + 1)) : TQ N p o own w' :=
  ⟨h.pb.sv hs h0, h.z.sv hs h1, h.qb.sv hs h2, h.f1.sv hs h1, h.f2.sv hs h2⟩
theorem TQ.below {N : Nat} {p : PT} {o : Int} {own : Value} {w w' : World} (h : TQ N p o own w) (hb : Below w.heap.size w w') : TQ N p o own w' := h.sv (X := Nothing) (Sv.of hb) (fun h => h) (fun h => h) (fun h => h)
theorem TQ.set {N : Nat} {p : PT} {o : Int} {own : Value} {w : World} (h : TQ N p o own w) (v : Value) : TQ N p o v (w.setCell ⟨N + 1 + 1, 8, none⟩ v) := by
  have hne : ∀ j, j ≠ 8 → (w.setCell ⟨N + 1 + 1, 8, none⟩ v).cell? ⟨N + 1 + 1, j, none⟩ = w.cell? ⟨N + 1 + 1, j, none⟩ := fun j hj => World.cell?_setCell_other _ _ _ _ (by intro e; injection e; omega)
  have hs : Sv (fun b => b = N + 1 + 1) w (w.setCell ⟨N + 1 + 1, 8, none⟩ v) := Sv.set (X := fun b => b = N + 1 + 1) (Sv.refl _ w) (a := ⟨N + 1 + 1, 8, none⟩) (show N + 1 + 1 = N + 1 + 1 from rfl) v
  refine ⟨h.pb.sv hs (by omega), h.z.sv hs (by omega), ⟨?_, ?_, ?_, ?_, ?_, ?_, ?_, ?_, ?_⟩, h.f1.set', h.f2.set'⟩
  · rw [hne 0 (by omega)]; exact h.qb.c0
  · rw [hne 1 (by omega)]; exact h.qb.c1
  · rw [hne 2 (by omega)]; exact h.qb.c2
  · rw [hne 3 (by omega)]; exact h.qb.c3
  · rw [hne 4 (by omega)]; exact h.qb.c4
  · rw [hne 5 (by omega)]; exact h.qb.c5
  · rw [hne 6 (by omega)]; exact h.qb.c6
  · rw [hne 7 (by omega)]; exact h.qb.c7
  · exact World.cell?_setCell_same' _ _ _ (by rw [h.qb.c8]; rfl)
end Go.Proofs.YtfkhfplibhnceaaDoor.Val
/- What the reference's push answers of lists (some of their cases). -/
namespace Go.Proofs.YtfkhfplibhnceaaDoor.Val
open Go.RowKit

set_option maxHeartbeats 8000000 in
theorem rpush_list_11false (p : PT) (h : p.op = 11) (hs : p.size ≤ 1000000) (ih : ∀ q ∈ p.l, RPushOk q false) : RPushOk p false := by
  intro w hi
  obtain ⟨i0, hi0, hz0, hz1, hz2⟩ := info_parts info_P
  have I0 : Hid (Tryd.prog.info? 29 = some i0 ∧ i0.zero = some (PV 0 0 false 0 ⟨#[]⟩ false 0 ⟨#[]⟩ (.slice none 0 0)) ∧ i0.size = 9 ∧ i0.bytes = 104) := ⟨hi0, hz0, hz1, hz2⟩
  obtain ⟨ap, cp, hlp, hln⟩ := hi.lies.slice
  have hlen : p.l.length ≤ 1000000 := size_ok hs
  have HI : Hid (In w p ∧ ∀ q ∈ p.l, RPushOk q false) := ⟨hi, ih⟩
  have HLV : Hid (p.lv = .slice ap p.l.length cp) := hlp
  have HO : Hid (p.op = 11) := h
  clear hi0 hz0 hz1 hz2 hi hs ih
  unfold PT.val
  rw [hlp, h]
  clear hlp h
  go_enter Tryd.func30, Tryd.ntmps30
  go_wp2_with fail
  go_loopw [6] (fun i wr => ∃ (k : Nat) (own : Value), k ≤ p.l.length ∧ i = .int .i64 k ∧ Hid (CLw (w.heap.size + 1 + 1 + 1) wr TP (p.l.map fun q => pushP q false) k own) ∧ Hid (Below w.heap.size w wr ∧ TQ w.heap.size p 11 own wr ∧ w.heap.size + 1 + 1 + 1 ≤ wr.heap.size))
    (fun i _ => p.l.length - (intOf i).toNat)
  case atStart =>
    refine ⟨0, .slice none 0 0, Nat.zero_le _, rfl, CLw.start _ _ _ _, back2 (alloc1 _ _), ⟨?_, ?_, ?_, ?_, ?_⟩, by simp⟩
    · have h0 := HO.out
      have h8 := HLV.out
      constructor <;> simp [go_sem, h0, h8]
    · constructor <;> simp [go_sem, PT.zero, Val.zero]
    · constructor <;> simp [go_sem, Val.zero]
    · exact ⟨by simp, fun j => by simp [go_sem]⟩
    · exact ⟨by simp, fun j => by simp [go_sem]⟩
  case round =>
    obtain ⟨k, own, hk, rfl, HK, HB⟩ := hrel
    have hc8 := HB.out.2.1.pb.c8
    have hlt := HB.out.2.1.pb.lt
    rw [HLV.out] at hc8
    by_cases h1 : k < p.l.length
    · have j0 : (0 : Int) ≤ (k : Int) := by omega
      have j1 : (k : Int) < (p.l.length : Int) := by omega
      have hl := HI.out.1.lies
      rw [HLV.out] at hl
      obtain ⟨b, o, rfl, hat0⟩ := lies_at hl k h1
      have hm := List.getElem_mem h1
      have HQ : Hid (∀ w1, Below w.heap.size w w1 → Calls Tryd.prog 30 #[p.l[k].val, .bool false] w1 fun e w' => ∃ q : PT, e = .returned q.val ∧ q.bare = (pushP p.l[k] false).bare ∧ Nw w' TP (fun b => w1.heap.size ≤ b) q ∧ Below w1.heap.size w1 w') :=
        fun w1 hb => HI.out.2 _ hm w1 ((HI.out.1.part _ hm).keep hb)
      have hS : ∀ w1, Below w.heap.size w w1 → w1.cell? ⟨w.heap.size, 8, none⟩ = some p.lv → (fun w' => w'.cell? ⟨w.heap.size, 8, none⟩ = some (.slice (some ⟨b, o, none⟩) p.l.length cp) ∧ w'.cell? ⟨b, o + k * 9, none⟩ = some (.int .i64 p.l[k].op) ∧ w'.cell? ⟨b, o + k * 9 + 1, none⟩ = some (.int .i64 p.l[k].col) ∧ w'.cell? ⟨b, o + k * 9 + 2, none⟩ = some (.bool p.l[k].v.t) ∧ w'.cell? ⟨b, o + k * 9 + 3, none⟩ = some (.int .i64 p.l[k].v.n) ∧ w'.cell? ⟨b, o + k * 9 + 4, none⟩ = some (.string p.l[k].v.s) ∧ w'.cell? ⟨b, o + k * 9 + 5, none⟩ = some (.bool p.l[k].w.t) ∧ w'.cell? ⟨b, o + k * 9 + 6, none⟩ = some (.int .i64 p.l[k].w.n) ∧ w'.cell? ⟨b, o + k * 9 + 7, none⟩ = some (.string p.l[k].w.s) ∧ w'.cell? ⟨b, o + k * 9 + 8, none⟩ = some p.l[k].lv) w1 := fun w1 hb hc => by
        have h := hat0.below hb
        rw [HLV.out] at hc
        exact ⟨hc, h.c0, h.c1, h.c2, h.c3, h.c4, h.c5, h.c6, h.c7, h.c8⟩
      have T0 : TQ w.heap.size p 11 own wr.drew := HB.out.2.1.below (Below.refl _ _).drew
      have HBd : Below w.heap.size w wr.drew := HB.out.1.drew
      clear hm hl hat0
      unfold PT.val at HQ
      go_wp2_with fail
      clear hc8 hlt
      refine wp_region_held_drew (S := fun w' => w'.cell? ⟨w.heap.size, 8, none⟩ = some (.slice (some ⟨b, o, none⟩) p.l.length cp) ∧ w'.cell? ⟨b, o + k * 9, none⟩ = some (.int .i64 p.l[k].op) ∧ w'.cell? ⟨b, o + k * 9 + 1, none⟩ = some (.int .i64 p.l[k].col) ∧ w'.cell? ⟨b, o + k * 9 + 2, none⟩ = some (.bool p.l[k].v.t) ∧ w'.cell? ⟨b, o + k * 9 + 3, none⟩ = some (.int .i64 p.l[k].v.n) ∧ w'.cell? ⟨b, o + k * 9 + 4, none⟩ = some (.string p.l[k].v.s) ∧ w'.cell? ⟨b, o + k * 9 + 5, none⟩ = some (.bool p.l[k].w.t) ∧ w'.cell? ⟨b, o + k * 9 + 6, none⟩ = some (.int .i64 p.l[k].w.n) ∧ w'.cell? ⟨b, o + k * 9 + 7, none⟩ = some (.string p.l[k].w.s) ∧ w'.cell? ⟨b, o + k * 9 + 8, none⟩ = some p.l[k].lv) (by kernel_rfl) ?_ (fun hHeld => ?_)
      · exact hS _ HBd T0.pb.c8
      (try clear hK K)
      refine wpAnyH_take (i := 0) (v := ?_) rfl (by kernel_rfl) (by kernel_rfl) (by kernel_rfl) (fun _ _ _ h => h) (Or.inl ⟨by rfl, ?_⟩) (by assumption) ?_
      rotate_left
      · intro w hSw; (try dsimp only at hSw); go_simp; (try with_reducible rfl)
      (try simp only [Act.put, List.getElem_toArray, List.getElem_cons_zero, List.setIfInBounds_toArray, List.set_cons_zero, List.set_cons_succ])
      refine wpAnyH_take (i := 2) (v := ?_) rfl (by kernel_rfl) (by kernel_rfl) (by kernel_rfl) (fun _ _ _ h => h) (Or.inl ⟨by rfl, ?_⟩) (by assumption) ?_
      rotate_left
      · intro w hSw; (try dsimp only at hSw); go_simp; (try with_reducible rfl)
      (try simp only [Act.put, List.getElem_toArray, List.getElem_cons_succ, List.getElem_cons_zero, List.setIfInBounds_toArray, List.set_cons_zero, List.set_cons_succ])
      refine wpAnyH_take (i := 3) (v := ?_) rfl (by kernel_rfl) (by kernel_rfl) (by kernel_rfl) (fun _ _ _ h => h) (Or.inl ⟨by rfl, ?_⟩) (by assumption) ?_
      rotate_left
      · intro w hSw; (try dsimp only at hSw); go_simp; (try with_reducible rfl)
      (try simp only [Act.put, List.getElem_toArray, List.getElem_cons_succ, List.getElem_cons_zero, List.setIfInBounds_toArray, List.set_cons_zero, List.set_cons_succ])
      refine wpAnyH_take (i := 4) (v := ?_) rfl (by kernel_rfl) (by kernel_rfl) (by kernel_rfl) (fun _ _ _ h => h) (Or.inl ⟨by rfl, ?_⟩) (by assumption) ?_
      rotate_left
      · intro w hSw; (try dsimp only at hSw); go_simp; (try with_reducible rfl)
      (try simp only [Act.put, List.getElem_toArray, List.getElem_cons_succ, List.getElem_cons_zero, List.setIfInBounds_toArray, List.set_cons_zero, List.set_cons_succ])
      refine wpAnyH_take (i := 5) (v := ?_) rfl (by kernel_rfl) (by kernel_rfl) (by kernel_rfl) (fun _ _ _ h => h) (Or.inl ⟨by rfl, ?_⟩) (by assumption) ?_
      rotate_left
      · intro w hSw; (try dsimp only at hSw); go_simp; (try with_reducible rfl)
      (try simp only [Act.put, List.getElem_toArray, List.getElem_cons_succ, List.getElem_cons_zero, List.setIfInBounds_toArray, List.set_cons_zero, List.set_cons_succ])
      refine wpAnyH_take (i := 6) (v := ?_) rfl (by kernel_rfl) (by kernel_rfl) (by kernel_rfl) (fun _ _ _ h => h) (Or.inl ⟨by rfl, ?_⟩) (by assumption) ?_
      rotate_left
      · intro w hSw; (try dsimp only at hSw); go_simp; (try with_reducible rfl)
      (try simp only [Act.put, List.getElem_toArray, List.getElem_cons_succ, List.getElem_cons_zero, List.setIfInBounds_toArray, List.set_cons_zero, List.set_cons_succ])
      refine wpAnyH_take (i := 7) (v := ?_) rfl (by kernel_rfl) (by kernel_rfl) (by kernel_rfl) (fun _ _ _ h => h) (Or.inl ⟨by rfl, ?_⟩) (by assumption) ?_
      rotate_left
      · intro w hSw; (try dsimp only at hSw); go_simp; (try with_reducible rfl)
      (try simp only [Act.put, List.getElem_toArray, List.getElem_cons_succ, List.getElem_cons_zero, List.setIfInBounds_toArray, List.set_cons_zero, List.set_cons_succ])
      refine wpAnyH_ready (rs := [1, 8]) (by kernel_rfl) (by simp) ?_
      refine AllReadyH.cons rfl (fun K hK => ?_) (AllReadyH.cons rfl (fun K hK => ?_) AllReadyH.nil)
      · have c8 := T0.qb.c8
        dsimp only at c8
        go_simp
        refine hK.out _ _ ?_ (fun hHeld => ?_)
        · exact hS _ (HBd) T0.pb.c8
        (try clear c8)
        refine wpAnyH_ready (rs := [8]) (by kernel_rfl) (by simp) ?_
        refine AllReadyH.cons rfl (fun K hK => ?_) AllReadyH.nil
        go_simp
        refine Calls.mono (HQ.out _ HBd) ?_
        rintro e w1 ⟨q, rfl, hqb, hqn, hb1⟩
        have HB1 := on HBd hb1
        have T1 := T0.below hb1
        refine hK.out _ _ ?_ (fun hHeld => ?_)
        · exact hS _ (HB1) T1.pb.c8
        refine wpAnyH_ready (rs := [9]) (by kernel_rfl) (by simp) ?_
        refine AllReadyH.cons rfl (fun K hK => ?_) AllReadyH.nil
        go_simp
        have HB2 := on HB1 (alloc1 w1 (pobj q 29))
        have T2 := T1.below (alloc1 w1 (pobj q 29))
        refine hK.out _ _ ?_ (fun hHeld => ?_)
        · exact hS _ (HB2) T2.pb.c8
        (try clear hK K)
        obtain ⟨aq, cq, hlq⟩ := hqn.slice
        obtain ⟨m, hown, hsz, hnext⟩ := CLw.owns HK.out HB.out.2.2 (wb := w1.alloc (pobj q 29)) (on ((Below.refl _ _).drew.trans hb1) (alloc1 _ _))
        refine wpAnyH_ready (rs := [10]) (by kernel_rfl) (by simp) ?_
        refine AllReadyH.cons rfl (fun K hK => ?_) AllReadyH.nil
        refine step_append_own_at rfl (.tmp 37) (.tmp 45) 27 rfl (w.heap.size + 1 + 1 + 1) TP i0 _ 9 104 Tryd.underlying27 I0.out.1 I0.out.2.1 I0.out.2.2.1 I0.out.2.2.2 rfl (by decide) own k (m.flatMap PT.cells) rfl hown ⟨w1.heap.size, 0, none⟩ 1 1 q.cells rfl rfl (new_cells w1 q _) (one_cells q _ _ _ hlq) ?_ ?_ hsz ?_
        · unfold maxLen; omega
        · omega
        intro v' w2 hown' hgrow hat
        obtain ⟨hcl, hsv⟩ := hnext q wr.drew w2 v' (by simpa using h1) (Nat.le_refl _) (by simpa using hqb) (hqn.keep (alloc1 _ _)) hown' hgrow (by simpa using hat)
        have T3 := T2.sv hsv (by omega) (by omega) (by omega)
        have HB3 : Below w.heap.size w w2 := HB2.trans (hsv.below (Nat.le_trans (by omega) HB2.size) fun b hb hx => by omega)
        have HZ3 : w.heap.size + 1 + 1 + 1 ≤ w2.heap.size := Nat.le_trans hsz hsv.size
        obtain ⟨av, nv, cv, hv'⟩ := hcl.slice
        refine hK.out _ _ ?_ (fun hHeld => ?_)
        · exact hS _ (HB3) T3.pb.c8
        clear hK K
        (try clear hK K)
        refine wpAnyH_take (i := 11) (v := ?_) rfl (by kernel_rfl) (by kernel_rfl) (by kernel_rfl) (fun _ _ _ h => h) (Or.inl ⟨by rfl, ?_⟩) (by assumption) ?_
        rotate_left
        · intro w hSw; (try dsimp only at hSw); go_simp; (try with_reducible rfl)
        (try simp only [Act.put, List.getElem_toArray, List.getElem_cons_succ, List.getElem_cons_zero, List.setIfInBounds_toArray, List.set_cons_zero, List.set_cons_succ])
        have c8 := T3.qb.c8
        have f8 := T3.f2.2 8
        have l8 := T3.f2.1
        dsimp only at c8
        subst hv'
        refine wpAnyH_ready (rs := [12]) (by kernel_rfl) (by simp) ?_
        refine AllReadyH.cons rfl (fun K hK => ?_) AllReadyH.nil
        go_simp
        have T4 := T3.set (.slice av nv cv)
        have HB4 : Below w.heap.size w (w2.setCell ⟨w.heap.size + 1 + 1, 8, none⟩ (.slice av nv cv)) := HB3.setCell (show w.heap.size ≤ w.heap.size + 1 + 1 by omega) _
        have hcl4 : CLw (w.heap.size + 1 + 1 + 1) (w2.setCell ⟨w.heap.size + 1 + 1, 8, none⟩ (.slice av nv cv)) TP (p.l.map fun q => pushP q false) (k + 1) (.slice av nv cv) := hcl.sv (Sv.set (X := fun b => b = w.heap.size + 1 + 1) (Sv.refl _ w2) (a := ⟨w.heap.size + 1 + 1, 8, none⟩) (show w.heap.size + 1 + 1 = w.heap.size + 1 + 1 from rfl) _) fun b hb e => by omega
        refine hK.out _ _ ?_ (fun hHeld => ?_)
        · exact hS _ (HB4) T4.pb.c8
        clear hK K c8 f8 l8
        refine wpAnyH_done (by kernel_rfl) ?_ _
        have HC4 : Hid (CLw (w.heap.size + 1 + 1 + 1) (w2.setCell ⟨w.heap.size + 1 + 1, 8, none⟩ (.slice av nv cv)) TP (p.l.map fun q => pushP q false) (k + 1) (.slice av nv cv)) := hcl4
        have HT4 : Hid (Below w.heap.size w (w2.setCell ⟨w.heap.size + 1 + 1, 8, none⟩ (.slice av nv cv)) ∧ TQ w.heap.size p 11 (.slice av nv cv) (w2.setCell ⟨w.heap.size + 1 + 1, 8, none⟩ (.slice av nv cv)) ∧ w.heap.size + 1 + 1 + 1 ≤ (w2.setCell ⟨w.heap.size + 1 + 1, 8, none⟩ (.slice av nv cv)).heap.size) := ⟨HB4, T4, by simpa [World.setCell] using HZ3⟩
        clear hcl4 T4 HB4 HZ3 HB3 T3 hcl hsv hown' hgrow hat hnext hsz hown hlq T2 HB2 T1 HB1 hqb hqn hb1 T0 HBd hHeld HQ hS HK HB
        generalize w2.setCell ⟨w.heap.size + 1 + 1, 8, none⟩ (.slice av nv cv) = w3 at *
        go_wp2_with fail
        go_roundw
        case rel => exact ⟨k + 1, _, by omega, by go_num, HC4, HT4⟩
        case measure => simp [intOf]; omega
      · go_simp
        refine Calls.mono (HQ.out _ HBd) ?_
        rintro e w1 ⟨q, rfl, hqb, hqn, hb1⟩
        have HB1 := on HBd hb1
        have T1 := T0.below hb1
        refine hK.out _ _ ?_ (fun hHeld => ?_)
        · exact hS _ (HB1) T1.pb.c8
        refine wpAnyH_ready (rs := [1, 9]) (by kernel_rfl) (by simp) ?_
        refine AllReadyH.cons rfl (fun K hK => ?_) (AllReadyH.cons rfl (fun K hK => ?_) AllReadyH.nil)
        · have c8 := T1.qb.c8
          dsimp only at c8
          go_simp
          refine hK.out _ _ ?_ (fun hHeld => ?_)
          · exact hS _ (HB1) T1.pb.c8
          (try clear c8)
          refine wpAnyH_ready (rs := [9]) (by kernel_rfl) (by simp) ?_
          refine AllReadyH.cons rfl (fun K hK => ?_) AllReadyH.nil
          go_simp
          have HB2 := on HB1 (alloc1 w1 (pobj q 29))
          have T2 := T1.below (alloc1 w1 (pobj q 29))
          refine hK.out _ _ ?_ (fun hHeld => ?_)
          · exact hS _ (HB2) T2.pb.c8
          (try clear hK K)
          obtain ⟨aq, cq, hlq⟩ := hqn.slice
          obtain ⟨m, hown, hsz, hnext⟩ := CLw.owns HK.out HB.out.2.2 (wb := w1.alloc (pobj q 29)) (on ((Below.refl _ _).drew.trans hb1) (alloc1 _ _))
          refine wpAnyH_ready (rs := [10]) (by kernel_rfl) (by simp) ?_
          refine AllReadyH.cons rfl (fun K hK => ?_) AllReadyH.nil
          refine step_append_own_at rfl (.tmp 37) (.tmp 45) 27 rfl (w.heap.size + 1 + 1 + 1) TP i0 _ 9 104 Tryd.underlying27 I0.out.1 I0.out.2.1 I0.out.2.2.1 I0.out.2.2.2 rfl (by decide) own k (m.flatMap PT.cells) rfl hown ⟨w1.heap.size, 0, none⟩ 1 1 q.cells rfl rfl (new_cells w1 q _) (one_cells q _ _ _ hlq) ?_ ?_ hsz ?_
          · unfold maxLen; omega
          · omega
          intro v' w2 hown' hgrow hat
          obtain ⟨hcl, hsv⟩ := hnext q wr.drew w2 v' (by simpa using h1) (Nat.le_refl _) (by simpa using hqb) (hqn.keep (alloc1 _ _)) hown' hgrow (by simpa using hat)
          have T3 := T2.sv hsv (by omega) (by omega) (by omega)
          have HB3 : Below w.heap.size w w2 := HB2.trans (hsv.below (Nat.le_trans (by omega) HB2.size) fun b hb hx => by omega)
          have HZ3 : w.heap.size + 1 + 1 + 1 ≤ w2.heap.size := Nat.le_trans hsz hsv.size
          obtain ⟨av, nv, cv, hv'⟩ := hcl.slice
          refine hK.out _ _ ?_ (fun hHeld => ?_)
          · exact hS _ (HB3) T3.pb.c8
          clear hK K
          (try clear hK K)
          refine wpAnyH_take (i := 11) (v := ?_) rfl (by kernel_rfl) (by kernel_rfl) (by kernel_rfl) (fun _ _ _ h => h) (Or.inl ⟨by rfl, ?_⟩) (by assumption) ?_
          rotate_left
          · intro w hSw; (try dsimp only at hSw); go_simp; (try with_reducible rfl)
          (try simp only [Act.put, List.getElem_toArray, List.getElem_cons_succ, List.getElem_cons_zero, List.setIfInBounds_toArray, List.set_cons_zero, List.set_cons_succ])
          have c8 := T3.qb.c8
          have f8 := T3.f2.2 8
          have l8 := T3.f2.1
          dsimp only at c8
          subst hv'
          refine wpAnyH_ready (rs := [12]) (by kernel_rfl) (by simp) ?_
          refine AllReadyH.cons rfl (fun K hK => ?_) AllReadyH.nil
          go_simp
          have T4 := T3.set (.slice av nv cv)
          have HB4 : Below w.heap.size w (w2.setCell ⟨w.heap.size + 1 + 1, 8, none⟩ (.slice av nv cv)) := HB3.setCell (show w.heap.size ≤ w.heap.size + 1 + 1 by omega) _
          have hcl4 : CLw (w.heap.size + 1 + 1 + 1) (w2.setCell ⟨w.heap.size + 1 + 1, 8, none⟩ (.slice av nv cv)) TP (p.l.map fun q => pushP q false) (k + 1) (.slice av nv cv) := hcl.sv (Sv.set (X := fun b => b = w.heap.size + 1 + 1) (Sv.refl _ w2) (a := ⟨w.heap.size + 1 + 1, 8, none⟩) (show w.heap.size + 1 + 1 = w.heap.size + 1 + 1 from rfl) _) fun b hb e => by omega
          refine hK.out _ _ ?_ (fun hHeld => ?_)
          · exact hS _ (HB4) T4.pb.c8
          clear hK K c8 f8 l8
          refine wpAnyH_done (by kernel_rfl) ?_ _
          have HC4 : Hid (CLw (w.heap.size + 1 + 1 + 1) (w2.setCell ⟨w.heap.size + 1 + 1, 8, none⟩ (.slice av nv cv)) TP (p.l.map fun q => pushP q false) (k + 1) (.slice av nv cv)) := hcl4
          have HT4 : Hid (Below w.heap.size w (w2.setCell ⟨w.heap.size + 1 + 1, 8, none⟩ (.slice av nv cv)) ∧ TQ w.heap.size p 11 (.slice av nv cv) (w2.setCell ⟨w.heap.size + 1 + 1, 8, none⟩ (.slice av nv cv)) ∧ w.heap.size + 1 + 1 + 1 ≤ (w2.setCell ⟨w.heap.size + 1 + 1, 8, none⟩ (.slice av nv cv)).heap.size) := ⟨HB4, T4, by simpa [World.setCell] using HZ3⟩
          clear hcl4 T4 HB4 HZ3 HB3 T3 hcl hsv hown' hgrow hat hnext hsz hown hlq T2 HB2 T1 HB1 hqb hqn hb1 T0 HBd hHeld HQ hS HK HB
          generalize w2.setCell ⟨w.heap.size + 1 + 1, 8, none⟩ (.slice av nv cv) = w3 at *
          go_wp2_with fail
          go_roundw
          case rel => exact ⟨k + 1, _, by omega, by go_num, HC4, HT4⟩
          case measure => simp [intOf]; omega
        · go_simp
          have HB2 := on HB1 (alloc1 w1 (pobj q 29))
          have T2 := T1.below (alloc1 w1 (pobj q 29))
          refine hK.out _ _ ?_ (fun hHeld => ?_)
          · exact hS _ (HB2) T2.pb.c8
          refine wpAnyH_ready (rs := [1]) (by kernel_rfl) (by simp) ?_
          refine AllReadyH.cons rfl (fun K hK => ?_) AllReadyH.nil
          have c8 := T2.qb.c8
          dsimp only at c8
          go_simp
          refine hK.out _ _ ?_ (fun hHeld => ?_)
          · exact hS _ (HB2) T2.pb.c8
          (try clear c8)
          (try clear hK K)
          obtain ⟨aq, cq, hlq⟩ := hqn.slice
          obtain ⟨m, hown, hsz, hnext⟩ := CLw.owns HK.out HB.out.2.2 (wb := w1.alloc (pobj q 29)) (on ((Below.refl _ _).drew.trans hb1) (alloc1 _ _))
          refine wpAnyH_ready (rs := [10]) (by kernel_rfl) (by simp) ?_
          refine AllReadyH.cons rfl (fun K hK => ?_) AllReadyH.nil
          refine step_append_own_at rfl (.tmp 37) (.tmp 45) 27 rfl (w.heap.size + 1 + 1 + 1) TP i0 _ 9 104 Tryd.underlying27 I0.out.1 I0.out.2.1 I0.out.2.2.1 I0.out.2.2.2 rfl (by decide) own k (m.flatMap PT.cells) rfl hown ⟨w1.heap.size, 0, none⟩ 1 1 q.cells rfl rfl (new_cells w1 q _) (one_cells q _ _ _ hlq) ?_ ?_ hsz ?_
          · unfold maxLen; omega
          · omega
          intro v' w2 hown' hgrow hat
          obtain ⟨hcl, hsv⟩ := hnext q wr.drew w2 v' (by simpa using h1) (Nat.le_refl _) (by simpa using hqb) (hqn.keep (alloc1 _ _)) hown' hgrow (by simpa using hat)
          have T3 := T2.sv hsv (by omega) (by omega) (by omega)
          have HB3 : Below w.heap.size w w2 := HB2.trans (hsv.below (Nat.le_trans (by omega) HB2.size) fun b hb hx => by omega)
          have HZ3 : w.heap.size + 1 + 1 + 1 ≤ w2.heap.size := Nat.le_trans hsz hsv.size
          obtain ⟨av, nv, cv, hv'⟩ := hcl.slice
          refine hK.out _ _ ?_ (fun hHeld => ?_)
          · exact hS _ (HB3) T3.pb.c8
          clear hK K
          (try clear hK K)
          refine wpAnyH_take (i := 11) (v := ?_) rfl (by kernel_rfl) (by kernel_rfl) (by kernel_rfl) (fun _ _ _ h => h) (Or.inl ⟨by rfl, ?_⟩) (by assumption) ?_
          rotate_left
          · intro w hSw; (try dsimp only at hSw); go_simp; (try with_reducible rfl)
          (try simp only [Act.put, List.getElem_toArray, List.getElem_cons_succ, List.getElem_cons_zero, List.setIfInBounds_toArray, List.set_cons_zero, List.set_cons_succ])
          have c8 := T3.qb.c8
          have f8 := T3.f2.2 8
          have l8 := T3.f2.1
          dsimp only at c8
          subst hv'
          refine wpAnyH_ready (rs := [12]) (by kernel_rfl) (by simp) ?_
          refine AllReadyH.cons rfl (fun K hK => ?_) AllReadyH.nil
          go_simp
          have T4 := T3.set (.slice av nv cv)
          have HB4 : Below w.heap.size w (w2.setCell ⟨w.heap.size + 1 + 1, 8, none⟩ (.slice av nv cv)) := HB3.setCell (show w.heap.size ≤ w.heap.size + 1 + 1 by omega) _
          have hcl4 : CLw (w.heap.size + 1 + 1 + 1) (w2.setCell ⟨w.heap.size + 1 + 1, 8, none⟩ (.slice av nv cv)) TP (p.l.map fun q => pushP q false) (k + 1) (.slice av nv cv) := hcl.sv (Sv.set (X := fun b => b = w.heap.size + 1 + 1) (Sv.refl _ w2) (a := ⟨w.heap.size + 1 + 1, 8, none⟩) (show w.heap.size + 1 + 1 = w.heap.size + 1 + 1 from rfl) _) fun b hb e => by omega
          refine hK.out _ _ ?_ (fun hHeld => ?_)
          · exact hS _ (HB4) T4.pb.c8
          clear hK K c8 f8 l8
          refine wpAnyH_done (by kernel_rfl) ?_ _
          have HC4 : Hid (CLw (w.heap.size + 1 + 1 + 1) (w2.setCell ⟨w.heap.size + 1 + 1, 8, none⟩ (.slice av nv cv)) TP (p.l.map fun q => pushP q false) (k + 1) (.slice av nv cv)) := hcl4
          have HT4 : Hid (Below w.heap.size w (w2.setCell ⟨w.heap.size + 1 + 1, 8, none⟩ (.slice av nv cv)) ∧ TQ w.heap.size p 11 (.slice av nv cv) (w2.setCell ⟨w.heap.size + 1 + 1, 8, none⟩ (.slice av nv cv)) ∧ w.heap.size + 1 + 1 + 1 ≤ (w2.setCell ⟨w.heap.size + 1 + 1, 8, none⟩ (.slice av nv cv)).heap.size) := ⟨HB4, T4, by simpa [World.setCell] using HZ3⟩
          clear hcl4 T4 HB4 HZ3 HB3 T3 hcl hsv hown' hgrow hat hnext hsz hown hlq T2 HB2 T1 HB1 hqb hqn hb1 T0 HBd hHeld HQ hS HK HB
          generalize w2.setCell ⟨w.heap.size + 1 + 1, 8, none⟩ (.slice av nv cv) = w3 at *
          go_wp2_with fail
          go_roundw
          case rel => exact ⟨k + 1, _, by omega, by go_num, HC4, HT4⟩
          case measure => simp [intOf]; omega
    · have j1 : decide ((k : Int) < (p.l.length : Int)) = false := by simp; omega
      obtain rfl : k = p.l.length := by omega
      obtain ⟨m, hm1, hm2, hm3⟩ := CLw.done HK.out (by simp)
      obtain ⟨av, cv, hv, _⟩ := hm2.lies.slice
      have HM : Hid ((PT.mk 11 0 Val.zero Val.zero (.slice av m.length cv) m).bare = (pushP p false).bare ∧ Nw wr TP (fun b => w.heap.size + 1 + 1 < b) (PT.mk 11 0 Val.zero Val.zero (.slice av m.length cv) m)) := by
        rw [hv] at hm2
        refine ⟨?_, .mk (by decide) (by decide) (hm2.imp fun b h _ => by omega) fun q hq => (hm3 q hq).imp fun b h _ => by omega⟩
        rw [push_list (by rw [HO.out]; decide), bare_mk, bare_mk, hm1, HO.out]; rfl
      have T0 := HB.out.2.1
      obtain ⟨b0, b1, b2, b3, b4, b5, b6, b7, b8⟩ := T0.qb
      obtain ⟨z0, z1, z2, z3, z4, z5, z6, z7, z8⟩ := T0.z
      obtain ⟨lz, fz⟩ := T0.f1
      have lq := T0.qb.lt
      dsimp only [PT.zero, Val.zero] at b0 b1 b2 b3 b4 b5 b6 b7 b8 z0 z1 z2 z3 z4 z5 z6 z7 z8
      have HBw : Hid (Below w.heap.size w wr) := HB.out.1
      clear hm1 hm2 hm3 T0 HB HK HI
      subst hv
      go_wp2_with fail
      refine bodyPost_ret (v := (PT.mk 11 0 Val.zero Val.zero (.slice av m.length cv) m).val) (by simp [results, Tryd.results30, go_sem, PT.val, Val.zero, z0, z1, z2, z3, z4, z5, z6, z7, z8]) rfl ⟨_, rfl, HM.out.1, ?_, ?_⟩
      · refine Nw.imp (P := fun b => w.heap.size + 1 + 1 < b) ?_ (fun b hb _ => by omega)
        repeat (refine nw_set ?_ (fun x hx => by omega))
        exact HM.out.2
      · repeat (refine set_below ?_ (by omega) _)
        exact HBw.out
end Go.Proofs.YtfkhfplibhnceaaDoor.Val
/- What the reference's push answers of lists (some of their cases). -/
namespace Go.Proofs.YtfkhfplibhnceaaDoor.Val
open Go.RowKit

set_option maxHeartbeats 8000000 in
theorem rpush_list_11true (p : PT) (h : p.op = 11) (hs : p.size ≤ 1000000) (ih : ∀ q ∈ p.l, RPushOk q true) : RPushOk p true := by
  intro w hi
  obtain ⟨i0, hi0, hz0, hz1, hz2⟩ := info_parts info_P
  have I0 : Hid (Tryd.prog.info? 29 = some i0 ∧ i0.zero = some (PV 0 0 false 0 ⟨#[]⟩ false 0 ⟨#[]⟩ (.slice none 0 0)) ∧ i0.size = 9 ∧ i0.bytes = 104) := ⟨hi0, hz0, hz1, hz2⟩
  obtain ⟨ap, cp, hlp, hln⟩ := hi.lies.slice
  have hlen : p.l.length ≤ 1000000 := size_ok hs
  have HI : Hid (In w p ∧ ∀ q ∈ p.l, RPushOk q true) := ⟨hi, ih⟩
  have HLV : Hid (p.lv = .slice ap p.l.length cp) := hlp
  have HO : Hid (p.op = 11) := h
  clear hi0 hz0 hz1 hz2 hi hs ih
  unfold PT.val
  rw [hlp, h]
  clear hlp h
  go_enter Tryd.func30, Tryd.ntmps30
  go_wp2_with fail
  go_loopw [6] (fun i wr => ∃ (k : Nat) (own : Value), k ≤ p.l.length ∧ i = .int .i64 k ∧ Hid (CLw (w.heap.size + 1 + 1 + 1) wr TP (p.l.map fun q => pushP q true) k own) ∧ Hid (Below w.heap.size w wr ∧ TQ w.heap.size p 12 own wr ∧ w.heap.size + 1 + 1 + 1 ≤ wr.heap.size))
    (fun i _ => p.l.length - (intOf i).toNat)
  case atStart =>
    refine ⟨0, .slice none 0 0, Nat.zero_le _, rfl, CLw.start _ _ _ _, back2 (alloc1 _ _), ⟨?_, ?_, ?_, ?_, ?_⟩, by simp⟩
    · have h0 := HO.out
      have h8 := HLV.out
      constructor <;> simp [go_sem, h0, h8]
    · constructor <;> simp [go_sem, PT.zero, Val.zero]
    · constructor <;> simp [go_sem, Val.zero]
    · exact ⟨by simp, fun j => by simp [go_sem]⟩
    · exact ⟨by simp, fun j => by simp [go_sem]⟩
  case round =>
    obtain ⟨k, own, hk, rfl, HK, HB⟩ := hrel
    have hc8 := HB.out.2.1.pb.c8
    have hlt := HB.out.2.1.pb.lt
    rw [HLV.out] at hc8
    by_cases h1 : k < p.l.length
    · have j0 : (0 : Int) ≤ (k : Int) := by omega
      have j1 : (k : Int) < (p.l.length : Int) := by omega
      have hl := HI.out.1.lies
      rw [HLV.out] at hl
      obtain ⟨b, o, rfl, hat0⟩ := lies_at hl k h1
      have hm := List.getElem_mem h1
      have HQ : Hid (∀ w1, Below w.heap.size w w1 → Calls Tryd.prog 30 #[p.l[k].val, .bool true] w1 fun e w' => ∃ q : PT, e = .returned q.val ∧ q.bare = (pushP p.l[k] true).bare ∧ Nw w' TP (fun b => w1.heap.size ≤ b) q ∧ Below w1.heap.size w1 w') :=
        fun w1 hb => HI.out.2 _ hm w1 ((HI.out.1.part _ hm).keep hb)
      have hS : ∀ w1, Below w.heap.size w w1 → w1.cell? ⟨w.heap.size, 8, none⟩ = some p.lv → (fun w' => w'.cell? ⟨w.heap.size, 8, none⟩ = some (.slice (some ⟨b, o, none⟩) p.l.length cp) ∧ w'.cell? ⟨b, o + k * 9, none⟩ = some (.int .i64 p.l[k].op) ∧ w'.cell? ⟨b, o + k * 9 + 1, none⟩ = some (.int .i64 p.l[k].col) ∧ w'.cell? ⟨b, o + k * 9 + 2, none⟩ = some (.bool p.l[k].v.t) ∧ w'.cell? ⟨b, o + k * 9 + 3, none⟩ = some (.int .i64 p.l[k].v.n) ∧ w'.cell? ⟨b, o + k * 9 + 4, none⟩ = some (.string p.l[k].v.s) ∧ w'.cell? ⟨b, o + k * 9 + 5, none⟩ = some (.bool p.l[k].w.t) ∧ w'.cell? ⟨b, o + k * 9 + 6, none⟩ = some (.int .i64 p.l[k].w.n) ∧ w'.cell? ⟨b, o + k * 9 + 7, none⟩ = some (.string p.l[k].w.s) ∧ w'.cell? ⟨b, o + k * 9 + 8, none⟩ = some p.l[k].lv) w1 := fun w1 hb hc => by
        have h := hat0.below hb
        rw [HLV.out] at hc
        exact ⟨hc, h.c0, h.c1, h.c2, h.c3, h.c4, h.c5, h.c6, h.c7, h.c8⟩
      have T0 : TQ w.heap.size p 12 own wr.drew := HB.out.2.1.below (Below.refl _ _).drew
      have HBd : Below w.heap.size w wr.drew := HB.out.1.drew
      clear hm hl hat0
      unfold PT.val at HQ
      go_wp2_with fail
      clear hc8 hlt
      refine wp_region_held_drew (S := fun w' => w'.cell? ⟨w.heap.size, 8, none⟩ = some (.slice (some ⟨b, o, none⟩) p.l.length cp) ∧ w'.cell? ⟨b, o + k * 9, none⟩ = some (.int .i64 p.l[k].op) ∧ w'.cell? ⟨b, o + k * 9 + 1, none⟩ = some (.int .i64 p.l[k].col) ∧ w'.cell? ⟨b, o + k * 9 + 2, none⟩ = some (.bool p.l[k].v.t) ∧ w'.cell? ⟨b, o + k * 9 + 3, none⟩ = some (.int .i64 p.l[k].v.n) ∧ w'.cell? ⟨b, o + k * 9 + 4, none⟩ = some (.string p.l[k].v.s) ∧ w'.cell? ⟨b, o + k * 9 + 5, none⟩ = some (.bool p.l[k].w.t) ∧ w'.cell? ⟨b, o + k * 9 + 6, none⟩ = some (.int .i64 p.l[k].w.n) ∧ w'.cell? ⟨b, o + k * 9 + 7, none⟩ = some (.string p.l[k].w.s) ∧ w'.cell? ⟨b, o + k * 9 + 8, none⟩ = some p.l[k].lv) (by kernel_rfl) ?_ (fun hHeld => ?_)
      · exact hS _ HBd T0.pb.c8
      (try clear hK K)
      refine wpAnyH_take (i := 0) (v := ?_) rfl (by kernel_rfl) (by kernel_rfl) (by kernel_rfl) (fun _ _ _ h => h) (Or.inl ⟨by rfl, ?_⟩) (by assumption) ?_
      rotate_left
      · intro w hSw; (try dsimp only at hSw); go_simp; (try with_reducible rfl)
      (try simp only [Act.put, List.getElem_toArray, List.getElem_cons_zero, List.setIfInBounds_toArray, List.set_cons_zero, List.set_cons_succ])
      refine wpAnyH_take (i := 2) (v := ?_) rfl (by kernel_rfl) (by kernel_rfl) (by kernel_rfl) (fun _ _ _ h => h) (Or.inl ⟨by rfl, ?_⟩) (by assumption) ?_
      rotate_left
      · intro w hSw; (try dsimp only at hSw); go_simp; (try with_reducible rfl)
      (try simp only [Act.put, List.getElem_toArray, List.getElem_cons_succ, List.getElem_cons_zero, List.setIfInBounds_toArray, List.set_cons_zero, List.set_cons_succ])
      refine wpAnyH_take (i := 3) (v := ?_) rfl (by kernel_rfl) (by kernel_rfl) (by kernel_rfl) (fun _ _ _ h => h) (Or.inl ⟨by rfl, ?_⟩) (by assumption) ?_
      rotate_left
      · intro w hSw; (try dsimp only at hSw); go_simp; (try with_reducible rfl)
      (try simp only [Act.put, List.getElem_toArray, List.getElem_cons_succ, List.getElem_cons_zero, List.setIfInBounds_toArray, List.set_cons_zero, List.set_cons_succ])
      refine wpAnyH_take (i := 4) (v := ?_) rfl (by kernel_rfl) (by kernel_rfl) (by kernel_rfl) (fun _ _ _ h => h) (Or.inl ⟨by rfl, ?_⟩) (by assumption) ?_
      rotate_left
      · intro w hSw; (try dsimp only at hSw); go_simp; (try with_reducible rfl)
      (try simp only [Act.put, List.getElem_toArray, List.getElem_cons_succ, List.getElem_cons_zero, List.setIfInBounds_toArray, List.set_cons_zero, List.set_cons_succ])
      refine wpAnyH_take (i := 5) (v := ?_) rfl (by kernel_rfl) (by kernel_rfl) (by kernel_rfl) (fun _ _ _ h => h) (Or.inl ⟨by rfl, ?_⟩) (by assumption) ?_
      rotate_left
      · intro w hSw; (try dsimp only at hSw); go_simp; (try with_reducible rfl)
      (try simp only [Act.put, List.getElem_toArray, List.getElem_cons_succ, List.getElem_cons_zero, List.setIfInBounds_toArray, List.set_cons_zero, List.set_cons_succ])
      refine wpAnyH_take (i := 6) (v := ?_) rfl (by kernel_rfl) (by kernel_rfl) (by kernel_rfl) (fun _ _ _ h => h) (Or.inl ⟨by rfl, ?_⟩) (by assumption) ?_
      rotate_left
      · intro w hSw; (try dsimp only at hSw); go_simp; (try with_reducible rfl)
      (try simp only [Act.put, List.getElem_toArray, List.getElem_cons_succ, List.getElem_cons_zero, List.setIfInBounds_toArray, List.set_cons_zero, List.set_cons_succ])
      refine wpAnyH_take (i := 7) (v := ?_) rfl (by kernel_rfl) (by kernel_rfl) (by kernel_rfl) (fun _ _ _ h => h) (Or.inl ⟨by rfl, ?_⟩) (by assumption) ?_
      rotate_left
      · intro w hSw; (try dsimp only at hSw); go_simp; (try with_reducible rfl)
      (try simp only [Act.put, List.getElem_toArray, List.getElem_cons_succ, List.getElem_cons_zero, List.setIfInBounds_toArray, List.set_cons_zero, List.set_cons_succ])
      refine wpAnyH_ready (rs := [1, 8]) (by kernel_rfl) (by simp) ?_
      refine AllReadyH.cons rfl (fun K hK => ?_) (AllReadyH.cons rfl (fun K hK => ?_) AllReadyH.nil)
      · have c8 := T0.qb.c8
        dsimp only at c8
        go_simp
        refine hK.out _ _ ?_ (fun hHeld => ?_)
        · exact hS _ (HBd) T0.pb.c8
        (try clear c8)
        refine wpAnyH_ready (rs := [8]) (by kernel_rfl) (by simp) ?_
        refine AllReadyH.cons rfl (fun K hK => ?_) AllReadyH.nil
        go_simp
        refine Calls.mono (HQ.out _ HBd) ?_
        rintro e w1 ⟨q, rfl, hqb, hqn, hb1⟩
        have HB1 := on HBd hb1
        have T1 := T0.below hb1
        refine hK.out _ _ ?_ (fun hHeld => ?_)
        · exact hS _ (HB1) T1.pb.c8
        refine wpAnyH_ready (rs := [9]) (by kernel_rfl) (by simp) ?_
        refine AllReadyH.cons rfl (fun K hK => ?_) AllReadyH.nil
        go_simp
        have HB2 := on HB1 (alloc1 w1 (pobj q 29))
        have T2 := T1.below (alloc1 w1 (pobj q 29))
        refine hK.out _ _ ?_ (fun hHeld => ?_)
        · exact hS _ (HB2) T2.pb.c8
        (try clear hK K)
        obtain ⟨aq, cq, hlq⟩ := hqn.slice
        obtain ⟨m, hown, hsz, hnext⟩ := CLw.owns HK.out HB.out.2.2 (wb := w1.alloc (pobj q 29)) (on ((Below.refl _ _).drew.trans hb1) (alloc1 _ _))
        refine wpAnyH_ready (rs := [10]) (by kernel_rfl) (by simp) ?_
        refine AllReadyH.cons rfl (fun K hK => ?_) AllReadyH.nil
        refine step_append_own_at rfl (.tmp 37) (.tmp 45) 27 rfl (w.heap.size + 1 + 1 + 1) TP i0 _ 9 104 Tryd.underlying27 I0.out.1 I0.out.2.1 I0.out.2.2.1 I0.out.2.2.2 rfl (by decide) own k (m.flatMap PT.cells) rfl hown ⟨w1.heap.size, 0, none⟩ 1 1 q.cells rfl rfl (new_cells w1 q _) (one_cells q _ _ _ hlq) ?_ ?_ hsz ?_
        · unfold maxLen; omega
        · omega
        intro v' w2 hown' hgrow hat
        obtain ⟨hcl, hsv⟩ := hnext q wr.drew w2 v' (by simpa using h1) (Nat.le_refl _) (by simpa using hqb) (hqn.keep (alloc1 _ _)) hown' hgrow (by simpa using hat)
        have T3 := T2.sv hsv (by omega) (by omega) (by omega)
        have HB3 : Below w.heap.size w w2 := HB2.trans (hsv.below (Nat.le_trans (by omega) HB2.size) fun b hb hx => by omega)
        have HZ3 : w.heap.size + 1 + 1 + 1 ≤ w2.heap.size := Nat.le_trans hsz hsv.size
        obtain ⟨av, nv, cv, hv'⟩ := hcl.slice
        refine hK.out _ _ ?_ (fun hHeld => ?_)
        · exact hS _ (HB3) T3.pb.c8
        clear hK K
        (try clear hK K)
        refine wpAnyH_take (i := 11) (v := ?_) rfl (by kernel_rfl) (by kernel_rfl) (by kernel_rfl) (fun _ _ _ h => h) (Or.inl ⟨by rfl, ?_⟩) (by assumption) ?_
        rotate_left
        · intro w hSw; (try dsimp only at hSw); go_simp; (try with_reducible rfl)
        (try simp only [Act.put, List.getElem_toArray, List.getElem_cons_succ, List.getElem_cons_zero, List.setIfInBounds_toArray, List.set_cons_zero, List.set_cons_succ])
        have c8 := T3.qb.c8
        have f8 := T3.f2.2 8
        have l8 := T3.f2.1
        dsimp only at c8
        subst hv'
        refine wpAnyH_ready (rs := [12]) (by kernel_rfl) (by simp) ?_
        refine AllReadyH.cons rfl (fun K hK => ?_) AllReadyH.nil
        go_simp
        have T4 := T3.set (.slice av nv cv)
        have HB4 : Below w.heap.size w (w2.setCell ⟨w.heap.size + 1 + 1, 8, none⟩ (.slice av nv cv)) := HB3.setCell (show w.heap.size ≤ w.heap.size + 1 + 1 by omega) _
        have hcl4 : CLw (w.heap.size + 1 + 1 + 1) (w2.setCell ⟨w.heap.size + 1 + 1, 8, none⟩ (.slice av nv cv)) TP (p.l.map fun q => pushP q true) (k + 1) (.slice av nv cv) := hcl.sv (Sv.set (X := fun b => b = w.heap.size + 1 + 1) (Sv.refl _ w2) (a := ⟨w.heap.size + 1 + 1, 8, none⟩) (show w.heap.size + 1 + 1 = w.heap.size + 1 + 1 from rfl) _) fun b hb e => by omega
        refine hK.out _ _ ?_ (fun hHeld => ?_)
        · exact hS _ (HB4) T4.pb.c8
        clear hK K c8 f8 l8
        refine wpAnyH_done (by kernel_rfl) ?_ _
        have HC4 : Hid (CLw (w.heap.size + 1 + 1 + 1) (w2.setCell ⟨w.heap.size + 1 + 1, 8, none⟩ (.slice av nv cv)) TP (p.l.map fun q => pushP q true) (k + 1) (.slice av nv cv)) := hcl4
        have HT4 : Hid (Below w.heap.size w (w2.setCell ⟨w.heap.size + 1 + 1, 8, none⟩ (.slice av nv cv)) ∧ TQ w.heap.size p 12 (.slice av nv cv) (w2.setCell ⟨w.heap.size + 1 + 1, 8, none⟩ (.slice av nv cv)) ∧ w.heap.size + 1 + 1 + 1 ≤ (w2.setCell ⟨w.heap.size + 1 + 1, 8, none⟩ (.slice av nv cv)).heap.size) := ⟨HB4, T4, by simpa [World.setCell] using HZ3⟩
        clear hcl4 T4 HB4 HZ3 HB3 T3 hcl hsv hown' hgrow hat hnext hsz hown hlq T2 HB2 T1 HB1 hqb hqn hb1 T0 HBd hHeld HQ hS HK HB
        generalize w2.setCell ⟨w.heap.size + 1 + 1, 8, none⟩ (.slice av nv cv) = w3 at *
        go_wp2_with fail
        go_roundw
        case rel => exact ⟨k + 1, _, by omega, by go_num, HC4, HT4⟩
        case measure => simp [intOf]; omega
      · go_simp
        refine Calls.mono (HQ.out _ HBd) ?_
        rintro e w1 ⟨q, rfl, hqb, hqn, hb1⟩
        have HB1 := on HBd hb1
        have T1 := T0.below hb1
        refine hK.out _ _ ?_ (fun hHeld => ?_)
        · exact hS _ (HB1) T1.pb.c8
        refine wpAnyH_ready (rs := [1, 9]) (by kernel_rfl) (by simp) ?_
        refine AllReadyH.cons rfl (fun K hK => ?_) (AllReadyH.cons rfl (fun K hK => ?_) AllReadyH.nil)
        · have c8 := T1.qb.c8
          dsimp only at c8
          go_simp
          refine hK.out _ _ ?_ (fun hHeld => ?_)
          · exact hS _ (HB1) T1.pb.c8
          (try clear c8)
          refine wpAnyH_ready (rs := [9]) (by kernel_rfl) (by simp) ?_
          refine AllReadyH.cons rfl (fun K hK => ?_) AllReadyH.nil
          go_simp
          have HB2 := on HB1 (alloc1 w1 (pobj q 29))
          have T2 := T1.below (alloc1 w1 (pobj q 29))
          refine hK.out _ _ ?_ (fun hHeld => ?_)
          · exact hS _ (HB2) T2.pb.c8
          (try clear hK K)
          obtain ⟨aq, cq, hlq⟩ := hqn.slice
          obtain ⟨m, hown, hsz, hnext⟩ := CLw.owns HK.out HB.out.2.2 (wb := w1.alloc (pobj q 29)) (on ((Below.refl _ _).drew.trans hb1) (alloc1 _ _))
          refine wpAnyH_ready (rs := [10]) (by kernel_rfl) (by simp) ?_
          refine AllReadyH.cons rfl (fun K hK => ?_) AllReadyH.nil
          refine step_append_own_at rfl (.tmp 37) (.tmp 45) 27 rfl (w.heap.size + 1 + 1 + 1) TP i0 _ 9 104 Tryd.underlying27 I0.out.1 I0.out.2.1 I0.out.2.2.1 I0.out.2.2.2 rfl (by decide) own k (m.flatMap PT.cells) rfl hown ⟨w1.heap.size, 0, none⟩ 1 1 q.cells rfl rfl (new_cells w1 q _) (one_cells q _ _ _ hlq) ?_ ?_ hsz ?_
          · unfold maxLen; omega
          · omega
          intro v' w2 hown' hgrow hat
          obtain ⟨hcl, hsv⟩ := hnext q wr.drew w2 v' (by simpa using h1) (Nat.le_refl _) (by simpa using hqb) (hqn.keep (alloc1 _ _)) hown' hgrow (by simpa using hat)
          have T3 := T2.sv hsv (by omega) (by omega) (by omega)
          have HB3 : Below w.heap.size w w2 := HB2.trans (hsv.below (Nat.le_trans (by omega) HB2.size) fun b hb hx => by omega)
          have HZ3 : w.heap.size + 1 + 1 + 1 ≤ w2.heap.size := Nat.le_trans hsz hsv.size
          obtain ⟨av, nv, cv, hv'⟩ := hcl.slice
          refine hK.out _ _ ?_ (fun hHeld => ?_)
          · exact hS _ (HB3) T3.pb.c8
          clear hK K
          (try clear hK K)
          refine wpAnyH_take (i := 11) (v := ?_) rfl (by kernel_rfl) (by kernel_rfl) (by kernel_rfl) (fun _ _ _ h => h) (Or.inl ⟨by rfl, ?_⟩) (by assumption) ?_
          rotate_left
          · intro w hSw; (try dsimp only at hSw); go_simp; (try with_reducible rfl)
          (try simp only [Act.put, List.getElem_toArray, List.getElem_cons_succ, List.getElem_cons_zero, List.setIfInBounds_toArray, List.set_cons_zero, List.set_cons_succ])
          have c8 := T3.qb.c8
          have f8 := T3.f2.2 8
          have l8 := T3.f2.1
          dsimp only at c8
          subst hv'
          refine wpAnyH_ready (rs := [12]) (by kernel_rfl) (by simp) ?_
          refine AllReadyH.cons rfl (fun K hK => ?_) AllReadyH.nil
          go_simp
          have T4 := T3.set (.slice av nv cv)
          have HB4 : Below w.heap.size w (w2.setCell ⟨w.heap.size + 1 + 1, 8, none⟩ (.slice av nv cv)) := HB3.setCell (show w.heap.size ≤ w.heap.size + 1 + 1 by omega) _
          have hcl4 : CLw (w.heap.size + 1 + 1 + 1) (w2.setCell ⟨w.heap.size + 1 + 1, 8, none⟩ (.slice av nv cv)) TP (p.l.map fun q => pushP q true) (k + 1) (.slice av nv cv) := hcl.sv (Sv.set (X := fun b => b = w.heap.size + 1 + 1) (Sv.refl _ w2) (a := ⟨w.heap.size + 1 + 1, 8, none⟩) (show w.heap.size + 1 + 1 = w.heap.size + 1 + 1 from rfl) _) fun b hb e => by omega
          refine hK.out _ _ ?_ (fun hHeld => ?_)
          · exact hS _ (HB4) T4.pb.c8
          clear hK K c8 f8 l8
          refine wpAnyH_done (by kernel_rfl) ?_ _
          have HC4 : Hid (CLw (w.heap.size + 1 + 1 + 1) (w2.setCell ⟨w.heap.size + 1 + 1, 8, none⟩ (.slice av nv cv)) TP (p.l.map fun q => pushP q true) (k + 1) (.slice av nv cv)) := hcl4
          have HT4 : Hid (Below w.heap.size w (w2.setCell ⟨w.heap.size + 1 + 1, 8, none⟩ (.slice av nv cv)) ∧ TQ w.heap.size p 12 (.slice av nv cv) (w2.setCell ⟨w.heap.size + 1 + 1, 8, none⟩ (.slice av nv cv)) ∧ w.heap.size + 1 + 1 + 1 ≤ (w2.setCell ⟨w.heap.size + 1 + 1, 8, none⟩ (.slice av nv cv)).heap.size) := ⟨HB4, T4, by simpa [World.setCell] using HZ3⟩
          clear hcl4 T4 HB4 HZ3 HB3 T3 hcl hsv hown' hgrow hat hnext hsz hown hlq T2 HB2 T1 HB1 hqb hqn hb1 T0 HBd hHeld HQ hS HK HB
          generalize w2.setCell ⟨w.heap.size + 1 + 1, 8, none⟩ (.slice av nv cv) = w3 at *
          go_wp2_with fail
          go_roundw
          case rel => exact ⟨k + 1, _, by omega, by go_num, HC4, HT4⟩
          case measure => simp [intOf]; omega
        · go_simp
          have HB2 := on HB1 (alloc1 w1 (pobj q 29))
          have T2 := T1.below (alloc1 w1 (pobj q 29))
          refine hK.out _ _ ?_ (fun hHeld => ?_)
          · exact hS _ (HB2) T2.pb.c8
          refine wpAnyH_ready (rs := [1]) (by kernel_rfl) (by simp) ?_
          refine AllReadyH.cons rfl (fun K hK => ?_) AllReadyH.nil
          have c8 := T2.qb.c8
          dsimp only at c8
          go_simp
          refine hK.out _ _ ?_ (fun hHeld => ?_)
          · exact hS _ (HB2) T2.pb.c8
          (try clear c8)
          (try clear hK K)
          obtain ⟨aq, cq, hlq⟩ := hqn.slice
          obtain ⟨m, hown, hsz, hnext⟩ := CLw.owns HK.out HB.out.2.2 (wb := w1.alloc (pobj q 29)) (on ((Below.refl _ _).drew.trans hb1) (alloc1 _ _))
          refine wpAnyH_ready (rs := [10]) (by kernel_rfl) (by simp) ?_
          refine AllReadyH.cons rfl (fun K hK => ?_) AllReadyH.nil
          refine step_append_own_at rfl (.tmp 37) (.tmp 45) 27 rfl (w.heap.size + 1 + 1 + 1) TP i0 _ 9 104 Tryd.underlying27 I0.out.1 I0.out.2.1 I0.out.2.2.1 I0.out.2.2.2 rfl (by decide) own k (m.flatMap PT.cells) rfl hown ⟨w1.heap.size, 0, none⟩ 1 1 q.cells rfl rfl (new_cells w1 q _) (one_cells q _ _ _ hlq) ?_ ?_ hsz ?_
          · unfold maxLen; omega
          · omega
          intro v' w2 hown' hgrow hat
          obtain ⟨hcl, hsv⟩ := hnext q wr.drew w2 v' (by simpa using h1) (Nat.le_refl _) (by simpa using hqb) (hqn.keep (alloc1 _ _)) hown' hgrow (by simpa using hat)
          have T3 := T2.sv hsv (by omega) (by omega) (by omega)
          have HB3 : Below w.heap.size w w2 := HB2.trans (hsv.below (Nat.le_trans (by omega) HB2.size) fun b hb hx => by omega)
          have HZ3 : w.heap.size + 1 + 1 + 1 ≤ w2.heap.size := Nat.le_trans hsz hsv.size
          obtain ⟨av, nv, cv, hv'⟩ := hcl.slice
          refine hK.out _ _ ?_ (fun hHeld => ?_)
          · exact hS _ (HB3) T3.pb.c8
          clear hK K
          (try clear hK K)
          refine wpAnyH_take (i := 11) (v := ?_) rfl (by kernel_rfl) (by kernel_rfl) (by kernel_rfl) (fun _ _ _ h => h) (Or.inl ⟨by rfl, ?_⟩) (by assumption) ?_
          rotate_left
          · intro w hSw; (try dsimp only at hSw); go_simp; (try with_reducible rfl)
          (try simp only [Act.put, List.getElem_toArray, List.getElem_cons_succ, List.getElem_cons_zero, List.setIfInBounds_toArray, List.set_cons_zero, List.set_cons_succ])
          have c8 := T3.qb.c8
          have f8 := T3.f2.2 8
          have l8 := T3.f2.1
          dsimp only at c8
          subst hv'
          refine wpAnyH_ready (rs := [12]) (by kernel_rfl) (by simp) ?_
          refine AllReadyH.cons rfl (fun K hK => ?_) AllReadyH.nil
          go_simp
          have T4 := T3.set (.slice av nv cv)
          have HB4 : Below w.heap.size w (w2.setCell ⟨w.heap.size + 1 + 1, 8, none⟩ (.slice av nv cv)) := HB3.setCell (show w.heap.size ≤ w.heap.size + 1 + 1 by omega) _
          have hcl4 : CLw (w.heap.size + 1 + 1 + 1) (w2.setCell ⟨w.heap.size + 1 + 1, 8, none⟩ (.slice av nv cv)) TP (p.l.map fun q => pushP q true) (k + 1) (.slice av nv cv) := hcl.sv (Sv.set (X := fun b => b = w.heap.size + 1 + 1) (Sv.refl _ w2) (a := ⟨w.heap.size + 1 + 1, 8, none⟩) (show w.heap.size + 1 + 1 = w.heap.size + 1 + 1 from rfl) _) fun b hb e => by omega
          refine hK.out _ _ ?_ (fun hHeld => ?_)
          · exact hS _ (HB4) T4.pb.c8
          clear hK K c8 f8 l8
          refine wpAnyH_done (by kernel_rfl) ?_ _
          have HC4 : Hid (CLw (w.heap.size + 1 + 1 + 1) (w2.setCell ⟨w.heap.size + 1 + 1, 8, none⟩ (.slice av nv cv)) TP (p.l.map fun q => pushP q true) (k + 1) (.slice av nv cv)) := hcl4
          have HT4 : Hid (Below w.heap.size w (w2.setCell ⟨w.heap.size + 1 + 1, 8, none⟩ (.slice av nv cv)) ∧ TQ w.heap.size p 12 (.slice av nv cv) (w2.setCell ⟨w.heap.size + 1 + 1, 8, none⟩ (.slice av nv cv)) ∧ w.heap.size + 1 + 1 + 1 ≤ (w2.setCell ⟨w.heap.size + 1 + 1, 8, none⟩ (.slice av nv cv)).heap.size) := ⟨HB4, T4, by simpa [World.setCell] using HZ3⟩
          clear hcl4 T4 HB4 HZ3 HB3 T3 hcl hsv hown' hgrow hat hnext hsz hown hlq T2 HB2 T1 HB1 hqb hqn hb1 T0 HBd hHeld HQ hS HK HB
          generalize w2.setCell ⟨w.heap.size + 1 + 1, 8, none⟩ (.slice av nv cv) = w3 at *
          go_wp2_with fail
          go_roundw
          case rel => exact ⟨k + 1, _, by omega, by go_num, HC4, HT4⟩
          case measure => simp [intOf]; omega
    · have j1 : decide ((k : Int) < (p.l.length : Int)) = false := by simp; omega
      obtain rfl : k = p.l.length := by omega
      obtain ⟨m, hm1, hm2, hm3⟩ := CLw.done HK.out (by simp)
      obtain ⟨av, cv, hv, _⟩ := hm2.lies.slice
      have HM : Hid ((PT.mk 12 0 Val.zero Val.zero (.slice av m.length cv) m).bare = (pushP p true).bare ∧ Nw wr TP (fun b => w.heap.size + 1 + 1 < b) (PT.mk 12 0 Val.zero Val.zero (.slice av m.length cv) m)) := by
        rw [hv] at hm2
        refine ⟨?_, .mk (by decide) (by decide) (hm2.imp fun b h _ => by omega) fun q hq => (hm3 q hq).imp fun b h _ => by omega⟩
        rw [push_list (by rw [HO.out]; decide), bare_mk, bare_mk, hm1, HO.out]; rfl
      have T0 := HB.out.2.1
      obtain ⟨b0, b1, b2, b3, b4, b5, b6, b7, b8⟩ := T0.qb
      obtain ⟨z0, z1, z2, z3, z4, z5, z6, z7, z8⟩ := T0.z
      obtain ⟨lz, fz⟩ := T0.f1
      have lq := T0.qb.lt
      dsimp only [PT.zero, Val.zero] at b0 b1 b2 b3 b4 b5 b6 b7 b8 z0 z1 z2 z3 z4 z5 z6 z7 z8
      have HBw : Hid (Below w.heap.size w wr) := HB.out.1
      clear hm1 hm2 hm3 T0 HB HK HI
      subst hv
      go_wp2_with fail
      refine bodyPost_ret (v := (PT.mk 12 0 Val.zero Val.zero (.slice av m.length cv) m).val) (by simp [results, Tryd.results30, go_sem, PT.val, Val.zero, z0, z1, z2, z3, z4, z5, z6, z7, z8]) rfl ⟨_, rfl, HM.out.1, ?_, ?_⟩
      · refine Nw.imp (P := fun b => w.heap.size + 1 + 1 < b) ?_ (fun b hb _ => by omega)
        repeat (refine nw_set ?_ (fun x hx => by omega))
        exact HM.out.2
      · repeat (refine set_below ?_ (by omega) _)
        exact HBw.out
end Go.Proofs.YtfkhfplibhnceaaDoor.Val
/- What the reference's push answers of lists (some of their cases). -/
namespace Go.Proofs.YtfkhfplibhnceaaDoor.Val
open Go.RowKit

set_option maxHeartbeats 8000000 in
theorem rpush_list_12false (p : PT) (h : p.op = 12) (hs : p.size ≤ 1000000) (ih : ∀ q ∈ p.l, RPushOk q false) : RPushOk p false := by
  intro w hi
  obtain ⟨i0, hi0, hz0, hz1, hz2⟩ := info_parts info_P
  have I0 : Hid (Tryd.prog.info? 29 = some i0 ∧ i0.zero = some (PV 0 0 false 0 ⟨#[]⟩ false 0 ⟨#[]⟩ (.slice none 0 0)) ∧ i0.size = 9 ∧ i0.bytes = 104) := ⟨hi0, hz0, hz1, hz2⟩
  obtain ⟨ap, cp, hlp, hln⟩ := hi.lies.slice
  have hlen : p.l.length ≤ 1000000 := size_ok hs
  have HI : Hid (In w p ∧ ∀ q ∈ p.l, RPushOk q false) := ⟨hi, ih⟩
  have HLV : Hid (p.lv = .slice ap p.l.length cp) := hlp
  have HO : Hid (p.op = 12) := h
  clear hi0 hz0 hz1 hz2 hi hs ih
  unfold PT.val
  rw [hlp, h]
  clear hlp h
  go_enter Tryd.func30, Tryd.ntmps30
  go_wp2_with fail
  go_loopw [6] (fun i wr => ∃ (k : Nat) (own : Value), k ≤ p.l.length ∧ i = .int .i64 k ∧ Hid (CLw (w.heap.size + 1 + 1 + 1) wr TP (p.l.map fun q => pushP q false) k own) ∧ Hid (Below w.heap.size w wr ∧ TQ w.heap.size p 12 own wr ∧ w.heap.size + 1 + 1 + 1 ≤ wr.heap.size))
    (fun i _ => p.l.length - (intOf i).toNat)
  case atStart =>
    refine ⟨0, .slice none 0 0, Nat.zero_le _, rfl, CLw.start _ _ _ _, back2 (alloc1 _ _), ⟨?_, ?_, ?_, ?_, ?_⟩, by simp⟩
    · have h0 := HO.out
      have h8 := HLV.out
      constructor <;> simp [go_sem, h0, h8]
    · constructor <;> simp [go_sem, PT.zero, Val.zero]
    · constructor <;> simp [go_sem, Val.zero]
    · exact ⟨by simp, fun j => by simp [go_sem]⟩
    · exact ⟨by simp, fun j => by simp [go_sem]⟩
  case round =>
    obtain ⟨k, own, hk, rfl, HK, HB⟩ := hrel
    have hc8 := HB.out.2.1.pb.c8
    have hlt := HB.out.2.1.pb.lt
    rw [HLV.out] at hc8
    by_cases h1 : k < p.l.length
    · have j0 : (0 : Int) ≤ (k : Int) := by omega
      have j1 : (k : Int) < (p.l.length : Int) := by omega
      have hl := HI.out.1.lies
      rw [HLV.out] at hl
      obtain ⟨b, o, rfl, hat0⟩ := lies_at hl k h1
      have hm := List.getElem_mem h1
      have HQ : Hid (∀ w1, Below w.heap.size w w1 → Calls Tryd.prog 30 #[p.l[k].val, .bool false] w1 fun e w' => ∃ q : PT, e = .returned q.val ∧ q.bare = (pushP p.l[k] false).bare ∧ Nw w' TP (fun b => w1.heap.size ≤ b) q ∧ Below w1.heap.size w1 w') :=
        fun w1 hb => HI.out.2 _ hm w1 ((HI.out.1.part _ hm).keep hb)
      have hS : ∀ w1, Below w.heap.size w w1 → w1.cell? ⟨w.heap.size, 8, none⟩ = some p.lv → (fun w' => w'.cell? ⟨w.heap.size, 8, none⟩ = some (.slice (some ⟨b, o, none⟩) p.l.length cp) ∧ w'.cell? ⟨b, o + k * 9, none⟩ = some (.int .i64 p.l[k].op) ∧ w'.cell? ⟨b, o + k * 9 + 1, none⟩ = some (.int .i64 p.l[k].col) ∧ w'.cell? ⟨b, o + k * 9 + 2, none⟩ = some (.bool p.l[k].v.t) ∧ w'.cell? ⟨b, o + k * 9 + 3, none⟩ = some (.int .i64 p.l[k].v.n) ∧ w'.cell? ⟨b, o + k * 9 + 4, none⟩ = some (.string p.l[k].v.s) ∧ w'.cell? ⟨b, o + k * 9 + 5, none⟩ = some (.bool p.l[k].w.t) ∧ w'.cell? ⟨b, o + k * 9 + 6, none⟩ = some (.int .i64 p.l[k].w.n) ∧ w'.cell? ⟨b, o + k * 9 + 7, none⟩ = some (.string p.l[k].w.s) ∧ w'.cell? ⟨b, o + k * 9 + 8, none⟩ = some p.l[k].lv) w1 := fun w1 hb hc => by
        have h := hat0.below hb
        rw [HLV.out] at hc
        exact ⟨hc, h.c0, h.c1, h.c2, h.c3, h.c4, h.c5, h.c6, h.c7, h.c8⟩
      have T0 : TQ w.heap.size p 12 own wr.drew := HB.out.2.1.below (Below.refl _ _).drew
      have HBd : Below w.heap.size w wr.drew := HB.out.1.drew
      clear hm hl hat0
      unfold PT.val at HQ
      go_wp2_with fail
      clear hc8 hlt
      refine wp_region_held_drew (S := fun w' => w'.cell? ⟨w.heap.size, 8, none⟩ = some (.slice (some ⟨b, o, none⟩) p.l.length cp) ∧ w'.cell? ⟨b, o + k * 9, none⟩ = some (.int .i64 p.l[k].op) ∧ w'.cell? ⟨b, o + k * 9 + 1, none⟩ = some (.int .i64 p.l[k].col) ∧ w'.cell? ⟨b, o + k * 9 + 2, none⟩ = some (.bool p.l[k].v.t) ∧ w'.cell? ⟨b, o + k * 9 + 3, none⟩ = some (.int .i64 p.l[k].v.n) ∧ w'.cell? ⟨b, o + k * 9 + 4, none⟩ = some (.string p.l[k].v.s) ∧ w'.cell? ⟨b, o + k * 9 + 5, none⟩ = some (.bool p.l[k].w.t) ∧ w'.cell? ⟨b, o + k * 9 + 6, none⟩ = some (.int .i64 p.l[k].w.n) ∧ w'.cell? ⟨b, o + k * 9 + 7, none⟩ = some (.string p.l[k].w.s) ∧ w'.cell? ⟨b, o + k * 9 + 8, none⟩ = some p.l[k].lv) (by kernel_rfl) ?_ (fun hHeld => ?_)
      · exact hS _ HBd T0.pb.c8
      (try clear hK K)
      refine wpAnyH_take (i := 0) (v := ?_) rfl (by kernel_rfl) (by kernel_rfl) (by kernel_rfl) (fun _ _ _ h => h) (Or.inl ⟨by rfl, ?_⟩) (by assumption) ?_
      rotate_left
      · intro w hSw; (try dsimp only at hSw); go_simp; (try with_reducible rfl)
      (try simp only [Act.put, List.getElem_toArray, List.getElem_cons_zero, List.setIfInBounds_toArray, List.set_cons_zero, List.set_cons_succ])
      refine wpAnyH_take (i := 2) (v := ?_) rfl (by kernel_rfl) (by kernel_rfl) (by kernel_rfl) (fun _ _ _ h => h) (Or.inl ⟨by rfl, ?_⟩) (by assumption) ?_
      rotate_left
      · intro w hSw; (try dsimp only at hSw); go_simp; (try with_reducible rfl)
      (try simp only [Act.put, List.getElem_toArray, List.getElem_cons_succ, List.getElem_cons_zero, List.setIfInBounds_toArray, List.set_cons_zero, List.set_cons_succ])
      refine wpAnyH_take (i := 3) (v := ?_) rfl (by kernel_rfl) (by kernel_rfl) (by kernel_rfl) (fun _ _ _ h => h) (Or.inl ⟨by rfl, ?_⟩) (by assumption) ?_
      rotate_left
      · intro w hSw; (try dsimp only at hSw); go_simp; (try with_reducible rfl)
      (try simp only [Act.put, List.getElem_toArray, List.getElem_cons_succ, List.getElem_cons_zero, List.setIfInBounds_toArray, List.set_cons_zero, List.set_cons_succ])
      refine wpAnyH_take (i := 4) (v := ?_) rfl (by kernel_rfl) (by kernel_rfl) (by kernel_rfl) (fun _ _ _ h => h) (Or.inl ⟨by rfl, ?_⟩) (by assumption) ?_
      rotate_left
      · intro w hSw; (try dsimp only at hSw); go_simp; (try with_reducible rfl)
      (try simp only [Act.put, List.getElem_toArray, List.getElem_cons_succ, List.getElem_cons_zero, List.setIfInBounds_toArray, List.set_cons_zero, List.set_cons_succ])
      refine wpAnyH_take (i := 5) (v := ?_) rfl (by kernel_rfl) (by kernel_rfl) (by kernel_rfl) (fun _ _ _ h => h) (Or.inl ⟨by rfl, ?_⟩) (by assumption) ?_
      rotate_left
      · intro w hSw; (try dsimp only at hSw); go_simp; (try with_reducible rfl)
      (try simp only [Act.put, List.getElem_toArray, List.getElem_cons_succ, List.getElem_cons_zero, List.setIfInBounds_toArray, List.set_cons_zero, List.set_cons_succ])
      refine wpAnyH_take (i := 6) (v := ?_) rfl (by kernel_rfl) (by kernel_rfl) (by kernel_rfl) (fun _ _ _ h => h) (Or.inl ⟨by rfl, ?_⟩) (by assumption) ?_
      rotate_left
      · intro w hSw; (try dsimp only at hSw); go_simp; (try with_reducible rfl)
      (try simp only [Act.put, List.getElem_toArray, List.getElem_cons_succ, List.getElem_cons_zero, List.setIfInBounds_toArray, List.set_cons_zero, List.set_cons_succ])
      refine wpAnyH_take (i := 7) (v := ?_) rfl (by kernel_rfl) (by kernel_rfl) (by kernel_rfl) (fun _ _ _ h => h) (Or.inl ⟨by rfl, ?_⟩) (by assumption) ?_
      rotate_left
      · intro w hSw; (try dsimp only at hSw); go_simp; (try with_reducible rfl)
      (try simp only [Act.put, List.getElem_toArray, List.getElem_cons_succ, List.getElem_cons_zero, List.setIfInBounds_toArray, List.set_cons_zero, List.set_cons_succ])
      refine wpAnyH_ready (rs := [1, 8]) (by kernel_rfl) (by simp) ?_
      refine AllReadyH.cons rfl (fun K hK => ?_) (AllReadyH.cons rfl (fun K hK => ?_) AllReadyH.nil)
      · have c8 := T0.qb.c8
        dsimp only at c8
        go_simp
        refine hK.out _ _ ?_ (fun hHeld => ?_)
        · exact hS _ (HBd) T0.pb.c8
        (try clear c8)
        refine wpAnyH_ready (rs := [8]) (by kernel_rfl) (by simp) ?_
        refine AllReadyH.cons rfl (fun K hK => ?_) AllReadyH.nil
        go_simp
        refine Calls.mono (HQ.out _ HBd) ?_
        rintro e w1 ⟨q, rfl, hqb, hqn, hb1⟩
        have HB1 := on HBd hb1
        have T1 := T0.below hb1
        refine hK.out _ _ ?_ (fun hHeld => ?_)
        · exact hS _ (HB1) T1.pb.c8
        refine wpAnyH_ready (rs := [9]) (by kernel_rfl) (by simp) ?_
        refine AllReadyH.cons rfl (fun K hK => ?_) AllReadyH.nil
        go_simp
        have HB2 := on HB1 (alloc1 w1 (pobj q 29))
        have T2 := T1.below (alloc1 w1 (pobj q 29))
        refine hK.out _ _ ?_ (fun hHeld => ?_)
        · exact hS _ (HB2) T2.pb.c8
        (try clear hK K)
        obtain ⟨aq, cq, hlq⟩ := hqn.slice
        obtain ⟨m, hown, hsz, hnext⟩ := CLw.owns HK.out HB.out.2.2 (wb := w1.alloc (pobj q 29)) (on ((Below.refl _ _).drew.trans hb1) (alloc1 _ _))
        refine wpAnyH_ready (rs := [10]) (by kernel_rfl) (by simp) ?_
        refine AllReadyH.cons rfl (fun K hK => ?_) AllReadyH.nil
        refine step_append_own_at rfl (.tmp 37) (.tmp 45) 27 rfl (w.heap.size + 1 + 1 + 1) TP i0 _ 9 104 Tryd.underlying27 I0.out.1 I0.out.2.1 I0.out.2.2.1 I0.out.2.2.2 rfl (by decide) own k (m.flatMap PT.cells) rfl hown ⟨w1.heap.size, 0, none⟩ 1 1 q.cells rfl rfl (new_cells w1 q _) (one_cells q _ _ _ hlq) ?_ ?_ hsz ?_
        · unfold maxLen; omega
        · omega
        intro v' w2 hown' hgrow hat
        obtain ⟨hcl, hsv⟩ := hnext q wr.drew w2 v' (by simpa using h1) (Nat.le_refl _) (by simpa using hqb) (hqn.keep (alloc1 _ _)) hown' hgrow (by simpa using hat)
        have T3 := T2.sv hsv (by omega) (by omega) (by omega)
        have HB3 : Below w.heap.size w w2 := HB2.trans (hsv.below (Nat.le_trans (by omega) HB2.size) fun b hb hx => by omega)
        have HZ3 : w.heap.size + 1 + 1 + 1 ≤ w2.heap.size := Nat.le_trans hsz hsv.size
        obtain ⟨av, nv, cv, hv'⟩ := hcl.slice
        refine hK.out _ _ ?_ (fun hHeld => ?_)
        · exact hS _ (HB3) T3.pb.c8
        clear hK K
        (try clear hK K)
        refine wpAnyH_take (i := 11) (v := ?_) rfl (by kernel_rfl) (by kernel_rfl) (by kernel_rfl) (fun _ _ _ h => h) (Or.inl ⟨by rfl, ?_⟩) (by assumption) ?_
        rotate_left
        · intro w hSw; (try dsimp only at hSw); go_simp; (try with_reducible rfl)
        (try simp only [Act.put, List.getElem_toArray, List.getElem_cons_succ, List.getElem_cons_zero, List.setIfInBounds_toArray, List.set_cons_zero, List.set_cons_succ])
        have c8 := T3.qb.c8
        have f8 := T3.f2.2 8
        have l8 := T3.f2.1
        dsimp only at c8
        subst hv'
        refine wpAnyH_ready (rs := [12]) (by kernel_rfl) (by simp) ?_
        refine AllReadyH.cons rfl (fun K hK => ?_) AllReadyH.nil
        go_simp
        have T4 := T3.set (.slice av nv cv)
        have HB4 : Below w.heap.size w (w2.setCell ⟨w.heap.size + 1 + 1, 8, none⟩ (.slice av nv cv)) := HB3.setCell (show w.heap.size ≤ w.heap.size + 1 + 1 by omega) _
        have hcl4 : CLw (w.heap.size + 1 + 1 + 1) (w2.setCell ⟨w.heap.size + 1 + 1, 8, none⟩ (.slice av nv cv)) TP (p.l.map fun q => pushP q false) (k + 1) (.slice av nv cv) := hcl.sv (Sv.set (X := fun b => b = w.heap.size + 1 + 1) (Sv.refl _ w2) (a := ⟨w.heap.size + 1 + 1, 8, none⟩) (show w.heap.size + 1 + 1 = w.heap.size + 1 + 1 from rfl) _) fun b hb e => by omega
        refine hK.out _ _ ?_ (fun hHeld => ?_)
        · exact hS _ (HB4) T4.pb.c8
        clear hK K c8 f8 l8
        refine wpAnyH_done (by kernel_rfl) ?_ _
        have HC4 : Hid (CLw (w.heap.size + 1 + 1 + 1) (w2.setCell ⟨w.heap.size + 1 + 1, 8, none⟩ (.slice av nv cv)) TP (p.l.map fun q => pushP q false) (k + 1) (.slice av nv cv)) := hcl4
        have HT4 : Hid (Below w.heap.size w (w2.setCell ⟨w.heap.size + 1 + 1, 8, none⟩ (.slice av nv cv)) ∧ TQ w.heap.size p 12 (.slice av nv cv) (w2.setCell ⟨w.heap.size + 1 + 1, 8, none⟩ (.slice av nv cv)) ∧ w.heap.size + 1 + 1 + 1 ≤ (w2.setCell ⟨w.heap.size + 1 + 1, 8, none⟩ (.slice av nv cv)).heap.size) := ⟨HB4, T4, by simpa [World.setCell] using HZ3⟩
        clear hcl4 T4 HB4 HZ3 HB3 T3 hcl hsv hown' hgrow hat hnext hsz hown hlq T2 HB2 T1 HB1 hqb hqn hb1 T0 HBd hHeld HQ hS HK HB
        generalize w2.setCell ⟨w.heap.size + 1 + 1, 8, none⟩ (.slice av nv cv) = w3 at *
        go_wp2_with fail
        go_roundw
        case rel => exact ⟨k + 1, _, by omega, by go_num, HC4, HT4⟩
        case measure => simp [intOf]; omega
      · go_simp
        refine Calls.mono (HQ.out _ HBd) ?_
        rintro e w1 ⟨q, rfl, hqb, hqn, hb1⟩
        have HB1 := on HBd hb1
        have T1 := T0.below hb1
        refine hK.out _ _ ?_ (fun hHeld => ?_)
        · exact hS _ (HB1) T1.pb.c8
        refine wpAnyH_ready (rs := [1, 9]) (by kernel_rfl) (by simp) ?_
        refine AllReadyH.cons rfl (fun K hK => ?_) (AllReadyH.cons rfl (fun K hK => ?_) AllReadyH.nil)
        · have c8 := T1.qb.c8
          dsimp only at c8
          go_simp
          refine hK.out _ _ ?_ (fun hHeld => ?_)
          · exact hS _ (HB1) T1.pb.c8
          (try clear c8)
          refine wpAnyH_ready (rs := [9]) (by kernel_rfl) (by simp) ?_
          refine AllReadyH.cons rfl (fun K hK => ?_) AllReadyH.nil
          go_simp
          have HB2 := on HB1 (alloc1 w1 (pobj q 29))
          have T2 := T1.below (alloc1 w1 (pobj q 29))
          refine hK.out _ _ ?_ (fun hHeld => ?_)
          · exact hS _ (HB2) T2.pb.c8
          (try clear hK K)
          obtain ⟨aq, cq, hlq⟩ := hqn.slice
          obtain ⟨m, hown, hsz, hnext⟩ := CLw.owns HK.out HB.out.2.2 (wb := w1.alloc (pobj q 29)) (on ((Below.refl _ _).drew.trans hb1) (alloc1 _ _))
          refine wpAnyH_ready (rs := [10]) (by kernel_rfl) (by simp) ?_
          refine AllReadyH.cons rfl (fun K hK => ?_) AllReadyH.nil
          refine step_append_own_at rfl (.tmp 37) (.tmp 45) 27 rfl (w.heap.size + 1 + 1 + 1) TP i0 _ 9 104 Tryd.underlying27 I0.out.1 I0.out.2.1 I0.out.2.2.1 I0.out.2.2.2 rfl (by decide) own k (m.flatMap PT.cells) rfl hown ⟨w1.heap.size, 0, none⟩ 1 1 q.cells rfl rfl (new_cells w1 q _) (one_cells q _ _ _ hlq) ?_ ?_ hsz ?_
          · unfold maxLen; omega
          · omega
          intro v' w2 hown' hgrow hat
          obtain ⟨hcl, hsv⟩ := hnext q wr.drew w2 v' (by simpa using h1) (Nat.le_refl _) (by simpa using hqb) (hqn.keep (alloc1 _ _)) hown' hgrow (by simpa using hat)
          have T3 := T2.sv hsv (by omega) (by omega) (by omega)
          have HB3 : Below w.heap.size w w2 := HB2.trans (hsv.below (Nat.le_trans (by omega) HB2.size) fun b hb hx => by omega)
          have HZ3 : w.heap.size + 1 + 1 + 1 ≤ w2.heap.size := Nat.le_trans hsz hsv.size
          obtain ⟨av, nv, cv, hv'⟩ := hcl.slice
          refine hK.out _ _ ?_ (fun hHeld => ?_)
          · exact hS _ (HB3) T3.pb.c8
          clear hK K
          (try clear hK K)
          refine wpAnyH_take (i := 11) (v := ?_) rfl (by kernel_rfl) (by kernel_rfl) (by kernel_rfl) (fun _ _ _ h => h) (Or.inl ⟨by rfl, ?_⟩) (by assumption) ?_
          rotate_left
          · intro w hSw; (try dsimp only at hSw); go_simp; (try with_reducible rfl)
          (try simp only [Act.put, List.getElem_toArray, List.getElem_cons_succ, List.getElem_cons_zero, List.setIfInBounds_toArray, List.set_cons_zero, List.set_cons_succ])
          have c8 := T3.qb.c8
          have f8 := T3.f2.2 8
          have l8 := T3.f2.1
          dsimp only at c8
          subst hv'
          refine wpAnyH_ready (rs := [12]) (by kernel_rfl) (by simp) ?_
          refine AllReadyH.cons rfl (fun K hK => ?_) AllReadyH.nil
          go_simp
          have T4 := T3.set (.slice av nv cv)
          have HB4 : Below w.heap.size w (w2.setCell ⟨w.heap.size + 1 + 1, 8, none⟩ (.slice av nv cv)) := HB3.setCell (show w.heap.size ≤ w.heap.size + 1 + 1 by omega) _
          have hcl4 : CLw (w.heap.size + 1 + 1 + 1) (w2.setCell ⟨w.heap.size + 1 + 1, 8, none⟩ (.slice av nv cv)) TP (p.l.map fun q => pushP q false) (k + 1) (.slice av nv cv) := hcl.sv (Sv.set (X := fun b => b = w.heap.size + 1 + 1) (Sv.refl _ w2) (a := ⟨w.heap.size + 1 + 1, 8, none⟩) (show w.heap.size + 1 + 1 = w.heap.size + 1 + 1 from rfl) _) fun b hb e => by omega
          refine hK.out _ _ ?_ (fun hHeld => ?_)
          · exact hS _ (HB4) T4.pb.c8
          clear hK K c8 f8 l8
          refine wpAnyH_done (by kernel_rfl) ?_ _
          have HC4 : Hid (CLw (w.heap.size + 1 + 1 + 1) (w2.setCell ⟨w.heap.size + 1 + 1, 8, none⟩ (.slice av nv cv)) TP (p.l.map fun q => pushP q false) (k + 1) (.slice av nv cv)) := hcl4
          have HT4 : Hid (Below w.heap.size w (w2.setCell ⟨w.heap.size + 1 + 1, 8, none⟩ (.slice av nv cv)) ∧ TQ w.heap.size p 12 (.slice av nv cv) (w2.setCell ⟨w.heap.size + 1 + 1, 8, none⟩ (.slice av nv cv)) ∧ w.heap.size + 1 + 1 + 1 ≤ (w2.setCell ⟨w.heap.size + 1 + 1, 8, none⟩ (.slice av nv cv)).heap.size) := ⟨HB4, T4, by simpa [World.setCell] using HZ3⟩
          clear hcl4 T4 HB4 HZ3 HB3 T3 hcl hsv hown' hgrow hat hnext hsz hown hlq T2 HB2 T1 HB1 hqb hqn hb1 T0 HBd hHeld HQ hS HK HB
          generalize w2.setCell ⟨w.heap.size + 1 + 1, 8, none⟩ (.slice av nv cv) = w3 at *
          go_wp2_with fail
          go_roundw
          case rel => exact ⟨k + 1, _, by omega, by go_num, HC4, HT4⟩
          case measure => simp [intOf]; omega
        · go_simp
          have HB2 := on HB1 (alloc1 w1 (pobj q 29))
          have T2 := T1.below (alloc1 w1 (pobj q 29))
          refine hK.out _ _ ?_ (fun hHeld => ?_)
          · exact hS _ (HB2) T2.pb.c8
          refine wpAnyH_ready (rs := [1]) (by kernel_rfl) (by simp) ?_
          refine AllReadyH.cons rfl (fun K hK => ?_) AllReadyH.nil
          have c8 := T2.qb.c8
          dsimp only at c8
          go_simp
          refine hK.out _ _ ?_ (fun hHeld => ?_)
          · exact hS _ (HB2) T2.pb.c8
          (try clear c8)
          (try clear hK K)
          obtain ⟨aq, cq, hlq⟩ := hqn.slice
          obtain ⟨m, hown, hsz, hnext⟩ := CLw.owns HK.out HB.out.2.2 (wb := w1.alloc (pobj q 29)) (on ((Below.refl _ _).drew.trans hb1) (alloc1 _ _))
          refine wpAnyH_ready (rs := [10]) (by kernel_rfl) (by simp) ?_
          refine AllReadyH.cons rfl (fun K hK => ?_) AllReadyH.nil
          refine step_append_own_at rfl (.tmp 37) (.tmp 45) 27 rfl (w.heap.size + 1 + 1 + 1) TP i0 _ 9 104 Tryd.underlying27 I0.out.1 I0.out.2.1 I0.out.2.2.1 I0.out.2.2.2 rfl (by decide) own k (m.flatMap PT.cells) rfl hown ⟨w1.heap.size, 0, none⟩ 1 1 q.cells rfl rfl (new_cells w1 q _) (one_cells q _ _ _ hlq) ?_ ?_ hsz ?_
          · unfold maxLen; omega
          · omega
          intro v' w2 hown' hgrow hat
          obtain ⟨hcl, hsv⟩ := hnext q wr.drew w2 v' (by simpa using h1) (Nat.le_refl _) (by simpa using hqb) (hqn.keep (alloc1 _ _)) hown' hgrow (by simpa using hat)
          have T3 := T2.sv hsv (by omega) (by omega) (by omega)
          have HB3 : Below w.heap.size w w2 := HB2.trans (hsv.below (Nat.le_trans (by omega) HB2.size) fun b hb hx => by omega)
          have HZ3 : w.heap.size + 1 + 1 + 1 ≤ w2.heap.size := Nat.le_trans hsz hsv.size
          obtain ⟨av, nv, cv, hv'⟩ := hcl.slice
          refine hK.out _ _ ?_ (fun hHeld => ?_)
          · exact hS _ (HB3) T3.pb.c8
          clear hK K
          (try clear hK K)
          refine wpAnyH_take (i := 11) (v := ?_) rfl (by kernel_rfl) (by kernel_rfl) (by kernel_rfl) (fun _ _ _ h => h) (Or.inl ⟨by rfl, ?_⟩) (by assumption) ?_
          rotate_left
          · intro w hSw; (try dsimp only at hSw); go_simp; (try with_reducible rfl)
          (try simp only [Act.put, List.getElem_toArray, List.getElem_cons_succ, List.getElem_cons_zero, List.setIfInBounds_toArray, List.set_cons_zero, List.set_cons_succ])
          have c8 := T3.qb.c8
          have f8 := T3.f2.2 8
          have l8 := T3.f2.1
          dsimp only at c8
          subst hv'
          refine wpAnyH_ready (rs := [12]) (by kernel_rfl) (by simp) ?_
          refine AllReadyH.cons rfl (fun K hK => ?_) AllReadyH.nil
          go_simp
          have T4 := T3.set (.slice av nv cv)
          have HB4 : Below w.heap.size w (w2.setCell ⟨w.heap.size + 1 + 1, 8, none⟩ (.slice av nv cv)) := HB3.setCell (show w.heap.size ≤ w.heap.size + 1 + 1 by omega) _
          have hcl4 : CLw (w.heap.size + 1 + 1 + 1) (w2.setCell ⟨w.heap.size + 1 + 1, 8, none⟩ (.slice av nv cv)) TP (p.l.map fun q => pushP q false) (k + 1) (.slice av nv cv) := hcl.sv (Sv.set (X := fun b => b = w.heap.size + 1 + 1) (Sv.refl _ w2) (a := ⟨w.heap.size + 1 + 1, 8, none⟩) (show w.heap.size + 1 + 1 = w.heap.size + 1 + 1 from rfl) _) fun b hb e => by omega
          refine hK.out _ _ ?_ (fun hHeld => ?_)
          · exact hS _ (HB4) T4.pb.c8
          clear hK K c8 f8 l8
          refine wpAnyH_done (by kernel_rfl) ?_ _
          have HC4 : Hid (CLw (w.heap.size + 1 + 1 + 1) (w2.setCell ⟨w.heap.size + 1 + 1, 8, none⟩ (.slice av nv cv)) TP (p.l.map fun q => pushP q false) (k + 1) (.slice av nv cv)) := hcl4
          have HT4 : Hid (Below w.heap.size w (w2.setCell ⟨w.heap.size + 1 + 1, 8, none⟩ (.slice av nv cv)) ∧ TQ w.heap.size p 12 (.slice av nv cv) (w2.setCell ⟨w.heap.size + 1 + 1, 8, none⟩ (.slice av nv cv)) ∧ w.heap.size + 1 + 1 + 1 ≤ (w2.setCell ⟨w.heap.size + 1 + 1, 8, none⟩ (.slice av nv cv)).heap.size) := ⟨HB4, T4, by simpa [World.setCell] using HZ3⟩
          clear hcl4 T4 HB4 HZ3 HB3 T3 hcl hsv hown' hgrow hat hnext hsz hown hlq T2 HB2 T1 HB1 hqb hqn hb1 T0 HBd hHeld HQ hS HK HB
          generalize w2.setCell ⟨w.heap.size + 1 + 1, 8, none⟩ (.slice av nv cv) = w3 at *
          go_wp2_with fail
          go_roundw
          case rel => exact ⟨k + 1, _, by omega, by go_num, HC4, HT4⟩
          case measure => simp [intOf]; omega
    · have j1 : decide ((k : Int) < (p.l.length : Int)) = false := by simp; omega
      obtain rfl : k = p.l.length := by omega
      obtain ⟨m, hm1, hm2, hm3⟩ := CLw.done HK.out (by simp)
      obtain ⟨av, cv, hv, _⟩ := hm2.lies.slice
      have HM : Hid ((PT.mk 12 0 Val.zero Val.zero (.slice av m.length cv) m).bare = (pushP p false).bare ∧ Nw wr TP (fun b => w.heap.size + 1 + 1 < b) (PT.mk 12 0 Val.zero Val.zero (.slice av m.length cv) m)) := by
        rw [hv] at hm2
        refine ⟨?_, .mk (by decide) (by decide) (hm2.imp fun b h _ => by omega) fun q hq => (hm3 q hq).imp fun b h _ => by omega⟩
        rw [push_list (by rw [HO.out]; decide), bare_mk, bare_mk, hm1, HO.out]; rfl
      have T0 := HB.out.2.1
      obtain ⟨b0, b1, b2, b3, b4, b5, b6, b7, b8⟩ := T0.qb
      obtain ⟨z0, z1, z2, z3, z4, z5, z6, z7, z8⟩ := T0.z
      obtain ⟨lz, fz⟩ := T0.f1
      have lq := T0.qb.lt
      dsimp only [PT.zero, Val.zero] at b0 b1 b2 b3 b4 b5 b6 b7 b8 z0 z1 z2 z3 z4 z5 z6 z7 z8
      have HBw : Hid (Below w.heap.size w wr) := HB.out.1
      clear hm1 hm2 hm3 T0 HB HK HI
      subst hv
      go_wp2_with fail
      refine bodyPost_ret (v := (PT.mk 12 0 Val.zero Val.zero (.slice av m.length cv) m).val) (by simp [results, Tryd.results30, go_sem, PT.val, Val.zero, z0, z1, z2, z3, z4, z5, z6, z7, z8]) rfl ⟨_, rfl, HM.out.1, ?_, ?_⟩
      · refine Nw.imp (P := fun b => w.heap.size + 1 + 1 < b) ?_ (fun b hb _ => by omega)
        repeat (refine nw_set ?_ (fun x hx => by omega))
        exact HM.out.2
      · repeat (refine set_below ?_ (by omega) _)
        exact HBw.out
end Go.Proofs.YtfkhfplibhnceaaDoor.Val
/- What the reference's push answers of lists (some of their cases). -/
namespace Go.Proofs.YtfkhfplibhnceaaDoor.Val
open Go.RowKit

set_option maxHeartbeats 8000000 in
theorem rpush_list_12true (p : PT) (h : p.op = 12) (hs : p.size ≤ 1000000) (ih : ∀ q ∈ p.l, RPushOk q true) : RPushOk p true := by
  intro w hi
  obtain ⟨i0, hi0, hz0, hz1, hz2⟩ := info_parts info_P
  have I0 : Hid (Tryd.prog.info? 29 = some i0 ∧ i0.zero = some (PV 0 0 false 0 ⟨#[]⟩ false 0 ⟨#[]⟩ (.slice none 0 0)) ∧ i0.size = 9 ∧ i0.bytes = 104) := ⟨hi0, hz0, hz1, hz2⟩
  obtain ⟨ap, cp, hlp, hln⟩ := hi.lies.slice
  have hlen : p.l.length ≤ 1000000 := size_ok hs
  have HI : Hid (In w p ∧ ∀ q ∈ p.l, RPushOk q true) := ⟨hi, ih⟩
  have HLV : Hid (p.lv = .slice ap p.l.length cp) := hlp
  have HO : Hid (p.op = 12) := h
  clear hi0 hz0 hz1 hz2 hi hs ih
  unfold PT.val
  rw [hlp, h]
  clear hlp h
  go_enter Tryd.func30, Tryd.ntmps30
  go_wp2_with fail
  go_loopw [6] (fun i wr => ∃ (k : Nat) (own : Value), k ≤ p.l.length ∧ i = .int .i64 k ∧ Hid (CLw (w.heap.size + 1 + 1 + 1) wr TP (p.l.map fun q => pushP q true) k own) ∧ Hid (Below w.heap.size w wr ∧ TQ w.heap.size p 11 own wr ∧ w.heap.size + 1 + 1 + 1 ≤ wr.heap.size))
    (fun i _ => p.l.length - (intOf i).toNat)
  case atStart =>
    refine ⟨0, .slice none 0 0, Nat.zero_le _, rfl, CLw.start _ _ _ _, back2 (alloc1 _ _), ⟨?_, ?_, ?_, ?_, ?_⟩, by simp⟩
    · have h0 := HO.out
      have h8 := HLV.out
      constructor <;> simp [go_sem, h0, h8]
    · constructor <;> simp [go_sem, PT.zero, Val.zero]
    · constructor <;> simp [go_sem, Val.zero]
    · exact ⟨by simp, fun j => by simp [go_sem]⟩
    · exact ⟨by simp, fun j => by simp [go_sem]⟩
  case round =>
    obtain ⟨k, own, hk, rfl, HK, HB⟩ := hrel
    have hc8 := HB.out.2.1.pb.c8
    have hlt := HB.out.2.1.pb.lt
    rw [HLV.out] at hc8
    by_cases h1 : k < p.l.length
    · have j0 : (0 : Int) ≤ (k : Int) := by omega
      have j1 : (k : Int) < (p.l.length : Int) := by omega
      have hl := HI.out.1.lies
      rw [HLV.out] at hl
      obtain ⟨b, o, rfl, hat0⟩ := lies_at hl k h1
      have hm := List.getElem_mem h1
      have HQ : Hid (∀ w1, Below w.heap.size w w1 → Calls Tryd.prog 30 #[p.l[k].val, .bool true] w1 fun e w' => ∃ q : PT, e = .returned q.val ∧ q.bare = (pushP p.l[k] true).bare ∧ Nw w' TP (fun b => w1.heap.size ≤ b) q ∧ Below w1.heap.size w1 w') :=
        fun w1 hb => HI.out.2 _ hm w1 ((HI.out.1.part _ hm).keep hb)
      have hS : ∀ w1, Below w.heap.size w w1 → w1.cell? ⟨w.heap.size, 8, none⟩ = some p.lv → (fun w' => w'.cell? ⟨w.heap.size, 8, none⟩ = some (.slice (some ⟨b, o, none⟩) p.l.length cp) ∧ w'.cell? ⟨b, o + k * 9, none⟩ = some (.int .i64 p.l[k].op) ∧ w'.cell? ⟨b, o + k * 9 + 1, none⟩ = some (.int .i64 p.l[k].col) ∧ w'.cell? ⟨b, o + k * 9 + 2, none⟩ = some (.bool p.l[k].v.t) ∧ w'.cell? ⟨b, o + k * 9 + 3, none⟩ = some (.int .i64 p.l[k].v.n) ∧ w'.cell? ⟨b, o + k * 9 + 4, none⟩ = some (.string p.l[k].v.s) ∧ w'.cell? ⟨b, o + k * 9 + 5, none⟩ = some (.bool p.l[k].w.t) ∧ w'.cell? ⟨b, o + k * 9 + 6, none⟩ = some (.int .i64 p.l[k].w.n) ∧ w'.cell? ⟨b, o + k * 9 + 7, none⟩ = some (.string p.l[k].w.s) ∧ w'.cell? ⟨b, o + k * 9 + 8, none⟩ = some p.l[k].lv) w1 := fun w1 hb hc => by
        have h := hat0.below hb
        rw [HLV.out] at hc
        exact ⟨hc, h.c0, h.c1, h.c2, h.c3, h.c4, h.c5, h.c6, h.c7, h.c8⟩
      have T0 : TQ w.heap.size p 11 own wr.drew := HB.out.2.1.below (Below.refl _ _).drew
      have HBd : Below w.heap.size w wr.drew := HB.out.1.drew
      clear hm hl hat0
      unfold PT.val at HQ
      go_wp2_with fail
      clear hc8 hlt
      refine wp_region_held_drew (S := fun w' => w'.cell? ⟨w.heap.size, 8, none⟩ = some (.slice (some ⟨b, o, none⟩) p.l.length cp) ∧ w'.cell? ⟨b, o + k * 9, none⟩ = some (.int .i64 p.l[k].op) ∧ w'.cell? ⟨b, o + k * 9 + 1, none⟩ = some (.int .i64 p.l[k].col) ∧ w'.cell? ⟨b, o + k * 9 + 2, none⟩ = some (.bool p.l[k].v.t) ∧ w'.cell? ⟨b, o + k * 9 + 3, none⟩ = some (.int .i64 p.l[k].v.n) ∧ w'.cell? ⟨b, o + k * 9 + 4, none⟩ = some (.string p.l[k].v.s) ∧ w'.cell? ⟨b, o + k * 9 + 5, none⟩ = some (.bool p.l[k].w.t) ∧ w'.cell? ⟨b, o + k * 9 + 6, none⟩ = some (.int .i64 p.l[k].w.n) ∧ w'.cell? ⟨b, o + k * 9 + 7, none⟩ = some (.string p.l[k].w.s) ∧ w'.cell? ⟨b, o + k * 9 + 8, none⟩ = some p.l[k].lv) (by kernel_rfl) ?_ (fun hHeld => ?_)
      · exact hS _ HBd T0.pb.c8
      (try clear hK K)
      refine wpAnyH_take (i := 0) (v := ?_) rfl (by kernel_rfl) (by kernel_rfl) (by kernel_rfl) (fun _ _ _ h => h) (Or.inl ⟨by rfl, ?_⟩) (by assumption) ?_
      rotate_left
      · intro w hSw; (try dsimp only at hSw); go_simp; (try with_reducible rfl)
      (try simp only [Act.put, List.getElem_toArray, List.getElem_cons_zero, List.setIfInBounds_toArray, List.set_cons_zero, List.set_cons_succ])
      refine wpAnyH_take (i := 2) (v := ?_) rfl (by kernel_rfl) (by kernel_rfl) (by kernel_rfl) (fun _ _ _ h => h) (Or.inl ⟨by rfl, ?_⟩) (by assumption) ?_
      rotate_left
      · intro w hSw; (try dsimp only at hSw); go_simp; (try with_reducible rfl)
      (try simp only [Act.put, List.getElem_toArray, List.getElem_cons_succ, List.getElem_cons_zero, List.setIfInBounds_toArray, List.set_cons_zero, List.set_cons_succ])
      refine wpAnyH_take (i := 3) (v := ?_) rfl (by kernel_rfl) (by kernel_rfl) (by kernel_rfl) (fun _ _ _ h => h) (Or.inl ⟨by rfl, ?_⟩) (by assumption) ?_
      rotate_left
      · intro w hSw; (try dsimp only at hSw); go_simp; (try with_reducible rfl)
      (try simp only [Act.put, List.getElem_toArray, List.getElem_cons_succ, List.getElem_cons_zero, List.setIfInBounds_toArray, List.set_cons_zero, List.set_cons_succ])
      refine wpAnyH_take (i := 4) (v := ?_) rfl (by kernel_rfl) (by kernel_rfl) (by kernel_rfl) (fun _ _ _ h => h) (Or.inl ⟨by rfl, ?_⟩) (by assumption) ?_
      rotate_left
      · intro w hSw; (try dsimp only at hSw); go_simp; (try with_reducible rfl)
      (try simp only [Act.put, List.getElem_toArray, List.getElem_cons_succ, List.getElem_cons_zero, List.setIfInBounds_toArray, List.set_cons_zero, List.set_cons_succ])
      refine wpAnyH_take (i := 5) (v := ?_) rfl (by kernel_rfl) (by kernel_rfl) (by kernel_rfl) (fun _ _ _ h => h) (Or.inl ⟨by rfl, ?_⟩) (by assumption) ?_
      rotate_left
      · intro w hSw; (try dsimp only at hSw); go_simp; (try with_reducible rfl)
      (try simp only [Act.put, List.getElem_toArray, List.getElem_cons_succ, List.getElem_cons_zero, List.setIfInBounds_toArray, List.set_cons_zero, List.set_cons_succ])
      refine wpAnyH_take (i := 6) (v := ?_) rfl (by kernel_rfl) (by kernel_rfl) (by kernel_rfl) (fun _ _ _ h => h) (Or.inl ⟨by rfl, ?_⟩) (by assumption) ?_
      rotate_left
      · intro w hSw; (try dsimp only at hSw); go_simp; (try with_reducible rfl)
      (try simp only [Act.put, List.getElem_toArray, List.getElem_cons_succ, List.getElem_cons_zero, List.setIfInBounds_toArray, List.set_cons_zero, List.set_cons_succ])
      refine wpAnyH_take (i := 7) (v := ?_) rfl (by kernel_rfl) (by kernel_rfl) (by kernel_rfl) (fun _ _ _ h => h) (Or.inl ⟨by rfl, ?_⟩) (by assumption) ?_
      rotate_left
      · intro w hSw; (try dsimp only at hSw); go_simp; (try with_reducible rfl)
      (try simp only [Act.put, List.getElem_toArray, List.getElem_cons_succ, List.getElem_cons_zero, List.setIfInBounds_toArray, List.set_cons_zero, List.set_cons_succ])
      refine wpAnyH_ready (rs := [1, 8]) (by kernel_rfl) (by simp) ?_
      refine AllReadyH.cons rfl (fun K hK => ?_) (AllReadyH.cons rfl (fun K hK => ?_) AllReadyH.nil)
      · have c8 := T0.qb.c8
        dsimp only at c8
        go_simp
        refine hK.out _ _ ?_ (fun hHeld => ?_)
        · exact hS _ (HBd) T0.pb.c8
        (try clear c8)
        refine wpAnyH_ready (rs := [8]) (by kernel_rfl) (by simp) ?_
        refine AllReadyH.cons rfl (fun K hK => ?_) AllReadyH.nil
        go_simp
        refine Calls.mono (HQ.out _ HBd) ?_
        rintro e w1 ⟨q, rfl, hqb, hqn, hb1⟩
        have HB1 := on HBd hb1
        have T1 := T0.below hb1
        refine hK.out _ _ ?_ (fun hHeld => ?_)
        · exact hS _ (HB1) T1.pb.c8
        refine wpAnyH_ready (rs := [9]) (by kernel_rfl) (by simp) ?_
        refine AllReadyH.cons rfl (fun K hK => ?_) AllReadyH.nil
        go_simp
        have HB2 := on HB1 (alloc1 w1 (pobj q 29))
        have T2 := T1.below (alloc1 w1 (pobj q 29))
        refine hK.out _ _ ?_ (fun hHeld => ?_)
        · exact hS _ (HB2) T2.pb.c8
        (try clear hK K)
        obtain ⟨aq, cq, hlq⟩ := hqn.slice
        obtain ⟨m, hown, hsz, hnext⟩ := CLw.owns HK.out HB.out.2.2 (wb := w1.alloc (pobj q 29)) (on ((Below.refl _ _).drew.trans hb1) (alloc1 _ _))
        refine wpAnyH_ready (rs := [10]) (by kernel_rfl) (by simp) ?_
        refine AllReadyH.cons rfl (fun K hK => ?_) AllReadyH.nil
        refine step_append_own_at rfl (.tmp 37) (.tmp 45) 27 rfl (w.heap.size + 1 + 1 + 1) TP i0 _ 9 104 Tryd.underlying27 I0.out.1 I0.out.2.1 I0.out.2.2.1 I0.out.2.2.2 rfl (by decide) own k (m.flatMap PT.cells) rfl hown ⟨w1.heap.size, 0, none⟩ 1 1 q.cells rfl rfl (new_cells w1 q _) (one_cells q _ _ _ hlq) ?_ ?_ hsz ?_
        · unfold maxLen; omega
        · omega
        intro v' w2 hown' hgrow hat
        obtain ⟨hcl, hsv⟩ := hnext q wr.drew w2 v' (by simpa using h1) (Nat.le_refl _) (by simpa using hqb) (hqn.keep (alloc1 _ _)) hown' hgrow (by simpa using hat)
        have T3 := T2.sv hsv (by omega) (by omega) (by omega)
        have HB3 : Below w.heap.size w w2 := HB2.trans (hsv.below (Nat.le_trans (by omega) HB2.size) fun b hb hx => by omega)
        have HZ3 : w.heap.size + 1 + 1 + 1 ≤ w2.heap.size := Nat.le_trans hsz hsv.size
        obtain ⟨av, nv, cv, hv'⟩ := hcl.slice
        refine hK.out _ _ ?_ (fun hHeld => ?_)
        · exact hS _ (HB3) T3.pb.c8
        clear hK K
        (try clear hK K)
        refine wpAnyH_take (i := 11) (v := ?_) rfl (by kernel_rfl) (by kernel_rfl) (by kernel_rfl) (fun _ _ _ h => h) (Or.inl ⟨by rfl, ?_⟩) (by assumption) ?_
        rotate_left
        · intro w hSw; (try dsimp only at hSw); go_simp; (try with_reducible rfl)
        (try simp only [Act.put, List.getElem_toArray, List.getElem_cons_succ, List.getElem_cons_zero, List.setIfInBounds_toArray, List.set_cons_zero, List.set_cons_succ])
        have c8 := T3.qb.c8
        have f8 := T3.f2.2 8
        have l8 := T3.f2.1
        dsimp only at c8
        subst hv'
        refine wpAnyH_ready (rs := [12]) (by kernel_rfl) (by simp) ?_
        refine AllReadyH.cons rfl (fun K hK => ?_) AllReadyH.nil
        go_simp
        have T4 := T3.set (.slice av nv cv)
        have HB4 : Below w.heap.size w (w2.setCell ⟨w.heap.size + 1 + 1, 8, none⟩ (.slice av nv cv)) := HB3.setCell (show w.heap.size ≤ w.heap.size + 1 + 1 by omega) _
        have hcl4 : CLw (w.heap.size + 1 + 1 + 1) (w2.setCell ⟨w.heap.size + 1 + 1, 8, none⟩ (.slice av nv cv)) TP (p.l.map fun q => pushP q true) (k + 1) (.slice av nv cv) := hcl.sv (Sv.set (X := fun b => b = w.heap.size + 1 + 1) (Sv.refl _ w2) (a := ⟨w.heap.size + 1 + 1, 8, none⟩) (show w.heap.size + 1 + 1 = w.heap.size + 1 + 1 from rfl) _) fun b hb e => by omega
        refine hK.out _ _ ?_ (fun hHeld => ?_)
        · exact hS _ (HB4) T4.pb.c8
        clear hK K c8 f8 l8
        refine wpAnyH_done (by kernel_rfl) ?_ _
        have HC4 : Hid (CLw (w.heap.size + 1 + 1 + 1) (w2.setCell ⟨w.heap.size + 1 + 1, 8, none⟩ (.slice av nv cv)) TP (p.l.map fun q => pushP q true) (k + 1) (.slice av nv cv)) := hcl4
        have HT4 : Hid (Below w.heap.size w (w2.setCell ⟨w.heap.size + 1 + 1, 8, none⟩ (.slice av nv cv)) ∧ TQ w.heap.size p 11 (.slice av nv cv) (w2.setCell ⟨w.heap.size + 1 + 1, 8, none⟩ (.slice av nv cv)) ∧ w.heap.size + 1 + 1 + 1 ≤ (w2.setCell ⟨w.heap.size + 1 + 1, 8, none⟩ (.slice av nv cv)).heap.size) := ⟨HB4, T4, by simpa [World.setCell] using HZ3⟩
        clear hcl4 T4 HB4 HZ3 HB3 T3 hcl hsv hown' hgrow hat hnext hsz hown hlq T2 HB2 T1 HB1 hqb hqn hb1 T0 HBd hHeld HQ hS HK HB
        generalize w2.setCell ⟨w.heap.size + 1 + 1, 8, none⟩ (.slice av nv cv) = w3 at *
        go_wp2_with fail
        go_roundw
        case rel => exact ⟨k + 1, _, by omega, by go_num, HC4, HT4⟩
        case measure => simp [intOf]; omega
      · go_simp
        refine Calls.mono (HQ.out _ HBd) ?_
        rintro e w1 ⟨q, rfl, hqb, hqn, hb1⟩
        have HB1 := on HBd hb1
        have T1 := T0.below hb1
        refine hK.out _ _ ?_ (fun hHeld => ?_)
        · exact hS _ (HB1) T1.pb.c8
        refine wpAnyH_ready (rs := [1, 9]) (by kernel_rfl) (by simp) ?_
        refine AllReadyH.cons rfl (fun K hK => ?_) (AllReadyH.cons rfl (fun K hK => ?_) AllReadyH.nil)
        · have c8 := T1.qb.c8
          dsimp only at c8
          go_simp
          refine hK.out _ _ ?_ (fun hHeld => ?_)
          · exact hS _ (HB1) T1.pb.c8
          (try clear c8)
          refine wpAnyH_ready (rs := [9]) (by kernel_rfl) (by simp) ?_
          refine AllReadyH.cons rfl (fun K hK => ?_) AllReadyH.nil
          go_simp
          have HB2 := on HB1 (alloc1 w1 (pobj q 29))
          have T2 := T1.below (alloc1 w1 (pobj q 29))
          refine hK.out _ _ ?_ (fun hHeld => ?_)
          · exact hS _ (HB2) T2.pb.c8
          (try clear hK K)
          obtain ⟨aq, cq, hlq⟩ := hqn.slice
          obtain ⟨m, hown, hsz, hnext⟩ := CLw.owns HK.out HB.out.2.2 (wb := w1.alloc (pobj q 29)) (on ((Below.refl _ _).drew.trans hb1) (alloc1 _ _))
          refine wpAnyH_ready (rs := [10]) (by kernel_rfl) (by simp) ?_
          refine AllReadyH.cons rfl (fun K hK => ?_) AllReadyH.nil
          refine step_append_own_at rfl (.tmp 37) (.tmp 45) 27 rfl (w.heap.size + 1 + 1 + 1) TP i0 _ 9 104 Tryd.underlying27 I0.out.1 I0.out.2.1 I0.out.2.2.1 I0.out.2.2.2 rfl (by decide) own k (m.flatMap PT.cells) rfl hown ⟨w1.heap.size, 0, none⟩ 1 1 q.cells rfl rfl (new_cells w1 q _) (one_cells q _ _ _ hlq) ?_ ?_ hsz ?_
          · unfold maxLen; omega
          · omega
          intro v' w2 hown' hgrow hat
          obtain ⟨hcl, hsv⟩ := hnext q wr.drew w2 v' (by simpa using h1) (Nat.le_refl _) (by simpa using hqb) (hqn.keep (alloc1 _ _)) hown' hgrow (by simpa using hat)
          have T3 := T2.sv hsv (by omega) (by omega) (by omega)
          have HB3 : Below w.heap.size w w2 := HB2.trans (hsv.below (Nat.le_trans (by omega) HB2.size) fun b hb hx => by omega)
          have HZ3 : w.heap.size + 1 + 1 + 1 ≤ w2.heap.size := Nat.le_trans hsz hsv.size
          obtain ⟨av, nv, cv, hv'⟩ := hcl.slice
          refine hK.out _ _ ?_ (fun hHeld => ?_)
          · exact hS _ (HB3) T3.pb.c8
          clear hK K
          (try clear hK K)
          refine wpAnyH_take (i := 11) (v := ?_) rfl (by kernel_rfl) (by kernel_rfl) (by kernel_rfl) (fun _ _ _ h => h) (Or.inl ⟨by rfl, ?_⟩) (by assumption) ?_
          rotate_left
          · intro w hSw; (try dsimp only at hSw); go_simp; (try with_reducible rfl)
          (try simp only [Act.put, List.getElem_toArray, List.getElem_cons_succ, List.getElem_cons_zero, List.setIfInBounds_toArray, List.set_cons_zero, List.set_cons_succ])
          have c8 := T3.qb.c8
          have f8 := T3.f2.2 8
          have l8 := T3.f2.1
          dsimp only at c8
          subst hv'
          refine wpAnyH_ready (rs := [12]) (by kernel_rfl) (by simp) ?_
          refine AllReadyH.cons rfl (fun K hK => ?_) AllReadyH.nil
          go_simp
          have T4 := T3.set (.slice av nv cv)
          have HB4 : Below w.heap.size w (w2.setCell ⟨w.heap.size + 1 + 1, 8, none⟩ (.slice av nv cv)) := HB3.setCell (show w.heap.size ≤ w.heap.size + 1 + 1 by omega) _
          have hcl4 : CLw (w.heap.size + 1 + 1 + 1) (w2.setCell ⟨w.heap.size + 1 + 1, 8, none⟩ (.slice av nv cv)) TP (p.l.map fun q => pushP q true) (k + 1) (.slice av nv cv) := hcl.sv (Sv.set (X := fun b => b = w.heap.size + 1 + 1) (Sv.refl _ w2) (a := ⟨w.heap.size + 1 + 1, 8, none⟩) (show w.heap.size + 1 + 1 = w.heap.size + 1 + 1 from rfl) _) fun b hb e => by omega
          refine hK.out _ _ ?_ (fun hHeld => ?_)
          · exact hS _ (HB4) T4.pb.c8
          clear hK K c8 f8 l8
          refine wpAnyH_done (by kernel_rfl) ?_ _
          have HC4 : Hid (CLw (w.heap.size + 1 + 1 + 1) (w2.setCell ⟨w.heap.size + 1 + 1, 8, none⟩ (.slice av nv cv)) TP (p.l.map fun q => pushP q true) (k + 1) (.slice av nv cv)) := hcl4
          have HT4 : Hid (Below w.heap.size w (w2.setCell ⟨w.heap.size + 1 + 1, 8, none⟩ (.slice av nv cv)) ∧ TQ w.heap.size p 11 (.slice av nv cv) (w2.setCell ⟨w.heap.size + 1 + 1, 8, none⟩ (.slice av nv cv)) ∧ w.heap.size + 1 + 1 + 1 ≤ (w2.setCell ⟨w.heap.size + 1 + 1, 8, none⟩ (.slice av nv cv)).heap.size) := ⟨HB4, T4, by simpa [World.setCell] using HZ3⟩
          clear hcl4 T4 HB4 HZ3 HB3 T3 hcl hsv hown' hgrow hat hnext hsz hown hlq T2 HB2 T1 HB1 hqb hqn hb1 T0 HBd hHeld HQ hS HK HB
          generalize w2.setCell ⟨w.heap.size + 1 + 1, 8, none⟩ (.slice av nv cv) = w3 at *
          go_wp2_with fail
          go_roundw
          case rel => exact ⟨k + 1, _, by omega, by go_num, HC4, HT4⟩
          case measure => simp [intOf]; omega
        · go_simp
          have HB2 := on HB1 (alloc1 w1 (pobj q 29))
          have T2 := T1.below (alloc1 w1 (pobj q 29))
          refine hK.out _ _ ?_ (fun hHeld => ?_)
          · exact hS _ (HB2) T2.pb.c8
          refine wpAnyH_ready (rs := [1]) (by kernel_rfl) (by simp) ?_
          refine AllReadyH.cons rfl (fun K hK => ?_) AllReadyH.nil
          have c8 := T2.qb.c8
          dsimp only at c8
          go_simp
          refine hK.out _ _ ?_ (fun hHeld => ?_)
          · exact hS _ (HB2) T2.pb.c8
          (try clear c8)
          (try clear hK K)
          obtain ⟨aq, cq, hlq⟩ := hqn.slice
          obtain ⟨m, hown, hsz, hnext⟩ := CLw.owns HK.out HB.out.2.2 (wb := w1.alloc (pobj q 29)) (on ((Below.refl _ _).drew.trans hb1) (alloc1 _ _))
          refine wpAnyH_ready (rs := [10]) (by kernel_rfl) (by simp) ?_
          refine AllReadyH.cons rfl (fun K hK => ?_) AllReadyH.nil
          refine step_append_own_at rfl (.tmp 37) (.tmp 45) 27 rfl (w.heap.size + 1 + 1 + 1) TP i0 _ 9 104 Tryd.underlying27 I0.out.1 I0.out.2.1 I0.out.2.2.1 I0.out.2.2.2 rfl (by decide) own k (m.flatMap PT.cells) rfl hown ⟨w1.heap.size, 0, none⟩ 1 1 q.cells rfl rfl (new_cells w1 q _) (one_cells q _ _ _ hlq) ?_ ?_ hsz ?_
          · unfold maxLen; omega
          · omega
          intro v' w2 hown' hgrow hat
          obtain ⟨hcl, hsv⟩ := hnext q wr.drew w2 v' (by simpa using h1) (Nat.le_refl _) (by simpa using hqb) (hqn.keep (alloc1 _ _)) hown' hgrow (by simpa using hat)
          have T3 := T2.sv hsv (by omega) (by omega) (by omega)
          have HB3 : Below w.heap.size w w2 := HB2.trans (hsv.below (Nat.le_trans (by omega) HB2.size) fun b hb hx => by omega)
          have HZ3 : w.heap.size + 1 + 1 + 1 ≤ w2.heap.size := Nat.le_trans hsz hsv.size
          obtain ⟨av, nv, cv, hv'⟩ := hcl.slice
          refine hK.out _ _ ?_ (fun hHeld => ?_)
          · exact hS _ (HB3) T3.pb.c8
          clear hK K
          (try clear hK K)
          refine wpAnyH_take (i := 11) (v := ?_) rfl (by kernel_rfl) (by kernel_rfl) (by kernel_rfl) (fun _ _ _ h => h) (Or.inl ⟨by rfl, ?_⟩) (by assumption) ?_
          rotate_left
          · intro w hSw; (try dsimp only at hSw); go_simp; (try with_reducible rfl)
          (try simp only [Act.put, List.getElem_toArray, List.getElem_cons_succ, List.getElem_cons_zero, List.setIfInBounds_toArray, List.set_cons_zero, List.set_cons_succ])
          have c8 := T3.qb.c8
          have f8 := T3.f2.2 8
          have l8 := T3.f2.1
          dsimp only at c8
          subst hv'
          refine wpAnyH_ready (rs := [12]) (by kernel_rfl) (by simp) ?_
          refine AllReadyH.cons rfl (fun K hK => ?_) AllReadyH.nil
          go_simp
          have T4 := T3.set (.slice av nv cv)
          have HB4 : Below w.heap.size w (w2.setCell ⟨w.heap.size + 1 + 1, 8, none⟩ (.slice av nv cv)) := HB3.setCell (show w.heap.size ≤ w.heap.size + 1 + 1 by omega) _
          have hcl4 : CLw (w.heap.size + 1 + 1 + 1) (w2.setCell ⟨w.heap.size + 1 + 1, 8, none⟩ (.slice av nv cv)) TP (p.l.map fun q => pushP q true) (k + 1) (.slice av nv cv) := hcl.sv (Sv.set (X := fun b => b = w.heap.size + 1 + 1) (Sv.refl _ w2) (a := ⟨w.heap.size + 1 + 1, 8, none⟩) (show w.heap.size + 1 + 1 = w.heap.size + 1 + 1 from rfl) _) fun b hb e => by omega
          refine hK.out _ _ ?_ (fun hHeld => ?_)
          · exact hS _ (HB4) T4.pb.c8
          clear hK K c8 f8 l8
          refine wpAnyH_done (by kernel_rfl) ?_ _
          have HC4 : Hid (CLw (w.heap.size + 1 + 1 + 1) (w2.setCell ⟨w.heap.size + 1 + 1, 8, none⟩ (.slice av nv cv)) TP (p.l.map fun q => pushP q true) (k + 1) (.slice av nv cv)) := hcl4
          have HT4 : Hid (Below w.heap.size w (w2.setCell ⟨w.heap.size + 1 + 1, 8, none⟩ (.slice av nv cv)) ∧ TQ w.heap.size p 11 (.slice av nv cv) (w2.setCell ⟨w.heap.size + 1 + 1, 8, none⟩ (.slice av nv cv)) ∧ w.heap.size + 1 + 1 + 1 ≤ (w2.setCell ⟨w.heap.size + 1 + 1, 8, none⟩ (.slice av nv cv)).heap.size) := ⟨HB4, T4, by simpa [World.setCell] using HZ3⟩
          clear hcl4 T4 HB4 HZ3 HB3 T3 hcl hsv hown' hgrow hat hnext hsz hown hlq T2 HB2 T1 HB1 hqb hqn hb1 T0 HBd hHeld HQ hS HK HB
          generalize w2.setCell ⟨w.heap.size + 1 + 1, 8, none⟩ (.slice av nv cv) = w3 at *
          go_wp2_with fail
          go_roundw
          case rel => exact ⟨k + 1, _, by omega, by go_num, HC4, HT4⟩
          case measure => simp [intOf]; omega
    · have j1 : decide ((k : Int) < (p.l.length : Int)) = false := by simp; omega
      obtain rfl : k = p.l.length := by omega
      obtain ⟨m, hm1, hm2, hm3⟩ := CLw.done HK.out (by simp)
      obtain ⟨av, cv, hv, _⟩ := hm2.lies.slice
      have HM : Hid ((PT.mk 11 0 Val.zero Val.zero (.slice av m.length cv) m).bare = (pushP p true).bare ∧ Nw wr TP (fun b => w.heap.size + 1 + 1 < b) (PT.mk 11 0 Val.zero Val.zero (.slice av m.length cv) m)) := by
        rw [hv] at hm2
        refine ⟨?_, .mk (by decide) (by decide) (hm2.imp fun b h _ => by omega) fun q hq => (hm3 q hq).imp fun b h _ => by omega⟩
        rw [push_list (by rw [HO.out]; decide), bare_mk, bare_mk, hm1, HO.out]; rfl
      have T0 := HB.out.2.1
      obtain ⟨b0, b1, b2, b3, b4, b5, b6, b7, b8⟩ := T0.qb
      obtain ⟨z0, z1, z2, z3, z4, z5, z6, z7, z8⟩ := T0.z
      obtain ⟨lz, fz⟩ := T0.f1
      have lq := T0.qb.lt
      dsimp only [PT.zero, Val.zero] at b0 b1 b2 b3 b4 b5 b6 b7 b8 z0 z1 z2 z3 z4 z5 z6 z7 z8
      have HBw : Hid (Below w.heap.size w wr) := HB.out.1
      clear hm1 hm2 hm3 T0 HB HK HI
      subst hv
      go_wp2_with fail
      refine bodyPost_ret (v := (PT.mk 11 0 Val.zero Val.zero (.slice av m.length cv) m).val) (by simp [results, Tryd.results30, go_sem, PT.val, Val.zero, z0, z1, z2, z3, z4, z5, z6, z7, z8]) rfl ⟨_, rfl, HM.out.1, ?_, ?_⟩
      · refine Nw.imp (P := fun b => w.heap.size + 1 + 1 < b) ?_ (fun b hb _ => by omega)
        repeat (refine nw_set ?_ (fun x hx => by omega))
        exact HM.out.2
      · repeat (refine set_below ?_ (by omega) _)
        exact HBw.out
end Go.Proofs.YtfkhfplibhnceaaDoor.Val
