/- What pred.isOf answers. -/
import Derived.Test.YtkkbbpldeeajaaaDoorU1
import Derived.Test.YtkkbbpldeeajaaaDoorUR
import Derived.Deep.RegionHeld3
import Derived.Test.YtkkbbpldeeajaaaDoorUP
import Derived.Laws.EntriesVeiled
namespace Go.Proofs.YtkkbbpldeeajaaaDoor.Val
open Go.RowKit

/-- May a value stand in a column? -/
def ofB (cols : List Bool) (col : Int) (x : Val) : Bool := isCol cols col && (rightV x.t x.n x.s && (x.t == colAt cols col))
theorem ofB_low {cols : List Bool} {col : Int} {x : Val} (h : col < 0) : ofB cols col x = false := by unfold ofB isCol; rw [decide_eq_false (by omega)]; rfl
theorem ofB_high {cols : List Bool} {col : Int} {x : Val} (h : (cols.length : Int) ≤ col) : ofB cols col x = false := by unfold ofB isCol; rw [decide_eq_false (p := col < cols.length) (by omega), Bool.and_false]; rfl
theorem ofB_wrong {cols : List Bool} {col : Int} {x : Val} (h : rightV x.t x.n x.s = false) : ofB cols col x = false := by unfold ofB; rw [h, Bool.false_and, Bool.and_false]
theorem ofB_at {cols : List Bool} {k : Nat} {x : Val} (h : rightV x.t x.n x.s = true) (hk : k < cols.length) : ofB cols (k : Int) x = (x.t == cols[k]) := by
  unfold ofB isCol; rw [h, colAt_of (by simpa using hk), decide_eq_true (by omega), decide_eq_true (by omega)]; simp
set_option maxHeartbeats 1000000 in
theorem isOf_low (vc : Value) (col : Int) (x : Val) (w : World) (hlo : decide (0 ≤ col) = false) :
    Calls Tryd.prog 93 #[.agg #[vc], .int .i64 col, V x.t x.n x.s] w fun e w' => e = .returned (.bool false) ∧ Below w.heap.size w w' := by
  go_enter Tryd.func93, Tryd.ntmps93
  go_wp2_with fail
  refine wp_region_held_drew (S := fun w' => True) (by kernel_rfl) ?_ (fun hHeld => ?_)
  · trivial
  (try clear hK K)
  refine wpAnyH_take (i := 0) (v := ?_) rfl (by kernel_rfl) (by kernel_rfl) (by kernel_rfl) (fun _ _ _ h => h) (Or.inl ⟨by rfl, ?_⟩) (by assumption) ?_
  rotate_left
  · intro w hSw; (try dsimp only at hSw); go_simp; (try with_reducible rfl)
  (try simp only [Act.put, List.getElem_toArray, List.getElem_cons_zero, List.setIfInBounds_toArray, List.set_cons_zero, List.set_cons_succ])
  refine wpAnyH_take (i := 1) (v := ?_) rfl (by kernel_rfl) (by kernel_rfl) (by kernel_rfl) (fun _ _ _ h => h) (Or.inl ⟨by rfl, ?_⟩) (by assumption) ?_
  rotate_left
  · intro w hSw; (try dsimp only at hSw); go_simp; (try with_reducible rfl)
  (try simp only [Act.put, List.getElem_toArray, List.getElem_cons_succ, List.getElem_cons_zero, List.setIfInBounds_toArray, List.set_cons_zero, List.set_cons_succ])
  refine wpAnyH_take (i := 2) (v := ?_) rfl (by kernel_rfl) (by kernel_rfl) (by kernel_rfl) (fun _ _ _ h => h) (Or.inl ⟨by rfl, ?_⟩) (by assumption) ?_
  rotate_left
  · intro w hSw; (try dsimp only at hSw); go_simp; (try with_reducible rfl)
  (try simp only [Act.put, List.getElem_toArray, List.getElem_cons_succ, List.getElem_cons_zero, List.setIfInBounds_toArray, List.set_cons_zero, List.set_cons_succ])
  (try clear hK K)
  refine wpAnyH_take (i := 3) (v := undef) rfl (by kernel_rfl) (by kernel_rfl) (by kernel_rfl) (fun _ _ _ h => h) (Or.inr ⟨by rfl, rfl⟩) (by assumption) ?_
  (try simp only [Act.put, List.getElem_toArray, List.getElem_cons_succ, List.getElem_cons_zero, List.setIfInBounds_toArray, List.set_cons_zero, List.set_cons_succ])
  refine wpAnyH_take (i := 4) (v := undef) rfl (by kernel_rfl) (by kernel_rfl) (by kernel_rfl) (fun _ _ _ h => h) (Or.inr ⟨by rfl, rfl⟩) (by assumption) ?_
  (try simp only [Act.put, List.getElem_toArray, List.getElem_cons_succ, List.getElem_cons_zero, List.setIfInBounds_toArray, List.set_cons_zero, List.set_cons_succ])
  refine wpAnyH_take (i := 5) (v := undef) rfl (by kernel_rfl) (by kernel_rfl) (by kernel_rfl) (fun _ _ _ h => h) (Or.inr ⟨by rfl, rfl⟩) (by assumption) ?_
  (try simp only [Act.put, List.getElem_toArray, List.getElem_cons_succ, List.getElem_cons_zero, List.setIfInBounds_toArray, List.set_cons_zero, List.set_cons_succ])
  refine wpAnyH_take (i := 6) (v := undef) rfl (by kernel_rfl) (by kernel_rfl) (by kernel_rfl) (fun _ _ _ h => h) (Or.inr ⟨by rfl, rfl⟩) (by assumption) ?_
  (try simp only [Act.put, List.getElem_toArray, List.getElem_cons_succ, List.getElem_cons_zero, List.setIfInBounds_toArray, List.set_cons_zero, List.set_cons_succ])
  refine wpAnyH_take (i := 7) (v := undef) rfl (by kernel_rfl) (by kernel_rfl) (by kernel_rfl) (fun _ _ _ h => h) (Or.inr ⟨by rfl, rfl⟩) (by assumption) ?_
  (try simp only [Act.put, List.getElem_toArray, List.getElem_cons_succ, List.getElem_cons_zero, List.setIfInBounds_toArray, List.set_cons_zero, List.set_cons_succ])
  (try clear hK K)
  refine wpAnyH_take (i := 8) (v := ?_) rfl (by kernel_rfl) (by kernel_rfl) (by kernel_rfl) (fun _ _ _ h => h) (Or.inl ⟨by rfl, ?_⟩) (by assumption) ?_
  rotate_left
  · intro w hSw; (try dsimp only at hSw); go_simp; (try with_reducible rfl)
  (try simp only [Act.put, List.getElem_toArray, List.getElem_cons_succ, List.getElem_cons_zero, List.setIfInBounds_toArray, List.set_cons_zero, List.set_cons_succ])
  refine wpAnyH_take (i := 9) (v := ?_) rfl (by kernel_rfl) (by kernel_rfl) (by kernel_rfl) (fun _ _ _ h => h) (Or.inl ⟨by rfl, ?_⟩) (by assumption) ?_
  rotate_left
  · intro w hSw; (try dsimp only at hSw); go_simp; (try with_reducible rfl)
  (try simp only [Act.put, List.getElem_toArray, List.getElem_cons_succ, List.getElem_cons_zero, List.setIfInBounds_toArray, List.set_cons_zero, List.set_cons_succ])
  (try clear hK K)
  refine wpAnyH_take (i := 10) (v := undef) rfl (by kernel_rfl) (by kernel_rfl) (by kernel_rfl) (fun _ _ _ h => h) (Or.inr ⟨by rfl, rfl⟩) (by assumption) ?_
  (try simp only [Act.put, List.getElem_toArray, List.getElem_cons_succ, List.getElem_cons_zero, List.setIfInBounds_toArray, List.set_cons_zero, List.set_cons_succ])
  refine wpAnyH_take (i := 11) (v := undef) rfl (by kernel_rfl) (by kernel_rfl) (by kernel_rfl) (fun _ _ _ h => h) (Or.inr ⟨by rfl, rfl⟩) (by assumption) ?_
  (try simp only [Act.put, List.getElem_toArray, List.getElem_cons_succ, List.getElem_cons_zero, List.setIfInBounds_toArray, List.set_cons_zero, List.set_cons_succ])
  (try clear hK K)
  refine wpAnyH_take (i := 12) (v := ?_) rfl (by kernel_rfl) (by kernel_rfl) (by kernel_rfl) (fun _ _ _ h => h) (Or.inl ⟨by rfl, ?_⟩) (by assumption) ?_
  rotate_left
  · intro w hSw; (try dsimp only at hSw); go_simp; (try with_reducible rfl)
  (try simp only [Act.put, List.getElem_toArray, List.getElem_cons_succ, List.getElem_cons_zero, List.setIfInBounds_toArray, List.set_cons_zero, List.set_cons_succ])
  refine wpAnyH_take (i := 13) (v := ?_) rfl (by kernel_rfl) (by kernel_rfl) (by kernel_rfl) (fun _ _ _ h => h) (Or.inl ⟨by rfl, ?_⟩) (by assumption) ?_
  rotate_left
  · intro w hSw; (try dsimp only at hSw); go_simp; (try with_reducible rfl)
  (try simp only [Act.put, List.getElem_toArray, List.getElem_cons_succ, List.getElem_cons_zero, List.setIfInBounds_toArray, List.set_cons_zero, List.set_cons_succ])
  (try clear hK K)
  refine wpAnyH_take (i := 14) (v := undef) rfl (by kernel_rfl) (by kernel_rfl) (by kernel_rfl) (fun _ _ _ h => h) (Or.inr ⟨by rfl, rfl⟩) (by assumption) ?_
  (try simp only [Act.put, List.getElem_toArray, List.getElem_cons_succ, List.getElem_cons_zero, List.setIfInBounds_toArray, List.set_cons_zero, List.set_cons_succ])
  refine wpAnyH_take (i := 15) (v := undef) rfl (by kernel_rfl) (by kernel_rfl) (by kernel_rfl) (fun _ _ _ h => h) (Or.inr ⟨by rfl, rfl⟩) (by assumption) ?_
  (try simp only [Act.put, List.getElem_toArray, List.getElem_cons_succ, List.getElem_cons_zero, List.setIfInBounds_toArray, List.set_cons_zero, List.set_cons_succ])
  refine wpAnyH_take (i := 16) (v := undef) rfl (by kernel_rfl) (by kernel_rfl) (by kernel_rfl) (fun _ _ _ h => h) (Or.inr ⟨by rfl, rfl⟩) (by assumption) ?_
  (try simp only [Act.put, List.getElem_toArray, List.getElem_cons_succ, List.getElem_cons_zero, List.setIfInBounds_toArray, List.set_cons_zero, List.set_cons_succ])
  refine wpAnyH_take (i := 17) (v := undef) rfl (by kernel_rfl) (by kernel_rfl) (by kernel_rfl) (fun _ _ _ h => h) (Or.inr ⟨by rfl, rfl⟩) (by assumption) ?_
  (try simp only [Act.put, List.getElem_toArray, List.getElem_cons_succ, List.getElem_cons_zero, List.setIfInBounds_toArray, List.set_cons_zero, List.set_cons_succ])
  refine wpAnyH_take (i := 18) (v := undef) rfl (by kernel_rfl) (by kernel_rfl) (by kernel_rfl) (fun _ _ _ h => h) (Or.inr ⟨by rfl, rfl⟩) (by assumption) ?_
  (try simp only [Act.put, List.getElem_toArray, List.getElem_cons_succ, List.getElem_cons_zero, List.setIfInBounds_toArray, List.set_cons_zero, List.set_cons_succ])
  refine wpAnyH_take (i := 19) (v := undef) rfl (by kernel_rfl) (by kernel_rfl) (by kernel_rfl) (fun _ _ _ h => h) (Or.inr ⟨by rfl, rfl⟩) (by assumption) ?_
  (try simp only [Act.put, List.getElem_toArray, List.getElem_cons_succ, List.getElem_cons_zero, List.setIfInBounds_toArray, List.set_cons_zero, List.set_cons_succ])
  refine wpAnyH_take (i := 20) (v := undef) rfl (by kernel_rfl) (by kernel_rfl) (by kernel_rfl) (fun _ _ _ h => h) (Or.inr ⟨by rfl, rfl⟩) (by assumption) ?_
  (try simp only [Act.put, List.getElem_toArray, List.getElem_cons_succ, List.getElem_cons_zero, List.setIfInBounds_toArray, List.set_cons_zero, List.set_cons_succ])
  refine wpAnyH_take (i := 21) (v := undef) rfl (by kernel_rfl) (by kernel_rfl) (by kernel_rfl) (fun _ _ _ h => h) (Or.inr ⟨by rfl, rfl⟩) (by assumption) ?_
  (try simp only [Act.put, List.getElem_toArray, List.getElem_cons_succ, List.getElem_cons_zero, List.setIfInBounds_toArray, List.set_cons_zero, List.set_cons_succ])
  (try clear hK K)
  refine wpAnyH_take (i := 22) (v := ?_) rfl (by kernel_rfl) (by kernel_rfl) (by kernel_rfl) (fun _ _ _ h => h) (Or.inl ⟨by rfl, ?_⟩) (by assumption) ?_
  rotate_left
  · intro w hSw; (try dsimp only at hSw); go_simp; (try with_reducible rfl)
  (try simp only [Act.put, List.getElem_toArray, List.getElem_cons_succ, List.getElem_cons_zero, List.setIfInBounds_toArray, List.set_cons_zero, List.set_cons_succ])
  refine wpAnyH_take (i := 23) (v := ?_) rfl (by kernel_rfl) (by kernel_rfl) (by kernel_rfl) (fun _ _ _ h => h) (Or.inl ⟨by rfl, ?_⟩) (by assumption) ?_
  rotate_left
  · intro w hSw; (try dsimp only at hSw); go_simp; (try with_reducible rfl)
  (try simp only [Act.put, List.getElem_toArray, List.getElem_cons_succ, List.getElem_cons_zero, List.setIfInBounds_toArray, List.set_cons_zero, List.set_cons_succ])
  (try clear hK K)
  refine wpAnyH_done (by kernel_rfl) ?_ _
  go_wp2_with fail
  go_ret
  exact ⟨rfl, (back1 (alloc1 _ _)).drew⟩
set_option maxHeartbeats 1000000 in
theorem isOf_high (ac : Option Addr) (n cc : Nat) (col : Int) (x : Val) (w : World) (hlo : 0 ≤ col) (hhi : decide (col < (n : Int)) = false) :
    Calls Tryd.prog 93 #[.agg #[.slice ac n cc], .int .i64 col, V x.t x.n x.s] w fun e w' => e = .returned (.bool false) ∧ Below w.heap.size w w' := by
  go_enter Tryd.func93, Tryd.ntmps93
  go_wp2_with fail
  refine wp_region_held_drew (S := fun w' => w'.cell? ⟨w.heap.size, 0, none⟩ = some (.slice ac n cc)) (by kernel_rfl) ?_ (fun hHeld => ?_)
  · simp [go_sem]
  (try clear hK K)
  refine wpAnyH_take (i := 0) (v := ?_) rfl (by kernel_rfl) (by kernel_rfl) (by kernel_rfl) (fun _ _ _ h => h) (Or.inl ⟨by rfl, ?_⟩) (by assumption) ?_
  rotate_left
  · intro w hSw; (try dsimp only at hSw); go_simp; (try with_reducible rfl)
  (try simp only [Act.put, List.getElem_toArray, List.getElem_cons_zero, List.setIfInBounds_toArray, List.set_cons_zero, List.set_cons_succ])
  refine wpAnyH_take (i := 1) (v := ?_) rfl (by kernel_rfl) (by kernel_rfl) (by kernel_rfl) (fun _ _ _ h => h) (Or.inl ⟨by rfl, ?_⟩) (by assumption) ?_
  rotate_left
  · intro w hSw; (try dsimp only at hSw); go_simp; (try with_reducible rfl)
  (try simp only [Act.put, List.getElem_toArray, List.getElem_cons_succ, List.getElem_cons_zero, List.setIfInBounds_toArray, List.set_cons_zero, List.set_cons_succ])
  refine wpAnyH_take (i := 2) (v := ?_) rfl (by kernel_rfl) (by kernel_rfl) (by kernel_rfl) (fun _ _ _ h => h) (Or.inl ⟨by rfl, ?_⟩) (by assumption) ?_
  rotate_left
  · intro w hSw; (try dsimp only at hSw); go_simp; (try with_reducible rfl)
  (try simp only [Act.put, List.getElem_toArray, List.getElem_cons_succ, List.getElem_cons_zero, List.setIfInBounds_toArray, List.set_cons_zero, List.set_cons_succ])
  refine wpAnyH_take (i := 3) (v := ?_) rfl (by kernel_rfl) (by kernel_rfl) (by kernel_rfl) (fun _ _ _ h => h) (Or.inl ⟨by rfl, ?_⟩) (by assumption) ?_
  rotate_left
  · intro w hSw; (try dsimp only at hSw); go_simp; (try with_reducible rfl)
  (try simp only [Act.put, List.getElem_toArray, List.getElem_cons_succ, List.getElem_cons_zero, List.setIfInBounds_toArray, List.set_cons_zero, List.set_cons_succ])
  refine wpAnyH_take (i := 4) (v := ?_) rfl (by kernel_rfl) (by kernel_rfl) (by kernel_rfl) (fun _ _ _ h => h) (Or.inl ⟨by rfl, ?_⟩) (by assumption) ?_
  rotate_left
  · intro w hSw; (try dsimp only at hSw); go_simp; (try with_reducible rfl)
  (try simp only [Act.put, List.getElem_toArray, List.getElem_cons_succ, List.getElem_cons_zero, List.setIfInBounds_toArray, List.set_cons_zero, List.set_cons_succ])
  refine wpAnyH_take (i := 5) (v := ?_) rfl (by kernel_rfl) (by kernel_rfl) (by kernel_rfl) (fun _ _ _ h => h) (Or.inl ⟨by rfl, ?_⟩) (by assumption) ?_
  rotate_left
  · intro w hSw; (try dsimp only at hSw); go_simp; (try with_reducible rfl)
  (try simp only [Act.put, List.getElem_toArray, List.getElem_cons_succ, List.getElem_cons_zero, List.setIfInBounds_toArray, List.set_cons_zero, List.set_cons_succ])
  refine wpAnyH_take (i := 6) (v := ?_) rfl (by kernel_rfl) (by kernel_rfl) (by kernel_rfl) (fun _ _ _ h => h) (Or.inl ⟨by rfl, ?_⟩) (by assumption) ?_
  rotate_left
  · intro w hSw; (try dsimp only at hSw); go_simp; (try with_reducible rfl)
  (try simp only [Act.put, List.getElem_toArray, List.getElem_cons_succ, List.getElem_cons_zero, List.setIfInBounds_toArray, List.set_cons_zero, List.set_cons_succ])
  refine wpAnyH_take (i := 7) (v := ?_) rfl (by kernel_rfl) (by kernel_rfl) (by kernel_rfl) (fun _ _ _ h => h) (Or.inl ⟨by rfl, ?_⟩) (by assumption) ?_
  rotate_left
  · intro w hSw; (try dsimp only at hSw); go_simp; (try with_reducible rfl)
  (try simp only [Act.put, List.getElem_toArray, List.getElem_cons_succ, List.getElem_cons_zero, List.setIfInBounds_toArray, List.set_cons_zero, List.set_cons_succ])
  refine wpAnyH_take (i := 8) (v := ?_) rfl (by kernel_rfl) (by kernel_rfl) (by kernel_rfl) (fun _ _ _ h => h) (Or.inl ⟨by rfl, ?_⟩) (by assumption) ?_
  rotate_left
  · intro w hSw; (try dsimp only at hSw); go_simp; (try with_reducible rfl)
  (try simp only [Act.put, List.getElem_toArray, List.getElem_cons_succ, List.getElem_cons_zero, List.setIfInBounds_toArray, List.set_cons_zero, List.set_cons_succ])
  refine wpAnyH_take (i := 9) (v := ?_) rfl (by kernel_rfl) (by kernel_rfl) (by kernel_rfl) (fun _ _ _ h => h) (Or.inl ⟨by rfl, ?_⟩) (by assumption) ?_
  rotate_left
  · intro w hSw; (try dsimp only at hSw); go_simp; (try with_reducible rfl)
  (try simp only [Act.put, List.getElem_toArray, List.getElem_cons_succ, List.getElem_cons_zero, List.setIfInBounds_toArray, List.set_cons_zero, List.set_cons_succ])
  (try clear hK K)
  refine wpAnyH_take (i := 10) (v := undef) rfl (by kernel_rfl) (by kernel_rfl) (by kernel_rfl) (fun _ _ _ h => h) (Or.inr ⟨by rfl, rfl⟩) (by assumption) ?_
  (try simp only [Act.put, List.getElem_toArray, List.getElem_cons_succ, List.getElem_cons_zero, List.setIfInBounds_toArray, List.set_cons_zero, List.set_cons_succ])
  refine wpAnyH_take (i := 11) (v := undef) rfl (by kernel_rfl) (by kernel_rfl) (by kernel_rfl) (fun _ _ _ h => h) (Or.inr ⟨by rfl, rfl⟩) (by assumption) ?_
  (try simp only [Act.put, List.getElem_toArray, List.getElem_cons_succ, List.getElem_cons_zero, List.setIfInBounds_toArray, List.set_cons_zero, List.set_cons_succ])
  (try clear hK K)
  refine wpAnyH_take (i := 12) (v := ?_) rfl (by kernel_rfl) (by kernel_rfl) (by kernel_rfl) (fun _ _ _ h => h) (Or.inl ⟨by rfl, ?_⟩) (by assumption) ?_
  rotate_left
  · intro w hSw; (try dsimp only at hSw); go_simp; (try with_reducible rfl)
  (try simp only [Act.put, List.getElem_toArray, List.getElem_cons_succ, List.getElem_cons_zero, List.setIfInBounds_toArray, List.set_cons_zero, List.set_cons_succ])
  refine wpAnyH_take (i := 13) (v := ?_) rfl (by kernel_rfl) (by kernel_rfl) (by kernel_rfl) (fun _ _ _ h => h) (Or.inl ⟨by rfl, ?_⟩) (by assumption) ?_
  rotate_left
  · intro w hSw; (try dsimp only at hSw); go_simp; (try with_reducible rfl)
  (try simp only [Act.put, List.getElem_toArray, List.getElem_cons_succ, List.getElem_cons_zero, List.setIfInBounds_toArray, List.set_cons_zero, List.set_cons_succ])
  (try clear hK K)
  refine wpAnyH_take (i := 14) (v := undef) rfl (by kernel_rfl) (by kernel_rfl) (by kernel_rfl) (fun _ _ _ h => h) (Or.inr ⟨by rfl, rfl⟩) (by assumption) ?_
  (try simp only [Act.put, List.getElem_toArray, List.getElem_cons_succ, List.getElem_cons_zero, List.setIfInBounds_toArray, List.set_cons_zero, List.set_cons_succ])
  refine wpAnyH_take (i := 15) (v := undef) rfl (by kernel_rfl) (by kernel_rfl) (by kernel_rfl) (fun _ _ _ h => h) (Or.inr ⟨by rfl, rfl⟩) (by assumption) ?_
  (try simp only [Act.put, List.getElem_toArray, List.getElem_cons_succ, List.getElem_cons_zero, List.setIfInBounds_toArray, List.set_cons_zero, List.set_cons_succ])
  refine wpAnyH_take (i := 16) (v := undef) rfl (by kernel_rfl) (by kernel_rfl) (by kernel_rfl) (fun _ _ _ h => h) (Or.inr ⟨by rfl, rfl⟩) (by assumption) ?_
  (try simp only [Act.put, List.getElem_toArray, List.getElem_cons_succ, List.getElem_cons_zero, List.setIfInBounds_toArray, List.set_cons_zero, List.set_cons_succ])
  refine wpAnyH_take (i := 17) (v := undef) rfl (by kernel_rfl) (by kernel_rfl) (by kernel_rfl) (fun _ _ _ h => h) (Or.inr ⟨by rfl, rfl⟩) (by assumption) ?_
  (try simp only [Act.put, List.getElem_toArray, List.getElem_cons_succ, List.getElem_cons_zero, List.setIfInBounds_toArray, List.set_cons_zero, List.set_cons_succ])
  refine wpAnyH_take (i := 18) (v := undef) rfl (by kernel_rfl) (by kernel_rfl) (by kernel_rfl) (fun _ _ _ h => h) (Or.inr ⟨by rfl, rfl⟩) (by assumption) ?_
  (try simp only [Act.put, List.getElem_toArray, List.getElem_cons_succ, List.getElem_cons_zero, List.setIfInBounds_toArray, List.set_cons_zero, List.set_cons_succ])
  refine wpAnyH_take (i := 19) (v := undef) rfl (by kernel_rfl) (by kernel_rfl) (by kernel_rfl) (fun _ _ _ h => h) (Or.inr ⟨by rfl, rfl⟩) (by assumption) ?_
  (try simp only [Act.put, List.getElem_toArray, List.getElem_cons_succ, List.getElem_cons_zero, List.setIfInBounds_toArray, List.set_cons_zero, List.set_cons_succ])
  refine wpAnyH_take (i := 20) (v := undef) rfl (by kernel_rfl) (by kernel_rfl) (by kernel_rfl) (fun _ _ _ h => h) (Or.inr ⟨by rfl, rfl⟩) (by assumption) ?_
  (try simp only [Act.put, List.getElem_toArray, List.getElem_cons_succ, List.getElem_cons_zero, List.setIfInBounds_toArray, List.set_cons_zero, List.set_cons_succ])
  refine wpAnyH_take (i := 21) (v := undef) rfl (by kernel_rfl) (by kernel_rfl) (by kernel_rfl) (fun _ _ _ h => h) (Or.inr ⟨by rfl, rfl⟩) (by assumption) ?_
  (try simp only [Act.put, List.getElem_toArray, List.getElem_cons_succ, List.getElem_cons_zero, List.setIfInBounds_toArray, List.set_cons_zero, List.set_cons_succ])
  (try clear hK K)
  refine wpAnyH_take (i := 22) (v := ?_) rfl (by kernel_rfl) (by kernel_rfl) (by kernel_rfl) (fun _ _ _ h => h) (Or.inl ⟨by rfl, ?_⟩) (by assumption) ?_
  rotate_left
  · intro w hSw; (try dsimp only at hSw); go_simp; (try with_reducible rfl)
  (try simp only [Act.put, List.getElem_toArray, List.getElem_cons_succ, List.getElem_cons_zero, List.setIfInBounds_toArray, List.set_cons_zero, List.set_cons_succ])
  refine wpAnyH_take (i := 23) (v := ?_) rfl (by kernel_rfl) (by kernel_rfl) (by kernel_rfl) (fun _ _ _ h => h) (Or.inl ⟨by rfl, ?_⟩) (by assumption) ?_
  rotate_left
  · intro w hSw; (try dsimp only at hSw); go_simp; (try with_reducible rfl)
  (try simp only [Act.put, List.getElem_toArray, List.getElem_cons_succ, List.getElem_cons_zero, List.setIfInBounds_toArray, List.set_cons_zero, List.set_cons_succ])
  (try clear hK K)
  refine wpAnyH_done (by kernel_rfl) ?_ _
  go_wp2_with fail
  go_ret
  exact ⟨rfl, (back1 (alloc1 _ _)).drew⟩
set_option maxHeartbeats 1000000 in
theorem isOf_wrong (ac : Option Addr) (n cc : Nat) (col : Int) (x : Val) (w : World) (hlo : 0 ≤ col) (hhi : col < (n : Int)) (hr : rightV x.t x.n x.s = false) (hs : x.s.size ≤ maxLen) :
    Calls Tryd.prog 93 #[.agg #[.slice ac n cc], .int .i64 col, V x.t x.n x.s] w fun e w' => e = .returned (.bool false) ∧ Below w.heap.size w w' := by
  have H : Hid (∀ w1, Calls Tryd.prog 59 #[V x.t x.n x.s] w1 fun e w' => e = .returned (.bool false) ∧ Below w1.heap.size w1 w') := fun w1 => by
    have := right_any x.t x.n x.s w1 hs; rw [hr] at this; exact this
  clear hr hs
  go_enter Tryd.func93, Tryd.ntmps93
  go_wp2_with fail
  refine wp_region_held_drew (S := fun w' => w'.cell? ⟨w.heap.size, 0, none⟩ = some (.slice ac n cc) ∧ w'.cell? ⟨w.heap.size + 1, 0, none⟩ = some (.bool x.t) ∧ w'.cell? ⟨w.heap.size + 1, 1, none⟩ = some (.int .i64 x.n) ∧ w'.cell? ⟨w.heap.size + 1, 2, none⟩ = some (.string x.s)) (by kernel_rfl) ?_ (fun hHeld => ?_)
  · simp [go_sem]
  (try clear hK K)
  refine wpAnyH_take (i := 0) (v := ?_) rfl (by kernel_rfl) (by kernel_rfl) (by kernel_rfl) (fun _ _ _ h => h) (Or.inl ⟨by rfl, ?_⟩) (by assumption) ?_
  rotate_left
  · intro w hSw; (try dsimp only at hSw); go_simp; (try with_reducible rfl)
  (try simp only [Act.put, List.getElem_toArray, List.getElem_cons_zero, List.setIfInBounds_toArray, List.set_cons_zero, List.set_cons_succ])
  refine wpAnyH_take (i := 1) (v := ?_) rfl (by kernel_rfl) (by kernel_rfl) (by kernel_rfl) (fun _ _ _ h => h) (Or.inl ⟨by rfl, ?_⟩) (by assumption) ?_
  rotate_left
  · intro w hSw; (try dsimp only at hSw); go_simp; (try with_reducible rfl)
  (try simp only [Act.put, List.getElem_toArray, List.getElem_cons_succ, List.getElem_cons_zero, List.setIfInBounds_toArray, List.set_cons_zero, List.set_cons_succ])
  refine wpAnyH_take (i := 2) (v := ?_) rfl (by kernel_rfl) (by kernel_rfl) (by kernel_rfl) (fun _ _ _ h => h) (Or.inl ⟨by rfl, ?_⟩) (by assumption) ?_
  rotate_left
  · intro w hSw; (try dsimp only at hSw); go_simp; (try with_reducible rfl)
  (try simp only [Act.put, List.getElem_toArray, List.getElem_cons_succ, List.getElem_cons_zero, List.setIfInBounds_toArray, List.set_cons_zero, List.set_cons_succ])
  refine wpAnyH_take (i := 3) (v := ?_) rfl (by kernel_rfl) (by kernel_rfl) (by kernel_rfl) (fun _ _ _ h => h) (Or.inl ⟨by rfl, ?_⟩) (by assumption) ?_
  rotate_left
  · intro w hSw; (try dsimp only at hSw); go_simp; (try with_reducible rfl)
  (try simp only [Act.put, List.getElem_toArray, List.getElem_cons_succ, List.getElem_cons_zero, List.setIfInBounds_toArray, List.set_cons_zero, List.set_cons_succ])
  refine wpAnyH_take (i := 4) (v := ?_) rfl (by kernel_rfl) (by kernel_rfl) (by kernel_rfl) (fun _ _ _ h => h) (Or.inl ⟨by rfl, ?_⟩) (by assumption) ?_
  rotate_left
  · intro w hSw; (try dsimp only at hSw); go_simp; (try with_reducible rfl)
  (try simp only [Act.put, List.getElem_toArray, List.getElem_cons_succ, List.getElem_cons_zero, List.setIfInBounds_toArray, List.set_cons_zero, List.set_cons_succ])
  refine wpAnyH_take (i := 5) (v := ?_) rfl (by kernel_rfl) (by kernel_rfl) (by kernel_rfl) (fun _ _ _ h => h) (Or.inl ⟨by rfl, ?_⟩) (by assumption) ?_
  rotate_left
  · intro w hSw; (try dsimp only at hSw); go_simp; (try with_reducible rfl)
  (try simp only [Act.put, List.getElem_toArray, List.getElem_cons_succ, List.getElem_cons_zero, List.setIfInBounds_toArray, List.set_cons_zero, List.set_cons_succ])
  refine wpAnyH_take (i := 6) (v := ?_) rfl (by kernel_rfl) (by kernel_rfl) (by kernel_rfl) (fun _ _ _ h => h) (Or.inl ⟨by rfl, ?_⟩) (by assumption) ?_
  rotate_left
  · intro w hSw; (try dsimp only at hSw); go_simp; (try with_reducible rfl)
  (try simp only [Act.put, List.getElem_toArray, List.getElem_cons_succ, List.getElem_cons_zero, List.setIfInBounds_toArray, List.set_cons_zero, List.set_cons_succ])
  refine wpAnyH_take (i := 7) (v := ?_) rfl (by kernel_rfl) (by kernel_rfl) (by kernel_rfl) (fun _ _ _ h => h) (Or.inl ⟨by rfl, ?_⟩) (by assumption) ?_
  rotate_left
  · intro w hSw; (try dsimp only at hSw); go_simp; (try with_reducible rfl)
  (try simp only [Act.put, List.getElem_toArray, List.getElem_cons_succ, List.getElem_cons_zero, List.setIfInBounds_toArray, List.set_cons_zero, List.set_cons_succ])
  refine wpAnyH_take (i := 8) (v := ?_) rfl (by kernel_rfl) (by kernel_rfl) (by kernel_rfl) (fun _ _ _ h => h) (Or.inl ⟨by rfl, ?_⟩) (by assumption) ?_
  rotate_left
  · intro w hSw; (try dsimp only at hSw); go_simp; (try with_reducible rfl)
  (try simp only [Act.put, List.getElem_toArray, List.getElem_cons_succ, List.getElem_cons_zero, List.setIfInBounds_toArray, List.set_cons_zero, List.set_cons_succ])
  refine wpAnyH_take (i := 9) (v := ?_) rfl (by kernel_rfl) (by kernel_rfl) (by kernel_rfl) (fun _ _ _ h => h) (Or.inl ⟨by rfl, ?_⟩) (by assumption) ?_
  rotate_left
  · intro w hSw; (try dsimp only at hSw); go_simp; (try with_reducible rfl)
  (try simp only [Act.put, List.getElem_toArray, List.getElem_cons_succ, List.getElem_cons_zero, List.setIfInBounds_toArray, List.set_cons_zero, List.set_cons_succ])
  refine wpAnyH_take (i := 10) (v := ?_) rfl (by kernel_rfl) (by kernel_rfl) (by kernel_rfl) (fun _ _ _ h => h) (Or.inl ⟨by rfl, ?_⟩) (by assumption) ?_
  rotate_left
  · intro w hSw; (try dsimp only at hSw); go_simp; (try with_reducible rfl)
  (try simp only [Act.put, List.getElem_toArray, List.getElem_cons_succ, List.getElem_cons_zero, List.setIfInBounds_toArray, List.set_cons_zero, List.set_cons_succ])
  (try clear hK K)
  refine wpAnyH_ready (rs := [11]) (by kernel_rfl) (by simp) ?_
  refine AllReadyH.cons rfl (fun K hK => ?_) AllReadyH.nil
  go_simp
  (refine Calls.mono (H.out _) ?_; rintro e w1 ⟨rfl, hb1⟩)
  refine hK.out _ _ ?_ (fun hHeld => ?_)
  · refine ⟨?_, ?_, ?_, ?_⟩ <;> rw [hb1.cell (by simp; try omega)] <;> simp [go_sem]
  (try clear hK K)
  refine wpAnyH_take (i := 12) (v := ?_) rfl (by kernel_rfl) (by kernel_rfl) (by kernel_rfl) (fun _ _ _ h => h) (Or.inl ⟨by rfl, ?_⟩) (by assumption) ?_
  rotate_left
  · intro w hSw; (try dsimp only at hSw); go_simp; (try with_reducible rfl)
  (try simp only [Act.put, List.getElem_toArray, List.getElem_cons_succ, List.getElem_cons_zero, List.setIfInBounds_toArray, List.set_cons_zero, List.set_cons_succ])
  refine wpAnyH_take (i := 13) (v := ?_) rfl (by kernel_rfl) (by kernel_rfl) (by kernel_rfl) (fun _ _ _ h => h) (Or.inl ⟨by rfl, ?_⟩) (by assumption) ?_
  rotate_left
  · intro w hSw; (try dsimp only at hSw); go_simp; (try with_reducible rfl)
  (try simp only [Act.put, List.getElem_toArray, List.getElem_cons_succ, List.getElem_cons_zero, List.setIfInBounds_toArray, List.set_cons_zero, List.set_cons_succ])
  (try clear hK K)
  refine wpAnyH_take (i := 14) (v := undef) rfl (by kernel_rfl) (by kernel_rfl) (by kernel_rfl) (fun _ _ _ h => h) (Or.inr ⟨by rfl, rfl⟩) (by assumption) ?_
  (try simp only [Act.put, List.getElem_toArray, List.getElem_cons_succ, List.getElem_cons_zero, List.setIfInBounds_toArray, List.set_cons_zero, List.set_cons_succ])
  refine wpAnyH_take (i := 15) (v := undef) rfl (by kernel_rfl) (by kernel_rfl) (by kernel_rfl) (fun _ _ _ h => h) (Or.inr ⟨by rfl, rfl⟩) (by assumption) ?_
  (try simp only [Act.put, List.getElem_toArray, List.getElem_cons_succ, List.getElem_cons_zero, List.setIfInBounds_toArray, List.set_cons_zero, List.set_cons_succ])
  refine wpAnyH_take (i := 16) (v := undef) rfl (by kernel_rfl) (by kernel_rfl) (by kernel_rfl) (fun _ _ _ h => h) (Or.inr ⟨by rfl, rfl⟩) (by assumption) ?_
  (try simp only [Act.put, List.getElem_toArray, List.getElem_cons_succ, List.getElem_cons_zero, List.setIfInBounds_toArray, List.set_cons_zero, List.set_cons_succ])
  refine wpAnyH_take (i := 17) (v := undef) rfl (by kernel_rfl) (by kernel_rfl) (by kernel_rfl) (fun _ _ _ h => h) (Or.inr ⟨by rfl, rfl⟩) (by assumption) ?_
  (try simp only [Act.put, List.getElem_toArray, List.getElem_cons_succ, List.getElem_cons_zero, List.setIfInBounds_toArray, List.set_cons_zero, List.set_cons_succ])
  refine wpAnyH_take (i := 18) (v := undef) rfl (by kernel_rfl) (by kernel_rfl) (by kernel_rfl) (fun _ _ _ h => h) (Or.inr ⟨by rfl, rfl⟩) (by assumption) ?_
  (try simp only [Act.put, List.getElem_toArray, List.getElem_cons_succ, List.getElem_cons_zero, List.setIfInBounds_toArray, List.set_cons_zero, List.set_cons_succ])
  refine wpAnyH_take (i := 19) (v := undef) rfl (by kernel_rfl) (by kernel_rfl) (by kernel_rfl) (fun _ _ _ h => h) (Or.inr ⟨by rfl, rfl⟩) (by assumption) ?_
  (try simp only [Act.put, List.getElem_toArray, List.getElem_cons_succ, List.getElem_cons_zero, List.setIfInBounds_toArray, List.set_cons_zero, List.set_cons_succ])
  refine wpAnyH_take (i := 20) (v := undef) rfl (by kernel_rfl) (by kernel_rfl) (by kernel_rfl) (fun _ _ _ h => h) (Or.inr ⟨by rfl, rfl⟩) (by assumption) ?_
  (try simp only [Act.put, List.getElem_toArray, List.getElem_cons_succ, List.getElem_cons_zero, List.setIfInBounds_toArray, List.set_cons_zero, List.set_cons_succ])
  refine wpAnyH_take (i := 21) (v := undef) rfl (by kernel_rfl) (by kernel_rfl) (by kernel_rfl) (fun _ _ _ h => h) (Or.inr ⟨by rfl, rfl⟩) (by assumption) ?_
  (try simp only [Act.put, List.getElem_toArray, List.getElem_cons_succ, List.getElem_cons_zero, List.setIfInBounds_toArray, List.set_cons_zero, List.set_cons_succ])
  (try clear hK K)
  refine wpAnyH_take (i := 22) (v := ?_) rfl (by kernel_rfl) (by kernel_rfl) (by kernel_rfl) (fun _ _ _ h => h) (Or.inl ⟨by rfl, ?_⟩) (by assumption) ?_
  rotate_left
  · intro w hSw; (try dsimp only at hSw); go_simp; (try with_reducible rfl)
  (try simp only [Act.put, List.getElem_toArray, List.getElem_cons_succ, List.getElem_cons_zero, List.setIfInBounds_toArray, List.set_cons_zero, List.set_cons_succ])
  refine wpAnyH_take (i := 23) (v := ?_) rfl (by kernel_rfl) (by kernel_rfl) (by kernel_rfl) (fun _ _ _ h => h) (Or.inl ⟨by rfl, ?_⟩) (by assumption) ?_
  rotate_left
  · intro w hSw; (try dsimp only at hSw); go_simp; (try with_reducible rfl)
  (try simp only [Act.put, List.getElem_toArray, List.getElem_cons_succ, List.getElem_cons_zero, List.setIfInBounds_toArray, List.set_cons_zero, List.set_cons_succ])
  (try clear hK K)
  refine wpAnyH_done (by kernel_rfl) ?_ _
  go_wp2_with fail
  go_ret
  exact ⟨rfl, ((back1 (alloc1 _ _)).drew).trans (hb1.mono (by simp; omega))⟩
set_option maxHeartbeats 1000000 in
theorem isOf_at (b o n cc k : Nat) (c : Bool) (x : Val) (w : World) (hk : k < n) (hr : rightV x.t x.n x.s = true) (hs : x.s.size ≤ maxLen) (hc : w.cell? ⟨b, o + k, none⟩ = some (.bool c)) :
    Calls Tryd.prog 93 #[.agg #[.slice (some ⟨b, o, none⟩) n cc], .int .i64 (k : Int), V x.t x.n x.s] w fun e w' => e = .returned (.bool (x.t == c)) ∧ Below w.heap.size w w' := by
  have H : Hid (∀ w1, Calls Tryd.prog 59 #[V x.t x.n x.s] w1 fun e w' => e = .returned (.bool true) ∧ Below w1.heap.size w1 w') := fun w1 => by
    have := right_any x.t x.n x.s w1 hs; rw [hr] at this; exact this
  have hlt : b < w.heap.size := World.block_lt_of_cell? w _ hc
  have k0 : (0 : Int) ≤ (k : Int) := by omega
  have k1 : (k : Int) < (n : Int) := by omega
  clear hr hs
  go_enter Tryd.func93, Tryd.ntmps93
  go_wp2_with fail
  refine wp_region_held_drew (S := fun w' => w'.cell? ⟨w.heap.size, 0, none⟩ = some (.slice (some ⟨b, o, none⟩) n cc) ∧ w'.cell? ⟨w.heap.size + 1, 0, none⟩ = some (.bool x.t) ∧ w'.cell? ⟨w.heap.size + 1, 1, none⟩ = some (.int .i64 x.n) ∧ w'.cell? ⟨w.heap.size + 1, 2, none⟩ = some (.string x.s) ∧ w'.cell? ⟨b, o + k, none⟩ = some (.bool c)) (by kernel_rfl) ?_ (fun hHeld => ?_)
  · simp [go_sem, hc, World.cell?_alloc_some]
  (try clear hK K)
  refine wpAnyH_take (i := 0) (v := ?_) rfl (by kernel_rfl) (by kernel_rfl) (by kernel_rfl) (fun _ _ _ h => h) (Or.inl ⟨by rfl, ?_⟩) (by assumption) ?_
  rotate_left
  · intro w hSw; (try dsimp only at hSw); go_simp; (try with_reducible rfl)
  (try simp only [Act.put, List.getElem_toArray, List.getElem_cons_zero, List.setIfInBounds_toArray, List.set_cons_zero, List.set_cons_succ])
  refine wpAnyH_take (i := 1) (v := ?_) rfl (by kernel_rfl) (by kernel_rfl) (by kernel_rfl) (fun _ _ _ h => h) (Or.inl ⟨by rfl, ?_⟩) (by assumption) ?_
  rotate_left
  · intro w hSw; (try dsimp only at hSw); go_simp; (try with_reducible rfl)
  (try simp only [Act.put, List.getElem_toArray, List.getElem_cons_succ, List.getElem_cons_zero, List.setIfInBounds_toArray, List.set_cons_zero, List.set_cons_succ])
  refine wpAnyH_take (i := 2) (v := ?_) rfl (by kernel_rfl) (by kernel_rfl) (by kernel_rfl) (fun _ _ _ h => h) (Or.inl ⟨by rfl, ?_⟩) (by assumption) ?_
  rotate_left
  · intro w hSw; (try dsimp only at hSw); go_simp; (try with_reducible rfl)
  (try simp only [Act.put, List.getElem_toArray, List.getElem_cons_succ, List.getElem_cons_zero, List.setIfInBounds_toArray, List.set_cons_zero, List.set_cons_succ])
  refine wpAnyH_take (i := 3) (v := ?_) rfl (by kernel_rfl) (by kernel_rfl) (by kernel_rfl) (fun _ _ _ h => h) (Or.inl ⟨by rfl, ?_⟩) (by assumption) ?_
  rotate_left
  · intro w hSw; (try dsimp only at hSw); go_simp; (try with_reducible rfl)
  (try simp only [Act.put, List.getElem_toArray, List.getElem_cons_succ, List.getElem_cons_zero, List.setIfInBounds_toArray, List.set_cons_zero, List.set_cons_succ])
  refine wpAnyH_take (i := 4) (v := ?_) rfl (by kernel_rfl) (by kernel_rfl) (by kernel_rfl) (fun _ _ _ h => h) (Or.inl ⟨by rfl, ?_⟩) (by assumption) ?_
  rotate_left
  · intro w hSw; (try dsimp only at hSw); go_simp; (try with_reducible rfl)
  (try simp only [Act.put, List.getElem_toArray, List.getElem_cons_succ, List.getElem_cons_zero, List.setIfInBounds_toArray, List.set_cons_zero, List.set_cons_succ])
  refine wpAnyH_take (i := 5) (v := ?_) rfl (by kernel_rfl) (by kernel_rfl) (by kernel_rfl) (fun _ _ _ h => h) (Or.inl ⟨by rfl, ?_⟩) (by assumption) ?_
  rotate_left
  · intro w hSw; (try dsimp only at hSw); go_simp; (try with_reducible rfl)
  (try simp only [Act.put, List.getElem_toArray, List.getElem_cons_succ, List.getElem_cons_zero, List.setIfInBounds_toArray, List.set_cons_zero, List.set_cons_succ])
  refine wpAnyH_take (i := 6) (v := ?_) rfl (by kernel_rfl) (by kernel_rfl) (by kernel_rfl) (fun _ _ _ h => h) (Or.inl ⟨by rfl, ?_⟩) (by assumption) ?_
  rotate_left
  · intro w hSw; (try dsimp only at hSw); go_simp; (try with_reducible rfl)
  (try simp only [Act.put, List.getElem_toArray, List.getElem_cons_succ, List.getElem_cons_zero, List.setIfInBounds_toArray, List.set_cons_zero, List.set_cons_succ])
  refine wpAnyH_take (i := 7) (v := ?_) rfl (by kernel_rfl) (by kernel_rfl) (by kernel_rfl) (fun _ _ _ h => h) (Or.inl ⟨by rfl, ?_⟩) (by assumption) ?_
  rotate_left
  · intro w hSw; (try dsimp only at hSw); go_simp; (try with_reducible rfl)
  (try simp only [Act.put, List.getElem_toArray, List.getElem_cons_succ, List.getElem_cons_zero, List.setIfInBounds_toArray, List.set_cons_zero, List.set_cons_succ])
  refine wpAnyH_take (i := 8) (v := ?_) rfl (by kernel_rfl) (by kernel_rfl) (by kernel_rfl) (fun _ _ _ h => h) (Or.inl ⟨by rfl, ?_⟩) (by assumption) ?_
  rotate_left
  · intro w hSw; (try dsimp only at hSw); go_simp; (try with_reducible rfl)
  (try simp only [Act.put, List.getElem_toArray, List.getElem_cons_succ, List.getElem_cons_zero, List.setIfInBounds_toArray, List.set_cons_zero, List.set_cons_succ])
  refine wpAnyH_take (i := 9) (v := ?_) rfl (by kernel_rfl) (by kernel_rfl) (by kernel_rfl) (fun _ _ _ h => h) (Or.inl ⟨by rfl, ?_⟩) (by assumption) ?_
  rotate_left
  · intro w hSw; (try dsimp only at hSw); go_simp; (try with_reducible rfl)
  (try simp only [Act.put, List.getElem_toArray, List.getElem_cons_succ, List.getElem_cons_zero, List.setIfInBounds_toArray, List.set_cons_zero, List.set_cons_succ])
  refine wpAnyH_take (i := 10) (v := ?_) rfl (by kernel_rfl) (by kernel_rfl) (by kernel_rfl) (fun _ _ _ h => h) (Or.inl ⟨by rfl, ?_⟩) (by assumption) ?_
  rotate_left
  · intro w hSw; (try dsimp only at hSw); go_simp; (try with_reducible rfl)
  (try simp only [Act.put, List.getElem_toArray, List.getElem_cons_succ, List.getElem_cons_zero, List.setIfInBounds_toArray, List.set_cons_zero, List.set_cons_succ])
  (try clear hK K)
  refine wpAnyH_ready (rs := [11]) (by kernel_rfl) (by simp) ?_
  refine AllReadyH.cons rfl (fun K hK => ?_) AllReadyH.nil
  go_simp
  (refine Calls.mono (H.out _) ?_; rintro e w1 ⟨rfl, hb1⟩)
  refine hK.out _ _ ?_ (fun hHeld => ?_)
  · refine ⟨?_, ?_, ?_, ?_, ?_⟩ <;> rw [hb1.cell (by simp; try omega)] <;> simp [go_sem, hc, World.cell?_alloc_some]
  (try clear hK K)
  refine wpAnyH_take (i := 12) (v := ?_) rfl (by kernel_rfl) (by kernel_rfl) (by kernel_rfl) (fun _ _ _ h => h) (Or.inl ⟨by rfl, ?_⟩) (by assumption) ?_
  rotate_left
  · intro w hSw; (try dsimp only at hSw); go_simp; (try with_reducible rfl)
  (try simp only [Act.put, List.getElem_toArray, List.getElem_cons_succ, List.getElem_cons_zero, List.setIfInBounds_toArray, List.set_cons_zero, List.set_cons_succ])
  refine wpAnyH_take (i := 13) (v := ?_) rfl (by kernel_rfl) (by kernel_rfl) (by kernel_rfl) (fun _ _ _ h => h) (Or.inl ⟨by rfl, ?_⟩) (by assumption) ?_
  rotate_left
  · intro w hSw; (try dsimp only at hSw); go_simp; (try with_reducible rfl)
  (try simp only [Act.put, List.getElem_toArray, List.getElem_cons_succ, List.getElem_cons_zero, List.setIfInBounds_toArray, List.set_cons_zero, List.set_cons_succ])
  refine wpAnyH_take (i := 14) (v := ?_) rfl (by kernel_rfl) (by kernel_rfl) (by kernel_rfl) (fun _ _ _ h => h) (Or.inl ⟨by rfl, ?_⟩) (by assumption) ?_
  rotate_left
  · intro w hSw; (try dsimp only at hSw); go_simp; (try with_reducible rfl)
  (try simp only [Act.put, List.getElem_toArray, List.getElem_cons_succ, List.getElem_cons_zero, List.setIfInBounds_toArray, List.set_cons_zero, List.set_cons_succ])
  refine wpAnyH_take (i := 15) (v := ?_) rfl (by kernel_rfl) (by kernel_rfl) (by kernel_rfl) (fun _ _ _ h => h) (Or.inl ⟨by rfl, ?_⟩) (by assumption) ?_
  rotate_left
  · intro w hSw; (try dsimp only at hSw); go_simp; (try with_reducible rfl)
  (try simp only [Act.put, List.getElem_toArray, List.getElem_cons_succ, List.getElem_cons_zero, List.setIfInBounds_toArray, List.set_cons_zero, List.set_cons_succ])
  refine wpAnyH_take (i := 16) (v := ?_) rfl (by kernel_rfl) (by kernel_rfl) (by kernel_rfl) (fun _ _ _ h => h) (Or.inl ⟨by rfl, ?_⟩) (by assumption) ?_
  rotate_left
  · intro w hSw; (try dsimp only at hSw); go_simp; (try with_reducible rfl)
  (try simp only [Act.put, List.getElem_toArray, List.getElem_cons_succ, List.getElem_cons_zero, List.setIfInBounds_toArray, List.set_cons_zero, List.set_cons_succ])
  refine wpAnyH_take (i := 17) (v := ?_) rfl (by kernel_rfl) (by kernel_rfl) (by kernel_rfl) (fun _ _ _ h => h) (Or.inl ⟨by rfl, ?_⟩) (by assumption) ?_
  rotate_left
  · intro w hSw; (try dsimp only at hSw); go_simp; (try with_reducible rfl)
  (try simp only [Act.put, List.getElem_toArray, List.getElem_cons_succ, List.getElem_cons_zero, List.setIfInBounds_toArray, List.set_cons_zero, List.set_cons_succ])
  refine wpAnyH_take (i := 18) (v := ?_) rfl (by kernel_rfl) (by kernel_rfl) (by kernel_rfl) (fun _ _ _ h => h) (Or.inl ⟨by rfl, ?_⟩) (by assumption) ?_
  rotate_left
  · intro w hSw; (try dsimp only at hSw); go_simp; (try with_reducible rfl)
  (try simp only [Act.put, List.getElem_toArray, List.getElem_cons_succ, List.getElem_cons_zero, List.setIfInBounds_toArray, List.set_cons_zero, List.set_cons_succ])
  refine wpAnyH_take (i := 19) (v := ?_) rfl (by kernel_rfl) (by kernel_rfl) (by kernel_rfl) (fun _ _ _ h => h) (Or.inl ⟨by rfl, ?_⟩) (by assumption) ?_
  rotate_left
  · intro w hSw; (try dsimp only at hSw); go_simp; (try with_reducible rfl)
  (try simp only [Act.put, List.getElem_toArray, List.getElem_cons_succ, List.getElem_cons_zero, List.setIfInBounds_toArray, List.set_cons_zero, List.set_cons_succ])
  refine wpAnyH_take (i := 20) (v := ?_) rfl (by kernel_rfl) (by kernel_rfl) (by kernel_rfl) (fun _ _ _ h => h) (Or.inl ⟨by rfl, ?_⟩) (by assumption) ?_
  rotate_left
  · intro w hSw; (try dsimp only at hSw); go_simp; (try with_reducible rfl)
  (try simp only [Act.put, List.getElem_toArray, List.getElem_cons_succ, List.getElem_cons_zero, List.setIfInBounds_toArray, List.set_cons_zero, List.set_cons_succ])
  refine wpAnyH_take (i := 21) (v := ?_) rfl (by kernel_rfl) (by kernel_rfl) (by kernel_rfl) (fun _ _ _ h => h) (Or.inl ⟨by rfl, ?_⟩) (by assumption) ?_
  rotate_left
  · intro w hSw; (try dsimp only at hSw); go_simp; (try with_reducible rfl)
  (try simp only [Act.put, List.getElem_toArray, List.getElem_cons_succ, List.getElem_cons_zero, List.setIfInBounds_toArray, List.set_cons_zero, List.set_cons_succ])
  refine wpAnyH_take (i := 22) (v := ?_) rfl (by kernel_rfl) (by kernel_rfl) (by kernel_rfl) (fun _ _ _ h => h) (Or.inl ⟨by rfl, ?_⟩) (by assumption) ?_
  rotate_left
  · intro w hSw; (try dsimp only at hSw); go_simp; (try with_reducible rfl)
  (try simp only [Act.put, List.getElem_toArray, List.getElem_cons_succ, List.getElem_cons_zero, List.setIfInBounds_toArray, List.set_cons_zero, List.set_cons_succ])
  refine wpAnyH_take (i := 23) (v := ?_) rfl (by kernel_rfl) (by kernel_rfl) (by kernel_rfl) (fun _ _ _ h => h) (Or.inl ⟨by rfl, ?_⟩) (by assumption) ?_
  rotate_left
  · intro w hSw; (try dsimp only at hSw); go_simp; (try with_reducible rfl)
  (try simp only [Act.put, List.getElem_toArray, List.getElem_cons_succ, List.getElem_cons_zero, List.setIfInBounds_toArray, List.set_cons_zero, List.set_cons_succ])
  (try clear hK K)
  refine wpAnyH_done (by kernel_rfl) ?_ _
  go_wp2_with fail
  go_ret
  exact ⟨rfl, ((back1 (alloc1 _ _)).drew).trans (hb1.mono (by simp; omega))⟩
theorem isOf_any (vc : Value) (cols : List Bool) (col : Int) (x : Val) (w : World) (h : BoolsIn w vc cols) (hs : x.s.size ≤ maxLen) :
    Calls Tryd.prog 93 #[.agg #[vc], .int .i64 col, V x.t x.n x.s] w fun e w' => e = .returned (.bool (ofB cols col x)) ∧ Below w.heap.size w w' := by
  by_cases hlo : col < 0
  · rw [ofB_low hlo]; exact isOf_low vc col x w (by simp; omega)
  obtain ⟨ac, cc, rfl, lc⟩ := h.slice
  by_cases hhi : (cols.length : Int) ≤ col
  · rw [ofB_high hhi]; exact isOf_high ac _ cc col x w (by omega) (by simp; omega)
  cases hr : rightV x.t x.n x.s
  · rw [ofB_wrong hr]; exact isOf_wrong ac _ cc col x w (by omega) (by omega) hr hs
  · obtain ⟨k, rfl⟩ : ∃ k : Nat, col = (k : Int) := ⟨col.toNat, by omega⟩
    have hk : k < cols.length := by omega
    obtain ⟨b, o, rfl, hc⟩ := h.at k hk
    rw [ofB_at hr hk]
    exact isOf_at b o _ cc k _ x w hk hr hs hc
end Go.Proofs.YtkkbbpldeeajaaaDoor.Val
/- What pred.suits answers. -/
namespace Go.Proofs.YtkkbbpldeeajaaaDoor.Val
open Go.RowKit

theorem ret_b2 {a b : Bool} (h : a = b) : Ending.returned (.bool a) = Ending.returned (.bool b) := by subst h; rfl
/-- May a part be a table's, whatever its own parts are? -/
def suitO (cols : List Bool) (op col : Int) (v u : Val) (n : Nat) : Bool :=
  if op = 1 ∨ op = 2 then decide (n = 0) else if 3 ≤ op ∧ op ≤ 8 then decide (n = 0) && ofB cols col v else if op = 9 then decide (n = 0) && (ofB cols col v && ofB cols col u) else if op = 10 then decide (n = 1) else if op = 11 ∨ op = 12 then decide (0 < n) else false
def suitP (cols : List Bool) (p : PT) : Bool := suitO cols p.op p.col p.v p.w p.l.length
set_option maxHeartbeats 1000000 in
/-- PTrue, PFalse. -/
theorem suits_12 (vc lv : Value) (op col : Int) (v u : Val) (ao : Option Addr) (n c : Nat) (w : World) (hl : lv = .slice ao n c) (ho : op = 1 ∨ op = 2) (_hn : n ≤ 9223372036854775807) :
    Calls Tryd.prog 87 #[.agg #[vc], PV op col v.t v.n v.s u.t u.n u.s lv] w fun e w' => e = .returned (.bool (decide (n = 0))) ∧ Below w.heap.size w w' := by
  subst hl
  rcases ho with rfl | rfl
  · go_enter Tryd.func87, Tryd.ntmps87
    go_wp2_with fail
    go_ret
    exact ⟨ret_b2 (by rw [Bool.eq_iff_iff]; simp), back1 (alloc1 _ _)⟩
  · go_enter Tryd.func87, Tryd.ntmps87
    go_wp2_with fail
    go_ret
    exact ⟨ret_b2 (by rw [Bool.eq_iff_iff]; simp), back1 (alloc1 _ _)⟩
set_option maxHeartbeats 2000000 in
/-- PEq to PGe. -/
theorem suits_38 (vc : Value) (op col : Int) (v u : Val) (ao : Option Addr) (n c : Nat) (w : World) (a : Bool) (ho : op = 3 ∨ op = 4 ∨ op = 5 ∨ op = 6 ∨ op = 7 ∨ op = 8) (hn : n ≤ 9223372036854775807)
    (h : ∀ w1, Below w.heap.size w w1 → Calls Tryd.prog 93 #[.agg #[vc], .int .i64 col, V v.t v.n v.s] w1 fun e w' => e = .returned (.bool a) ∧ Below w1.heap.size w1 w') :
    Calls Tryd.prog 87 #[.agg #[vc], PV op col v.t v.n v.s u.t u.n u.s (.slice ao n c)] w fun e w' => e = .returned (.bool (decide (n = 0) && a)) ∧ Below w.heap.size w w' := by
  have H : Hid _ := h
  clear h
  by_cases h0 : n = 0
  · subst h0
    rcases ho with rfl | rfl | rfl | rfl | rfl | rfl <;>
    · go_enter Tryd.func87, Tryd.ntmps87
      go_wp2_with fail
      refine Calls.mono (H.out _ (back1 (alloc1 _ _))) ?_
      rintro e w1 ⟨rfl, hb⟩
      go_wp2_with fail
      go_ret
      exact ⟨rfl, back2 hb⟩
  · have h1 : ((n : Int) == 0) = false := by rw [beq_eq_false_iff_ne]; omega
    have HD : Hid (decide (n = 0) = false) := by rw [Hid]; simpa using h0
    clear H h0
    rcases ho with rfl | rfl | rfl | rfl | rfl | rfl <;>
    · go_enter Tryd.func87, Tryd.ntmps87
      go_wp2_with fail
      go_ret
      exact ⟨ret_b2 (by rw [HD.out]; rfl), back1 (alloc1 _ _)⟩
set_option maxHeartbeats 2000000 in
/-- PIn. -/
theorem suits_9 (vc : Value) (col : Int) (v u : Val) (ao : Option Addr) (n c : Nat) (w : World) (a a' : Bool) (hn : n ≤ 9223372036854775807)
    (h : ∀ w1, Below w.heap.size w w1 → Calls Tryd.prog 93 #[.agg #[vc], .int .i64 col, V v.t v.n v.s] w1 fun e w' => e = .returned (.bool a) ∧ Below w1.heap.size w1 w')
    (h' : ∀ w1, Below w.heap.size w w1 → Calls Tryd.prog 93 #[.agg #[vc], .int .i64 col, V u.t u.n u.s] w1 fun e w' => e = .returned (.bool a') ∧ Below w1.heap.size w1 w') :
    Calls Tryd.prog 87 #[.agg #[vc], PV 9 col v.t v.n v.s u.t u.n u.s (.slice ao n c)] w fun e w' => e = .returned (.bool (decide (n = 0) && (a && a'))) ∧ Below w.heap.size w w' := by
  have H : Hid _ := h
  have H' : Hid _ := h'
  clear h h'
  by_cases h0 : n = 0
  · subst h0
    go_enter Tryd.func87, Tryd.ntmps87
    go_wp2_with fail
    refine Calls.mono (H.out _ (back1 (alloc1 _ _))) ?_
    rintro e w1 ⟨rfl, hb⟩
    have HB : Hid (Below w.heap.size w w1) := back2 hb
    have t0 : w1.cell? ⟨w.heap.size, 0, none⟩ = some vc := by rw [hb.cell (by simp; omega)]; simp [go_sem]
    have d1 : w1.cell? ⟨w.heap.size + 1, 1, none⟩ = some (.int .i64 col) := by rw [hb.cell (by simp)]; simp [go_sem]
    have d5 : w1.cell? ⟨w.heap.size + 1, 5, none⟩ = some (.bool u.t) := by rw [hb.cell (by simp)]; simp [go_sem]
    have d6 : w1.cell? ⟨w.heap.size + 1, 6, none⟩ = some (.int .i64 u.n) := by rw [hb.cell (by simp)]; simp [go_sem]
    have d7 : w1.cell? ⟨w.heap.size + 1, 7, none⟩ = some (.string u.s) := by rw [hb.cell (by simp)]; simp [go_sem]
    clear hb H
    cases a
    · clear H'
      go_wp2_with fail
      go_ret
      exact ⟨rfl, HB.out⟩
    · go_wp2_with fail
      refine Calls.mono (H'.out _ HB.out) ?_
      rintro e w2 ⟨rfl, hb2⟩
      have HB2 : Hid (Below w.heap.size w w2) := on HB.out hb2
      clear hb2 HB H'
      go_wp2_with fail
      go_ret
      exact ⟨rfl, HB2.out⟩
  · have h1 : ((n : Int) == 0) = false := by rw [beq_eq_false_iff_ne]; omega
    have HD : Hid (decide (n = 0) = false) := by rw [Hid]; simpa using h0
    clear H H' h0
    go_enter Tryd.func87, Tryd.ntmps87
    go_wp2_with fail
    go_ret
    exact ⟨ret_b2 (by rw [HD.out]; rfl), back1 (alloc1 _ _)⟩
set_option maxHeartbeats 1000000 in
/-- PNot, PAnd, POr, and what is none. -/
theorem suits_10 (vc : Value) (col : Int) (v u : Val) (ao : Option Addr) (n c : Nat) (w : World) (_hn : n ≤ 9223372036854775807) :
    Calls Tryd.prog 87 #[.agg #[vc], PV 10 col v.t v.n v.s u.t u.n u.s (.slice ao n c)] w fun e w' => e = .returned (.bool (decide (n = 1))) ∧ Below w.heap.size w w' := by
  go_enter Tryd.func87, Tryd.ntmps87
  go_wp2_with fail
  go_ret
  exact ⟨ret_b2 (by rw [Bool.eq_iff_iff]; simp; omega), back1 (alloc1 _ _)⟩
set_option maxHeartbeats 1000000 in
theorem suits_11 (vc : Value) (op col : Int) (v u : Val) (ao : Option Addr) (n c : Nat) (w : World) (ho : op = 11 ∨ op = 12) (_hn : n ≤ 9223372036854775807) :
    Calls Tryd.prog 87 #[.agg #[vc], PV op col v.t v.n v.s u.t u.n u.s (.slice ao n c)] w fun e w' => e = .returned (.bool (decide (0 < n))) ∧ Below w.heap.size w w' := by
  rcases ho with rfl | rfl
  · go_enter Tryd.func87, Tryd.ntmps87
    go_wp2_with fail
    go_ret
    exact ⟨ret_b2 (by rw [Bool.eq_iff_iff]), back1 (alloc1 _ _)⟩
  · go_enter Tryd.func87, Tryd.ntmps87
    go_wp2_with fail
    go_ret
    exact ⟨ret_b2 (by rw [Bool.eq_iff_iff]), back1 (alloc1 _ _)⟩
set_option maxHeartbeats 1000000 in
theorem suits_none (vc lv : Value) (op col : Int) (v u : Val) (w : World) (e1 : (op == 1) = false) (e2 : (op == 2) = false) (e3 : (op == 3) = false) (e4 : (op == 4) = false) (e5 : (op == 5) = false) (e6 : (op == 6) = false) (e7 : (op == 7) = false) (e8 : (op == 8) = false) (e9 : (op == 9) = false) (e10 : (op == 10) = false) (e11 : (op == 11) = false) (e12 : (op == 12) = false) :
    Calls Tryd.prog 87 #[.agg #[vc], PV op col v.t v.n v.s u.t u.n u.s lv] w fun e w' => e = .returned (.bool false) ∧ Below w.heap.size w w' := by
  go_enter Tryd.func87, Tryd.ntmps87
  go_wp2_with fail
  go_ret
  exact ⟨rfl, back1 (alloc1 _ _)⟩
theorem psuits_any (vc : Value) (cols : List Bool) (p : PT) (w : World) (h : BoolsIn w vc cols) (hi : In w p) :
    Calls Tryd.prog 87 #[.agg #[vc], p.val] w fun e w' => e = .returned (.bool (suitP cols p)) ∧ Below w.heap.size w w' := by
  obtain ⟨ao, c, hlv, hn⟩ := hi.lies.slice
  have hv := fun w1 (hb : Below w.heap.size w w1) => isOf_any vc cols p.col p.v w1 (h.below hb) hi.sv
  have hu := fun w1 (hb : Below w.heap.size w w1) => isOf_any vc cols p.col p.w w1 (h.below hb) hi.sw
  unfold PT.val suitP suitO
  rw [hlv]
  by_cases h12 : p.op = 1 ∨ p.op = 2
  · rw [if_pos h12]; exact suits_12 vc _ _ _ _ _ _ _ _ w rfl h12 hn
  rw [if_neg h12]
  by_cases h38 : 3 ≤ p.op ∧ p.op ≤ 8
  · rw [if_pos h38]; exact suits_38 vc _ _ _ _ _ _ _ w _ (by omega) hn hv
  rw [if_neg h38]
  by_cases h9 : p.op = 9
  · rw [if_pos h9, h9]; exact suits_9 vc _ _ _ _ _ _ w _ _ hn hv hu
  rw [if_neg h9]
  by_cases h10 : p.op = 10
  · rw [if_pos h10, h10]; exact suits_10 vc _ _ _ _ _ _ w hn
  rw [if_neg h10]
  by_cases h11 : p.op = 11 ∨ p.op = 12
  · rw [if_pos h11]; exact suits_11 vc _ _ _ _ _ _ _ w h11 hn
  rw [if_neg h11]
  have hne : ∀ k : Int, p.op ≠ k → (p.op == k) = false := fun k hk => by simpa using hk
  exact suits_none vc _ _ _ _ _ w (hne _ (by omega)) (hne _ (by omega)) (hne _ (by omega)) (hne _ (by omega)) (hne _ (by omega)) (hne _ (by omega)) (hne _ (by omega)) (hne _ (by omega)) (hne _ (by omega)) (hne _ (by omega)) (hne _ (by omega)) (hne _ (by omega))
end Go.Proofs.YtkkbbpldeeajaaaDoor.Val
/- What pred.every answers of a predicate, whatever function that counts it is handed. -/
namespace Go.Proofs.YtkkbbpldeeajaaaDoor.Val
open Go.RowKit

theorem enters_walk' : Enters 80 := enters_of Tryd.func80 (by decide +kernel) rfl
/-- A count in a block of its own. -/
def Cnt (w : World) (c n : Nat) : Prop := w.cell? ⟨c, 0, none⟩ = some (.int .i64 (n : Int)) ∧ w.frozen? ⟨c, 0, none⟩ = false
theorem Cnt.lt {w : World} {c n : Nat} (h : Cnt w c n) : c < w.heap.size := World.block_lt_of_cell? w _ h.1
theorem Cnt.alloc {w : World} {c n : Nat} (h : Cnt w c n) (o : Obj) : Cnt (w.alloc o) c n := by
  have hb := (Below.refl w.heap.size w).alloc (Nat.le_refl _) o
  exact ⟨by rw [hb.cell h.lt]; exact h.1, by rw [hb.frozen h.lt]; exact h.2⟩
/-- What goes with a count: a world's facts that hold as long as nothing but the count is written. -/
structure Goods (w0 : World) (c : Nat) (G : World → Prop) : Prop where
  old : ∀ w, G w → Below w0.heap.size w0 w
  on : ∀ w w', G w → Sv (· = c) w w' → G w'
/-- The function that is handed in: it counts one, and tells whether the part passes. -/
def PassOk (w0 : World) (c : Nat) (G : World → Prop) (g : Nat → PT → Bool) (f : FuncId) (first cap : Array Value) : Prop :=
  ∀ (p : PT) (w : World) (n : Nat), In w0 p → G w → Cnt w c n → n < 1000000 → Calls Tryd.prog f (first.push p.val ++ cap) w fun e w' => e = .returned (.bool (g (n + 1) p)) ∧ Cnt w' c (n + 1) ∧ Sv (· = c) w w'
abbrev FE (eb : Nat) : Value := FV 92 #[] #[.pointer (some ⟨eb, 0, none⟩)]
abbrev ME (eb : Nat) : Value := FV 80 #[.agg #[FE eb]] #[]
def EvOk (c : Nat) (G : World → Prop) (g : Nat → PT → Bool) (f : FuncId) (first cap : Array Value) (eb : Nat) (p : PT) : Prop :=
  ∀ (w : World) (n : Nat), G w → w.cell? ⟨eb, 0, none⟩ = some (FV f first cap) → Cnt w c n → n + p.size ≤ 1000000 →
    Calls Tryd.prog 80 #[.agg #[FE eb], p.val] w fun e w' => e = .returned (.bool (ev g n p).1) ∧ Cnt w' c (ev g n p).2 ∧ Sv (· = c) w w'

theorem all_ev {w0 : World} {c : Nat} {G : World → Prop} {g : Nat → PT → Bool} {f : FuncId} {first cap : Array Value} {eb : Nat} (hG : Goods w0 c G) (hne : eb ≠ c) (p : PT) (hi : In w0 p)
    (ih : ∀ q ∈ p.l, EvOk c G g f first cap eb q) (w : World) (n : Nat) (hg : G w) (he : w.cell? ⟨eb, 0, none⟩ = some (FV f first cap)) (hn : Cnt w c n) (hs : n + sizeL p.l ≤ 1000000) :
    Calls Tryd.prog 77 #[p.lv, ME eb] w fun e w' => e = .returned (.bool (evL g n p.l).1) ∧ Cnt w' c (evL g n p.l).2 ∧ Sv (· = c) w w' := by
  refine Calls.mono (all_any _ _ _ p.lv p.l w (· = c) (fun i w1 => G w1 ∧ w1.cell? ⟨eb, 0, none⟩ = some (FV f first cap) ∧ Cnt w1 c (nAt g n p.l i)) (fun i => if h : i < p.l.length then (ev g (nAt g n p.l i) p.l[i]).1 else false)
    ⟨hg, he, by rw [nAt_zero]; exact hn⟩ enters_walk' (fun k hk => by rw [hk]; exact hn.lt) (fun i w1 o h => ⟨hG.on _ _ h.1 (Sv.alloc _ _ _), cell_alloc h.2.1 _, h.2.2.alloc _⟩) (fun i w1 h => hi.lies.below (hG.old _ h.1)) (fun i hi' w1 h => ?_)) ?_
  · obtain ⟨h1, h2, h3⟩ := h
    have hb := nAt_le g p.l n i hi'
    refine Calls.mono (ih p.l[i] (List.getElem_mem hi') w1 (nAt g n p.l i) h1 h2 h3 (by omega)) ?_
    rintro e w2 ⟨rfl, k1, k2⟩
    refine ⟨by simp [hi'], ⟨hG.on _ _ h1 k2, ?_, by rw [nAt_succ g n p.l i hi']; exact k1⟩, k2⟩
    rw [k2.cell (World.block_lt_of_cell? w1 _ h2) hne]; exact h2
  · rintro e w2 ⟨hs2, ⟨k, hk, hf, hj, rfl, _, _, hI⟩ | ⟨hj, rfl, _, _, hI⟩⟩
    · have := evL_stop g n p.l k hk (fun j hj' => by have := hj j hj'; simpa [show j < p.l.length by omega] using this) (by simpa [hk] using hf)
      rw [this]
      exact ⟨rfl, hI, hs2⟩
    · have := evL_all g n p.l (fun j hj' => by have := hj j hj'; simpa [hj'] using this)
      rw [this]
      exact ⟨rfl, hI, hs2⟩
set_option maxHeartbeats 1000000 in
theorem every1_any {w0 : World} {c : Nat} {G : World → Prop} {g : Nat → PT → Bool} {f : FuncId} {first cap : Array Value} {eb : Nat} (hG : Goods w0 c G) (hP : PassOk w0 c G g f first cap) (hE : Enters f) (hne : eb ≠ c) (p : PT) (hi : In w0 p)
    (ih : ∀ q ∈ p.l, EvOk c G g f first cap eb q) (w : World) (n : Nat) (hg : G w) (he : w.cell? ⟨eb, 0, none⟩ = some (FV f first cap)) (hn : Cnt w c n) (hs : n + p.size ≤ 1000000) :
    Calls Tryd.prog 92 #[p.val, ME eb, .pointer (some ⟨eb, 0, none⟩)] w fun e w' => e = .returned (.bool (ev g n p).1) ∧ Cnt w' c (ev g n p).2 ∧ Sv (· = c) w w' := by
  have hE' : ∀ args w, (callFunc f args).run Tryd.prog w = .ok (.enter f args) w := hE
  have hlt : eb < w.heap.size := World.block_lt_of_cell? w _ he
  have hclt := hn.lt
  obtain ⟨b, hb⟩ : ∃ b, g (n + 1) p = b := ⟨_, rfl⟩
  obtain ⟨r, hr⟩ : ∃ r, ev g n p = r := ⟨_, rfl⟩
  have hsz := size_l p
  have H1 : Hid (Calls Tryd.prog f (first.push p.val ++ cap) (w.alloc (pobj p 29)) fun e w' => e = .returned (.bool b) ∧ Cnt w' c (n + 1) ∧ Sv (· = c) (w.alloc (pobj p 29)) w') := by
    rw [← hb]; exact hP p _ n hi (hG.on _ _ hg (Sv.alloc _ _ _)) (hn.alloc _) (by omega)
  have H2 : Hid (b = true → ∀ w1, Cnt w1 c (n + 1) → Sv (· = c) w w1 → Calls Tryd.prog 77 #[p.lv, ME eb] w1 fun e w' => e = .returned (.bool r.1) ∧ Cnt w' c r.2 ∧ Sv (· = c) w1 w') := by
    intro hbt w1 h1 h2
    rw [← hr, ev_yes (by rw [hb]; exact hbt)]
    exact all_ev hG hne p hi ih w1 (n + 1) (hG.on _ _ hg h2) (by rw [h2.cell hlt hne]; exact he) h1 (by omega)
  have H3 : Hid (b = false → r = (false, n + 1)) := fun hbf => by rw [← hr]; exact ev_no (by rw [hb]; exact hbf)
  have HX : Hid (w.heap.size ≠ c) := by rw [Hid]; omega
  rw [hr]
  clear hE hG hP ih hg hn hs hi hr hb hclt hsz
  unfold PT.val at *
  go_enter Tryd.func92, Tryd.ntmps92
  go_wp2_with fail
  refine Calls.mono H1.out ?_
  rintro e w1 ⟨rfl, hc1, hs1⟩
  have hs2 : Sv (· = c) w w1 := (Sv.alloc _ _ _).trans hs1
  have hbox := (Box.new w p 29).sv hs1 HX.out
  have b8 := hbox.c8
  have HC : Hid (Cnt w1 c (n + 1) ∧ Sv (· = c) w w1) := ⟨hc1, hs2⟩
  clear hc1 hs1 hs2 hbox H1 hE'
  cases b
  · obtain rfl := H3.out rfl
    clear H2
    go_wp2_with fail
    go_ret
    exact ⟨rfl, HC.out⟩
  · have H4 : Hid _ := H2.out rfl w1 HC.out.1 HC.out.2
    go_wp2_with fail
    refine Calls.mono H4.out ?_
    rintro e w2 ⟨rfl, hc2, hs2⟩
    have HC2 : Hid (Cnt w2 c r.2 ∧ Sv (· = c) w w2) := ⟨hc2, HC.out.2.trans hs2⟩
    clear hc2 hs2 HC H2 H3 H4
    go_wp2_with fail
    go_ret
    exact ⟨rfl, HC2.out⟩
set_option maxHeartbeats 1000000 in
theorem ev_step {w0 : World} {c : Nat} {G : World → Prop} {g : Nat → PT → Bool} {f : FuncId} {first cap : Array Value} {eb : Nat} (hG : Goods w0 c G) (hP : PassOk w0 c G g f first cap) (hE : Enters f) (hne : eb ≠ c) (p : PT) (hi : In w0 p)
    (ih : ∀ q ∈ p.l, EvOk c G g f first cap eb q) : EvOk c G g f first cap eb p := by
  intro w n hg he hn hs
  obtain ⟨r, hr⟩ : ∃ r, ev g n p = r := ⟨_, rfl⟩
  have H : Hid (∀ o1 o2, Calls Tryd.prog 92 #[p.val, ME eb, .pointer (some ⟨eb, 0, none⟩)] ((w.alloc o1).alloc o2) fun e w' => e = .returned (.bool r.1) ∧ Cnt w' c r.2 ∧ Sv (· = c) w w') := by
    intro o1 o2
    have ha : Sv (· = c) w ((w.alloc o1).alloc o2) := (Sv.alloc _ _ _).trans (Sv.alloc _ _ _)
    rw [← hr]
    refine Calls.mono (every1_any hG hP hE hne p hi ih _ n (hG.on _ _ hg ha) (cell_alloc (cell_alloc he _) _) ((hn.alloc _).alloc _) hs) ?_
    rintro e w' ⟨h1, h2, h3⟩
    exact ⟨h1, h2, ha.trans h3⟩
  rw [hr]
  clear hG hP hE ih hg he hn hs hi hr
  unfold PT.val at *
  go_enter Tryd.func80, Tryd.ntmps80
  go_wp2_with fail
  refine Calls.mono (H.out _ _) ?_
  rintro e w1 ⟨rfl, hc1⟩
  have HC : Hid _ := hc1
  clear hc1 H
  go_wp2_with fail
  go_ret
  exact ⟨rfl, HC.out⟩
theorem ev_ok {w0 : World} {c : Nat} {G : World → Prop} {g : Nat → PT → Bool} {f : FuncId} {first cap : Array Value} {eb : Nat} (hG : Goods w0 c G) (hP : PassOk w0 c G g f first cap) (hE : Enters f) (hne : eb ≠ c) (p : PT) (hi : In w0 p) : EvOk c G g f first cap eb p := by
  induction p using PT.ind with
  | h p ih => exact ev_step hG hP hE hne p hi fun q hq => ih q hq (hi.part q hq)
set_option maxHeartbeats 1000000 in
/-- every, of a function that counts. -/
theorem every_any {w0 : World} {c : Nat} {G : World → Prop} {g : Nat → PT → Bool} {f : FuncId} {first cap : Array Value} (hG : Goods w0 c G) (hP : PassOk w0 c G g f first cap) (hE : Enters f) (p : PT) (hi : In w0 p) (w : World) (n : Nat) (hg : G w) (hn : Cnt w c n) (hs : n + p.size ≤ 1000000) :
    Calls Tryd.prog 85 #[p.val, FV f first cap] w fun e w' => e = .returned (.bool (ev g n p).1) ∧ Cnt w' c (ev g n p).2 ∧ Sv (· = c) w w' := by
  obtain ⟨r, hr⟩ : ∃ r, ev g n p = r := ⟨_, rfl⟩
  have hclt := hn.lt
  have H : Hid (∀ o1 o3, Calls Tryd.prog 80 #[.agg #[FE (w.heap.size + 1)], p.val] (((w.alloc o1).alloc (.cells #[FV f first cap] 85)).alloc o3) fun e w' => e = .returned (.bool r.1) ∧ Cnt w' c r.2 ∧ Sv (· = c) w w') := by
    intro o1 o3
    have ha : Sv (· = c) w (((w.alloc o1).alloc (.cells #[FV f first cap] 85)).alloc o3) := ((Sv.alloc _ _ _).trans (Sv.alloc _ _ _)).trans (Sv.alloc _ _ _)
    rw [← hr]
    refine Calls.mono (ev_ok hG hP hE (eb := w.heap.size + 1) (by omega) p hi _ n (hG.on _ _ hg ha) (cell_alloc (by simp [go_sem]) _) (((hn.alloc _).alloc _).alloc _) hs) ?_
    rintro e w' ⟨h1, h2, h3⟩
    exact ⟨h1, h2, ha.trans h3⟩
  rw [hr]
  clear hG hP hE hg hn hs hi hr hclt
  unfold PT.val at *
  go_enter Tryd.func85, Tryd.ntmps85
  go_wp2_with fail
  refine Calls.mono (H.out _ _) ?_
  rintro e w1 ⟨rfl, hc1⟩
  have HC : Hid _ := hc1
  clear hc1 H
  go_wp2_with fail
  go_ret
  exact ⟨rfl, HC.out⟩
theorem cnt_next {w : World} {c n : Nat} (o : Obj) (h : Cnt w c n) : Cnt ((w.setCell ⟨c, 0, none⟩ (.int .i64 ((n : Int) + 1))).alloc o) c (n + 1) ∧ Sv (· = c) w ((w.setCell ⟨c, 0, none⟩ (.int .i64 ((n : Int) + 1))).alloc o) := by
  have hs : Cnt (w.setCell ⟨c, 0, none⟩ (.int .i64 ((n : Int) + 1))) c (n + 1) := by
    refine ⟨?_, ?_⟩
    · rw [World.cell?_setCell_same' _ _ _ (by rw [h.1]; rfl)]; simp
    · rw [World.frozen?_setCell]; exact h.2
  have ht : Sv (· = c) w (w.setCell ⟨c, 0, none⟩ (.int .i64 ((n : Int) + 1))) := ⟨rfl, rfl, rfl, by simp [World.setCell], fun k hk hx => Below.heap_setCell _ _ _ _ hx⟩
  exact ⟨hs.alloc o, ht.trans (Sv.alloc _ _ _)⟩
end Go.Proofs.YtkkbbpldeeajaaaDoor.Val
/- What pred.Check answers. -/
namespace Go.Proofs.YtkkbbpldeeajaaaDoor.Val
open Go.RowKit

theorem enters_may1 : Enters 86 := enters_of Tryd.func86 (by decide +kernel) rfl
/-- May it be a table's? -/
def mayP (cols : List Bool) (p : PT) : Bool := decide (p.size ≤ 15) && okP (suitP cols) p
theorem mayP_ev (cols : List Bool) (p : PT) : (ev (upto (suitP cols)) 0 p).1 = mayP cols p := by
  have := (ev_upto (suitP cols) p 0).1
  rw [Bool.eq_iff_iff, this, mayP]
  simp
set_option maxHeartbeats 1000000 in
theorem may1_ok (w0 : World) (c tb : Nat) (vc : Value) (cols : List Bool) (h0 : BoolsIn w0 vc cols) (hne : tb ≠ c) (hc : w0.heap.size ≤ c) :
    PassOk w0 c (fun w => Below w0.heap.size w0 w ∧ w.cell? ⟨tb, 0, none⟩ = some vc) (upto (suitP cols)) 86 #[] #[.pointer (some ⟨c, 0, none⟩), .pointer (some ⟨tb, 0, none⟩)] := by
  rintro p w n hi ⟨hg, ht⟩ hn hs
  have hlt := hn.lt
  have hltt : tb < w.heap.size := World.block_lt_of_cell? w _ ht
  obtain ⟨a, ha⟩ : ∃ a, suitP cols p = a := ⟨_, rfl⟩
  have HN : Hid (∀ o, Cnt ((w.setCell ⟨c, 0, none⟩ (.int .i64 ((n : Int) + 1))).alloc o) c (n + 1) ∧ Sv (· = c) w ((w.setCell ⟨c, 0, none⟩ (.int .i64 ((n : Int) + 1))).alloc o)) := fun o => cnt_next o hn
  have HS : Hid (∀ o, Calls Tryd.prog 87 #[.agg #[vc], p.val] ((w.setCell ⟨c, 0, none⟩ (.int .i64 ((n : Int) + 1))).alloc o) fun e w' => e = .returned (.bool a) ∧ Below ((w.setCell ⟨c, 0, none⟩ (.int .i64 ((n : Int) + 1))).alloc o).heap.size ((w.setCell ⟨c, 0, none⟩ (.int .i64 ((n : Int) + 1))).alloc o) w') := fun o => by
    have hb : Below w0.heap.size w0 ((w.setCell ⟨c, 0, none⟩ (.int .i64 ((n : Int) + 1))).alloc o) := hg.trans ((cnt_next o hn).2.below hg.size fun k hk e => by omega)
    rw [← ha]; exact psuits_any vc cols p _ (h0.below hb) (hi.keep hb)
  obtain ⟨h1, h2⟩ := hn
  have n0 : (0 : Int) ≤ (n : Int) := by omega
  have n1 : (n : Int) < 1000000 := by omega
  show Calls Tryd.prog 86 #[p.val, .pointer (some ⟨c, 0, none⟩), .pointer (some ⟨tb, 0, none⟩)] w _
  clear hi hg hs h0 hc
  by_cases h15 : n + 1 ≤ 15
  · have HU : Hid (upto (suitP cols) (n + 1) p = a) := by rw [Hid, upto, ha, decide_eq_true h15]; rfl
    have j1 : (n : Int) + 1 ≤ 15 := by omega
    rw [HU.out]
    clear ha HU
    unfold PT.val at *
    go_enter Tryd.func86, Tryd.ntmps86
    go_wp2_with fail
    refine Calls.mono (HS.out _) ?_
    rintro e w1 ⟨rfl, hb⟩
    have HC : Hid (Cnt w1 c (n + 1) ∧ Sv (· = c) w w1) := by
      obtain ⟨k1, k2⟩ := HN.out (pobj p 29)
      exact ⟨⟨by rw [hb.cell k1.lt]; exact k1.1, by rw [hb.frozen k1.lt]; exact k1.2⟩, k2.trans (Sv.of hb)⟩
    clear hb HN HS
    go_wp2_with fail
    go_ret
    exact ⟨rfl, HC.out⟩
  · have HU : Hid (upto (suitP cols) (n + 1) p = false) := by rw [Hid, upto, decide_eq_false h15]; rfl
    have j1 : decide ((n : Int) + 1 ≤ 15) = false := by simp; omega
    rw [HU.out]
    clear ha HU HS
    unfold PT.val at *
    go_enter Tryd.func86, Tryd.ntmps86
    go_wp2_with fail
    go_ret
    exact ⟨rfl, HN.out _⟩
set_option maxHeartbeats 1000000 in
theorem mayBe_any (vc : Value) (cols : List Bool) (p : PT) (w : World) (h : BoolsIn w vc cols) (hi : In w p) (hs : p.size ≤ 1000000) :
    Calls Tryd.prog 75 #[.agg #[vc], p.val] w fun e w' => e = .returned (.bool (mayP cols p)) ∧ Below w.heap.size w w' := by
  obtain ⟨a, ha⟩ : ∃ a, mayP cols p = a := ⟨_, rfl⟩
  have H : Hid (∀ w2, Below w.heap.size w w2 → w2.cell? ⟨w.heap.size, 0, none⟩ = some vc → Cnt w2 (w.heap.size + 1 + 1) 0 → Calls Tryd.prog 85 #[p.val, FV 86 #[] #[.pointer (some ⟨w.heap.size + 1 + 1, 0, none⟩), .pointer (some ⟨w.heap.size, 0, none⟩)]] w2 fun e w' => e = .returned (.bool a) ∧ Below w.heap.size w w') := by
    intro w2 hb ht h0
    have hg : Goods w (w.heap.size + 1 + 1) (fun w1 => Below w.heap.size w w1 ∧ w1.cell? ⟨w.heap.size, 0, none⟩ = some vc) := ⟨fun _ h => h.1, fun a b h1 h2 => ⟨h1.1.trans (h2.below h1.1.size fun k hk e => by omega), by rw [h2.cell (World.block_lt_of_cell? a _ h1.2) (by simp only; omega)]; exact h1.2⟩⟩
    refine Calls.mono (every_any hg (may1_ok w _ _ vc cols h (by omega) (by omega)) enters_may1 p hi w2 0 ⟨hb, ht⟩ h0 (by omega)) ?_
    rw [mayP_ev, ha]
    rintro e w' ⟨rfl, h1, h2⟩
    exact ⟨rfl, hb.trans (h2.below hb.size fun k hk e => by omega)⟩
  rw [ha]
  clear hi hs ha h
  unfold PT.val at *
  go_enter Tryd.func75, Tryd.ntmps75
  go_wp2_with fail
  refine Calls.mono (H.out _ (back2 (alloc1 _ _)) (by simp [go_sem]) ⟨by simp [go_sem], by simp [go_sem]⟩) ?_
  rintro e w1 ⟨rfl, hb1⟩
  have HB : Hid _ := hb1
  clear hb1 H
  go_wp2_with fail
  go_ret
  exact ⟨rfl, HB.out⟩
/-- What Check answers. -/
def checkN (cols : List Bool) (p : PT) : Int := if mayT cols then (if mayP cols p then 0 else 30) else 1
set_option maxHeartbeats 1000000 in
theorem pcheck_any (vc : Value) (cols : List Bool) (p : PT) (w : World) (h : BoolsIn w vc cols) (hi : In w p) (hs : p.size ≤ 1000000) :
    Calls Tryd.prog 61 #[.agg #[vc], p.val] w fun e w' => e = .returned (.int .i64 (checkN cols p)) ∧ Below w.heap.size w w' := by
  obtain ⟨a, ha⟩ : ∃ a, mayP cols p = a := ⟨_, rfl⟩
  obtain ⟨t, ht⟩ : ∃ t, mayT cols = t := ⟨_, rfl⟩
  have H1 : Hid (∀ w1, Below w.heap.size w w1 → Calls Tryd.prog 57 #[.agg #[vc]] w1 fun e w' => e = .returned (.int .i64 (errIf (!t) 1)) ∧ Below w1.heap.size w1 w') := fun w1 hb => by rw [← ht]; exact check_any vc cols w1 (h.below hb)
  have H2 : Hid (∀ w1, Below w.heap.size w w1 → Calls Tryd.prog 75 #[.agg #[vc], p.val] w1 fun e w' => e = .returned (.bool a) ∧ Below w1.heap.size w1 w') := fun w1 hb => by rw [← ha]; exact mayBe_any vc cols p w1 (h.below hb) (hi.keep hb) hs
  have HK : Hid (checkN cols p = if t then (if a then 0 else 30) else 1) := by rw [Hid, checkN, ha, ht]
  rw [HK.out]
  clear ha ht h hi hs HK
  unfold PT.val at *
  go_enter Tryd.func61, Tryd.ntmps61
  go_wp2_with fail
  refine Calls.mono (H1.out _ (back1 (alloc1 _ _))) ?_
  rintro e w1 ⟨rfl, hb⟩
  have HB : Hid (Below w.heap.size w w1) := back2 hb
  cases t
  · clear hb H1 H2
    simp only [errIf, Bool.not_false, if_true]
    go_wp2_with fail
    go_ret
    exact ⟨rfl, HB.out⟩
  · simp only [errIf, Bool.not_true, Bool.false_eq_true, if_false]
    have t0 : w1.cell? ⟨w.heap.size, 0, none⟩ = some vc := by rw [hb.cell (by simp; omega)]; simp [go_sem]
    obtain ⟨b0, b1, b2, b3, b4, b5, b6, b7, b8⟩ := (Box.new (w.alloc (.cells #[vc] 50)) p 29).below hb
    have z : (w.alloc (.cells #[vc] 50)).heap.size = w.heap.size + 1 := by simp
    rw [z] at b0 b1 b2 b3 b4 b5 b6 b7 b8
    clear hb z H1
    go_wp2_with fail
    refine Calls.mono (H2.out _ HB.out) ?_
    rintro e w2 ⟨rfl, hb2⟩
    have HB2 : Hid (Below w.heap.size w w2) := on HB.out hb2
    clear hb2 HB H2 t0 b0 b1 b2 b3 b4 b5 b6 b7 b8
    cases a
    · go_wp2_with fail
      go_ret
      exact ⟨rfl, HB2.out⟩
    · go_wp2_with fail
      go_ret
      exact ⟨rfl, HB2.out⟩
end Go.Proofs.YtkkbbpldeeajaaaDoor.Val
/- Plain: when two predicates are the same. -/
namespace Go.Proofs.YtkkbbpldeeajaaaDoor.Val
open Go.RowKit

theorem bare_iff (p q : PT) : p.bare = q.bare ↔ p.op = q.op ∧ p.col = q.col ∧ p.v = q.v ∧ p.w = q.w ∧ p.l.map PT.bare = q.l.map PT.bare := by
  cases p with | mk o c v u lv l => cases q with | mk o' c' v' u' lv' l' =>
  rw [bare_mk, bare_mk]
  simp
theorem take_bare {l m : List PT} {k : Nat} (hk : k < l.length) (hk' : k < m.length) (h : (l.take k).map PT.bare = (m.take k).map PT.bare) : ((l.take (k + 1)).map PT.bare = (m.take (k + 1)).map PT.bare) ↔ l[k].bare = m[k].bare := by
  rw [List.take_add_one, List.take_add_one, List.map_append, List.map_append, h, List.append_cancel_left_eq, List.getElem?_eq_getElem hk, List.getElem?_eq_getElem hk']
  simp
theorem take_ne {l m : List PT} {k : Nat} (hk : k < l.length) (hk' : k < m.length) (h : l[k].bare ≠ m[k].bare) : l.map PT.bare ≠ m.map PT.bare := by
  intro e
  have := congrArg (fun x => x[k]?) e
  simp [hk, hk'] at this
  exact h this
def SameOk (f : FuncId) (p q : PT) : Prop := ∀ w, In w p → In w q → Calls Tryd.prog f #[p.val, q.val] w fun e w' => ∃ b, e = .returned (.bool b) ∧ (b = true ↔ p.bare = q.bare) ∧ Below w.heap.size w w'
end Go.Proofs.YtkkbbpldeeajaaaDoor.Val
/- What pred.Same answers. -/
namespace Go.Proofs.YtkkbbpldeeajaaaDoor.Val
open Go.RowKit

set_option maxHeartbeats 2000000 in
theorem pequal_len (lv lv' : Value) (l m : List PT) (w : World) (hl : InL w lv l) (hm : InL w lv' m) (h : l.length ≠ m.length) :
    Calls Tryd.prog 62 #[lv, lv', .func (.func 33) #[] #[]] w fun e w' => ∃ b, e = .returned (.bool b) ∧ (b = true ↔ l.map PT.bare = m.map PT.bare) ∧ Below w.heap.size w w' := by
  obtain ⟨ao, c, rfl, hn⟩ := hl.1.slice
  obtain ⟨ao', c', rfl, hn'⟩ := hm.1.slice
  have HX : Hid (l.map PT.bare ≠ m.map PT.bare) := fun e => h (by simpa using congrArg List.length e)
  have h1 : ((l.length : Int) != (m.length : Int)) = true := by rw [bne_iff_ne]; omega
  clear hl hm h
  go_enter Tryd.func62, Tryd.ntmps62
  go_wp2_with fail
  go_ret
  exact ⟨false, rfl, by simpa using HX.out, Below.refl _ _⟩
set_option maxHeartbeats 2000000 in
theorem pequal_any (lv lv' : Value) (l m : List PT) (w : World) (hl : InL w lv l) (hm : InL w lv' m) (ih : ∀ p ∈ l, ∀ q, SameOk 33 p q) :
    Calls Tryd.prog 62 #[lv, lv', .func (.func 33) #[] #[]] w fun e w' => ∃ b, e = .returned (.bool b) ∧ (b = true ↔ l.map PT.bare = m.map PT.bare) ∧ Below w.heap.size w w' := by
  by_cases hlen : l.length = m.length
  case neg => exact pequal_len lv lv' l m w hl hm hlen
  obtain ⟨ao, c, rfl, hn⟩ := hl.1.slice
  obtain ⟨ao', c', rfl, _⟩ := hm.1.slice
  have HL : Hid (InL w (.slice ao l.length c) l ∧ InL w (.slice ao' m.length c') m ∧ ∀ p ∈ l, ∀ q, SameOk 33 p q) := ⟨hl, hm, ih⟩
  have HLen : Hid (l.length = m.length) := hlen
  rw [← hlen] at HL ⊢
  clear hl hm ih hlen
  go_enter Tryd.func62, Tryd.ntmps62
  go_wp2_with fail
  go_loopw [17] (fun i wr => ∃ k : Nat, k ≤ l.length ∧ i = .int .i64 k ∧ Hid ((l.take k).map PT.bare = (m.take k).map PT.bare) ∧ Hid (Below w.heap.size w wr))
    (fun i _ => l.length - (intOf i).toNat)
  case atStart => exact ⟨0, Nat.zero_le _, rfl, by simp [Hid], Below.refl _ _⟩
  case round =>
    obtain ⟨k, hk, rfl, HT, HB⟩ := hrel
    by_cases h1 : k < l.length
    · have i0 : (0 : Int) ≤ (k : Int) := by omega
      have i1 : (k : Int) < (l.length : Int) := by omega
      have h2 : k < m.length := by rw [← HLen.out]; exact h1
      obtain ⟨b, o, rfl, hat⟩ := lies_at (HL.out.1.1.below HB.out) k h1
      obtain ⟨b', o', rfl, hat'⟩ := lies_at (HL.out.2.1.1.below HB.out) k h2
      have hp : In wr l[k] := (HL.out.1.2 _ (List.getElem_mem h1)).keep HB.out
      have hq : In wr m[k] := (HL.out.2.1.2 _ (List.getElem_mem h2)).keep HB.out
      have HQ : Hid (∀ w1, Below wr.heap.size wr w1 → Calls Tryd.prog 33 #[l[k].val, m[k].val] w1 fun e w' => ∃ b, e = .returned (.bool b) ∧ (b = true ↔ l[k].bare = m[k].bare) ∧ Below w1.heap.size w1 w') :=
        fun w1 hb => HL.out.2.2 _ (List.getElem_mem h1) _ w1 (hp.keep hb) (hq.keep hb)
      obtain ⟨ak, ck, hlk, _⟩ := hp.lies.slice
      obtain ⟨ak', ck', hlk', _⟩ := hq.lies.slice
      obtain ⟨c0, c1, c2, c3, c4, c5, c6, c7, c8⟩ := hat
      obtain ⟨d0, d1, d2, d3, d4, d5, d6, d7, d8⟩ := hat'
      unfold PT.val at HQ
      rw [hlk] at c8 HQ
      rw [hlk'] at d8 HQ
      have hbl : b < wr.heap.size := World.block_lt_of_cell? _ _ c0
      have hbl' : b' < wr.heap.size := World.block_lt_of_cell? _ _ d0
      clear hlk hlk' hp hq
      go_wp2_with fail
      refine Calls.mono (HQ.out _ (back1 (alloc1 _ _))) ?_
      rintro e w1 ⟨b, rfl, hiff, hb1⟩
      have HB1 : Hid (Below w.heap.size w w1) := on HB.out (back2 hb1)
      cases b
      · have HX : Hid (l.map PT.bare ≠ m.map PT.bare) := take_ne h1 h2 (by simpa using hiff)
        clear hiff hb1 HB HT HQ HL c0 c1 c2 c3 c4 c5 c6 c7 c8 d0 d1 d2 d3 d4 d5 d6 d7 d8
        go_wp2_with fail
        go_ret
        exact ⟨false, rfl, by simpa using HX.out, HB1.out⟩
      · have HX : Hid ((l.take (k + 1)).map PT.bare = (m.take (k + 1)).map PT.bare) := (take_bare h1 h2 HT.out).2 (hiff.1 rfl)
        clear hiff hb1 HB HT HQ HL c0 c1 c2 c3 c4 c5 c6 c7 c8 d0 d1 d2 d3 d4 d5 d6 d7 d8
        go_wp2_with fail
        go_roundw
        case rel => exact ⟨k + 1, by omega, by go_num, HX, HB1⟩
        case measure => simp [intOf]; omega
    · have i1 : decide ((k : Int) < (l.length : Int)) = false := by simp; omega
      obtain rfl : k = l.length := by omega
      have HX : Hid (l.map PT.bare = m.map PT.bare) := by have := HT.out; rw [List.take_length, HLen.out, List.take_length] at this; exact this
      clear HL HT
      go_wp2_with fail
      go_ret
      exact ⟨true, rfl, by simpa using HX.out, HB.out⟩
set_option maxHeartbeats 2000000 in
theorem same_step (p : PT) (ih : ∀ x ∈ p.l, ∀ y, SameOk 33 x y) (q : PT) : SameOk 33 p q := by
  intro w hp hq
  have H : Hid (∀ w1, Below w.heap.size w w1 → Calls Tryd.prog 62 #[p.lv, q.lv, .func (.func 33) #[] #[]] w1 fun e w' => ∃ b, e = .returned (.bool b) ∧ (b = true ↔ p.l.map PT.bare = q.l.map PT.bare) ∧ Below w1.heap.size w1 w') :=
    fun w1 hb => pequal_any _ _ _ _ w1 (hp.list.below hb) (hq.list.below hb) ih
  have HI : Hid (p.bare = q.bare ↔ p.op = q.op ∧ p.col = q.col ∧ p.v = q.v ∧ p.w = q.w ∧ p.l.map PT.bare = q.l.map PT.bare) := bare_iff p q
  have ev := fun w => eql_V p.v q.v w
  have eu := fun w => eql_V p.w q.w w
  clear hp hq ih
  unfold PT.val
  cases h1 : (p.op == q.op)
  · have HX : Hid (¬ p.bare = q.bare) := fun e => by have := (HI.out.1 e).1; simp [this] at h1
    clear HI H
    go_enter Tryd.func33, Tryd.ntmps33
    go_wp2_with fail
    go_ret
    exact ⟨false, rfl, by simpa using HX.out, back1 (alloc1 _ _)⟩
  cases h2 : (p.col == q.col)
  · have HX : Hid (¬ p.bare = q.bare) := fun e => by have := (HI.out.1 e).2.1; simp [this] at h2
    clear HI H
    go_enter Tryd.func33, Tryd.ntmps33
    go_wp2_with fail
    go_ret
    exact ⟨false, rfl, by simpa using HX.out, back1 (alloc1 _ _)⟩
  cases h3 : eqV p.v q.v
  · have HX : Hid (¬ p.bare = q.bare) := fun e => by have := eqV_iff.2 (HI.out.1 e).2.2.1; simp [this] at h3
    clear HI H
    go_enter Tryd.func33, Tryd.ntmps33
    go_wp2_with fail
    go_ret
    exact ⟨false, rfl, by simpa using HX.out, back1 (alloc1 _ _)⟩
  cases h4 : eqV p.w q.w
  · have HX : Hid (¬ p.bare = q.bare) := fun e => by have := eqV_iff.2 (HI.out.1 e).2.2.2.1; simp [this] at h4
    clear HI H
    go_enter Tryd.func33, Tryd.ntmps33
    go_wp2_with fail
    go_ret
    exact ⟨false, rfl, by simpa using HX.out, back1 (alloc1 _ _)⟩
  have HX : Hid (p.bare = q.bare ↔ p.l.map PT.bare = q.l.map PT.bare) := by
    have e1 : p.op = q.op := by simpa using h1
    have e2 : p.col = q.col := by simpa using h2
    exact ⟨fun e => (HI.out.1 e).2.2.2.2, fun e => HI.out.2 ⟨e1, e2, eqV_iff.1 h3, eqV_iff.1 h4, e⟩⟩
  clear HI
  go_enter Tryd.func33, Tryd.ntmps33
  go_wp2_with fail
  refine Calls.mono (H.out _ (back1 (alloc1 _ _))) ?_
  rintro e w1 ⟨b, rfl, hiff, hb1⟩
  have HY : Hid (b = true ↔ p.bare = q.bare) := hiff.trans HX.out.symm
  clear hiff HX H
  go_wp2_with fail
  go_ret
  exact ⟨b, rfl, HY.out, back2 hb1⟩
theorem psame_any (p : PT) : ∀ q, SameOk 33 p q := by
  induction p using PT.ind with
  | h p ih => exact same_step p ih
end Go.Proofs.YtkkbbpldeeajaaaDoor.Val
/- What pred.Clone, And and Above answer: the same, in memory of its own. -/
namespace Go.Proofs.YtkkbbpldeeajaaaDoor.Val
open Go.RowKit

/-- What Clone answers of one. -/
def CloneOk (f : FuncId) (p : PT) : Prop := ∀ w, In w p → p.size ≤ 1000000 → Calls Tryd.prog f #[p.val] w fun e w' => ∃ q : PT, e = .returned q.val ∧ q.bare = p.bare ∧ New w' TP (fun b => w.heap.size ≤ b) q ∧ Below w.heap.size w w'
set_option maxHeartbeats 2000000 in
theorem cloned_any (lv : Value) (l : List PT) (w : World) (hl : InL w lv l) (hs : sizeL l ≤ 1000000) (ih : ∀ q ∈ l, CloneOk 52 q) :
    Calls Tryd.prog 70 #[lv] w fun e w' => ∃ v' m, e = .returned v' ∧ m.map PT.bare = l.map PT.bare ∧ NewL w' TP (fun b => w.heap.size ≤ b) v' m ∧ Below w.heap.size w w' := by
  obtain ⟨i0, hi, hz0, hz1, hz2⟩ := info_parts info_P
  have I0 : Hid (Tryd.prog.info? 29 = some i0 ∧ i0.zero = some (PV 0 0 false 0 ⟨#[]⟩ false 0 ⟨#[]⟩ (.slice none 0 0)) ∧ i0.size = 9 ∧ i0.bytes = 104) := ⟨hi, hz0, hz1, hz2⟩
  clear hi hz0 hz1 hz2
  obtain ⟨ao, c, rfl, hn⟩ := hl.1.slice
  have hlen : l.length ≤ 1000000 := Nat.le_trans (length_sizeL l) hs
  have HL : Hid (InL w (.slice ao l.length c) l ∧ sizeL l ≤ 1000000 ∧ ∀ q ∈ l, CloneOk 52 q) := ⟨hl, hs, ih⟩
  clear hl hs ih
  go_enter Tryd.func70, Tryd.ntmps70
  go_wp2_with fail
  go_loopw [3, 8] (fun own i wr => ∃ k : Nat, k ≤ l.length ∧ i = .int .i64 k ∧ Hid (CL w wr TP l k own))
    (fun _ i _ => l.length - (intOf i).toNat)
  case atStart => exact ⟨0, Nat.zero_le _, rfl, CL.start w TP l⟩
  case round =>
    obtain ⟨k, hk, rfl, HK⟩ := hrel
    by_cases h1 : k < l.length
    · have i0' : (0 : Int) ≤ (k : Int) := by omega
      have i1 : (k : Int) < (l.length : Int) := by omega
      have hbw : Below w.heap.size w wr := by obtain ⟨_, _, _, _, h⟩ := HK.out; exact h
      obtain ⟨b, o, rfl, hat⟩ := lies_at (HL.out.1.1.below hbw) k h1
      have hmem : l[k] ∈ l := List.getElem_mem h1
      have hink : In wr l[k] := (HL.out.1.2 _ hmem).keep hbw
      have HQ : Hid (∀ w1, Below wr.heap.size wr w1 → Calls Tryd.prog 52 #[l[k].val] w1 fun e w' => ∃ q : PT, e = .returned q.val ∧ q.bare = l[k].bare ∧ New w' TP (fun b => w1.heap.size ≤ b) q ∧ Below w1.heap.size w1 w') :=
        fun w1 hb => HL.out.2.2 _ hmem w1 (hink.keep hb) (Nat.le_trans (sizeL_mem hmem) HL.out.2.1)
      obtain ⟨ak, ck, hlk, _⟩ := hink.lies.slice
      obtain ⟨c0, c1, c2, c3, c4, c5, c6, c7, c8⟩ := hat
      unfold PT.val at HQ
      rw [hlk] at c8 HQ
      have HLK : Hid (l[k].lv = .slice ak l[k].l.length ck) := hlk
      have hbl : b < wr.heap.size := World.block_lt_of_cell? _ _ c0
      clear hlk hmem hink hbw
      go_wp2_with fail
      refine Calls.mono (HQ.out _ (alloc1 _ _)) ?_
      rintro e w1 ⟨q, rfl, hqb, hqn, hb1⟩
      obtain ⟨aq, cq, hlq⟩ := hqn.row.slice
      have hb1' : Below wr.heap.size wr w1 := back1 hb1
      obtain ⟨m, hown, hsz, hnext⟩ := CL.owns HK.out (wb := w1.alloc (pobj q 29)) (on hb1' (alloc1 _ _))
      have HN : Hid _ := hnext
      have HA : Hid (q.bare = l[k].bare ∧ New w1 TP (fun b => (wr.alloc (pobj l[k] 29)).heap.size ≤ b) q ∧ Below (wr.alloc (pobj l[k] 29)).heap.size (wr.alloc (pobj l[k] 29)) w1) := by
        rw [← HLK.out] at hqn hb1; exact ⟨hqb, hqn, hb1⟩
      have HW : Hid ((w1.alloc (pobj q 29)).ownsRow w.heap.size TP 9 u3 k (m.flatMap PT.cells) ∧ w.heap.size ≤ (w1.alloc (pobj q 29)).heap.size) := ⟨hown, hsz⟩
      have HQL : Hid (q.lv = .slice aq q.l.length cq) := hlq
      clear hqb hqn hb1 hb1' hnext hown hsz c0 c1 c2 c3 c4 c5 c6 c7 c8 hlq HQ
      go_wp2_with (at_builtin; refine wpList_append_own_at _ rfl _ _ _ rfl w.heap.size TP i0 _ 9 104 Tryd.underlying27 I0.out.1 I0.out.2.1 I0.out.2.2.1 I0.out.2.2.2 rfl (by decide) u3 k (m.flatMap PT.cells) rfl HW.out.1 ⟨w1.heap.size, 0, none⟩ 1 1 q.cells rfl rfl (new_cells w1 q _) (one_cells q _ _ _ HQL.out) ?_ ?_ HW.out.2 ?_)
      · unfold maxLen; omega
      · omega
      · intro v' w2 hown' hgrow _ hat
        have HC : Hid (CL w w2 TP l (k + 1) v') := by
          obtain ⟨a1, a2, a3⟩ := HA.out
          exact HN.out q (wr.alloc (pobj l[k] 29)) w2 v' h1 (alloc1 _ _) (on a3 (alloc1 _ _)) a1 (a2.keep (alloc1 _ _)) hown' hgrow (by simpa using hat)
        clear hown' hgrow hat HA HN HW HQL HLK HK
        go_wp2_with fail
        go_roundw
        case rel => exact ⟨k + 1, by omega, by go_num, HC⟩
        case measure => simp [intOf]; omega
    · have i1 : decide ((k : Int) < (l.length : Int)) = false := by simp; omega
      obtain rfl : k = l.length := by omega
      obtain ⟨m, hm1, hm2, hm3⟩ := CL.done HK.out
      have HM : Hid (m.map PT.bare = l.map PT.bare ∧ NewL wr TP (fun b => w.heap.size ≤ b) u3 m ∧ Below w.heap.size w wr) := ⟨hm1, hm2, hm3⟩
      clear hm1 hm2 hm3 HK HL
      go_wp2_with fail
      go_ret
      exact ⟨_, m, rfl, HM.out⟩
set_option maxHeartbeats 1000000 in
theorem clone_step (p : PT) (ih : ∀ q ∈ p.l, CloneOk 52 q) : CloneOk 52 p := by
  intro w hi hs
  have hsz := size_l p
  have H : Hid (∀ w1, Below w.heap.size w w1 → Calls Tryd.prog 70 #[p.lv] w1 fun e w' => ∃ v' m, e = .returned v' ∧ m.map PT.bare = p.l.map PT.bare ∧ NewL w' TP (fun b => w1.heap.size ≤ b) v' m ∧ Below w1.heap.size w1 w') :=
    fun w1 hb => cloned_any p.lv p.l w1 (hi.list.below hb) (by omega) ih
  have HV : Hid (p.v.s.size ≤ maxLen ∧ p.w.s.size ≤ maxLen) := ⟨hi.sv, hi.sw⟩
  obtain ⟨ap, cp, hlp, _⟩ := hi.lies.slice
  clear hi hs hsz ih
  unfold PT.val
  rw [hlp] at H ⊢
  clear hlp
  go_enter Tryd.func52, Tryd.ntmps52
  go_wp2_with fail
  refine Calls.mono (H.out _ (back1 (alloc1 _ _))) ?_
  rintro e w1 ⟨v', m, rfl, hm, hn, hb⟩
  obtain ⟨av, cv, rfl⟩ := hn.slice
  have HM : Hid (m.map PT.bare = p.l.map PT.bare) := hm
  have b0 : w1.cell? ⟨w.heap.size, 0, none⟩ = some (.int .i64 p.op) := by rw [hb.cell (by simp; omega)]; simp [go_sem]
  have b1 : w1.cell? ⟨w.heap.size, 1, none⟩ = some (.int .i64 p.col) := by rw [hb.cell (by simp; omega)]; simp [go_sem]
  have b2 : w1.cell? ⟨w.heap.size, 2, none⟩ = some (.bool p.v.t) := by rw [hb.cell (by simp; omega)]; simp [go_sem]
  have b3 : w1.cell? ⟨w.heap.size, 3, none⟩ = some (.int .i64 p.v.n) := by rw [hb.cell (by simp; omega)]; simp [go_sem]
  have b4 : w1.cell? ⟨w.heap.size, 4, none⟩ = some (.string p.v.s) := by rw [hb.cell (by simp; omega)]; simp [go_sem]
  have b5 : w1.cell? ⟨w.heap.size, 5, none⟩ = some (.bool p.w.t) := by rw [hb.cell (by simp; omega)]; simp [go_sem]
  have b6 : w1.cell? ⟨w.heap.size, 6, none⟩ = some (.int .i64 p.w.n) := by rw [hb.cell (by simp; omega)]; simp [go_sem]
  have b7 : w1.cell? ⟨w.heap.size, 7, none⟩ = some (.string p.w.s) := by rw [hb.cell (by simp; omega)]; simp [go_sem]
  have b8 : w1.cell? ⟨w.heap.size, 8, none⟩ = some (.slice ap p.l.length cp) := by rw [hb.cell (by simp; omega)]; simp [go_sem]
  have f0 : ∀ j, w1.frozen? ⟨w.heap.size, j, none⟩ = false := fun j => by rw [hb.frozen (by simp; omega)]; simp [go_sem]
  have z0 : w1.cell? ⟨w.heap.size + 1, 0, none⟩ = some (.int .i64 0) := by rw [hb.cell (by simp)]; simp [go_sem]
  have z1 : w1.cell? ⟨w.heap.size + 1, 1, none⟩ = some (.int .i64 0) := by rw [hb.cell (by simp)]; simp [go_sem]
  have z2 : w1.cell? ⟨w.heap.size + 1, 2, none⟩ = some (.bool false) := by rw [hb.cell (by simp)]; simp [go_sem]
  have z3 : w1.cell? ⟨w.heap.size + 1, 3, none⟩ = some (.int .i64 0) := by rw [hb.cell (by simp)]; simp [go_sem]
  have z4 : w1.cell? ⟨w.heap.size + 1, 4, none⟩ = some (.string ⟨#[]⟩) := by rw [hb.cell (by simp)]; simp [go_sem]
  have z5 : w1.cell? ⟨w.heap.size + 1, 5, none⟩ = some (.bool false) := by rw [hb.cell (by simp)]; simp [go_sem]
  have z6 : w1.cell? ⟨w.heap.size + 1, 6, none⟩ = some (.int .i64 0) := by rw [hb.cell (by simp)]; simp [go_sem]
  have z7 : w1.cell? ⟨w.heap.size + 1, 7, none⟩ = some (.string ⟨#[]⟩) := by rw [hb.cell (by simp)]; simp [go_sem]
  have z8 : w1.cell? ⟨w.heap.size + 1, 8, none⟩ = some (.slice none 0 0) := by rw [hb.cell (by simp)]; simp [go_sem]
  have f1 : ∀ j, w1.frozen? ⟨w.heap.size + 1, j, none⟩ = false := fun j => by rw [hb.frozen (by simp)]; simp [go_sem]
  have HB : Hid (NewL w1 TP (fun b => w.heap.size + 1 < b) (.slice av m.length cv) m ∧ Below w.heap.size w w1) := ⟨hn.imp fun b h _ => by simp at h; omega, back2 hb⟩
  clear hb hn hm H
  go_wp2_with fail
  refine bodyPost_ret (v := (PT.mk p.op p.col p.v p.w (.slice av m.length cv) m).val) (by simp [results, Tryd.results52, go_sem, PT.val, z0, z1, z2, z3, z4, z5, z6, z7, z8]) rfl ⟨_, rfl, bare_of HM.out, ?_, ?_⟩
  · obtain ⟨⟨h1, h2, h3⟩, h4⟩ := HB.out
    refine .mk HV.out.1 HV.out.2 (owns_sv (X := fun b => b ≤ w.heap.size + 1) h1 ?_ fun g hg => by have := h2 g hg; omega) (fun g hg => by have := h2 g hg; omega) fun q hq => ((h3 q hq).sv (X := fun b => b ≤ w.heap.size + 1) ?_ fun b hb => by omega).imp fun b hb _ => by omega
    all_goals
      repeat (refine Sv.set ?_ (by simp) _)
      exact Sv.refl _ _
  · repeat (refine Below.setCell ?_ (by simp) _)
    exact HB.out.2
theorem clone_ok (p : PT) : CloneOk 52 p := by
  induction p using PT.ind with
  | h p ih => exact clone_step p ih
theorem pclone_any (p : PT) (w : World) (hi : In w p) (hs : p.size ≤ 1000000) :
    Calls Tryd.prog 52 #[p.val] w fun e w' => ∃ q : PT, e = .returned q.val ∧ q.bare = p.bare ∧ New w' TP (fun b => w.heap.size ≤ b) q ∧ Below w.heap.size w w' := clone_ok p w hi hs
end Go.Proofs.YtkkbbpldeeajaaaDoor.Val
/- What the reference's Size answers. -/
namespace Go.Proofs.YtkkbbpldeeajaaaDoor.Val
open Go.RowKit

theorem sizeL_take (l : List PT) (k : Nat) (hk : k < l.length) : sizeL (l.take (k + 1)) = sizeL (l.take k) + l[k].size := by
  unfold sizeL
  rw [List.take_add_one, List.getElem?_eq_getElem hk]
  simp only [Option.toList_some, List.map_append, List.map_cons, List.map_nil, List.sum_append, List.sum_cons, List.sum_nil, Nat.add_zero]
theorem sizeL_le (l : List PT) (k : Nat) : sizeL (l.take k) ≤ sizeL l := by
  induction l generalizing k with
  | nil => simp
  | cons x l ih =>
    cases k with
    | zero => simp [sizeL]
    | succ k => rw [List.take_succ_cons, sizeL_cons, sizeL_cons]; have := ih k; omega
def RSizeOk (p : PT) : Prop := ∀ w, In w p → p.size ≤ 1000000 → Calls Tryd.prog 54 #[p.val] w fun e w' => e = .returned (.int .i64 (p.size : Int)) ∧ Below w.heap.size w w'
set_option maxHeartbeats 1000000 in
theorem rsize_step (p : PT) (ih : ∀ q ∈ p.l, RSizeOk q) : RSizeOk p := by
  intro w hi hs
  have hsz := size_l p
  obtain ⟨ao, c, hlv, hn⟩ := hi.lies.slice
  have HI : Hid (In w p ∧ ∀ q ∈ p.l, RSizeOk q) := ⟨hi, ih⟩
  have HS : Hid (p.size = 1 + sizeL p.l ∧ p.size ≤ 1000000) := ⟨hsz, hs⟩
  have HLV : Hid (p.lv = .slice ao p.l.length c) := hlv
  clear hi ih hsz hs
  unfold PT.val
  rw [hlv]
  clear hlv
  go_enter Tryd.func54, Tryd.ntmps54
  go_wp2_with fail
  go_loopw [3, 4] (fun n i wr => ∃ k : Nat, k ≤ p.l.length ∧ i = .int .i64 k ∧ n = .int .i64 ((1 + sizeL (p.l.take k) : Nat) : Int) ∧ Hid (Below w.heap.size w wr) ∧ wr.cell? ⟨w.heap.size, 8, none⟩ = some (.slice ao p.l.length c))
    (fun _ i _ => p.l.length - (intOf i).toNat)
  case atStart => exact ⟨0, Nat.zero_le _, rfl, by simp [sizeL], alloc1 _ _, by simp [go_sem]⟩
  case round =>
    obtain ⟨k, hk, rfl, rfl, HB, hc⟩ := hrel
    have hlt : w.heap.size < wr.heap.size := World.block_lt_of_cell? _ _ hc
    by_cases h1 : k < p.l.length
    · have i0 : (0 : Int) ≤ (k : Int) := by omega
      have i1 : (k : Int) < (p.l.length : Int) := by omega
      have hin : In wr p := HI.out.1.keep HB.out
      have hl := hin.lies
      rw [HLV.out] at hl
      obtain ⟨b, o, rfl, hat⟩ := lies_at hl k h1
      have hm := List.getElem_mem h1
      have hle := size_part (p := p) hm
      have HQ : Hid (Calls Tryd.prog 54 #[p.l[k].val] wr fun e w' => e = .returned (.int .i64 (p.l[k].size : Int)) ∧ Below wr.heap.size wr w') :=
        HI.out.2 _ hm wr (hin.part _ hm) (by have := HS.out; omega)
      have hst := sizeL_take p.l k h1
      have hsl := sizeL_le p.l (k + 1)
      have s0 : (0 : Int) ≤ ((1 + sizeL (p.l.take k) : Nat) : Int) := by omega
      have s1 : ((1 + sizeL (p.l.take k) : Nat) : Int) + (p.l[k].size : Int) ≤ 1000000 := by have := HS.out; omega
      have s2 : (0 : Int) ≤ (p.l[k].size : Int) := by omega
      have HST : Hid (((1 + sizeL (p.l.take k) : Nat) : Int) + (p.l[k].size : Int) = ((1 + sizeL (p.l.take (k + 1)) : Nat) : Int)) := by rw [Hid, hst]; omega
      clear hst hsl hle hm hl hin
      obtain ⟨c0, c1, c2, c3, c4, c5, c6, c7, c8⟩ := hat
      unfold PT.val at HQ
      generalize ((1 + sizeL (p.l.take k) : Nat) : Int) = m at *
      generalize (p.l[k].size : Int) = t at *
      go_wp2_with fail
      refine Calls.mono HQ.out ?_
      rintro e w1 ⟨rfl, hb⟩
      have HB1 : Hid (Below w.heap.size w w1) := on HB.out hb
      have hc1 := cell_below hc hb
      clear hb HB hc c0 c1 c2 c3 c4 c5 c6 c7 c8 HQ hlt
      go_wp2_with fail
      go_roundw
      case rel => exact ⟨k + 1, by omega, by go_num, by rw [HST.out], HB1, hc1⟩
      case measure => simp [intOf]; omega
    · have i1 : decide ((k : Int) < (p.l.length : Int)) = false := by simp; omega
      obtain rfl : k = p.l.length := by omega
      have HF : Hid (((1 + sizeL (p.l.take p.l.length) : Nat) : Int) = (p.size : Int)) := by rw [Hid, List.take_length, HS.out.1]
      clear HI HS
      go_wp2_with fail
      go_ret
      exact ⟨by rw [HF.out]; rfl, HB.out⟩
theorem rsize_any (p : PT) : RSizeOk p := by
  induction p using PT.ind with
  | h p ih => exact rsize_step p ih
end Go.Proofs.YtkkbbpldeeajaaaDoor.Val
