/- The law's awake answers true, in whatever world. -/
import Derived.Test.YtnfageikacfdoaaPredWalk
import Derived.Test.YtnfageikacfdoaaPredCheck
import Derived.Test.YtnfageikacfdoaaPredClone
import Derived.Test.YtnfageikacfdoaaPredSame
namespace Go.Proofs.Ytnfageikacfdoaa.Val
open Go.RowKit

def vn (n : Int) : Val := ⟨false, n, ⟨#[]⟩⟩
def exP : PT := .mk 9 1 (vn 3) (vn 5) (.slice none 0 0) []
def exN (N : Nat) : PT := .mk 10 0 (vn 0) (vn 0) (.slice (some ⟨N + 3, 0, none⟩) 1 1) [exP]
def exM : PT := .mk 10 0 (vn 0) (vn 0) (.slice none 0 0) []
def exR : List Val := [vn 1, vn 5]
def exC : List Bool := [false, false]
theorem e0 : (⟨#[]⟩ : ByteArray).toList = [] := by rw [ByteArray.toList_eq]
theorem ex_p : holdsP exR exP = true := by simp [exP, exR, holds_mk, leafB, standB, cmpX, cmpV, cmpN, vn]
theorem ex_n (N : Nat) : holdsP exR (exN N) = false := by
  have := ex_p
  simp [exN, holds_mk, this]
theorem ex_sz (N : Nat) : (exN N).size = 2 := by simp [exN, exP, size_mk]
theorem ex_c (N : Nat) : checkN exC (exN N) = 0 := by
  simp [checkN, mayT, exC, mayP, size_mk, okP_mk, suitP, suitO, exN, exP, ofB, isCol, rightV, vn, colAt]
theorem ex_m : checkN exC exM = 30 := by
  simp [checkN, mayT, exC, mayP, okP_mk, suitP, suitO, exM]
/-- What awake lays. -/
structure AW (N : Nat) (w : World) : Prop where
  bools : BoolsIn w (.slice (some ⟨N, 0, none⟩) 2 2) exC
  tb : w.cell? ⟨N + 1, 0, none⟩ = some (.slice (some ⟨N, 0, none⟩) 2 2)
  pb : Box w (N + 2) exP
  part : Lies w (.slice (some ⟨N + 3, 0, none⟩) 1 1) 1 (([exP] : List PT).flatMap PT.cells)
  nb : Box w (N + 4) (exN N)
  row : RowIn w (.slice (some ⟨N + 5, 0, none⟩) 2 2) exR
theorem AW.below {N : Nat} {w w' : World} (h : AW N w) (hb : Below w.heap.size w w') : AW N w' :=
  ⟨h.bools.below hb, cell_below h.tb hb, h.pb.below hb, h.part.below hb, h.nb.below hb, h.row.below hb⟩
theorem in_leaf (w : World) (o c : Int) (v u : Val) (h1 : v.s.size ≤ maxLen) (h2 : u.s.size ≤ maxLen) : In w (.mk o c v u (.slice none 0 0) []) :=
  .mk h1 h2 ⟨none, 0, rfl, Nat.le_refl _, Nat.zero_le _, fun _ => ⟨rfl, rfl⟩, .inl rfl⟩ (by simp)
theorem AW.inP (w : World) : In w exP := in_leaf w _ _ _ _ (by decide) (by decide)
theorem AW.inM (w : World) : In w exM := in_leaf w _ _ _ _ (by decide) (by decide)
theorem AW.inN {N : Nat} {w : World} (h : AW N w) : In w (exN N) := .mk (by decide) (by decide) h.part (by intro p hp; rw [List.mem_singleton] at hp; subst hp; exact AW.inP w)
theorem lies_new (w : World) (N : Nat) (hN : w.heap.size = N) (cs : List Value) (n : Nat) (T : TypeId) (hn : n ≤ maxLen) : Lies (w.alloc (.cells cs.toArray T)) (.slice (some ⟨N, 0, none⟩) n n) n cs := by
  subst hN
  refine ⟨_, n, rfl, Nat.le_refl _, hn, fun h => (by cases h), .inr ⟨w.heap.size, 0, rfl, fun j u hj => ?_⟩⟩
  rw [Nat.zero_add, cell_of_row (w.alloc _) w.heap.size j cs.toArray T (0, 0) (heap_alloc_new w _)]
  simpa using hj
theorem AW.new (w : World) (T1 T2 T3 T4 T5 T6 : TypeId) : AW w.heap.size ((((((w.alloc (.cells #[.bool false, .bool false] T1)).alloc (.cells #[.slice (some ⟨w.heap.size, 0, none⟩) 2 2] T2)).alloc (pobj exP T3)).alloc (pobj exP T4)).alloc (pobj (exN w.heap.size) T5)).alloc (.cells #[.bool false, .int .i64 1, .string ⟨#[]⟩, .bool false, .int .i64 5, .string ⟨#[]⟩] T6)) := by
  refine ⟨?_, ?_, ?_, ?_, ?_, ?_⟩
  · exact (((((lies_new w _ rfl [.bool false, .bool false] 2 _ (by decide)).alloc _).alloc _).alloc _).alloc _).alloc _
  · exact cell_alloc (cell_alloc (cell_alloc (cell_alloc (by simp [go_sem]) _) _) _) _
  · have := ((Box.new ((w.alloc (.cells #[.bool false, .bool false] T1)).alloc (.cells #[.slice (some ⟨w.heap.size, 0, none⟩) 2 2] T2)) exP T3).alloc (pobj exP T4)).alloc (pobj (exN w.heap.size) T5) |>.alloc (.cells #[.bool false, .int .i64 1, .string ⟨#[]⟩, .bool false, .int .i64 5, .string ⟨#[]⟩] T6)
    simpa using this
  · exact ((lies_new _ _ (by simp) (([exP] : List PT).flatMap PT.cells) 1 T4 (by decide)).alloc _).alloc _
  · have := (Box.new ((((w.alloc (.cells #[.bool false, .bool false] T1)).alloc (.cells #[.slice (some ⟨w.heap.size, 0, none⟩) 2 2] T2)).alloc (pobj exP T3)).alloc (pobj exP T4)) (exN w.heap.size) T5).alloc (.cells #[.bool false, .int .i64 1, .string ⟨#[]⟩, .bool false, .int .i64 5, .string ⟨#[]⟩] T6)
    simpa using this
  · exact lies_new _ _ (by simp) (exR.flatMap Val.cells) 2 T6 (by decide)
theorem AW.cells {N : Nat} {w : World} (h : AW N w) : w.cell? ⟨N + 1, 0, none⟩ = some (.slice (some ⟨N, 0, none⟩) 2 2) ∧
    (w.cell? ⟨N + 2, 0, none⟩ = some (.int .i64 9) ∧ w.cell? ⟨N + 2, 1, none⟩ = some (.int .i64 1) ∧ w.cell? ⟨N + 2, 2, none⟩ = some (.bool false) ∧ w.cell? ⟨N + 2, 3, none⟩ = some (.int .i64 3) ∧ w.cell? ⟨N + 2, 4, none⟩ = some (.string ⟨#[]⟩) ∧ w.cell? ⟨N + 2, 5, none⟩ = some (.bool false) ∧ w.cell? ⟨N + 2, 6, none⟩ = some (.int .i64 5) ∧ w.cell? ⟨N + 2, 7, none⟩ = some (.string ⟨#[]⟩) ∧ w.cell? ⟨N + 2, 8, none⟩ = some (.slice none 0 0)) ∧
    (w.cell? ⟨N + 4, 0, none⟩ = some (.int .i64 10) ∧ w.cell? ⟨N + 4, 1, none⟩ = some (.int .i64 0) ∧ w.cell? ⟨N + 4, 2, none⟩ = some (.bool false) ∧ w.cell? ⟨N + 4, 3, none⟩ = some (.int .i64 0) ∧ w.cell? ⟨N + 4, 4, none⟩ = some (.string ⟨#[]⟩) ∧ w.cell? ⟨N + 4, 5, none⟩ = some (.bool false) ∧ w.cell? ⟨N + 4, 6, none⟩ = some (.int .i64 0) ∧ w.cell? ⟨N + 4, 7, none⟩ = some (.string ⟨#[]⟩) ∧ w.cell? ⟨N + 4, 8, none⟩ = some (.slice (some ⟨N + 3, 0, none⟩) 1 1)) :=
  ⟨h.tb, ⟨h.pb.c0, h.pb.c1, h.pb.c2, h.pb.c3, h.pb.c4, h.pb.c5, h.pb.c6, h.pb.c7, h.pb.c8⟩, ⟨h.nb.c0, h.nb.c1, h.nb.c2, h.nb.c3, h.nb.c4, h.nb.c5, h.nb.c6, h.nb.c7, h.nb.c8⟩⟩
theorem aw_p {N : Nat} {w : World} (h : AW N w) : Calls Try.prog 13 #[exP.val, .slice (some ⟨N + 5, 0, none⟩) 2 2] w fun e w' => e = .returned (.bool true) ∧ Below w.heap.size w w' := by
  have := holds_any exP _ exR w (AW.inP w) h.row; rw [ex_p] at this; exact this
theorem aw_n {N : Nat} {w : World} (h : AW N w) : Calls Try.prog 13 #[(exN N).val, .slice (some ⟨N + 5, 0, none⟩) 2 2] w fun e w' => e = .returned (.bool false) ∧ Below w.heap.size w w' := by
  have := holds_any (exN N) _ exR w h.inN h.row; rw [ex_n] at this; exact this
theorem aw_c {N : Nat} {w : World} (h : AW N w) : Calls Try.prog 17 #[.agg #[.slice (some ⟨N, 0, none⟩) 2 2], (exN N).val] w fun e w' => e = .returned (.int .i64 0) ∧ Below w.heap.size w w' := by
  have := pcheck_any _ exC (exN N) w h.bools h.inN (by rw [ex_sz]; decide); rw [ex_c] at this; exact this
theorem aw_m {N : Nat} {w : World} (h : AW N w) : Calls Try.prog 17 #[.agg #[.slice (some ⟨N, 0, none⟩) 2 2], exM.val] w fun e w' => e = .returned (.int .i64 30) ∧ Below w.heap.size w w' := by
  have := pcheck_any _ exC exM w h.bools (AW.inM w) (by simp [exM, size_mk]); rw [ex_m] at this; exact this
theorem aw_s {N : Nat} {w : World} (h : AW N w) : Calls Try.prog 18 #[(exN N).val] w fun e w' => e = .returned (.int .i64 2) ∧ Below w.heap.size w w' := by
  have := size_any (exN N) w h.inN (by rw [ex_sz]; decide); rw [ex_sz] at this; exact this
theorem aw_d {N : Nat} {w : World} (h : AW N w) : Calls Try.prog 20 #[(exN N).val] w fun e w' => ∃ q : PT, e = .returned q.val ∧ (q.bare = (exN N).bare ∧ In w' q) ∧ Below w.heap.size w w' := by
  refine Calls.mono (pclone_any (exN N) w h.inN (by rw [ex_sz]; decide)) ?_
  rintro e w' ⟨q, h1, h2, h3, h4⟩
  exact ⟨q, h1, ⟨h2, h3.isIn⟩, h4⟩
theorem aw_q {N : Nat} {w : World} {q : PT} (h : AW N w) (hq : q.bare = (exN N).bare) (hi : In w q) : Calls Try.prog 22 #[q.val, (exN N).val] w fun e w' => e = .returned (.bool true) ∧ Below w.heap.size w w' := by
  refine Calls.mono (psame_any q (exN N) w hi h.inN) ?_
  rintro e w' ⟨b, h1, h2, h3⟩
  rw [h2.2 hq] at h1
  exact ⟨h1, h3⟩
set_option maxHeartbeats 4000000 in
theorem awake_any (w : World) :
    Calls Try.prog 11 #[] w fun e w' => e = .returned (.bool true) ∧ Below w.heap.size w w' := by
  have A0 : Hid _ := AW.new w 4 34 26 26 26 23
  go_enter Try.func11, Try.ntmps11
  go_wp2_with fail
  have A1 := A0.out.below (Below.refl _ _).drew
  clear A0
  refine wp_region_held_drew (S := fun w' => w'.cell? ⟨w.heap.size + 1, 0, none⟩ = some (.slice (some ⟨w.heap.size, 0, none⟩) 2 2) ∧ (w'.cell? ⟨w.heap.size + 1 + 1, 0, none⟩ = some (.int .i64 9) ∧ w'.cell? ⟨w.heap.size + 1 + 1, 1, none⟩ = some (.int .i64 1) ∧ w'.cell? ⟨w.heap.size + 1 + 1, 2, none⟩ = some (.bool false) ∧ w'.cell? ⟨w.heap.size + 1 + 1, 3, none⟩ = some (.int .i64 3) ∧ w'.cell? ⟨w.heap.size + 1 + 1, 4, none⟩ = some (.string ⟨#[]⟩) ∧ w'.cell? ⟨w.heap.size + 1 + 1, 5, none⟩ = some (.bool false) ∧ w'.cell? ⟨w.heap.size + 1 + 1, 6, none⟩ = some (.int .i64 5) ∧ w'.cell? ⟨w.heap.size + 1 + 1, 7, none⟩ = some (.string ⟨#[]⟩) ∧ w'.cell? ⟨w.heap.size + 1 + 1, 8, none⟩ = some (.slice none 0 0)) ∧ (w'.cell? ⟨w.heap.size + 1 + 1 + 1 + 1, 0, none⟩ = some (.int .i64 10) ∧ w'.cell? ⟨w.heap.size + 1 + 1 + 1 + 1, 1, none⟩ = some (.int .i64 0) ∧ w'.cell? ⟨w.heap.size + 1 + 1 + 1 + 1, 2, none⟩ = some (.bool false) ∧ w'.cell? ⟨w.heap.size + 1 + 1 + 1 + 1, 3, none⟩ = some (.int .i64 0) ∧ w'.cell? ⟨w.heap.size + 1 + 1 + 1 + 1, 4, none⟩ = some (.string ⟨#[]⟩) ∧ w'.cell? ⟨w.heap.size + 1 + 1 + 1 + 1, 5, none⟩ = some (.bool false) ∧ w'.cell? ⟨w.heap.size + 1 + 1 + 1 + 1, 6, none⟩ = some (.int .i64 0) ∧ w'.cell? ⟨w.heap.size + 1 + 1 + 1 + 1, 7, none⟩ = some (.string ⟨#[]⟩) ∧ w'.cell? ⟨w.heap.size + 1 + 1 + 1 + 1, 8, none⟩ = some (.slice (some ⟨w.heap.size + 1 + 1 + 1, 0, none⟩) 1 1))) (by kernel_rfl) ?_ (fun hHeld => ?_)
  · exact A1.cells
  (try clear hK K)
  refine wpAnyH_take (i := 0) (v := ?_) rfl (by kernel_rfl) (by kernel_rfl) (by kernel_rfl) (fun _ _ _ h => h) (Or.inl ⟨by rfl, ?_⟩) (by assumption) ?_
  rotate_left
  · intro w hSw; (try dsimp only at hSw); go_simp; (try with_reducible rfl)
  (try simp only [Act.put, List.getElem_toArray, List.getElem_cons_zero, List.setIfInBounds_toArray, List.set_cons_zero, List.set_cons_succ])
  refine wpAnyH_take (i := 1) (v := ?_) rfl (by kernel_rfl) (by kernel_rfl) (by kernel_rfl) (fun _ _ _ h => h) (Or.inl ⟨by rfl, ?_⟩) (by assumption) ?_
  rotate_left
  · intro w hSw; (try dsimp only at hSw); go_simp; (try with_reducible rfl)
  (try simp only [Act.put, List.getElem_toArray, List.getElem_cons_succ, List.getElem_cons_zero, List.setIfInBounds_toArray, List.set_cons_zero, List.set_cons_succ])
  (try clear hK K)
  refine wpAnyH_ready (rs := [2]) (by kernel_rfl) (by simp) ?_
  refine AllReadyH.cons rfl (fun K hK => ?_) AllReadyH.nil
  go_simp
  (refine Calls.mono (aw_p A1) ?_; rintro e w1 ⟨rfl, hb1⟩; have A2 := A1.below hb1)
  refine hK.out _ _ ?_ (fun hHeld => ?_)
  · exact A2.cells
  (try clear hK K)
  refine wpAnyH_take (i := 3) (v := ?_) rfl (by kernel_rfl) (by kernel_rfl) (by kernel_rfl) (fun _ _ _ h => h) (Or.inl ⟨by rfl, ?_⟩) (by assumption) ?_
  rotate_left
  · intro w hSw; (try dsimp only at hSw); go_simp; (try with_reducible rfl)
  (try simp only [Act.put, List.getElem_toArray, List.getElem_cons_succ, List.getElem_cons_zero, List.setIfInBounds_toArray, List.set_cons_zero, List.set_cons_succ])
  refine wpAnyH_take (i := 4) (v := ?_) rfl (by kernel_rfl) (by kernel_rfl) (by kernel_rfl) (fun _ _ _ h => h) (Or.inl ⟨by rfl, ?_⟩) (by assumption) ?_
  rotate_left
  · intro w hSw; (try dsimp only at hSw); go_simp; (try with_reducible rfl)
  (try simp only [Act.put, List.getElem_toArray, List.getElem_cons_succ, List.getElem_cons_zero, List.setIfInBounds_toArray, List.set_cons_zero, List.set_cons_succ])
  refine wpAnyH_take (i := 5) (v := ?_) rfl (by kernel_rfl) (by kernel_rfl) (by kernel_rfl) (fun _ _ _ h => h) (Or.inl ⟨by rfl, ?_⟩) (by assumption) ?_
  rotate_left
  · intro w hSw; (try dsimp only at hSw); go_simp; (try with_reducible rfl)
  (try simp only [Act.put, List.getElem_toArray, List.getElem_cons_succ, List.getElem_cons_zero, List.setIfInBounds_toArray, List.set_cons_zero, List.set_cons_succ])
  (try clear hK K)
  refine wpAnyH_ready (rs := [6]) (by kernel_rfl) (by simp) ?_
  refine AllReadyH.cons rfl (fun K hK => ?_) AllReadyH.nil
  go_simp
  (refine Calls.mono (aw_n A2) ?_; rintro e w2 ⟨rfl, hb2⟩; have A3 := A2.below hb2)
  refine hK.out _ _ ?_ (fun hHeld => ?_)
  · exact A3.cells
  (try clear hK K)
  refine wpAnyH_take (i := 7) (v := ?_) rfl (by kernel_rfl) (by kernel_rfl) (by kernel_rfl) (fun _ _ _ h => h) (Or.inl ⟨by rfl, ?_⟩) (by assumption) ?_
  rotate_left
  · intro w hSw; (try dsimp only at hSw); go_simp; (try with_reducible rfl)
  (try simp only [Act.put, List.getElem_toArray, List.getElem_cons_succ, List.getElem_cons_zero, List.setIfInBounds_toArray, List.set_cons_zero, List.set_cons_succ])
  refine wpAnyH_take (i := 8) (v := ?_) rfl (by kernel_rfl) (by kernel_rfl) (by kernel_rfl) (fun _ _ _ h => h) (Or.inl ⟨by rfl, ?_⟩) (by assumption) ?_
  rotate_left
  · intro w hSw; (try dsimp only at hSw); go_simp; (try with_reducible rfl)
  (try simp only [Act.put, List.getElem_toArray, List.getElem_cons_succ, List.getElem_cons_zero, List.setIfInBounds_toArray, List.set_cons_zero, List.set_cons_succ])
  refine wpAnyH_take (i := 9) (v := ?_) rfl (by kernel_rfl) (by kernel_rfl) (by kernel_rfl) (fun _ _ _ h => h) (Or.inl ⟨by rfl, ?_⟩) (by assumption) ?_
  rotate_left
  · intro w hSw; (try dsimp only at hSw); go_simp; (try with_reducible rfl)
  (try simp only [Act.put, List.getElem_toArray, List.getElem_cons_succ, List.getElem_cons_zero, List.setIfInBounds_toArray, List.set_cons_zero, List.set_cons_succ])
  refine wpAnyH_take (i := 10) (v := ?_) rfl (by kernel_rfl) (by kernel_rfl) (by kernel_rfl) (fun _ _ _ h => h) (Or.inl ⟨by rfl, ?_⟩) (by assumption) ?_
  rotate_left
  · intro w hSw; (try dsimp only at hSw); go_simp; (try with_reducible rfl)
  (try simp only [Act.put, List.getElem_toArray, List.getElem_cons_succ, List.getElem_cons_zero, List.setIfInBounds_toArray, List.set_cons_zero, List.set_cons_succ])
  refine wpAnyH_take (i := 11) (v := ?_) rfl (by kernel_rfl) (by kernel_rfl) (by kernel_rfl) (fun _ _ _ h => h) (Or.inl ⟨by rfl, ?_⟩) (by assumption) ?_
  rotate_left
  · intro w hSw; (try dsimp only at hSw); go_simp; (try with_reducible rfl)
  (try simp only [Act.put, List.getElem_toArray, List.getElem_cons_succ, List.getElem_cons_zero, List.setIfInBounds_toArray, List.set_cons_zero, List.set_cons_succ])
  (try clear hK K)
  refine wpAnyH_ready (rs := [12]) (by kernel_rfl) (by simp) ?_
  refine AllReadyH.cons rfl (fun K hK => ?_) AllReadyH.nil
  go_simp
  (refine Calls.mono (aw_c A3) ?_; rintro e w3 ⟨rfl, hb3⟩; have A4 := A3.below hb3)
  refine hK.out _ _ ?_ (fun hHeld => ?_)
  · exact A4.cells
  (try clear hK K)
  refine wpAnyH_take (i := 13) (v := ?_) rfl (by kernel_rfl) (by kernel_rfl) (by kernel_rfl) (fun _ _ _ h => h) (Or.inl ⟨by rfl, ?_⟩) (by assumption) ?_
  rotate_left
  · intro w hSw; (try dsimp only at hSw); go_simp; (try with_reducible rfl)
  (try simp only [Act.put, List.getElem_toArray, List.getElem_cons_succ, List.getElem_cons_zero, List.setIfInBounds_toArray, List.set_cons_zero, List.set_cons_succ])
  refine wpAnyH_take (i := 14) (v := ?_) rfl (by kernel_rfl) (by kernel_rfl) (by kernel_rfl) (fun _ _ _ h => h) (Or.inl ⟨by rfl, ?_⟩) (by assumption) ?_
  rotate_left
  · intro w hSw; (try dsimp only at hSw); go_simp; (try with_reducible rfl)
  (try simp only [Act.put, List.getElem_toArray, List.getElem_cons_succ, List.getElem_cons_zero, List.setIfInBounds_toArray, List.set_cons_zero, List.set_cons_succ])
  refine wpAnyH_take (i := 15) (v := ?_) rfl (by kernel_rfl) (by kernel_rfl) (by kernel_rfl) (fun _ _ _ h => h) (Or.inl ⟨by rfl, ?_⟩) (by assumption) ?_
  rotate_left
  · intro w hSw; (try dsimp only at hSw); go_simp; (try with_reducible rfl)
  (try simp only [Act.put, List.getElem_toArray, List.getElem_cons_succ, List.getElem_cons_zero, List.setIfInBounds_toArray, List.set_cons_zero, List.set_cons_succ])
  refine wpAnyH_take (i := 16) (v := ?_) rfl (by kernel_rfl) (by kernel_rfl) (by kernel_rfl) (fun _ _ _ h => h) (Or.inl ⟨by rfl, ?_⟩) (by assumption) ?_
  rotate_left
  · intro w hSw; (try dsimp only at hSw); go_simp; (try with_reducible rfl)
  (try simp only [Act.put, List.getElem_toArray, List.getElem_cons_succ, List.getElem_cons_zero, List.setIfInBounds_toArray, List.set_cons_zero, List.set_cons_succ])
  (try clear hK K)
  refine wpAnyH_ready (rs := [17]) (by kernel_rfl) (by simp) ?_
  refine AllReadyH.cons rfl (fun K hK => ?_) AllReadyH.nil
  go_simp
  (refine Calls.mono (aw_s A4) ?_; rintro e w4 ⟨rfl, hb4⟩; have A5 := A4.below hb4)
  refine hK.out _ _ ?_ (fun hHeld => ?_)
  · exact A5.cells
  (try clear hK K)
  refine wpAnyH_take (i := 18) (v := ?_) rfl (by kernel_rfl) (by kernel_rfl) (by kernel_rfl) (fun _ _ _ h => h) (Or.inl ⟨by rfl, ?_⟩) (by assumption) ?_
  rotate_left
  · intro w hSw; (try dsimp only at hSw); go_simp; (try with_reducible rfl)
  (try simp only [Act.put, List.getElem_toArray, List.getElem_cons_succ, List.getElem_cons_zero, List.setIfInBounds_toArray, List.set_cons_zero, List.set_cons_succ])
  refine wpAnyH_take (i := 19) (v := ?_) rfl (by kernel_rfl) (by kernel_rfl) (by kernel_rfl) (fun _ _ _ h => h) (Or.inl ⟨by rfl, ?_⟩) (by assumption) ?_
  rotate_left
  · intro w hSw; (try dsimp only at hSw); go_simp; (try with_reducible rfl)
  (try simp only [Act.put, List.getElem_toArray, List.getElem_cons_succ, List.getElem_cons_zero, List.setIfInBounds_toArray, List.set_cons_zero, List.set_cons_succ])
  refine wpAnyH_take (i := 20) (v := ?_) rfl (by kernel_rfl) (by kernel_rfl) (by kernel_rfl) (fun _ _ _ h => h) (Or.inl ⟨by rfl, ?_⟩) (by assumption) ?_
  rotate_left
  · intro w hSw; (try dsimp only at hSw); go_simp; (try with_reducible rfl)
  (try simp only [Act.put, List.getElem_toArray, List.getElem_cons_succ, List.getElem_cons_zero, List.setIfInBounds_toArray, List.set_cons_zero, List.set_cons_succ])
  refine wpAnyH_take (i := 21) (v := ?_) rfl (by kernel_rfl) (by kernel_rfl) (by kernel_rfl) (fun _ _ _ h => h) (Or.inl ⟨by rfl, ?_⟩) (by assumption) ?_
  rotate_left
  · intro w hSw; (try dsimp only at hSw); go_simp; (try with_reducible rfl)
  (try simp only [Act.put, List.getElem_toArray, List.getElem_cons_succ, List.getElem_cons_zero, List.setIfInBounds_toArray, List.set_cons_zero, List.set_cons_succ])
  refine wpAnyH_take (i := 23) (v := ?_) rfl (by kernel_rfl) (by kernel_rfl) (by kernel_rfl) (fun _ _ _ h => h) (Or.inl ⟨by rfl, ?_⟩) (by assumption) ?_
  rotate_left
  · intro w hSw; (try dsimp only at hSw); go_simp; (try with_reducible rfl)
  (try simp only [Act.put, List.getElem_toArray, List.getElem_cons_succ, List.getElem_cons_zero, List.setIfInBounds_toArray, List.set_cons_zero, List.set_cons_succ])
  (try clear hK K)
  refine wpAnyH_ready (rs := [22]) (by kernel_rfl) (by simp) ?_
  refine AllReadyH.cons rfl (fun K hK => ?_) AllReadyH.nil
  go_simp
  (refine Calls.mono (aw_d A5) ?_; rintro e w5 ⟨q, rfl, hq, hb5⟩; have A6 := A5.below hb5)
  refine hK.out _ _ ?_ (fun hHeld => ?_)
  · exact A6.cells
  (try clear hK K)
  refine wpAnyH_ready (rs := [24]) (by kernel_rfl) (by simp) ?_
  refine AllReadyH.cons rfl (fun K hK => ?_) AllReadyH.nil
  go_simp
  (refine Calls.mono (aw_q A6 hq.1 hq.2) ?_; rintro e w6 ⟨rfl, hb6⟩; have A7 := A6.below hb6)
  refine hK.out _ _ ?_ (fun hHeld => ?_)
  · exact A7.cells
  (try clear hK K)
  refine wpAnyH_take (i := 25) (v := ?_) rfl (by kernel_rfl) (by kernel_rfl) (by kernel_rfl) (fun _ _ _ h => h) (Or.inl ⟨by rfl, ?_⟩) (by assumption) ?_
  rotate_left
  · intro w hSw; (try dsimp only at hSw); go_simp; (try with_reducible rfl)
  (try simp only [Act.put, List.getElem_toArray, List.getElem_cons_succ, List.getElem_cons_zero, List.setIfInBounds_toArray, List.set_cons_zero, List.set_cons_succ])
  refine wpAnyH_take (i := 26) (v := ?_) rfl (by kernel_rfl) (by kernel_rfl) (by kernel_rfl) (fun _ _ _ h => h) (Or.inl ⟨by rfl, ?_⟩) (by assumption) ?_
  rotate_left
  · intro w hSw; (try dsimp only at hSw); go_simp; (try with_reducible rfl)
  (try simp only [Act.put, List.getElem_toArray, List.getElem_cons_succ, List.getElem_cons_zero, List.setIfInBounds_toArray, List.set_cons_zero, List.set_cons_succ])
  refine wpAnyH_take (i := 27) (v := ?_) rfl (by kernel_rfl) (by kernel_rfl) (by kernel_rfl) (fun _ _ _ h => h) (Or.inl ⟨by rfl, ?_⟩) (by assumption) ?_
  rotate_left
  · intro w hSw; (try dsimp only at hSw); go_simp; (try with_reducible rfl)
  (try simp only [Act.put, List.getElem_toArray, List.getElem_cons_succ, List.getElem_cons_zero, List.setIfInBounds_toArray, List.set_cons_zero, List.set_cons_succ])
  refine wpAnyH_take (i := 28) (v := ?_) rfl (by kernel_rfl) (by kernel_rfl) (by kernel_rfl) (fun _ _ _ h => h) (Or.inl ⟨by rfl, ?_⟩) (by assumption) ?_
  rotate_left
  · intro w hSw; (try dsimp only at hSw); go_simp; (try with_reducible rfl)
  (try simp only [Act.put, List.getElem_toArray, List.getElem_cons_succ, List.getElem_cons_zero, List.setIfInBounds_toArray, List.set_cons_zero, List.set_cons_succ])
  (try clear hK K)
  refine wpAnyH_ready (rs := [29]) (by kernel_rfl) (by simp) ?_
  refine AllReadyH.cons rfl (fun K hK => ?_) AllReadyH.nil
  go_simp
  (refine Calls.mono (aw_m A7) ?_; rintro e w7 ⟨rfl, hb7⟩; have A8 := A7.below hb7)
  refine hK.out _ _ ?_ (fun hHeld => ?_)
  · exact A8.cells
  (try clear hK K)
  refine wpAnyH_take (i := 30) (v := ?_) rfl (by kernel_rfl) (by kernel_rfl) (by kernel_rfl) (fun _ _ _ h => h) (Or.inl ⟨by rfl, ?_⟩) (by assumption) ?_
  rotate_left
  · intro w hSw; (try dsimp only at hSw); go_simp; (try with_reducible rfl)
  (try simp only [Act.put, List.getElem_toArray, List.getElem_cons_succ, List.getElem_cons_zero, List.setIfInBounds_toArray, List.set_cons_zero, List.set_cons_succ])
  refine wpAnyH_take (i := 31) (v := ?_) rfl (by kernel_rfl) (by kernel_rfl) (by kernel_rfl) (fun _ _ _ h => h) (Or.inl ⟨by rfl, ?_⟩) (by assumption) ?_
  rotate_left
  · intro w hSw; (try dsimp only at hSw); go_simp; (try with_reducible rfl)
  (try simp only [Act.put, List.getElem_toArray, List.getElem_cons_succ, List.getElem_cons_zero, List.setIfInBounds_toArray, List.set_cons_zero, List.set_cons_succ])
  (try clear hK K)
  refine wpAnyH_take (i := 32) (v := ?_) rfl (by kernel_rfl) (by kernel_rfl) (by kernel_rfl) (fun _ _ _ h => h) (Or.inl ⟨by rfl, ?_⟩) (by assumption) ?_
  rotate_left
  · intro w hSw; (try dsimp only at hSw); go_simp; (try with_reducible rfl)
  (try simp only [Act.put, List.getElem_toArray, List.getElem_cons_succ, List.getElem_cons_zero, List.setIfInBounds_toArray, List.set_cons_zero])
  (try clear hK K)
  refine wpAnyH_done (by kernel_rfl) ?_ _
  go_wp2_with fail
  go_ret
  refine ⟨rfl, ?_⟩
  have B1 : Below w.heap.size w w1 := back1 (back1 (back1 (back1 (back1 (back1 ((Below.refl _ _).drew.trans hb1))))))
  exact on (on (on (on (on (on B1 hb2) hb3) hb4) hb5) hb6) hb7
end Go.Proofs.Ytnfageikacfdoaa.Val
