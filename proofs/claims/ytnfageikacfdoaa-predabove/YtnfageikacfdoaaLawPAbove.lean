/- The walk of the law on what is above a value. -/
import Derived.Test.YtnfageikacfdoaaPredMk
import Derived.Test.YtnfageikacfdoaaRefPHolds2
import Derived.Deep.RegionHeld3
namespace Go.Proofs.Ytnfageikacfdoaa.Val
open Go.RowKit

theorem and_none (w : World) : Calls Try.prog 25 #[.slice none 0 0] w fun e w' => ∃ (q : PT) (ao : Option Addr) (c : Nat), e = .returned q.val ∧ (q.op = 11 ∧ q.lv = .slice ao 0 c ∧ q.l = [] ∧ In w' q) ∧ Below w.heap.size w w' := by
  refine Calls.mono (and_any (.slice none 0 0) [] w ⟨⟨none, 0, rfl, Nat.le_refl _, Nat.zero_le _, fun _ => ⟨rfl, rfl⟩, .inl rfl⟩, by simp⟩ (by simp [sizeL])) ?_
  rintro e w' ⟨q, h1, h2, h3, h4⟩
  obtain ⟨e1, _, _, _, e2⟩ := (bare_iff q _).1 h2
  have hl : q.l = [] := by simpa using e2
  obtain ⟨ao, c, h5⟩ := h3.row.slice
  rw [hl] at h5
  exact ⟨q, ao, c, h1, ⟨e1, h5, hl, h3.isIn⟩, h4⟩
set_option maxHeartbeats 4000000 in
theorem above_long (vr : Value) (r : List Val) (x : Val) (w : World) (hr : RowIn w vr r) (hl : 1000 < r.length) :
    Calls Try.prog 8 #[vr, V x.t x.n x.s] w fun e w' => e = .returned (.bool true) ∧ Below w.heap.size w w' := by
  have H0 : Hid (∀ w1, Calls Try.prog 11 #[] w1 fun e w' => e = .returned (.bool true) ∧ Below w1.heap.size w1 w') := awake_any
  obtain ⟨ar, cr, rfl, hn⟩ := hr.slice
  have e1 : (1000 : Int) < (r.length : Int) := by omega
  clear hr
  go_enter Try.func8, Try.ntmps8
  go_wp2_with fail
  refine Calls.mono (H0.out _) ?_
  rintro e w1 ⟨rfl, hb⟩
  go_wp2_with fail
  go_ret
  exact ⟨rfl, back1 hb⟩
set_option maxHeartbeats 4000000 in
theorem above_short (vr : Value) (r : List Val) (x : Val) (w : World) (hr : RowIn w vr r) (hok : RowOk r) (hx : x.s.size ≤ maxLen) (hl : r.length ≤ 1000) :
    Calls Try.prog 8 #[vr, V x.t x.n x.s] w fun e w' => e = .returned (.bool true) ∧ Below w.heap.size w w' := by
  have H0 : Hid (∀ w1, Calls Try.prog 11 #[] w1 fun e w' => e = .returned (.bool true) ∧ Below w1.heap.size w1 w') := awake_any
  have HA : Hid (∀ w1, Calls Try.prog 27 #[V x.t x.n x.s] w1 fun e w' => e = .returned (lf 7 x).val ∧ Below w1.heap.size w1 w') := above_any x
  have HN : Hid _ := and_none
  obtain ⟨ar, cr, rfl, hn⟩ := hr.slice
  obtain ⟨a, ha⟩ : ∃ a, holdsP r (lf 7 x) = a := ⟨_, rfl⟩
  have H2 : Hid (∀ w1, Below w.heap.size w w1 → Calls Try.prog 13 #[(lf 7 x).val, .slice ar r.length cr] w1 fun e w' => e = .returned (.bool a) ∧ Below w1.heap.size w1 w') := fun w1 hb => by rw [← ha]; exact holds_any _ _ r w1 (in_lf _ _ _ hx) (hr.below hb)
  have H3 : Hid (∀ w1, Below w.heap.size w w1 → Calls Try.prog 14 #[(lf 7 x).val, .slice ar r.length cr] w1 fun e w' => e = .returned (.bool a) ∧ Below w1.heap.size w1 w') := fun w1 hb => by rw [← ha]; exact rholds_ok _ r hok _ w1 (in_lf _ _ _ hx) (hr.below hb)
  have H4 : Hid (∀ q w1, q.op = 11 → q.l = [] → In w1 q → Below w.heap.size w w1 → Calls Try.prog 13 #[q.val, .slice ar r.length cr] w1 fun e w' => e = .returned (.bool true) ∧ Below w1.heap.size w1 w') := fun q w1 h1 h2 h3 hb => by
    have := holds_any q _ r w1 h3 (hr.below hb)
    rw [holds_11 h1, h2] at this
    exact this
  have e1 : decide ((1000 : Int) < (r.length : Int)) = false := by simp; omega
  have hev := fun w => neq_V x x w
  have hexx : eqV x x = true := eqV_iff.2 rfl
  rw [hexx] at hev
  clear hr hok hx hl ha hexx
  unfold lf PT.val Val.zero at *
  dsimp only at *
  go_enter Try.func8, Try.ntmps8
  go_wp2_with fail
  refine Calls.mono (H0.out _) ?_
  rintro e w1 ⟨rfl, hb⟩
  have X1 : Hid (VBox w1 w.heap.size x) := (VBox.new w x 23).below hb
  have HB1 : Hid (Below w.heap.size w w1) := back1 hb
  obtain ⟨a0, a1, a2⟩ := X1.out
  clear hb H0
  go_wp2_with fail
  refine Calls.mono (HA.out _) ?_
  rintro e w2 ⟨rfl, hb⟩
  have X2 : Hid (VBox w2 w.heap.size x) := X1.out.below hb
  have HB2 : Hid (Below w.heap.size w w2) := on HB1.out hb
  clear hb HA X1 HB1 a0 a1 a2
  have z2 := X2.out.lt
  obtain ⟨a0, a1, a2⟩ := X2.out
  go_wp2_with fail
  refine Calls.mono (HN.out _) ?_
  rintro e w3 ⟨q, ao, c, rfl, hq, hb⟩
  have X3 : Hid (VBox w3 w.heap.size x) := X2.out.below (back1 hb)
  have HB3 : Hid (Below w.heap.size w w3) := on HB2.out (back1 hb)
  have P3 : Hid (Box w3 w2.heap.size (lf 7 x)) := (Box.new w2 (lf 7 x) 26).below hb
  have HQ : Hid (q.op = 11 ∧ q.lv = .slice ao 0 c ∧ q.l = [] ∧ In w3 q) := hq
  clear hb HN X2 HB2 a0 a1 a2 z2 hq hev
  have z3 := X3.out.lt
  have z4 := P3.out.lt
  rw [HQ.out.1, HQ.out.2.1]
  go_wp2_with fail
  have A4 : VBox (w3.alloc (pobj q 26)).drew w.heap.size x := (X3.out.alloc _).below (Below.refl _ _).drew
  have P4 : Box (w3.alloc (pobj q 26)).drew w2.heap.size (lf 7 x) := (P3.out.alloc _).below (Below.refl _ _).drew
  have Q4 : Box (w3.alloc (pobj q 26)).drew w3.heap.size q := (Box.new w3 q _).below (Below.refl _ _).drew
  have I4 : In (w3.alloc (pobj q 26)).drew q := HQ.out.2.2.2.keep (alloc1 _ _).drew
  have HB4 : Below w.heap.size w (w3.alloc (pobj q 26)).drew := (on HB3.out (alloc1 _ _)).drew
  have E4 : (w3.alloc (pobj q 26)).drew = (w3.alloc (.cells #[.int .i64 11, .int .i64 q.col, .bool q.v.t, .int .i64 q.v.n, .string q.v.s, .bool q.w.t, .int .i64 q.w.n, .string q.w.s, .slice ao 0 c] 26)).drew := by rw [pobj, HQ.out.1, HQ.out.2.1]
  rw [E4] at A4 P4 Q4 I4 HB4
  have H5 : ∀ w1, In w1 q → Below w.heap.size w w1 → Calls Try.prog 13 #[PV 11 q.col q.v.t q.v.n q.v.s q.w.t q.w.n q.w.s (.slice ao 0 c), .slice ar r.length cr] w1 fun e w' => e = .returned (.bool true) ∧ Below w1.heap.size w1 w' := fun w1 h1 h2 => by
    have := H4.out q w1 HQ.out.1 HQ.out.2.2.1 h1 h2
    rw [HQ.out.1, HQ.out.2.1] at this
    exact this
  clear E4 X3 P3 HB3 H4
  refine wp_region_held_drew (S := fun w' => (w'.cell? ⟨w.heap.size, 0, none⟩ = some (.bool x.t) ∧ w'.cell? ⟨w.heap.size, 1, none⟩ = some (.int .i64 x.n) ∧ w'.cell? ⟨w.heap.size, 2, none⟩ = some (.string x.s)) ∧ (w'.cell? ⟨w2.heap.size, 0, none⟩ = some (.int .i64 7) ∧ w'.cell? ⟨w2.heap.size, 1, none⟩ = some (.int .i64 0) ∧ w'.cell? ⟨w2.heap.size, 2, none⟩ = some (.bool x.t) ∧ w'.cell? ⟨w2.heap.size, 3, none⟩ = some (.int .i64 x.n) ∧ w'.cell? ⟨w2.heap.size, 4, none⟩ = some (.string x.s) ∧ w'.cell? ⟨w2.heap.size, 5, none⟩ = some (.bool false) ∧ w'.cell? ⟨w2.heap.size, 6, none⟩ = some (.int .i64 0) ∧ w'.cell? ⟨w2.heap.size, 7, none⟩ = some (.string ⟨#[]⟩) ∧ w'.cell? ⟨w2.heap.size, 8, none⟩ = some (.slice none 0 0)) ∧ (w'.cell? ⟨w3.heap.size, 0, none⟩ = some (.int .i64 11) ∧ w'.cell? ⟨w3.heap.size, 1, none⟩ = some (.int .i64 q.col) ∧ w'.cell? ⟨w3.heap.size, 2, none⟩ = some (.bool q.v.t) ∧ w'.cell? ⟨w3.heap.size, 3, none⟩ = some (.int .i64 q.v.n) ∧ w'.cell? ⟨w3.heap.size, 4, none⟩ = some (.string q.v.s) ∧ w'.cell? ⟨w3.heap.size, 5, none⟩ = some (.bool q.w.t) ∧ w'.cell? ⟨w3.heap.size, 6, none⟩ = some (.int .i64 q.w.n) ∧ w'.cell? ⟨w3.heap.size, 7, none⟩ = some (.string q.w.s) ∧ w'.cell? ⟨w3.heap.size, 8, none⟩ = some (.slice ao 0 c))) (by kernel_rfl) ?_ (fun hHeld => ?_)
  · exact ⟨⟨A4.c0, A4.c1, A4.c2⟩, ⟨P4.c0, P4.c1, P4.c2, P4.c3, P4.c4, P4.c5, P4.c6, P4.c7, P4.c8⟩, ⟨Q4.c0.trans (by rw [HQ.out.1]), Q4.c1, Q4.c2, Q4.c3, Q4.c4, Q4.c5, Q4.c6, Q4.c7, Q4.c8.trans (by rw [HQ.out.2.1])⟩⟩
  (try clear hK K)
  refine wpAnyH_take (i := 0) (v := ?_) rfl (by kernel_rfl) (by kernel_rfl) (by kernel_rfl) (fun _ _ _ h => h) (Or.inl ⟨by rfl, ?_⟩) (by assumption) ?_
  rotate_left
  · intro w hSw; (try dsimp only at hSw); go_simp; (try with_reducible rfl)
  (try simp only [Act.put, List.getElem_toArray, List.getElem_cons_zero, List.setIfInBounds_toArray, List.set_cons_zero, List.set_cons_succ])
  refine wpAnyH_take (i := 1) (v := ?_) rfl (by kernel_rfl) (by kernel_rfl) (by kernel_rfl) (fun _ _ _ h => h) (Or.inl ⟨by rfl, ?_⟩) (by assumption) ?_
  rotate_left
  · intro w hSw; (try dsimp only at hSw); go_simp; (try with_reducible rfl)
  (try simp only [Act.put, List.getElem_toArray, List.getElem_cons_succ, List.getElem_cons_zero, List.setIfInBounds_toArray, List.set_cons_zero, List.set_cons_succ])
  refine wpAnyH_take (i := 2) (v := ?_) rfl (by kernel_rfl) (by kernel_rfl) (by kernel_rfl) (fun _ _ _ h => h) (Or.inl ⟨by rfl, ?_⟩) (by assumption) ?_
  rotate_left
  · intro w hSw; (try dsimp only at hSw); go_simp; (try with_reducible rfl)
  (try simp only [Act.put, List.getElem_toArray, List.getElem_cons_succ, List.getElem_cons_zero, List.setIfInBounds_toArray, List.set_cons_zero, List.set_cons_succ])
  refine wpAnyH_take (i := 3) (v := ?_) rfl (by kernel_rfl) (by kernel_rfl) (by kernel_rfl) (fun _ _ _ h => h) (Or.inl ⟨by rfl, ?_⟩) (by assumption) ?_
  rotate_left
  · intro w hSw; (try dsimp only at hSw); go_simp; (try with_reducible rfl)
  (try simp only [Act.put, List.getElem_toArray, List.getElem_cons_succ, List.getElem_cons_zero, List.setIfInBounds_toArray, List.set_cons_zero, List.set_cons_succ])
  refine wpAnyH_take (i := 4) (v := ?_) rfl (by kernel_rfl) (by kernel_rfl) (by kernel_rfl) (fun _ _ _ h => h) (Or.inl ⟨by rfl, ?_⟩) (by assumption) ?_
  rotate_left
  · intro w hSw; (try dsimp only at hSw); go_simp; (try with_reducible rfl)
  (try simp only [Act.put, List.getElem_toArray, List.getElem_cons_succ, List.getElem_cons_zero, List.setIfInBounds_toArray, List.set_cons_zero, List.set_cons_succ])
  refine wpAnyH_take (i := 5) (v := ?_) rfl (by kernel_rfl) (by kernel_rfl) (by kernel_rfl) (fun _ _ _ h => h) (Or.inl ⟨by rfl, ?_⟩) (by assumption) ?_
  rotate_left
  · intro w hSw; (try dsimp only at hSw); go_simp; (try with_reducible rfl)
  (try simp only [Act.put, List.getElem_toArray, List.getElem_cons_succ, List.getElem_cons_zero, List.setIfInBounds_toArray, List.set_cons_zero, List.set_cons_succ])
  refine wpAnyH_take (i := 6) (v := ?_) rfl (by kernel_rfl) (by kernel_rfl) (by kernel_rfl) (fun _ _ _ h => h) (Or.inl ⟨by rfl, ?_⟩) (by assumption) ?_
  rotate_left
  · intro w hSw; (try dsimp only at hSw); go_simp; (try with_reducible rfl)
  (try simp only [Act.put, List.getElem_toArray, List.getElem_cons_succ, List.getElem_cons_zero, List.setIfInBounds_toArray, List.set_cons_zero, List.set_cons_succ])
  refine wpAnyH_take (i := 7) (v := ?_) rfl (by kernel_rfl) (by kernel_rfl) (by kernel_rfl) (fun _ _ _ h => h) (Or.inl ⟨by rfl, ?_⟩) (by assumption) ?_
  rotate_left
  · intro w hSw; (try dsimp only at hSw); go_simp; (try with_reducible rfl)
  (try simp only [Act.put, List.getElem_toArray, List.getElem_cons_succ, List.getElem_cons_zero, List.setIfInBounds_toArray, List.set_cons_zero, List.set_cons_succ])
  refine wpAnyH_take (i := 8) (v := ?_) rfl (by kernel_rfl) (by kernel_rfl) (by kernel_rfl) (fun _ _ _ h => h) (Or.inl ⟨by rfl, ?_⟩) (by assumption) ?_
  rotate_left
  · intro w hSw; (try dsimp only at hSw); go_simp; (try with_reducible rfl)
  (try simp only [Act.put, List.getElem_toArray, List.getElem_cons_succ, List.getElem_cons_zero, List.setIfInBounds_toArray, List.set_cons_zero, List.set_cons_succ])
  refine wpAnyH_take (i := 9) (v := ?_) rfl (by kernel_rfl) (by kernel_rfl) (by kernel_rfl) (fun _ _ _ h => h) (Or.inl ⟨by rfl, ?_⟩) (by assumption) ?_
  rotate_left
  · intro w hSw; (try dsimp only at hSw); go_simp; (try with_reducible rfl)
  (try simp only [Act.put, List.getElem_toArray, List.getElem_cons_succ, List.getElem_cons_zero, List.setIfInBounds_toArray, List.set_cons_zero, List.set_cons_succ])
  refine wpAnyH_take (i := 10) (v := ?_) rfl (by kernel_rfl) (by kernel_rfl) (by kernel_rfl) (fun _ _ _ h => h) (Or.inl ⟨by rfl, ?_⟩) (by assumption) ?_
  rotate_left
  · intro w hSw; (try dsimp only at hSw); go_simp; (try with_reducible rfl)
  (try simp only [Act.put, List.getElem_toArray, List.getElem_cons_succ, List.getElem_cons_zero, List.setIfInBounds_toArray, List.set_cons_zero, List.set_cons_succ])
  refine wpAnyH_take (i := 11) (v := ?_) rfl (by kernel_rfl) (by kernel_rfl) (by kernel_rfl) (fun _ _ _ h => h) (Or.inl ⟨by rfl, ?_⟩) (by assumption) ?_
  rotate_left
  · intro w hSw; (try dsimp only at hSw); go_simp; (try with_reducible rfl)
  (try simp only [Act.put, List.getElem_toArray, List.getElem_cons_succ, List.getElem_cons_zero, List.setIfInBounds_toArray, List.set_cons_zero, List.set_cons_succ])
  (try clear hK K)
  refine wpAnyH_ready (rs := [12]) (by kernel_rfl) (by simp) ?_
  refine AllReadyH.cons rfl (fun K hK => ?_) AllReadyH.nil
  go_simp
  (refine Calls.mono (H5 _ I4 HB4) ?_; rintro e w5 ⟨rfl, hb5⟩; have A5 := A4.below hb5; have P5 := P4.below hb5; have Q5 := Q4.below hb5; have HB5 := on HB4 hb5)
  refine hK.out _ _ ?_ (fun hHeld => ?_)
  · exact ⟨⟨A5.c0, A5.c1, A5.c2⟩, ⟨P5.c0, P5.c1, P5.c2, P5.c3, P5.c4, P5.c5, P5.c6, P5.c7, P5.c8⟩, ⟨Q5.c0.trans (by rw [HQ.out.1]), Q5.c1, Q5.c2, Q5.c3, Q5.c4, Q5.c5, Q5.c6, Q5.c7, Q5.c8.trans (by rw [HQ.out.2.1])⟩⟩
  (try clear hK K)
  refine wpAnyH_take (i := 13) (v := ?_) rfl (by kernel_rfl) (by kernel_rfl) (by kernel_rfl) (fun _ _ _ h => h) (Or.inl ⟨by rfl, ?_⟩) (by assumption) ?_
  rotate_left
  · intro w hSw; (try dsimp only at hSw); go_simp; (try with_reducible rfl)
  (try simp only [Act.put, List.getElem_toArray, List.getElem_cons_succ, List.getElem_cons_zero, List.setIfInBounds_toArray, List.set_cons_zero, List.set_cons_succ])
  refine wpAnyH_take (i := 14) (v := ?_) rfl (by kernel_rfl) (by kernel_rfl) (by kernel_rfl) (fun _ _ _ h => h) (Or.inl ⟨by rfl, ?_⟩) (by assumption) ?_
  rotate_left
  · intro w hSw; (try dsimp only at hSw); go_simp; (try with_reducible rfl)
  (try simp only [Act.put, List.getElem_toArray, List.getElem_cons_succ, List.getElem_cons_zero, List.setIfInBounds_toArray, List.set_cons_zero, List.set_cons_succ])
  refine wpAnyH_take (i := 15) (v := ?_) rfl (by kernel_rfl) (by kernel_rfl) (by kernel_rfl) (fun _ _ _ h => h) (Or.inl ⟨by rfl, ?_⟩) (by assumption) ?_
  rotate_left
  · intro w hSw; (try dsimp only at hSw); go_simp; (try with_reducible rfl)
  (try simp only [Act.put, List.getElem_toArray, List.getElem_cons_succ, List.getElem_cons_zero, List.setIfInBounds_toArray, List.set_cons_zero, List.set_cons_succ])
  refine wpAnyH_take (i := 16) (v := ?_) rfl (by kernel_rfl) (by kernel_rfl) (by kernel_rfl) (fun _ _ _ h => h) (Or.inl ⟨by rfl, ?_⟩) (by assumption) ?_
  rotate_left
  · intro w hSw; (try dsimp only at hSw); go_simp; (try with_reducible rfl)
  (try simp only [Act.put, List.getElem_toArray, List.getElem_cons_succ, List.getElem_cons_zero, List.setIfInBounds_toArray, List.set_cons_zero, List.set_cons_succ])
  refine wpAnyH_take (i := 18) (v := ?_) rfl (by kernel_rfl) (by kernel_rfl) (by kernel_rfl) (fun _ _ _ h => h) (Or.inl ⟨by rfl, ?_⟩) (by assumption) ?_
  rotate_left
  · intro w hSw; (try dsimp only at hSw); go_simp; (try with_reducible rfl)
  (try simp only [Act.put, List.getElem_toArray, List.getElem_cons_succ, List.getElem_cons_zero, List.setIfInBounds_toArray, List.set_cons_zero, List.set_cons_succ])
  refine wpAnyH_take (i := 19) (v := ?_) rfl (by kernel_rfl) (by kernel_rfl) (by kernel_rfl) (fun _ _ _ h => h) (Or.inl ⟨by rfl, ?_⟩) (by assumption) ?_
  rotate_left
  · intro w hSw; (try dsimp only at hSw); go_simp; (try with_reducible rfl)
  (try simp only [Act.put, List.getElem_toArray, List.getElem_cons_succ, List.getElem_cons_zero, List.setIfInBounds_toArray, List.set_cons_zero, List.set_cons_succ])
  refine wpAnyH_take (i := 20) (v := ?_) rfl (by kernel_rfl) (by kernel_rfl) (by kernel_rfl) (fun _ _ _ h => h) (Or.inl ⟨by rfl, ?_⟩) (by assumption) ?_
  rotate_left
  · intro w hSw; (try dsimp only at hSw); go_simp; (try with_reducible rfl)
  (try simp only [Act.put, List.getElem_toArray, List.getElem_cons_succ, List.getElem_cons_zero, List.setIfInBounds_toArray, List.set_cons_zero, List.set_cons_succ])
  (try clear hK K)
  refine wpAnyH_ready (rs := [17]) (by kernel_rfl) (by simp) ?_
  refine AllReadyH.cons rfl (fun K hK => ?_) AllReadyH.nil
  go_simp
  (refine Calls.mono (H2.out _ HB5) ?_; rintro e w6 ⟨rfl, hb6⟩; have A6 := A5.below hb6; have P6 := P5.below hb6; have Q6 := Q5.below hb6; have HB6 := on HB5 hb6)
  refine hK.out _ _ ?_ (fun hHeld => ?_)
  · exact ⟨⟨A6.c0, A6.c1, A6.c2⟩, ⟨P6.c0, P6.c1, P6.c2, P6.c3, P6.c4, P6.c5, P6.c6, P6.c7, P6.c8⟩, ⟨Q6.c0.trans (by rw [HQ.out.1]), Q6.c1, Q6.c2, Q6.c3, Q6.c4, Q6.c5, Q6.c6, Q6.c7, Q6.c8.trans (by rw [HQ.out.2.1])⟩⟩
  (try clear hK K)
  refine wpAnyH_ready (rs := [21]) (by kernel_rfl) (by simp) ?_
  refine AllReadyH.cons rfl (fun K hK => ?_) AllReadyH.nil
  go_simp
  (refine Calls.mono (H3.out _ HB6) ?_; rintro e w7 ⟨rfl, hb7⟩; have A7 := A6.below hb7; have P7 := P6.below hb7; have Q7 := Q6.below hb7; have HB7 := on HB6 hb7)
  refine hK.out _ _ ?_ (fun hHeld => ?_)
  · exact ⟨⟨A7.c0, A7.c1, A7.c2⟩, ⟨P7.c0, P7.c1, P7.c2, P7.c3, P7.c4, P7.c5, P7.c6, P7.c7, P7.c8⟩, ⟨Q7.c0.trans (by rw [HQ.out.1]), Q7.c1, Q7.c2, Q7.c3, Q7.c4, Q7.c5, Q7.c6, Q7.c7, Q7.c8.trans (by rw [HQ.out.2.1])⟩⟩
  (try clear hK K)
  refine wpAnyH_take (i := 22) (v := ?_) rfl (by kernel_rfl) (by kernel_rfl) (by kernel_rfl) (fun _ _ _ h => h) (Or.inl ⟨by rfl, ?_⟩) (by assumption) ?_
  rotate_left
  · intro w hSw; (try dsimp only at hSw); go_simp; (try with_reducible rfl)
  (try simp only [Act.put, List.getElem_toArray, List.getElem_cons_succ, List.getElem_cons_zero, List.setIfInBounds_toArray, List.set_cons_zero, List.set_cons_succ])
  refine wpAnyH_take (i := 23) (v := ?_) rfl (by kernel_rfl) (by kernel_rfl) (by kernel_rfl) (fun _ _ _ h => h) (Or.inl ⟨by rfl, ?_⟩) (by assumption) ?_
  rotate_left
  · intro w hSw; (try dsimp only at hSw); go_simp; (try with_reducible rfl)
  (try simp only [Act.put, List.getElem_toArray, List.getElem_cons_succ, List.getElem_cons_zero, List.setIfInBounds_toArray, List.set_cons_zero, List.set_cons_succ])
  refine wpAnyH_take (i := 24) (v := ?_) rfl (by kernel_rfl) (by kernel_rfl) (by kernel_rfl) (fun _ _ _ h => h) (Or.inl ⟨by rfl, ?_⟩) (by assumption) ?_
  rotate_left
  · intro w hSw; (try dsimp only at hSw); go_simp; (try with_reducible rfl)
  (try simp only [Act.put, List.getElem_toArray, List.getElem_cons_succ, List.getElem_cons_zero, List.setIfInBounds_toArray, List.set_cons_zero, List.set_cons_succ])
  (try clear hK K)
  refine wpAnyH_done (by kernel_rfl) ?_ _
  go_wp2_with fail
  go_ret
  exact ⟨by simp, HB7⟩
theorem above_walk (vr : Value) (r : List Val) (x : Val) (w : World) (hr : RowIn w vr r) (hok : RowOk r) (hx : x.s.size ≤ maxLen) :
    Calls Try.prog 8 #[vr, V x.t x.n x.s] w fun e w' => e = .returned (.bool true) ∧ Below w.heap.size w w' := by
  by_cases h : 1000 < r.length
  · exact above_long vr r x w hr h
  · exact above_short vr r x w hr hok hx (by omega)
end Go.Proofs.Ytnfageikacfdoaa.Val
