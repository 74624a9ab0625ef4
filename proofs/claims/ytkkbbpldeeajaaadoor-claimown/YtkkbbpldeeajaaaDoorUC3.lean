/- What claim.Conflict answers. -/
import Derived.Test.YtkkbbpldeeajaaaDoorUC1
import Derived.Test.YtkkbbpldeeajaaaDoorUM
namespace Go.Proofs.YtkkbbpldeeajaaaDoor.Val
open Go.RowKit

theorem some_b (P : Prop) : ∃ s : Bool, s = true ↔ P := by
  classical exact ⟨decide P, by simp⟩
theorem conf_t {a b : CP} (h : (a.table != b.table) = true) : conflictC a b = false := by
  have : (a.table == b.table) = false := by simpa using h
  simp [conflictC, this]
theorem conf_1 {s : Bool} {a b : CP} (h0 : (a.table != b.table) = false) (h : (a.kind == 1 && b.kind == 1) = true) : conflictC a b = (sameC s a b && !fitsM a.mode b.mode) := by
  rw [same_1 h0 h]; simp [conflictC, tab_eq h0, (kk h).1, (kk h).2]
theorem conf_2 {s : Bool} {a b : CP} (h0 : (a.table != b.table) = false) (h : (a.kind == 2 && b.kind == 2) = true) : conflictC a b = (sameC s a b && !fitsM a.mode b.mode) := by
  rw [same_2 h0 h]; simp [conflictC, tab_eq h0, (kk h).1, (kk h).2]
theorem conf_32 {a b : CP} (h0 : (a.table != b.table) = false) (h : (a.kind == 3 && b.kind == 2) = true) : conflictC a b = catchC a.p b := by
  simp [conflictC, tab_eq h0, (kk h).1, (kk h).2]
theorem conf_23 {a b : CP} (h0 : (a.table != b.table) = false) (h : (a.kind == 2 && b.kind == 3) = true) : conflictC a b = catchC b.p a := by
  simp [conflictC, tab_eq h0, (kk h).1, (kk h).2]
theorem conf_0 {a b : CP} (h1 : (a.kind == 1 && b.kind == 1) = false) (h2 : (a.kind == 2 && b.kind == 2) = false) (h3 : (a.kind == 3 && b.kind == 2) = false) (h4 : (a.kind == 2 && b.kind == 3) = false) : conflictC a b = false := by
  simp [conflictC, kk_no h1, kk_no h2, kk_no h3, kk_no h4]
set_option maxHeartbeats 2000000 in
theorem conflict_any (a b : CP) (w : World) (hT : TabC w) (ha : CIn w a) (hb : CIn w b) : Tells 17 #[a.val, b.val] w (.bool (conflictC a b)) := by
  obtain ⟨s, hs⟩ := some_b (a.p.bare = b.p.bare)
  have HS : Hid (∀ w1, Below w.heap.size w w1 → Tells 15 #[a.val, b.val] w1 (.bool (sameC s a b))) := fun w1 h => csame_any a b s hs w1 (ha.below h) (hb.below h)
  have HF : Hid (∀ w1, Below w.heap.size w w1 → Tells 35 #[.int .i64 a.mode, .int .i64 b.mode] w1 (.bool (fitsM a.mode b.mode))) := fun w1 h => (mfits_any _ _ w1 (hT.below h)).tells
  have HA : Hid (∀ w1, Below w.heap.size w w1 → Tells 36 #[a.p.val, b.val] w1 (.bool (catchC a.p b))) := fun w1 h => catches_any _ _ w1 (ha.p.keep h) (hb.below h)
  have HB : Hid (∀ w1, Below w.heap.size w w1 → Tells 36 #[b.p.val, a.val] w1 (.bool (catchC b.p a))) := fun w1 h => catches_any _ _ w1 (hb.p.keep h) (ha.below h)
  have ek1 := fun w => eql_K a.kind b.kind 1 1 w
  have ek2 := fun w => eql_K a.kind b.kind 2 2 w
  have ek3 := fun w => eql_K a.kind b.kind 3 2 w
  have ek4 := fun w => eql_K a.kind b.kind 2 3 w
  clear hs ha hb hT
  unfold PT.val at HA HB
  unfold CP.val at HS HA HB ⊢
  cases h0 : (a.table != b.table)
  case true =>
    have HR : Hid (conflictC a b = false) := conf_t h0
    rw [HR.out]
    clear HR HS HF HA HB
    go_enter Tryd.func17, Tryd.ntmps17
    go_wp2_with fail
    go_ret
    exact ⟨rfl, back1 (alloc1 _ _)⟩
  cases h1 : (a.kind == 1 && b.kind == 1)
  case true =>
    rw [conf_1 (s := s) h0 h1]
    clear HA HB
    generalize sameC s a b = v at *
    generalize fitsM a.mode b.mode = u at *
    go_enter Tryd.func17, Tryd.ntmps17
    go_wp2_with fail
    refine Calls.mono (HS.out _ ?_) ?_
    · (repeat (first | exact Below.refl _ _ | refine Below.setCell ?_ (by (simp; try omega)) _ | refine Below.alloc ?_ (by (simp; try omega)) _))
    rintro e w1 ⟨rfl, hb⟩
    have m1 : w1.cell? ⟨w.heap.size, 2, none⟩ = some (.int .i64 a.mode) := by rw [hb.cell (by (simp; try omega))]; simp [go_sem]
    have m2 : w1.cell? ⟨w.heap.size + 1, 2, none⟩ = some (.int .i64 b.mode) := by rw [hb.cell (by (simp; try omega))]; simp [go_sem]
    have HB : Hid (Below w.heap.size w w1) := by
      refine Below.trans ?_ (hb.mono (by (simp; try omega)))
      (repeat (first | exact Below.refl _ _ | refine Below.setCell ?_ (by (simp; try omega)) _ | refine Below.alloc ?_ (by (simp; try omega)) _))
    clear hb HS
    cases v
    · clear HF
      go_wp2_with fail
      go_ret
      exact ⟨rfl, HB.out⟩
    · go_wp2_with fail
      refine Calls.mono (HF.out _ HB.out) ?_
      rintro e w2 ⟨rfl, hb⟩
      have HB2 : Hid (Below w.heap.size w w2) := on HB.out hb
      clear hb HB HF m1 m2
      go_wp2_with fail
      go_ret
      exact ⟨rfl, HB2.out⟩
  cases h2 : (a.kind == 2 && b.kind == 2)
  case true =>
    rw [conf_2 (s := s) h0 h2]
    clear HA HB
    generalize sameC s a b = v at *
    generalize fitsM a.mode b.mode = u at *
    go_enter Tryd.func17, Tryd.ntmps17
    go_wp2_with fail
    refine Calls.mono (HS.out _ ?_) ?_
    · (repeat (first | exact Below.refl _ _ | refine Below.setCell ?_ (by (simp; try omega)) _ | refine Below.alloc ?_ (by (simp; try omega)) _))
    rintro e w1 ⟨rfl, hb⟩
    have m1 : w1.cell? ⟨w.heap.size, 2, none⟩ = some (.int .i64 a.mode) := by rw [hb.cell (by (simp; try omega))]; simp [go_sem]
    have m2 : w1.cell? ⟨w.heap.size + 1, 2, none⟩ = some (.int .i64 b.mode) := by rw [hb.cell (by (simp; try omega))]; simp [go_sem]
    have HB : Hid (Below w.heap.size w w1) := by
      refine Below.trans ?_ (hb.mono (by (simp; try omega)))
      (repeat (first | exact Below.refl _ _ | refine Below.setCell ?_ (by (simp; try omega)) _ | refine Below.alloc ?_ (by (simp; try omega)) _))
    clear hb HS
    cases v
    · clear HF
      go_wp2_with fail
      go_ret
      exact ⟨rfl, HB.out⟩
    · go_wp2_with fail
      refine Calls.mono (HF.out _ HB.out) ?_
      rintro e w2 ⟨rfl, hb⟩
      have HB2 : Hid (Below w.heap.size w w2) := on HB.out hb
      clear hb HB HF m1 m2
      go_wp2_with fail
      go_ret
      exact ⟨rfl, HB2.out⟩
  clear HS HF
  cases h3 : (a.kind == 3 && b.kind == 2)
  case true =>
    rw [conf_32 h0 h3]
    clear HB
    generalize catchC a.p b = v at *
    go_enter Tryd.func17, Tryd.ntmps17
    go_wp2_with fail
    refine Calls.mono (HA.out _ ?_) ?_
    · (repeat (first | exact Below.refl _ _ | refine Below.setCell ?_ (by (simp; try omega)) _ | refine Below.alloc ?_ (by (simp; try omega)) _))
    rintro e w1 ⟨rfl, hb⟩
    have HB : Hid (Below w.heap.size w w1) := by
      refine Below.trans ?_ (hb.mono (by (simp; try omega)))
      (repeat (first | exact Below.refl _ _ | refine Below.setCell ?_ (by (simp; try omega)) _ | refine Below.alloc ?_ (by (simp; try omega)) _))
    clear hb HA
    go_wp2_with fail
    go_ret
    exact ⟨rfl, HB.out⟩
  cases h4 : (a.kind == 2 && b.kind == 3)
  case true =>
    rw [conf_23 h0 h4]
    clear HA
    generalize catchC b.p a = v at *
    go_enter Tryd.func17, Tryd.ntmps17
    go_wp2_with fail
    refine Calls.mono (HB.out _ ?_) ?_
    · (repeat (first | exact Below.refl _ _ | refine Below.setCell ?_ (by (simp; try omega)) _ | refine Below.alloc ?_ (by (simp; try omega)) _))
    rintro e w1 ⟨rfl, hb⟩
    have HB1 : Hid (Below w.heap.size w w1) := by
      refine Below.trans ?_ (hb.mono (by (simp; try omega)))
      (repeat (first | exact Below.refl _ _ | refine Below.setCell ?_ (by (simp; try omega)) _ | refine Below.alloc ?_ (by (simp; try omega)) _))
    clear hb HB
    go_wp2_with fail
    go_ret
    exact ⟨rfl, HB1.out⟩
  rw [conf_0 h1 h2 h3 h4]
  clear HA HB
  go_enter Tryd.func17, Tryd.ntmps17
  go_wp2_with fail
  go_ret
  exact ⟨rfl, by (repeat (first | exact Below.refl _ _ | refine Below.setCell ?_ (by (simp; try omega)) _ | refine Below.alloc ?_ (by (simp; try omega)) _))⟩
end Go.Proofs.YtkkbbpldeeajaaaDoor.Val
/- What claim.Covers answers. -/
namespace Go.Proofs.YtkkbbpldeeajaaaDoor.Val
open Go.RowKit

theorem enters_covers1 : Enters 41 := enters_of Tryd.func41 (by decide +kernel) rfl
set_option maxHeartbeats 2000000 in
theorem covers1_any (cb : Nat) (iv : Value) (l : List Im) (all : Bool) (q : Im) (w : World) (hl : ImsIn w iv l) (hb : w.cell? ⟨cb, 6, none⟩ = some iv) (hq : RowIn w q.v q.r) :
    Tells 41 #[.bool all, q.v, .pointer (some ⟨cb, 0, none⟩)] w (.bool (all && hasI (l.map Im.r) q.r)) := by
  have H : Hid (∀ w1, Below w.heap.size w w1 → Tells 42 #[iv, q.v] w1 (.bool (hasI (l.map Im.r) q.r))) := fun w1 h => has_any iv q.v l q.r w1 (hl.below h) (hq.below h)
  obtain ⟨aq, cq, hv, hn⟩ := hq.slice
  obtain ⟨ai, ci, rfl, _⟩ := hl.slice
  have hlt : cb < w.heap.size := World.block_lt_of_cell? w _ hb
  rw [hv] at H ⊢
  generalize hasI (l.map Im.r) q.r = v at *
  clear hv hq hl
  cases all
  · clear H
    go_enter Tryd.func41, Tryd.ntmps41
    go_wp2_with fail
    go_ret
    exact ⟨rfl, Below.refl _ _⟩
  · go_enter Tryd.func41, Tryd.ntmps41
    go_wp2_with fail
    refine Calls.mono (H.out _ (Below.refl _ _)) ?_
    rintro e w1 ⟨rfl, hb⟩
    go_wp2_with fail
    go_ret
    exact ⟨rfl, hb⟩
set_option maxHeartbeats 2000000 in
theorem ccovers_any (a b : CP) (s : Bool) (hs : s = true ↔ a.p.bare = b.p.bare) (w : World) (hT : TabC w) (ha : CIn w a) (hb : CIn w b) : Tells 19 #[a.val, b.val] w (.bool (coversC s a b)) := by
  have HS : Hid (∀ w1, Below w.heap.size w w1 → Tells 15 #[a.val, b.val] w1 (.bool (sameC s a b))) := fun w1 h => csame_any a b s hs w1 (ha.below h) (hb.below h)
  have HF : Hid (∀ w1, Below w.heap.size w w1 → Tells 39 #[.int .i64 a.mode, .int .i64 b.mode] w1 (.bool (coversM a.mode b.mode))) := fun w1 h => (covers_any _ _ w1 (hT.below h)).tells
  have HG : Hid (∀ w1, Below w.heap.size w w1 → w1.cell? ⟨w.heap.size, 6, none⟩ = some a.iv → Tells 40 #[b.iv, .bool true, FV 41 #[] #[.pointer (some ⟨w.heap.size, 0, none⟩)]] w1 (.bool (b.rows.all (hasI a.rows)))) := fun w1 h h6 => by
    refine Calls.mono (throughB_any b.iv (.bool true) b.ims _ #[] _ w1 (fun k x w2 => x = .bool ((b.ims.take k).all fun q => hasI a.rows q.r) ∧ Below w1.heap.size w1 w2) ⟨rfl, Below.refl _ _⟩ enters_covers1 (fun k x w2 h2 => hb.ims.below (on h h2.2)) fun k hk x w2 h2 => ?_) ?_
    · obtain ⟨rfl, h2⟩ := h2
      refine Calls.mono (covers1_any w.heap.size a.iv a.ims _ b.ims[k] w2 (ha.ims.below (on h h2)) (cell_below h6 h2) (((hb.ims.2 _ (List.getElem_mem hk))).below (on h h2))) ?_
      rintro e w3 ⟨rfl, hb⟩
      exact ⟨_, rfl, by rw [all_take _ _ _ hk]; rfl, on h2 hb⟩
    · rintro e w2 ⟨x, rfl, rfl, hb⟩
      refine ⟨ret_b ?_, hb⟩
      rw [List.take_length]; unfold CP.rows; rw [List.all_map]; rfl
  obtain ⟨ai, ci, hiv, _⟩ := hb.ims.slice
  obtain ⟨aj, cj, hjv, _⟩ := ha.ims.slice
  clear hs ha hb hT
  unfold coversC
  unfold CP.val at HS ⊢
  rw [hiv, hjv] at HS HG ⊢
  generalize sameC s a b = v at *
  generalize coversM a.mode b.mode = u at *
  generalize b.rows.all (hasI a.rows) = t at *
  clear hiv hjv
  cases v
  case false =>
    clear HF HG
    go_enter Tryd.func19, Tryd.ntmps19
    go_wp2_with fail
    refine Calls.mono (HS.out _ ?_) ?_
    · (repeat (first | exact Below.refl _ _ | refine Below.setCell ?_ (by (simp; try omega)) _ | refine Below.alloc ?_ (by (simp; try omega)) _))
    rintro e w1 ⟨rfl, hb⟩
    have HB : Hid (Below w.heap.size w w1) := back2 hb
    clear hb HS
    go_wp2_with fail
    go_ret
    exact ⟨rfl, HB.out⟩
  go_enter Tryd.func19, Tryd.ntmps19
  go_wp2_with fail
  refine Calls.mono (HS.out _ ?_) ?_
  · (repeat (first | exact Below.refl _ _ | refine Below.setCell ?_ (by (simp; try omega)) _ | refine Below.alloc ?_ (by (simp; try omega)) _))
  rintro e w1 ⟨rfl, hb⟩
  have m1 : w1.cell? ⟨w.heap.size, 2, none⟩ = some (.int .i64 a.mode) := by rw [hb.cell (by (simp; try omega))]; simp [go_sem]
  have m2 : w1.cell? ⟨w.heap.size + 1, 2, none⟩ = some (.int .i64 b.mode) := by rw [hb.cell (by (simp; try omega))]; simp [go_sem]
  have m3 : w1.cell? ⟨w.heap.size + 1, 6, none⟩ = some (.slice ai b.ims.length ci) := by rw [hb.cell (by (simp; try omega))]; simp [go_sem]
  have m4 : w1.cell? ⟨w.heap.size, 6, none⟩ = some (.slice aj a.ims.length cj) := by rw [hb.cell (by (simp; try omega))]; simp [go_sem]
  have HB : Hid (Below w.heap.size w w1) := back2 hb
  clear hb HS
  cases u
  case false =>
    clear HG
    go_wp2_with fail
    refine Calls.mono (HF.out _ HB.out) ?_
    rintro e w2 ⟨rfl, hb⟩
    have HB2 : Hid (Below w.heap.size w w2) := on HB.out hb
    clear hb HB HF m1 m2 m3 m4
    go_wp2_with fail
    go_ret
    exact ⟨rfl, HB2.out⟩
  go_wp2_with fail
  refine Calls.mono (HF.out _ HB.out) ?_
  rintro e w2 ⟨rfl, hb⟩
  have HB2 : Hid (Below w.heap.size w w2) := on HB.out hb
  have n3 := cell_below m3 hb
  have n4 := cell_below m4 hb
  clear hb HB HF m1 m2 m3 m4
  go_wp2_with fail
  refine Calls.mono (HG.out _ HB2.out n4) ?_
  rintro e w3 ⟨rfl, hb⟩
  have HB3 : Hid (Below w.heap.size w w3) := on HB2.out hb
  clear hb HB2 HG n3 n4
  go_wp2_with fail
  go_ret
  exact ⟨rfl, HB3.out⟩
end Go.Proofs.YtkkbbpldeeajaaaDoor.Val
