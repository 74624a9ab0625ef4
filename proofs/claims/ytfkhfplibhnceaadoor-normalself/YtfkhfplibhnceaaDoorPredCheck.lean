/- What pred.Check answers. -/
import Derived.Test.YtfkhfplibhnceaaDoorPredSuits
import Derived.Test.YtfkhfplibhnceaaDoorPredEvery
namespace Go.Proofs.YtfkhfplibhnceaaDoor.Val
open Go.RowKit

theorem enters_may1 : Enters 60 := enters_of Tryd.func60 (by decide +kernel) rfl
/-- May it be a table's? -/
def mayP (cols : List Bool) (p : PT) : Bool := decide (p.size ≤ 15) && okP (suitP cols) p
theorem mayP_ev (cols : List Bool) (p : PT) : (ev (upto (suitP cols)) 0 p).1 = mayP cols p := by
  have := (ev_upto (suitP cols) p 0).1
  rw [Bool.eq_iff_iff, this, mayP]
  simp
set_option maxHeartbeats 1000000 in
theorem may1_ok (w0 : World) (c tb : Nat) (vc : Value) (cols : List Bool) (h0 : BoolsIn w0 vc cols) (hne : tb ≠ c) (hc : w0.heap.size ≤ c) :
    PassOk w0 c (fun w => Below w0.heap.size w0 w ∧ w.cell? ⟨tb, 0, none⟩ = some vc) (upto (suitP cols)) 60 #[] #[.pointer (some ⟨c, 0, none⟩), .pointer (some ⟨tb, 0, none⟩)] := by
  rintro p w n hi ⟨hg, ht⟩ hn hs
  have hlt := hn.lt
  have hltt : tb < w.heap.size := World.block_lt_of_cell? w _ ht
  obtain ⟨a, ha⟩ : ∃ a, suitP cols p = a := ⟨_, rfl⟩
  have HN : Hid (∀ o, Cnt ((w.setCell ⟨c, 0, none⟩ (.int .i64 ((n : Int) + 1))).alloc o) c (n + 1) ∧ Sv (· = c) w ((w.setCell ⟨c, 0, none⟩ (.int .i64 ((n : Int) + 1))).alloc o)) := fun o => cnt_next o hn
  have HS : Hid (∀ o, Calls Tryd.prog 61 #[.agg #[vc], p.val] ((w.setCell ⟨c, 0, none⟩ (.int .i64 ((n : Int) + 1))).alloc o) fun e w' => e = .returned (.bool a) ∧ Below ((w.setCell ⟨c, 0, none⟩ (.int .i64 ((n : Int) + 1))).alloc o).heap.size ((w.setCell ⟨c, 0, none⟩ (.int .i64 ((n : Int) + 1))).alloc o) w') := fun o => by
    have hb : Below w0.heap.size w0 ((w.setCell ⟨c, 0, none⟩ (.int .i64 ((n : Int) + 1))).alloc o) := hg.trans ((cnt_next o hn).2.below hg.size fun k hk e => by omega)
    rw [← ha]; exact suits_any vc cols p _ (h0.below hb) (hi.keep hb)
  obtain ⟨h1, h2⟩ := hn
  have n0 : (0 : Int) ≤ (n : Int) := by omega
  have n1 : (n : Int) < 1000000 := by omega
  show Calls Tryd.prog 60 #[p.val, .pointer (some ⟨c, 0, none⟩), .pointer (some ⟨tb, 0, none⟩)] w _
  clear hi hg hs h0 hc
  by_cases h15 : n + 1 ≤ 15
  · have HU : Hid (upto (suitP cols) (n + 1) p = a) := by rw [Hid, upto, ha, decide_eq_true h15]; rfl
    have j1 : (n : Int) + 1 ≤ 15 := by omega
    rw [HU.out]
    clear ha HU
    unfold PT.val at *
    go_enter Tryd.func60, Tryd.ntmps60
    go_wp2_with fail
    refine Calls.mono (HS.out _) ?_
    rintro e w1 ⟨rfl, hb⟩
    have HC : Hid (Cnt w1 c (n + 1) ∧ Sv (· = c) w w1) := by
      obtain ⟨k1, k2⟩ := HN.out (pobj p 29)
      exact ⟨⟨by rw [hb.cell k1.lt]; exact k1.1, by rw [hb.frozen k1.lt]; exact k1.2⟩, k2.trans (Sv.of hb)⟩
    clear hb HN HS
    go_wp2_with fail
    go_ret
    exact ⟨rfl, HC.out⟩
  · have HU : Hid (upto (suitP cols) (n + 1) p = false) := by rw [Hid, upto, decide_eq_false h15]; rfl
    have j1 : decide ((n : Int) + 1 ≤ 15) = false := by simp; omega
    rw [HU.out]
    clear ha HU HS
    unfold PT.val at *
    go_enter Tryd.func60, Tryd.ntmps60
    go_wp2_with fail
    go_ret
    exact ⟨rfl, HN.out _⟩
set_option maxHeartbeats 1000000 in
theorem mayBe_any (vc : Value) (cols : List Bool) (p : PT) (w : World) (h : BoolsIn w vc cols) (hi : In w p) (hs : p.size ≤ 1000000) :
    Calls Tryd.prog 48 #[.agg #[vc], p.val] w fun e w' => e = .returned (.bool (mayP cols p)) ∧ Below w.heap.size w w' := by
  obtain ⟨a, ha⟩ : ∃ a, mayP cols p = a := ⟨_, rfl⟩
  have H : Hid (∀ w2, Below w.heap.size w w2 → w2.cell? ⟨w.heap.size, 0, none⟩ = some vc → Cnt w2 (w.heap.size + 1 + 1) 0 → Calls Tryd.prog 59 #[p.val, FV 60 #[] #[.pointer (some ⟨w.heap.size + 1 + 1, 0, none⟩), .pointer (some ⟨w.heap.size, 0, none⟩)]] w2 fun e w' => e = .returned (.bool a) ∧ Below w.heap.size w w') := by
    intro w2 hb ht h0
    have hg : Goods w (w.heap.size + 1 + 1) (fun w1 => Below w.heap.size w w1 ∧ w1.cell? ⟨w.heap.size, 0, none⟩ = some vc) := ⟨fun _ h => h.1, fun a b h1 h2 => ⟨h1.1.trans (h2.below h1.1.size fun k hk e => by omega), by rw [h2.cell (World.block_lt_of_cell? a _ h1.2) (by simp only; omega)]; exact h1.2⟩⟩
    refine Calls.mono (every_any hg (may1_ok w _ _ vc cols h (by omega) (by omega)) enters_may1 p hi w2 0 ⟨hb, ht⟩ h0 (by omega)) ?_
    rw [mayP_ev, ha]
    rintro e w' ⟨rfl, h1, h2⟩
    exact ⟨rfl, hb.trans (h2.below hb.size fun k hk e => by omega)⟩
  rw [ha]
  clear hi hs ha h
  unfold PT.val at *
  go_enter Tryd.func48, Tryd.ntmps48
  go_wp2_with fail
  refine Calls.mono (H.out _ (back2 (alloc1 _ _)) (by simp [go_sem]) ⟨by simp [go_sem], by simp [go_sem]⟩) ?_
  rintro e w1 ⟨rfl, hb1⟩
  have HB : Hid _ := hb1
  clear hb1 H
  go_wp2_with fail
  go_ret
  exact ⟨rfl, HB.out⟩
/-- What Check answers. -/
def checkN (cols : List Bool) (p : PT) : Int := if mayT cols then (if mayP cols p then 0 else 30) else 1
set_option maxHeartbeats 1000000 in
theorem pcheck_any (vc : Value) (cols : List Bool) (p : PT) (w : World) (h : BoolsIn w vc cols) (hi : In w p) (hs : p.size ≤ 1000000) :
    Calls Tryd.prog 28 #[.agg #[vc], p.val] w fun e w' => e = .returned (.int .i64 (checkN cols p)) ∧ Below w.heap.size w w' := by
  obtain ⟨a, ha⟩ : ∃ a, mayP cols p = a := ⟨_, rfl⟩
  obtain ⟨t, ht⟩ : ∃ t, mayT cols = t := ⟨_, rfl⟩
  have H1 : Hid (∀ w1, Below w.heap.size w w1 → Calls Tryd.prog 47 #[.agg #[vc]] w1 fun e w' => e = .returned (.int .i64 (errIf (!t) 1)) ∧ Below w1.heap.size w1 w') := fun w1 hb => by rw [← ht]; exact check_any vc cols w1 (h.below hb)
  have H2 : Hid (∀ w1, Below w.heap.size w w1 → Calls Tryd.prog 48 #[.agg #[vc], p.val] w1 fun e w' => e = .returned (.bool a) ∧ Below w1.heap.size w1 w') := fun w1 hb => by rw [← ha]; exact mayBe_any vc cols p w1 (h.below hb) (hi.keep hb) hs
  have HK : Hid (checkN cols p = if t then (if a then 0 else 30) else 1) := by rw [Hid, checkN, ha, ht]
  rw [HK.out]
  clear ha ht h hi hs HK
  unfold PT.val at *
  go_enter Tryd.func28, Tryd.ntmps28
  go_wp2_with fail
  refine Calls.mono (H1.out _ (back1 (alloc1 _ _))) ?_
  rintro e w1 ⟨rfl, hb⟩
  have HB : Hid (Below w.heap.size w w1) := back2 hb
  cases t
  · clear hb H1 H2
    simp only [errIf, Bool.not_false, if_true]
    go_wp2_with fail
    go_ret
    exact ⟨rfl, HB.out⟩
  · simp only [errIf, Bool.not_true, Bool.false_eq_true, if_false]
    have t0 : w1.cell? ⟨w.heap.size, 0, none⟩ = some vc := by rw [hb.cell (by simp; omega)]; simp [go_sem]
    obtain ⟨b0, b1, b2, b3, b4, b5, b6, b7, b8⟩ := (Box.new (w.alloc (.cells #[vc] 24)) p 29).below hb
    have z : (w.alloc (.cells #[vc] 24)).heap.size = w.heap.size + 1 := by simp
    rw [z] at b0 b1 b2 b3 b4 b5 b6 b7 b8
    clear hb z H1
    go_wp2_with fail
    refine Calls.mono (H2.out _ HB.out) ?_
    rintro e w2 ⟨rfl, hb2⟩
    have HB2 : Hid (Below w.heap.size w w2) := on HB.out hb2
    clear hb2 HB H2 t0 b0 b1 b2 b3 b4 b5 b6 b7 b8
    cases a
    · go_wp2_with fail
      go_ret
      exact ⟨rfl, HB2.out⟩
    · go_wp2_with fail
      go_ret
      exact ⟨rfl, HB2.out⟩
end Go.Proofs.YtfkhfplibhnceaaDoor.Val
