/- What pred.Holds answers: the walk, by its parts. -/
import Derived.Test.YtnfageikacfdoaaPredHolds
import Derived.Laws.EntriesVeiled
namespace Go.Proofs.Ytnfageikacfdoaa.Val
open Go.RowKit

theorem h1_any (rb : Nat) (vr : Value) (r : List Val) (p : PT) (w : World) (hi : In w p) (hr : RB w rb vr r) (ih : ∀ q ∈ p.l, WalkOk rb vr r q) :
    Calls Try.prog 28 #[p.val, MH rb, .pointer (some ⟨rb, 0, none⟩)] w fun e w' => e = .returned (.bool (holdsP r p)) ∧ Below w.heap.size w w' := by
  by_cases h1 : p.op = 1
  · exact h1_true rb r p w h1
  by_cases h2 : p.op = 10
  · exact h1_not rb vr r p w h2 hi hr ih
  by_cases h3 : p.op = 11
  · exact h1_and rb vr r p w h3 hi hr ih
  by_cases h4 : p.op = 12
  · exact h1_or rb vr r p w h4 hi hr ih
  rw [holds_leaf h1 h2 h3 h4]
  have e1 : (p.op == 1) = false := by simpa using h1
  have e2 : (p.op == 10) = false := by simpa using h2
  have e3 : (p.op == 11) = false := by simpa using h3
  have e4 : (p.op == 12) = false := by simpa using h4
  by_cases hlo : p.col < 0
  · rw [leaf_low hlo]
    exact h1_low rb p w e1 e2 e3 e4 (by simp; omega)
  · obtain ⟨hr0, hrow⟩ := hr
    obtain ⟨ar, cr, rfl, hn⟩ := hrow.slice
    by_cases hhi : p.col < (r.length : Int)
    · obtain ⟨k, hk⟩ : ∃ k : Nat, p.col = (k : Int) := ⟨p.col.toNat, by omega⟩
      have hkl : k < r.length := by omega
      obtain ⟨b, o, rfl, d0, d1, d2⟩ := hrow.at k hkl
      have := h1_mid rb b o r.length cr k r[k] p w e1 e2 e3 e4 hr0 hk hkl d0 d1 d2
      rw [hk, leaf_at hkl]
      exact this
    · rw [leaf_high (by omega) (by omega)]
      exact h1_high rb ar r.length cr p w e1 e2 e3 e4 hr0 (by omega) (by simp; omega)
set_option maxHeartbeats 1000000 in
theorem walk_step (rb : Nat) (vr : Value) (r : List Val) (p : PT) (ih : ∀ q ∈ p.l, WalkOk rb vr r q) : WalkOk rb vr r p := by
  intro w hi hr
  obtain ⟨a, ha⟩ : ∃ a, holdsP r p = a := ⟨_, rfl⟩
  have H : Hid (∀ w1, Below w.heap.size w w1 → Calls Try.prog 28 #[p.val, MH rb, .pointer (some ⟨rb, 0, none⟩)] w1 fun e w' => e = .returned (.bool a) ∧ Below w1.heap.size w1 w') :=
    fun w1 hb => by rw [← ha]; exact h1_any rb vr r p w1 (hi.keep hb) (hr.below hb) ih
  rw [ha]
  clear ih hi hr ha
  unfold PT.val at *
  go_enter Try.func32, Try.ntmps32
  go_wp2_with fail
  refine Calls.mono (H.out _ (back1 (alloc1 _ _))) ?_
  rintro e w1 ⟨rfl, hb1⟩
  go_wp2_with fail
  go_ret
  exact ⟨rfl, back2 hb1⟩
theorem walk_ok (rb : Nat) (vr : Value) (r : List Val) (p : PT) : WalkOk rb vr r p := by
  induction p using PT.ind with
  | h p ih => exact walk_step rb vr r p ih
set_option maxHeartbeats 1000000 in
theorem holds_any (p : PT) (vr : Value) (r : List Val) (w : World) (hi : In w p) (hr : RowIn w vr r) :
    Calls Try.prog 13 #[p.val, vr] w fun e w' => e = .returned (.bool (holdsP r p)) ∧ Below w.heap.size w w' := by
  obtain ⟨a, ha⟩ : ∃ a, holdsP r p = a := ⟨_, rfl⟩
  obtain ⟨ar, cr, rfl, hn⟩ := hr.slice
  have H : Hid (∀ w1, Below w.heap.size w w1 → w1.cell? ⟨w.heap.size + 1, 0, none⟩ = some (.slice ar r.length cr) → Calls Try.prog 32 #[.agg #[FH (w.heap.size + 1)], p.val] w1 fun e w' => e = .returned (.bool a) ∧ Below w1.heap.size w1 w') :=
    fun w1 hb hc => by rw [← ha]; exact walk_ok _ _ r p w1 (hi.keep hb) ⟨hc, hr.below hb⟩
  rw [ha]
  clear hi hr ha
  unfold PT.val at *
  go_enter Try.func13, Try.ntmps13
  go_wp2_with fail
  refine Calls.mono (H.out _ ?hb ?hc) ?_
  case hb => exact back1 (back1 (alloc1 _ _))
  case hc => simp [go_sem]
  rintro e w1 ⟨rfl, hb1⟩
  go_wp2_with fail
  go_ret
  exact ⟨rfl, back3 hb1⟩
end Go.Proofs.Ytnfageikacfdoaa.Val
