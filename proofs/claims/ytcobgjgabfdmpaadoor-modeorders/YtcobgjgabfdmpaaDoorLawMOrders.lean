/- The walk of the law ModeOrders. -/
import Derived.Test.YtcobgjgabfdmpaaDoorModeJoin
import Derived.Test.YtcobgjgabfdmpaaDoorModeAll
import Derived.Test.YtcobgjgabfdmpaaDoorModeAwake
namespace Go.Proofs.YtcobgjgabfdmpaaDoor.Val
open Go Go.RowKit

set_option maxHeartbeats 8000000 in
theorem morders_walk (a b c : Int) (w : World) (hC : TabC w) (hN : TabN w) : Tells 6 #[.int .i64 a, .int .i64 b, .int .i64 c] w (.bool true) := by
  have HC : Hid (∀ (a b : Int) (v : Bool) w1, coversM a b = v → Below w.heap.size w w1 → Tells 13 #[.int .i64 a, .int .i64 b] w1 (.bool v)) := fun a b v w1 h hb => by rw [← h]; exact (covers_any a b w1 (hC.below hb)).tells
  have HJ : Hid (∀ (a b : Int) (v : Int) w1, joinM a b = v → Below w.heap.size w w1 → Tells 15 #[.int .i64 a, .int .i64 b] w1 (.int .i64 v)) := fun a b v w1 h hb => by rw [← h]; exact (join_any a b w1 (hC.below hb)).tells
  have HR : Hid (∀ (a : Int) (v : Bool) w1, rightM a = v → Below w.heap.size w w1 → Tells 17 #[.int .i64 a] w1 (.bool v)) := fun a v w1 h hb => by rw [← h]; exact (right_any a w1).tells
  have HA : Hid (∀ w1, Below w.heap.size w w1 → Tells 10 #[] w1 (.bool true)) := fun w1 hb => awake_any w1 (hC.below hb) (hN.below hb)
  have HB : Hid (Below w.heap.size w w) := Below.refl _ _
  clear hC hN
  obtain ⟨ra, ha⟩ : ∃ v, rightM a = v := ⟨_, rfl⟩
  obtain ⟨rb, hb⟩ : ∃ v, rightM b = v := ⟨_, rfl⟩
  obtain ⟨rc, hc⟩ : ∃ v, rightM c = v := ⟨_, rfl⟩
  by_cases hr : ra = true ∧ rb = true ∧ rc = true
  · obtain ⟨rfl, rfl, rfl⟩ := hr
    have e1 := covers_thru ha hb hc
    have e2 := covers_same ha hb hc
    have e3 := joins_assoc ha hb hc
    have e4 := joins_comm ha hb hc
    obtain ⟨e5, e6, e7⟩ := joins_ends ha
    obtain ⟨x, hx⟩ : ∃ v, joinM a b = v := ⟨_, rfl⟩
    obtain ⟨z, hz⟩ : ∃ v, joinM b c = v := ⟨_, rfl⟩
    rw [hx, hz] at e3
    rw [hx] at e4
    obtain ⟨y, hy⟩ : ∃ v, joinM x c = v := ⟨_, rfl⟩
    rw [hy] at e3
    obtain ⟨p, hp⟩ : ∃ v, coversM a b = v := ⟨_, rfl⟩
    obtain ⟨q, hq⟩ : ∃ v, coversM b c = v := ⟨_, rfl⟩
    obtain ⟨r, hr⟩ : ∃ v, coversM a c = v := ⟨_, rfl⟩
    obtain ⟨s, hs⟩ : ∃ v, coversM b a = v := ⟨_, rfl⟩
    rw [hp, hq, hr] at e1
    rw [hp, hs] at e2
    by_cases hab : a = b
    · subst hab
      have es : p = true := by rw [beq_self_eq_true] at e2; revert e2; cases p <;> simp
      subst es
      cases q <;> cases r <;> simp at e1
      all_goals
        clear e1 e2
        go_enter Tryd.func6, Tryd.ntmps6
        repeat (go_wp2_with fail; (first
              | (go_at_call 10; refine Calls.mono (HA.out _ HB.out) ?_)
              | (go_at_call 13; refine Calls.mono (HC.out _ _ _ _ (by assumption) HB.out) ?_)
              | (go_at_call 15; refine Calls.mono (HJ.out _ _ _ _ (by assumption) HB.out) ?_)
              | (go_at_call 17; refine Calls.mono (HR.out _ _ _ (by assumption) HB.out) ?_)
              | fail); rintro e w1 ⟨rfl, hb⟩; replace HB : Hid (Below w.heap.size w w1) := show Below w.heap.size w w1 from HB.out.trans (hb.mono HB.out.size); clear hb)
        go_wp2_with fail
        go_ret
        exact ⟨rfl, HB.out⟩
    · have en : (a == b) = false := by rw [beq_eq_false_iff_ne]; exact hab
      rw [en] at e2
      clear hab
      cases p <;> cases q <;> cases r <;> cases s <;> simp at e1 e2
      all_goals
        (try clear e1)
        (try clear e2)
        go_enter Tryd.func6, Tryd.ntmps6
        repeat (go_wp2_with fail; (first
              | (go_at_call 10; refine Calls.mono (HA.out _ HB.out) ?_)
              | (go_at_call 13; refine Calls.mono (HC.out _ _ _ _ (by assumption) HB.out) ?_)
              | (go_at_call 15; refine Calls.mono (HJ.out _ _ _ _ (by assumption) HB.out) ?_)
              | (go_at_call 17; refine Calls.mono (HR.out _ _ _ (by assumption) HB.out) ?_)
              | fail); rintro e w1 ⟨rfl, hb⟩; replace HB : Hid (Below w.heap.size w w1) := show Below w.heap.size w w1 from HB.out.trans (hb.mono HB.out.size); clear hb)
        go_wp2_with fail
        go_ret
        exact ⟨rfl, HB.out⟩
  · have e1 : coversM a b = (rightM a && rightM b && coversM a b) := by simp only [coversM]; cases rightM a <;> cases rightM b <;> rfl
    rw [ha, hb] at e1
    obtain ⟨p, hp⟩ : ∃ v, coversM a b = v := ⟨_, rfl⟩
    rw [hp] at e1
    cases ra <;> cases rb <;> cases rc <;> cases p <;> simp at e1 hr
    all_goals
      clear hr
      go_enter Tryd.func6, Tryd.ntmps6
      repeat (go_wp2_with fail; (first
            | (go_at_call 10; refine Calls.mono (HA.out _ HB.out) ?_)
            | (go_at_call 13; refine Calls.mono (HC.out _ _ _ _ (by assumption) HB.out) ?_)
            | (go_at_call 15; refine Calls.mono (HJ.out _ _ _ _ (by assumption) HB.out) ?_)
            | (go_at_call 17; refine Calls.mono (HR.out _ _ _ (by assumption) HB.out) ?_)
            | fail); rintro e w1 ⟨rfl, hb⟩; replace HB : Hid (Below w.heap.size w w1) := show Below w.heap.size w w1 from HB.out.trans (hb.mono HB.out.size); clear hb)
      go_wp2_with fail
      go_ret
      exact ⟨rfl, HB.out⟩
end Go.Proofs.YtcobgjgabfdmpaaDoor.Val
