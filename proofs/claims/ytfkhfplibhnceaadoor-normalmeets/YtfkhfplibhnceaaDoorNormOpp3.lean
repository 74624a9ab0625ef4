/- What opposite of package normal answers of PIn. -/
import Derived.Test.YtfkhfplibhnceaaDoorNormOpp2
namespace Go.Proofs.YtfkhfplibhnceaaDoor.Val
open Go.RowKit

theorem owns_new (w : World) (N : Nat) (hN : w.heap.size = N) (cs : List Value) (n : Nat) (hn : cs.length = n * 9) (hm : n ≤ maxLen) : (w.alloc (.cells cs.toArray TP)).ownsRow 0 TP 9 (.slice (some ⟨N, 0, none⟩) n n) n cs := by
  subst hN
  refine ⟨hn, .inr ⟨w.heap.size, n, cs.toArray, rfl, Nat.zero_le _, heap_alloc_new w _, Nat.le_refl _, hm, by simpa using hn, ?_⟩⟩
  simp [← hn]
set_option maxHeartbeats 2000000 in
theorem opp_in (p : PT) (h : p.op = 9) (t : PT) (ht : t.bare = (PT.mk 12 0 Val.zero Val.zero (.slice none 0 0) [lfN 5 p.col p.v Val.zero, lfN 7 p.col p.w Val.zero]).bare) : MadeOk 49 p t := by
  intro w hi hT
  have HV : Hid (p.v.s.size ≤ maxLen ∧ p.w.s.size ≤ maxLen) := ⟨hi.sv, hi.sw⟩
  have HT : Hid (t.bare = (PT.mk 12 0 Val.zero Val.zero (.slice none 0 0) [lfN 5 p.col p.v Val.zero, lfN 7 p.col p.w Val.zero]).bare) := ht
  obtain ⟨ap, cp, hlp, _⟩ := hi.lies.slice
  clear hi hT ht
  unfold PT.val
  rw [hlp, h]
  clear hlp h
  go_enter Tryd.func49, Tryd.ntmps49
  go_wp2_with fail
  refine bodyPost_ret (v := (PT.mk 12 0 Val.zero Val.zero (.slice (some ⟨w.heap.size + 1 + 1 + 1 + 1, 0, none⟩) 2 2) [lfN 5 p.col p.v Val.zero, lfN 7 p.col p.w Val.zero]).val) (by simp [results, Tryd.results49, go_sem, PT.val, Val.zero]) rfl ⟨_, rfl, (by rw [HT.out, bare_mk, bare_mk]), ?_, ?_⟩
  · refine .mk (by decide) (by decide) (.inl ⟨owns_new _ _ (by simp) (([lfN 5 p.col p.v Val.zero, lfN 7 p.col p.w Val.zero] : List PT).flatMap PT.cells) 2 rfl (by decide), fun g hg => ?_⟩) fun q hq => ?_
    · simp [Value.ownBlock] at hg; omega
    · simp only [List.mem_cons, List.not_mem_nil, or_false] at hq
      rcases hq with rfl | rfl
      · exact Nw.leaf _ _ _ _ _ _ _ HV.out.1 (by decide)
      · exact Nw.leaf _ _ _ _ _ _ _ HV.out.2 (by decide)
  · exact back3 (back1 (alloc1 _ _))
/-- Of any that may be, but for how many parts it has. -/
theorem push_ok {cols : List Bool} (p : PT) : Good cols p → p.size ≤ 1000000 → PushOk p := by
  induction p using PT.ind with
  | h p ih =>
    intro hg hs
    have hp : ∀ q ∈ p.l, PushOk q := fun q hq => ih q hq (hg.part q hq) (by have := size_part (p := p) hq; omega)
    rcases suit_cases hg.suit with ⟨h, hl⟩ | ⟨h, hl, _⟩ | ⟨h, hl, _⟩ | ⟨h, q, hl⟩ | ⟨h, hl⟩
    · have e : ∀ b, pushP p b = lfN (if b then 3 - p.op else p.op) 0 Val.zero Val.zero := fun b => by rw [push_leaf (by omega) (by omega) (by omega), pushL, if_pos h]
      refine ⟨plain_list p p.op rfl (by omega) hs _ ?_ fun q hq => (hp q hq).1, opp_list p p.op rfl hs _ (3 - p.op) (by omega) ?_ fun q hq => (hp q hq).2⟩
      · rw [e, hl]; rfl
      · rw [e, hl]; rfl
    · have h6 : p.op = 3 ∨ p.op = 4 ∨ p.op = 5 ∨ p.op = 6 ∨ p.op = 7 ∨ p.op = 8 := by omega
      refine ⟨plain_leaf p (by omega) _ ?_, opp_leaf p p.op rfl _ (oppO p.op) ?_ ?_⟩
      · rw [push_leaf (by omega) (by omega) (by omega), pushL, if_neg (by omega)]; rfl
      · rcases h6 with h | h | h | h | h | h <;> simp [h, oppO]
      · rw [push_leaf (by omega) (by omega) (by omega), pushL, if_neg (by omega), if_pos rfl, if_neg (by omega)]
    · refine ⟨plain_leaf p (by omega) _ ?_, opp_in p h _ ?_⟩
      · rw [push_leaf (by omega) (by omega) (by omega), pushL, if_neg (by omega)]; rfl
      · rw [push_leaf (by omega) (by omega) (by omega), pushL, if_neg (by omega), if_pos rfl, if_pos h]
    · exact ⟨plain_not p q h hl (hp q (by rw [hl]; simp)).2, opp_not p q h hl (hp q (by rw [hl]; simp)).1⟩
    · refine ⟨plain_list p p.op rfl (by omega) hs _ ?_ fun q hq => (hp q hq).1, opp_list p p.op rfl hs _ (23 - p.op) (by omega) ?_ fun q hq => (hp q hq).2⟩
      · rw [push_list h]; rfl
      · rw [push_list h]; rfl
end Go.Proofs.YtfkhfplibhnceaaDoor.Val
