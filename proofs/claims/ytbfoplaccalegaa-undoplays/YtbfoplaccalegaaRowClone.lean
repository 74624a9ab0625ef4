/- What row.Clone answers: the same values, in a row of its own. -/
import Derived.Test.YtbfoplaccalegaaOwnPlain
import Derived.Test.YtbfoplaccalegaaBare
import Derived.Laws.AppendOwnNone
namespace Go.Proofs.Ytbfoplaccalegaa.Val
open Go.RowKit

theorem info_V : (Try.prog.info? 32).map (fun i => (i.zero, i.size, i.bytes)) = some (some (V false 0 ⟨#[]⟩), 3, 32) := by kernel_rfl
set_option maxHeartbeats 400000 in
theorem clone_big (vr : Value) (xs : List Val) (w : World) (hr : RowIn w vr xs) (hl : xs.length * 32 ≤ 140737488355328) :
    Calls Try.prog 26 #[vr] w fun e w' => ∃ v', e = .returned v' ∧ OwnRow w' w.heap.size 32 v' xs ∧ Below w.heap.size w w' := by
  obtain ⟨i0, hi, hz0, hz1, hz2⟩ := info_parts info_V
  obtain ⟨ao, c, rfl, h1, h2, h0, h3⟩ := hr
  cases ao with
  | none =>
    obtain ⟨hn, rfl⟩ := h0 rfl
    have hx : xs = [] := List.eq_nil_of_length_eq_zero hn
    subst hx
    go_enter Try.func26, Try.ntmps26
    go_wp2_with (at_builtin; refine wpList_append_own_none rfl _ _ _ rfl w.heap.size 32 i0 3 Try.underlying34 hi _ 0 [] rfl (World.ownsRow_nil w w.heap.size _ 3) rfl ?_)
    go_ret
    exact ⟨_, rfl, OwnRow.nil _ _ _, Below.refl _ _⟩
  | some a =>
    have hcell : ∀ j u, (xs.flatMap Val.cells)[j]? = some u → w.cell? (a.add j) = some u := by
      rcases h3 with h3 | ⟨b, o, e, h3⟩
      · rw [h3]; intro j u hj; simp at hj
      · cases e; intro j u hj; rw [Addr.add_lit]; exact h3 j u hj
    have hlen : (xs.flatMap Val.cells).length = xs.length * 3 := flat_length Val.cells 3 (fun _ => rfl) xs
    have hone := cells_one xs
    clear h3
    go_enter Try.func26, Try.ntmps26
    go_wp2_with (at_builtin; refine wpList_append_own _ rfl _ _ _ rfl w.heap.size 32 i0 _ 3 32 Try.underlying34 hi hz0 hz1 hz2 rfl (by decide) _ 0 [] rfl (World.ownsRow_nil w w.heap.size _ 3) a xs.length c (xs.flatMap Val.cells) rfl hlen hcell hone ?_ ?_ (Nat.le_refl _) ?_)
    · unfold maxLen; omega
    · omega
    · intro v' w' hown hgrow _
      go_wp2
      go_ret
      exact ⟨_, rfl, hown, (Below.refl _ _).grown hgrow (Nat.le_refl _) (fun k hk => by cases hk)⟩
theorem clone_any (vr : Value) (xs : List Val) (w : World) (hr : RowIn w vr xs) (hl : xs.length ≤ 1000) :
    Calls Try.prog 26 #[vr] w fun e w' => ∃ v', e = .returned v' ∧ OwnRow w' w.heap.size 32 v' xs ∧ Below w.heap.size w w' := clone_big vr xs w hr (by omega)
end Go.Proofs.Ytbfoplaccalegaa.Val
