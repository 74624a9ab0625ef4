/- 'append(nil, r...)' of a row, as a step of a walk. -/
import Derived.Test.YtncefhjegkhamaaRowClone
namespace Go.Proofs.Ytncefhjegkhamaa.Val
open Go.RowKit

/-- 'append(nil, r...)' of a row: a row of one's own. -/
theorem wpList_append_row {w : World} {ops : Array Oper} {rest : List Oper} {o : Oper} {a : Act} {Q : Exit → Act → World → Prop} (hgd : o.guard = none) (s x : Operand) (t : TypeId)
    (ho : o.op = .call { callee := .builtin .append, args := #[s, x], argTypes := #[t, t] }) (ht : Try.prog.underlying t = some (.slice 40))
    (vr : Value) (xs : List Val) (hs : a.eval s = .slice none 0 0) (hx : a.eval x = vr) (hr : RowIn w vr xs) (hl : xs.length ≤ 1000)
    (h : ∀ v' w', OwnRow w' w.heap.size 40 v' xs → Below w.heap.size w w' → wpList Try.prog ops Q rest (a.put o.dst v') w') : wpList Try.prog ops Q (o :: rest) a w := by
  obtain ⟨i0, hi, hz0, hz1, hz2⟩ := info_parts info_V
  obtain ⟨ao, c, rfl, h1, h2, h0, h3⟩ := hr
  cases ao with
  | none =>
    obtain ⟨hn, rfl⟩ := h0 rfl
    have hx' : xs = [] := List.eq_nil_of_length_eq_zero hn
    subst hx'
    exact wpList_append_own_none hgd s x t ho w.heap.size 40 i0 3 ht hi _ 0 [] hs (World.ownsRow_nil w w.heap.size _ 3) hx (h _ _ (OwnRow.nil _ _ _) (Below.refl _ _))
  | some ad =>
    have hcell : ∀ j u, (xs.flatMap Val.cells)[j]? = some u → w.cell? (ad.add j) = some u := by
      rcases h3 with h3 | ⟨b, o, e, h3⟩
      · rw [h3]; intro j u hj; simp at hj
      · cases e; intro j u hj; rw [Addr.add_lit]; exact h3 j u hj
    have hlen : (xs.flatMap Val.cells).length = xs.length * 3 := flat_length Val.cells 3 (fun _ => rfl) xs
    refine wpList_append_own _ hgd s x t ho w.heap.size 40 i0 _ 3 32 ht hi hz0 hz1 hz2 rfl (by decide) _ 0 [] hs (World.ownsRow_nil w w.heap.size _ 3) ad xs.length c (xs.flatMap Val.cells) hx hlen hcell (cells_one xs) ?_ ?_ (Nat.le_refl _) ?_
    · unfold maxLen; omega
    · omega
    · intro v' w' hown hgrow _
      rw [Nat.zero_add, List.nil_append] at hown
      exact h v' w' hown ((Below.refl _ _).grown hgrow (Nat.le_refl _) (fun k hk => by simp [Value.ownBlock] at hk))
end Go.Proofs.Ytncefhjegkhamaa.Val
