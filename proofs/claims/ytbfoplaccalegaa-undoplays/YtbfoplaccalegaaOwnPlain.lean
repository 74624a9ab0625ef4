/- Plain facts on rows of the call's own: what they hold, kept and stored into. No program. -/
import Derived.Test.YtbfoplaccalegaaRowPlain
namespace Go.Proofs.Ytbfoplaccalegaa.Val
open Go Go.RowKit

/-- A row of the call's own, of values. -/
def OwnRow (w : World) (base : Nat) (T : TypeId) (v : Value) (xs : List Val) : Prop := w.ownsRow base T 3 v xs.length (xs.flatMap Val.cells)
theorem OwnRow.isIn {w : World} {base : Nat} {T : TypeId} {v : Value} {xs : List Val} (h : OwnRow w base T v xs) : RowIn w v xs := by
  rcases h.2 with ⟨rfl, h0⟩ | ⟨g, cap, cur, rfl, hb, hg, hn, hm, hs, ht⟩
  · have : xs = [] := List.eq_nil_of_length_eq_zero h0
    subst this
    exact ⟨none, 0, rfl, Nat.le_refl _, Nat.zero_le _, fun _ => ⟨rfl, rfl⟩, .inl rfl⟩
  · refine ⟨some ⟨g, 0, none⟩, cap, rfl, hn, hm, fun h => (by cases h), .inr ⟨g, 0, rfl, fun j u hj => ?_⟩⟩
    have := World.ownsRow.cells h (g := g) rfl j u hj
    rw [Addr.add_lit] at this
    exact this
theorem OwnRow.below {w w' : World} {base : Nat} {T : TypeId} {v : Value} {xs : List Val} (h : OwnRow w base T v xs) (hb : Below w.heap.size w w') : OwnRow w' base T v xs := by
  refine ⟨h.1, ?_⟩
  rcases h.2 with hn | ⟨g, cap, cur, rfl, hb', hg, rest⟩
  · exact .inl hn
  · refine .inr ⟨g, cap, cur, rfl, hb', ?_, rest⟩
    rw [hb.block g (Array.getElem?_eq_some_iff.1 hg).1]; exact hg
theorem OwnRow.mono {w : World} {base base' : Nat} {T : TypeId} {v : Value} {xs : List Val} (h : OwnRow w base T v xs) (hb : base' ≤ base) : OwnRow w base' T v xs := by
  refine ⟨h.1, ?_⟩
  rcases h.2 with hn | ⟨g, cap, cur, rfl, hb', rest⟩
  · exact .inl hn
  · exact .inr ⟨g, cap, cur, rfl, Nat.le_trans hb hb', rest⟩
theorem OwnRow.nil (w : World) (base : Nat) (T : TypeId) : OwnRow w base T (.slice none 0 0) [] := World.ownsRow_nil w base T 3
theorem flat_set (xs : List Val) (c : Nat) (x : Val) (hc : c < xs.length) :
    (((xs.flatMap Val.cells).set (c * 3) (.bool x.t)).set (c * 3 + 1) (.int .i64 x.n)).set (c * 3 + 2) (.string x.s) = (xs.set c x).flatMap Val.cells := by
  induction xs generalizing c with
  | nil => simp at hc
  | cons y l ih =>
    cases c with
    | zero => simp [Val.cells]
    | succ c =>
      have := ih c (by simpa using hc)
      simp only [List.flatMap_cons, List.set_cons_succ, ← this, Val.cells]
      rw [show (c + 1) * 3 = c * 3 + 1 + 1 + 1 by omega, show c * 3 + 1 + 1 + 1 + 1 = (c * 3 + 1) + 1 + 1 + 1 by omega, show c * 3 + 1 + 1 + 1 + 2 = (c * 3 + 2) + 1 + 1 + 1 by omega]
      simp
/-- A value stored into a row of the call's own. -/
theorem OwnRow.store {w : World} {base : Nat} {T : TypeId} {g n cap : Nat} {xs : List Val} (h : OwnRow w base T (.slice (some ⟨g, 0, none⟩) n cap) xs) (c : Nat) (hc : c < xs.length) (x : Val) :
    OwnRow (((w.setCell ⟨g, c * 3, none⟩ (.bool x.t)).setCell ⟨g, c * 3 + 1, none⟩ (.int .i64 x.n)).setCell ⟨g, c * 3 + 2, none⟩ (.string x.s)) base T (.slice (some ⟨g, 0, none⟩) n cap) (xs.set c x) := by
  have e : n = xs.length := by
    rcases h.2 with ⟨e, _⟩ | ⟨g', cap', cur, e, _⟩ <;> cases e; rfl
  subst e
  have h1 := (World.ownsRow.stored h (c * 3) (.bool x.t)).1
  have h2 := (World.ownsRow.stored h1 (c * 3 + 1) (.int .i64 x.n)).1
  have h3 := (World.ownsRow.stored h2 (c * 3 + 2) (.string x.s)).1
  rw [flat_set xs c x hc] at h3
  unfold OwnRow
  rw [List.length_set]
  exact h3
/-- Its cells may be written. -/
theorem OwnRow.free {w : World} {base : Nat} {T : TypeId} {g n cap : Nat} {xs : List Val} (h : OwnRow w base T (.slice (some ⟨g, 0, none⟩) n cap) xs) (j : Nat) : w.frozen? ⟨g, j, none⟩ = false := by
  have e : n = xs.length := by
    rcases h.2 with ⟨e, _⟩ | ⟨g', cap', cur, e, _⟩ <;> cases e; rfl
  subst e
  exact World.ownsRow.frozenAt h j
/-- A row of the call's own that isn't empty has a place. -/
theorem OwnRow.place {w : World} {base : Nat} {T : TypeId} {v : Value} {xs : List Val} (h : OwnRow w base T v xs) (hn : 0 < xs.length) : ∃ g cap, v = .slice (some ⟨g, 0, none⟩) xs.length cap ∧ base ≤ g ∧ g < w.heap.size := by
  rcases h.2 with ⟨_, h0⟩ | ⟨g, cap, cur, rfl, hb, hg, _⟩
  · omega
  · exact ⟨g, cap, rfl, hb, (Array.getElem?_eq_some_iff.1 hg).1⟩
theorem cells_one (xs : List Val) : ∀ u ∈ xs.flatMap Val.cells, u.oneCell' = true := by
  intro u hu
  obtain ⟨x, _, hx⟩ := List.mem_flatMap.1 hu
  simp only [Val.cells, List.mem_cons, List.not_mem_nil, or_false] at hx
  rcases hx with rfl | rfl | rfl <;> rfl
end Go.Proofs.Ytbfoplaccalegaa.Val
