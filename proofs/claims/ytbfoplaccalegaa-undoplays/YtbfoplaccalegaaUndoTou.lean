/- What Touched answers. -/
import Derived.Test.YtbfoplaccalegaaUndoCut
import Derived.Laws.AppendOwnNone
namespace Go.Proofs.Ytbfoplaccalegaa.Val
open Go Go.RowKit

theorem tou_one (l : List Spot) : ∀ u ∈ ecells (l.map touE), u.oneCell' = true := by
  intro u hu
  obtain ⟨x, hx, hu⟩ := List.mem_flatMap.1 hu
  obtain ⟨s, _, rfl⟩ := List.mem_map.1 hx
  simp only [En.cells, touE, List.mem_cons, List.not_mem_nil, or_false] at hu
  rcases hu with rfl | rfl | rfl | rfl | rfl <;> rfl
theorem clone_ents (v : Value) (l : List En) (w : World) (hl : w.ownsRow 0 TE 5 v l.length (ecells l)) (hn : l.length ≤ 1000) (hone : ∀ u ∈ ecells l, u.oneCell' = true) :
    Calls Try.prog 24 #[v] w fun e w' => ∃ v', e = .returned v' ∧ w'.ownsRow w.heap.size TE 5 v' l.length (ecells l) ∧ Below w.heap.size w w' := by
  obtain ⟨i0, hi, hz0, hz1, hz2⟩ := info_parts info_E
  have he : ∀ (w : World), (binOp .eql 26 (.slice none 0 0) (.slice none 0 0)).run Try.prog w = .ok (.bool true) w := fun _ => rfl
  have hs : ∀ (w : World) (a : Addr) (n c : Nat), (binOp .eql 26 (.slice (some a) n c) (.slice none 0 0)).run Try.prog w = .ok (.bool false) w := fun _ _ _ _ => rfl
  rcases hl.2 with ⟨rfl, h0⟩ | ⟨q, cap, cur, rfl, _, hq, c1, c2, c3, c4⟩
  · have hx : l = [] := List.eq_nil_of_length_eq_zero h0
    subst hx
    go_enter Try.func24, Try.ntmps24
    go_wp2_with fail
    go_ret
    exact ⟨_, rfl, World.ownsRow_nil _ _ _ _, Below.refl _ _⟩
  · have hlen := hl.1
    have hcell : ∀ j u, (ecells l)[j]? = some u → w.cell? ((⟨q, 0, none⟩ : Addr).add j) = some u := fun j u hj => World.ownsRow.cells hl (g := q) rfl j u hj
    clear hq c3 c4 hl
    go_enter Try.func24, Try.ntmps24
    have h0 : (w.alloc (.cells #[] TE)).ownsRow w.heap.size TE 5 (.slice (some ⟨w.heap.size, 0, none⟩) 0 0) 0 [] :=
      ⟨rfl, .inr ⟨w.heap.size, 0, #[], rfl, Nat.le_refl _, heap_alloc_new _ _, Nat.le_refl _, Nat.zero_le _, rfl, rfl⟩⟩
    have hcell1 : ∀ j u, (ecells l)[j]? = some u → (w.alloc (.cells #[] TE)).cell? ((⟨q, 0, none⟩ : Addr).add j) = some u := fun j u hj => by have := hcell j u hj; rw [Addr.add_lit] at this ⊢; exact cell_below this (alloc1 _ _)
    go_wp2_with (at_builtin; refine wpList_append_own _ rfl _ _ _ rfl w.heap.size TE i0 _ 5 64 Try.underlying26 hi hz0 hz1 hz2 rfl (by decide) _ 0 [] rfl h0 ⟨q, 0, none⟩ l.length cap (ecells l) rfl hlen hcell1 hone ?_ ?_ (by simp) ?_)
    · unfold maxLen; omega
    · omega
    · intro v' w' hown hgrow _
      go_wp2
      go_ret
      exact ⟨_, rfl, hown, (alloc1 _ _).grown hgrow (by simp) (fun k hk => by cases hk; simp)⟩
theorem touched_any {w : World} {h : Hl} {L : Lg} (g : LG w h L) (hm : L.met.length ≤ 1000) : Calls Try.prog 14 #[.pointer (some ⟨h.p, 0, none⟩)] w fun e w' => ∃ v, e = .returned v ∧ Below w.heap.size w w' ∧ Ans w' h v (L.met.map touE) := by
  have hc := clone_ents h.tv (L.met.map touE) w (by rw [List.length_map]; exact g.tou) (by rw [List.length_map]; exact hm) (tou_one _)
  have HC : Hid (Calls Try.prog 24 #[h.tv] w fun e w' => ∃ v', e = .returned v' ∧ Below w.heap.size w w' ∧ Ans w' h v' (L.met.map touE)) := hc.mono fun e w' ⟨v', he, ho, hb⟩ => ⟨v', he, hb, by
    refine ⟨⟨?_, ?_⟩, fun x hx => ?_⟩
    · rcases ho.2 with ⟨rfl, h0⟩ | ⟨q, cap, cur, rfl, hB, hq, c1, c2, c3, c4⟩
      · have : L.met = [] := by simpa using h0
        rw [this]; exact (Ans.nil w' h).1.1
      · refine ⟨_, cap, rfl, c1, c2, (fun e => by cases e), .inr ⟨q, 0, rfl, fun j u hj => ?_⟩⟩
        have := World.ownsRow.cells ho (g := q) rfl j u hj
        rwa [Addr.add_lit] at this
    · intro b o n c e j hj hf
      rcases ho.2 with ⟨e1, _⟩ | ⟨q, cap, cur, e1, hB, _⟩
      · rw [e1] at e; cases e
      · rw [e1] at e; cases e
        have := g.lt _ hf
        simp at this; omega
    · obtain ⟨s, _, rfl⟩ := List.mem_map.1 hx
      exact ⟨⟨none, 0, rfl, Nat.le_refl _, Nat.zero_le _, fun _ => ⟨rfl, rfl⟩, .inl rfl⟩, fun b o n c e => by cases e⟩⟩
  have c4 := g.cells 9
  simp at c4
  clear g hc
  go_enter Try.func14, Try.ntmps14
  go_wp2_with fail
  refine HC.out.mono ?_
  rintro e w1 ⟨v, rfl, hb, ha⟩
  have HF : Hid _ := And.intro hb ha
  clear hb ha HC
  go_wp2_with fail
  go_ret
  exact ⟨_, rfl, HF.out⟩
end Go.Proofs.Ytbfoplaccalegaa.Val
