/- What the law's spoil does: it writes into the rows of what it is handed, and nowhere else that is old. -/
import Derived.Test.YtnfageikacfdoaaPredNew
import Derived.Test.YtnfageikacfdoaaBare
namespace Go.Proofs.Ytnfageikacfdoaa.Val
open Go Go.RowKit

/-- Its parts lie, at all depths, in rows that may be written, whose blocks are of some kind. -/
def ShN (w : World) (P : Nat → Prop) : Nat → PT → Prop
  | 0, _ => False
  | n + 1, p => (p.l = [] ∧ ∃ ao c, p.lv = .slice ao 0 c) ∨ ∃ g cap, p.lv = .slice (some ⟨g, 0, none⟩) p.l.length cap ∧ P g ∧ (∀ j, w.frozen? ⟨g, j, none⟩ = false) ∧ (∀ j, j < p.l.length * 9 → ∃ u, w.cell? ⟨g, j, none⟩ = some u) ∧ (∀ (k : Nat) (hk : k < p.l.length), w.cell? ⟨g, k * 9 + 8, none⟩ = some p.l[k].lv) ∧ ∀ q ∈ p.l, ShN w P n q
def Sh (w : World) (P : Nat → Prop) (p : PT) : Prop := ∃ n, ShN w P n p
/-- What it does to a world. -/
structure Spl (P : Nat → Prop) (w w' : World) : Prop where
  sv : Sv P w w'
  keep : ∀ g j u, w.cell? ⟨g, j, none⟩ = some u → ∃ u', w'.cell? ⟨g, j, none⟩ = some u' ∧ (j % 9 ≠ 0 → j % 9 ≠ 3 → u' = u)
  froz : ∀ g j, g < w.heap.size → w'.frozen? ⟨g, j, none⟩ = w.frozen? ⟨g, j, none⟩
theorem Spl.refl (P : Nat → Prop) (w : World) : Spl P w w := ⟨Sv.refl _ _, fun _ _ u h => ⟨u, h, fun _ _ => rfl⟩, fun _ _ _ => rfl⟩
theorem Spl.trans {P : Nat → Prop} {a b c : World} (h : Spl P a b) (k : Spl P b c) : Spl P a c :=
  ⟨h.sv.trans k.sv, fun g j u hu => by
    obtain ⟨u1, h1, h2⟩ := h.keep g j u hu
    obtain ⟨u2, k1, k2⟩ := k.keep g j u1 h1
    exact ⟨u2, k1, fun x y => (k2 x y).trans (h2 x y)⟩, fun g j hg => (k.froz g j (Nat.lt_of_lt_of_le hg h.sv.size)).trans (h.froz g j hg)⟩
theorem Spl.of {P : Nat → Prop} {w w' : World} (h : Below w.heap.size w w') : Spl P w w' :=
  ⟨Sv.of h, fun g j u hu => ⟨u, by rw [h.cell (World.block_lt_of_cell? w _ hu)]; exact hu, fun _ _ => rfl⟩, fun g j hg => h.frozen (p := ⟨g, j, none⟩) hg⟩
theorem Spl.set {P : Nat → Prop} {w : World} {g j : Nat} {u : Value} (hg : P g) (hj : j % 9 = 0 ∨ j % 9 = 3) (hu : w.cell? ⟨g, j, none⟩ = some u) (v : Value) : Spl P w (w.setCell ⟨g, j, none⟩ v) := by
  refine ⟨(Sv.refl _ _).set hg _, fun g' j' u' hu' => ?_, fun g' j' _ => by rw [World.frozen?_setCell]⟩
  by_cases e : g' = g ∧ j' = j
  · obtain ⟨rfl, rfl⟩ := e
    exact ⟨v, World.cell?_setCell_same' _ _ _ (by rw [hu]; rfl), fun h1 h2 => by omega⟩
  · refine ⟨u', ?_, fun _ _ => rfl⟩
    rw [World.cell?_setCell_other _ _ _ _ (by intro h; injection h with h1 h2; exact e ⟨h1.symm, h2.symm⟩)]
    exact hu'
theorem Sh.spl {P : Nat → Prop} {w w' : World} {p : PT} (h : Sh w P p) (hs : Spl P w w') : Sh w' P p := by
  obtain ⟨n, h⟩ := h
  refine ⟨n, ?_⟩
  induction n generalizing p with
  | zero => exact h.elim
  | succ n ih =>
    rcases h with h | ⟨g, cap, h1, h2, h3, h4, h5, h6⟩
    · exact .inl h
    · by_cases hl : p.l.length = 0
      · exact .inl ⟨List.eq_nil_of_length_eq_zero hl, _, _, by rw [h1, hl]⟩
      · obtain ⟨u, hu⟩ := h4 0 (by omega)
        have hlt : g < w.heap.size := World.block_lt_of_cell? w _ hu
        refine .inr ⟨g, cap, h1, h2, fun j => by rw [hs.froz g j hlt]; exact h3 j, fun j hj => ?_, fun k hk => ?_, fun q hq => ih (h6 q hq)⟩
        · obtain ⟨u, hu⟩ := h4 j hj
          obtain ⟨u', hu', _⟩ := hs.keep g j u hu
          exact ⟨u', hu'⟩
        · obtain ⟨u', hu', he⟩ := hs.keep g _ _ (h5 k hk)
          rw [he (by omega) (by omega)] at hu'
          exact hu'
theorem ShN.mono {w : World} {P : Nat → Prop} {n m : Nat} {p : PT} (h : ShN w P n p) (hm : n ≤ m) : ShN w P m p := by
  induction n generalizing m p with
  | zero => exact h.elim
  | succ n ih =>
    cases m with
    | zero => omega
    | succ m =>
      rcases h with h | ⟨g, cap, h1, h2, h3, h4, h5, h6⟩
      · exact .inl h
      · exact .inr ⟨g, cap, h1, h2, h3, h4, h5, fun q hq => ih (h6 q hq) (by omega)⟩
theorem New.sh {w : World} {T : TypeId} {P : Nat → Prop} {p : PT} (h : New w T P p) : Sh w P p := by
  obtain ⟨n, h⟩ := h
  refine ⟨n, ?_⟩
  induction n generalizing p with
  | zero => exact h.elim
  | succ n ih =>
    obtain ⟨_, _, h3, h4, h5⟩ := h
    rcases h3.2 with ⟨e1, e2⟩ | ⟨g, cap, cur, e1, _, hg, hn, _, hcs, ht⟩
    · exact .inl ⟨List.eq_nil_of_length_eq_zero e2, _, _, e1⟩
    · have hown : w.ownsRow 0 T 9 (.slice (some ⟨g, 0, none⟩) p.l.length cap) p.l.length (p.l.flatMap PT.cells) := by rw [← e1]; exact h3
      refine .inr ⟨g, cap, e1, h4 g (by rw [e1]; rfl), fun j => World.ownsRow.frozenAt hown j, fun j hj => ?_, fun k hk => ?_, fun q hq => ih (h5 q hq)⟩
      · have := World.ownsRow.cellAt hown j hj
        rw [this]
        exact ⟨_, List.getElem?_eq_getElem (by rw [cells_flat]; exact hj)⟩
      · rw [World.ownsRow.cellAt hown (k * 9 + 8) (by omega), flat_at PT.cells 9 (fun _ => rfl) p.l k 8 hk (by omega)]
        rfl
theorem Sh.row {w : World} {P : Nat → Prop} {p : PT} (h : Sh w P p) : (p.l = [] ∧ ∃ ao c, p.lv = .slice ao 0 c) ∨ ∃ g cap, p.lv = .slice (some ⟨g, 0, none⟩) p.l.length cap ∧ P g ∧ (∀ j, w.frozen? ⟨g, j, none⟩ = false) ∧ (∀ j, j < p.l.length * 9 → ∃ u, w.cell? ⟨g, j, none⟩ = some u) ∧ (∀ (k : Nat) (hk : k < p.l.length), w.cell? ⟨g, k * 9 + 8, none⟩ = some p.l[k].lv) ∧ ∀ q ∈ p.l, Sh w P q := by
  obtain ⟨n, h⟩ := h
  cases n with
  | zero => exact h.elim
  | succ n =>
    rcases h with h | ⟨g, cap, h1, h2, h3, h4, h5, h6⟩
    · exact .inl h
    · exact .inr ⟨g, cap, h1, h2, h3, h4, h5, fun q hq => ⟨n, h6 q hq⟩⟩
/-- What spoil does, handed one. -/
def SpoilOk (p : PT) : Prop := ∀ (P : Nat → Prop) (w : World) (c0 c1 c2 c3 c4 c5 c6 c7 : Value), Sh w P p → p.size ≤ 1000000 → (∀ k, P k → k < w.heap.size) →
  Calls Try.prog 24 #[.agg #[c0, c1, c2, c3, c4, c5, c6, c7, p.lv]] w fun e w' => e = .returned (.tuple #[]) ∧ Spl P w w'
end Go.Proofs.Ytnfageikacfdoaa.Val
