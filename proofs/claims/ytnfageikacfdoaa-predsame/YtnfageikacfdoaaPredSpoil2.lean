/- The walk of the law's spoil. -/
import Derived.Test.YtnfageikacfdoaaPredSpoil
import Derived.Test.YtnfageikacfdoaaPredClone
namespace Go.Proofs.Ytnfageikacfdoaa.Val
open Go Go.RowKit

theorem set_other {w : World} {g b j i : Nat} {v u : Value} (h : w.cell? ⟨b, i, none⟩ = some u) (hne : b ≠ g ∨ i ≠ j) : (w.setCell ⟨g, j, none⟩ v).cell? ⟨b, i, none⟩ = some u := by
  rw [World.cell?_setCell_other _ _ _ _ (by intro e; injection e with h1 h2; omega)]; exact h
theorem set_same {w : World} {g j : Nat} {v u : Value} (h : w.cell? ⟨g, j, none⟩ = some u) : (w.setCell ⟨g, j, none⟩ v).cell? ⟨g, j, none⟩ = some v := World.cell?_setCell_same' _ _ _ (by rw [h]; rfl)
set_option maxHeartbeats 4000000 in
theorem spoil_step (p : PT) (ih : ∀ q ∈ p.l, SpoilOk q) : SpoilOk p := by
  intro P w c0 c1 c2 c3 c4 c5 c6 c7 hsh hs hP
  have hlen : p.l.length ≤ 1000000 := by have := length_sizeL p.l; have := size_l p; omega
  have HI : Hid (Sh w P p ∧ p.size ≤ 1000000 ∧ (∀ k, P k → k < w.heap.size) ∧ ∀ q ∈ p.l, SpoilOk q) := ⟨hsh, hs, hP, ih⟩
  obtain ⟨ao, cap, hlv⟩ : ∃ ao cap, p.lv = .slice ao p.l.length cap := by
    rcases hsh.row with ⟨h1, ao, c, h2⟩ | ⟨g, cap, h1, _⟩
    · exact ⟨ao, c, by rw [h1]; exact h2⟩
    · exact ⟨_, cap, h1⟩
  have HLV : Hid (p.lv = .slice ao p.l.length cap) := hlv
  rw [hlv]
  clear hsh hs hP ih hlv
  go_enter Try.func24, Try.ntmps24
  go_wp2_with fail
  go_loopw [2] (fun i wr => ∃ k : Nat, k ≤ p.l.length ∧ i = .int .i64 k ∧ Hid (Spl P w wr) ∧ wr.cell? ⟨w.heap.size, 8, none⟩ = some (.slice ao p.l.length cap))
    (fun i _ => p.l.length - (intOf i).toNat)
  case atStart => exact ⟨0, Nat.zero_le _, rfl, Spl.of ((Below.refl _ _).alloc (Nat.le_refl _) _), by simp [go_sem]⟩
  case round =>
    obtain ⟨k, hk, rfl, HS, h8⟩ := hrel
    by_cases h1 : k < p.l.length
    · have i0 : (0 : Int) ≤ (k : Int) := by omega
      have i1 : (k : Int) < (p.l.length : Int) := by omega
      have hsw := HI.out.1.spl HS.out
      rcases hsw.row with ⟨e1, _⟩ | ⟨g, cap', e1, hg, hf, hx, hL, hq⟩
      · rw [e1] at h1; simp at h1
      rw [HLV.out] at e1
      cases e1
      have hgN : g < w.heap.size := HI.out.2.2.1 g hg
      have hm := List.getElem_mem h1
      obtain ⟨u0, x0⟩ := hx (k * 9) (by omega)
      obtain ⟨u1, x1⟩ := hx (k * 9 + 1) (by omega)
      obtain ⟨u2, x2⟩ := hx (k * 9 + 2) (by omega)
      obtain ⟨u3, x3⟩ := hx (k * 9 + 3) (by omega)
      obtain ⟨u4, x4⟩ := hx (k * 9 + 4) (by omega)
      obtain ⟨u5, x5⟩ := hx (k * 9 + 5) (by omega)
      obtain ⟨u6, x6⟩ := hx (k * 9 + 6) (by omega)
      obtain ⟨u7, x7⟩ := hx (k * 9 + 7) (by omega)
      have x8 := hL k h1
      have f0 := hf (k * 9)
      have f3 : (wr.setCell ⟨g, k * 9, none⟩ (.int .i64 99)).frozen? ⟨g, k * 9 + 3, none⟩ = false := by rw [World.frozen?_setCell]; exact hf _
      have y3 : (wr.setCell ⟨g, k * 9, none⟩ (.int .i64 99)).cell? ⟨g, k * 9 + 3, none⟩ = some u3 := set_other x3 (.inr (by omega))
      have h8a : (wr.setCell ⟨g, k * 9, none⟩ (.int .i64 99)).cell? ⟨w.heap.size, 8, none⟩ = some (.slice (some ⟨g, 0, none⟩) p.l.length cap) := set_other h8 (.inl (by omega))
      have h8b : ((wr.setCell ⟨g, k * 9, none⟩ (.int .i64 99)).setCell ⟨g, k * 9 + 3, none⟩ (.int .i64 7)).cell? ⟨w.heap.size, 8, none⟩ = some (.slice (some ⟨g, 0, none⟩) p.l.length cap) := set_other h8a (.inl (by omega))
      have S1 : Spl P wr ((wr.setCell ⟨g, k * 9, none⟩ (.int .i64 99)).setCell ⟨g, k * 9 + 3, none⟩ (.int .i64 7)) := (Spl.set hg (.inl (by omega)) x0 _).trans (Spl.set hg (.inr (by omega)) y3 _)
      have z0 : ((wr.setCell ⟨g, k * 9, none⟩ (.int .i64 99)).setCell ⟨g, k * 9 + 3, none⟩ (.int .i64 7)).cell? ⟨g, k * 9, none⟩ = some (.int .i64 99) := set_other (set_same x0) (.inr (by omega))
      have z1 : ((wr.setCell ⟨g, k * 9, none⟩ (.int .i64 99)).setCell ⟨g, k * 9 + 3, none⟩ (.int .i64 7)).cell? ⟨g, k * 9 + 1, none⟩ = some u1 := set_other (set_other x1 (.inr (by omega))) (.inr (by omega))
      have z2 : ((wr.setCell ⟨g, k * 9, none⟩ (.int .i64 99)).setCell ⟨g, k * 9 + 3, none⟩ (.int .i64 7)).cell? ⟨g, k * 9 + 2, none⟩ = some u2 := set_other (set_other x2 (.inr (by omega))) (.inr (by omega))
      have z3 : ((wr.setCell ⟨g, k * 9, none⟩ (.int .i64 99)).setCell ⟨g, k * 9 + 3, none⟩ (.int .i64 7)).cell? ⟨g, k * 9 + 3, none⟩ = some (.int .i64 7) := set_same y3
      have z4 : ((wr.setCell ⟨g, k * 9, none⟩ (.int .i64 99)).setCell ⟨g, k * 9 + 3, none⟩ (.int .i64 7)).cell? ⟨g, k * 9 + 4, none⟩ = some u4 := set_other (set_other x4 (.inr (by omega))) (.inr (by omega))
      have z5 : ((wr.setCell ⟨g, k * 9, none⟩ (.int .i64 99)).setCell ⟨g, k * 9 + 3, none⟩ (.int .i64 7)).cell? ⟨g, k * 9 + 5, none⟩ = some u5 := set_other (set_other x5 (.inr (by omega))) (.inr (by omega))
      have z6 : ((wr.setCell ⟨g, k * 9, none⟩ (.int .i64 99)).setCell ⟨g, k * 9 + 3, none⟩ (.int .i64 7)).cell? ⟨g, k * 9 + 6, none⟩ = some u6 := set_other (set_other x6 (.inr (by omega))) (.inr (by omega))
      have z7 : ((wr.setCell ⟨g, k * 9, none⟩ (.int .i64 99)).setCell ⟨g, k * 9 + 3, none⟩ (.int .i64 7)).cell? ⟨g, k * 9 + 7, none⟩ = some u7 := set_other (set_other x7 (.inr (by omega))) (.inr (by omega))
      have z8 : ((wr.setCell ⟨g, k * 9, none⟩ (.int .i64 99)).setCell ⟨g, k * 9 + 3, none⟩ (.int .i64 7)).cell? ⟨g, k * 9 + 8, none⟩ = some p.l[k].lv := set_other (set_other x8 (.inr (by omega))) (.inr (by omega))
      have HS1 : Hid (Spl P w ((wr.setCell ⟨g, k * 9, none⟩ (.int .i64 99)).setCell ⟨g, k * 9 + 3, none⟩ (.int .i64 7))) := HS.out.trans S1
      have HQ : Hid (Calls Try.prog 24 #[.agg #[.int .i64 99, u1, u2, .int .i64 7, u4, u5, u6, u7, p.l[k].lv]] ((wr.setCell ⟨g, k * 9, none⟩ (.int .i64 99)).setCell ⟨g, k * 9 + 3, none⟩ (.int .i64 7)) fun e w' => e = .returned (.tuple #[]) ∧ Spl P ((wr.setCell ⟨g, k * 9, none⟩ (.int .i64 99)).setCell ⟨g, k * 9 + 3, none⟩ (.int .i64 7)) w') :=
        HI.out.2.2.2 _ hm P _ _ _ _ _ _ _ _ _ ((hq _ hm).spl S1) (by have := size_part (p := p) hm; have := HI.out.2.1; omega) (fun j hj => Nat.lt_of_lt_of_le (HI.out.2.2.1 j hj) HS1.out.sv.size)
      have H8 : Hid (((wr.setCell ⟨g, k * 9, none⟩ (.int .i64 99)).setCell ⟨g, k * 9 + 3, none⟩ (.int .i64 7)).cell? ⟨w.heap.size, 8, none⟩ = some (.slice (some ⟨g, 0, none⟩) p.l.length cap) ∧ ¬ P w.heap.size) := ⟨h8b, fun h => by have := HI.out.2.2.1 _ h; omega⟩
      clear hsw hg hf hx hL hq hm S1 x1 x2 x3 x4 x5 x6 x7 x8 HS
      go_wp2_with fail
      refine Calls.mono HQ.out ?_
      rintro e w3 ⟨rfl, hs3⟩
      have HS3 : Hid (Spl P w w3) := HS1.out.trans hs3
      have h83 : w3.cell? ⟨w.heap.size, 8, none⟩ = some (.slice (some ⟨g, 0, none⟩) p.l.length cap) := by
        rw [hs3.sv.cell (World.block_lt_of_cell? _ _ H8.out.1) H8.out.2]; exact H8.out.1
      clear hs3 HS1 HQ H8 z0 z1 z2 z3 z4 z5 z6 z7 z8 h8a h8b h8 y3 f0 f3 x0
      go_wp2_with fail
      go_roundw
      case rel => exact ⟨k + 1, by omega, by go_num, HS3, h83⟩
      case measure => simp [intOf]; omega
    · have i1 : decide ((k : Int) < (p.l.length : Int)) = false := by simp; omega
      clear HI
      go_wp2_with fail
      go_end0
      exact ⟨rfl, HS.out⟩
theorem spoil_ok (p : PT) : SpoilOk p := by
  induction p using PT.ind with
  | h p ih => exact spoil_step p ih
end Go.Proofs.Ytnfageikacfdoaa.Val
