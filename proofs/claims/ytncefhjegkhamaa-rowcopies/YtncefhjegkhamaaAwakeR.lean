/- The law's awake answers true, in whatever world. -/
import Derived.Test.YtncefhjegkhamaaRowUpdate
namespace Go.Proofs.Ytncefhjegkhamaa.Val
open Go.RowKit

def ta : ByteArray := ⟨#[97]⟩
def tb : ByteArray := ⟨#[98]⟩
def exCols : List Bool := [false, false, true]
def exRow : List Val := [⟨false, 1, ⟨#[]⟩⟩, ⟨false, 5, ⟨#[]⟩⟩, ⟨true, 0, ta⟩]
def exSets : List SetP := [⟨2, 1, 0, 0, ⟨true, 0, tb⟩⟩, ⟨1, 6, 0, 1, ⟨false, 0, ⟨#[]⟩⟩⟩]
def exBad : List SetP := [⟨0, 1, 0, 0, ⟨false, 0, ⟨#[]⟩⟩⟩]
def exOut : List Val := [⟨false, 1, ⟨#[]⟩⟩, ⟨false, 6, ⟨#[]⟩⟩, ⟨true, 0, tb⟩]
theorem sz_a : ta.size = 1 := rfl
theorem sz_b : tb.size = 1 := rfl
theorem ex_upd : upd exCols exRow exSets = (exOut, 0) := by
  have e0 : (⟨#[]⟩ : ByteArray).toList = [] := by rw [ByteArray.toList_eq]
  simp [upd, fitsRow, mayT, exCols, exRow, exSets, exOut, fitsL, suitV, rightV, e0, setsB, setsFrom, setOk, isCol, goesB, colAt, isNum, runSets, comes, fits, val, sz_a, sz_b]
theorem ex_bad : upd exCols exRow exBad = ([], 20) := by
  have e0 : (⟨#[]⟩ : ByteArray).toList = [] := by rw [ByteArray.toList_eq]
  simp [upd, fitsRow, mayT, exCols, exRow, exBad, fitsL, suitV, rightV, e0, setsB, setsFrom, setOk, isCol, sz_a]
theorem ex_fits : fitsRow exCols exOut = true := by
  have e0 : (⟨#[]⟩ : ByteArray).toList = [] := by rw [ByteArray.toList_eq]
  simp [fitsRow, mayT, exCols, exOut, fitsL, suitV, rightV, e0, sz_b]
theorem ex_rowOk : RowOk exRow := by intro x hx; simp [exRow] at hx; rcases hx with rfl | rfl | rfl <;> exact ⟨by decide, by decide⟩
theorem ex_outOk : RowOk exOut := by intro x hx; simp [exOut] at hx; rcases hx with rfl | rfl | rfl <;> exact ⟨by decide, by decide⟩
theorem ex_setsOk : SetsOk exSets := by intro x hx; simp [exSets] at hx; rcases hx with rfl | rfl <;> exact ⟨by decide, by decide⟩
theorem ex_badOk : SetsOk exBad := by intro x hx; simp [exBad] at hx; subst hx; exact ⟨by decide, by decide⟩
/-- A slice just made of a literal. -/
theorem lies_new (w : World) (N : Nat) (hN : w.heap.size = N) (cs : List Value) (n : Nat) (T : TypeId) (hn : n ≤ maxLen) : Lies (w.alloc (.cells cs.toArray T)) (.slice (some ⟨N, 0, none⟩) n n) n cs := by
  subst hN
  refine ⟨_, n, rfl, Nat.le_refl _, hn, fun h => (by cases h), .inr ⟨w.heap.size, 0, rfl, fun j u hj => ?_⟩⟩
  rw [Nat.zero_add, cell_of_row (w.alloc _) w.heap.size j cs.toArray T (0, 0) (heap_alloc_new w _)]
  simpa using hj
set_option maxHeartbeats 1000000 in
theorem awake_any (w : World) :
    Calls Try.prog 10 #[] w fun e w' => e = .returned (.bool true) ∧ Below w.heap.size w w' := by
  go_enter Try.func10, Try.ntmps10
  go_wp2_with fail
  refine Calls.mono (update_any _ _ _ exCols exRow exSets _ ?hb ?hr ?hs ex_rowOk ex_setsOk) ?_
  case hb => exact (((lies_new w _ rfl [.bool false, .bool false, .bool true] 3 _ (by decide)).alloc _).alloc _).alloc _
  case hr => exact (lies_new _ _ (by simp) (exRow.flatMap Val.cells) 3 _ (by decide)).alloc _
  case hs => exact lies_new _ _ (by simp) (exSets.flatMap SetP.cells) 2 _ (by decide)
  rintro e w1 ⟨v', rfl, hown, hb1⟩
  rw [ex_upd] at hown ⊢
  have HBo : Hid (BoolsIn w1 (.slice (some ⟨w.heap.size, 0, none⟩) 3 3) exCols) := BoolsIn.below (by exact (((lies_new w _ rfl [.bool false, .bool false, .bool true] 3 _ (by decide)).alloc _).alloc _).alloc _) hb1
  have HRo : Hid (RowIn w1 (.slice (some ⟨w.heap.size + 1 + 1, 0, none⟩) 3 3) exRow) := RowIn.below (by exact (lies_new _ _ (by simp) (exRow.flatMap Val.cells) 3 _ (by decide)).alloc _) hb1
  have c0 : w1.cell? ⟨w.heap.size + 1, 0, none⟩ = some (.slice (some ⟨w.heap.size, 0, none⟩) 3 3) := by rw [hb1.cell (by simp)]; simp [go_sem]
  have HB1 : Hid (Below w.heap.size w w1) := ((((Below.refl _ _).alloc (Nat.le_refl _) _).alloc (by simp) _).alloc (by simp; omega) _ |>.alloc (by simp; omega) _).trans (hb1.mono (by simp; omega))
  have HO1 : Hid (OwnRow w1 w.heap.size 40 v' exOut) := hown.mono (by simp; omega)
  have hz : w.heap.size + 1 < w1.heap.size := World.block_lt_of_cell? _ _ c0
  clear hb1 hown
  go_wp2_with fail
  refine Calls.mono (update_any _ _ _ exCols exRow exBad _ (HBo.out.below ((Below.refl _ _).alloc (Nat.le_refl _) _)) (HRo.out.below ((Below.refl _ _).alloc (Nat.le_refl _) _)) ?hs ex_rowOk ex_badOk) ?_
  case hs => exact lies_new _ _ (by simp) (exBad.flatMap SetP.cells) 1 _ (by decide)
  rintro e w2 ⟨v2, rfl, hown, hb2⟩
  rw [ex_bad] at hown ⊢
  have hb21 : Below w1.heap.size w1 w2 := ((Below.refl _ _).alloc (Nat.le_refl _) _).trans (hb2.mono (by simp))
  have HB2 : Hid (Below w.heap.size w w2) := HB1.out.trans (hb21.mono HB1.out.size)
  have HBo2 : Hid (BoolsIn w2 (.slice (some ⟨w.heap.size, 0, none⟩) 3 3) exCols) := HBo.out.below hb21
  have HO2 : Hid (OwnRow w2 w.heap.size 40 v' exOut) := HO1.out.below hb21
  have c2 : w2.cell? ⟨w.heap.size + 1, 0, none⟩ = some (.slice (some ⟨w.heap.size, 0, none⟩) 3 3) := by rw [hb21.cell hz]; exact c0
  clear hb2 hown hb21 c0 hz
  obtain ⟨g, cap, rfl, _, _⟩ := HO2.out.place (by decide)
  obtain ⟨b1, o1, e1, _, f1, _⟩ := HO2.out.isIn.at 1 (by decide)
  cases e1
  obtain ⟨b2, o2, e2, _, _, f2⟩ := HO2.out.isIn.at 2 (by decide)
  cases e2
  have g1 : w2.cell? ⟨g, 4, none⟩ = some (.int .i64 6) := f1
  have g2 : w2.cell? ⟨g, 8, none⟩ = some (.string ⟨#[98]⟩) := f2
  clear f1 f2
  have hfit := fits_any (.slice (some ⟨w.heap.size, 0, none⟩) 3 3) (.slice (some ⟨g, 0, none⟩) exOut.length cap) exCols exOut w2 HBo2.out HO2.out.isIn ex_outOk
  rw [ex_fits] at hfit
  have HF : Hid _ := hfit
  clear hfit
  go_wp2_with fail
  refine Calls.mono HF.out ?_
  rintro e w3 ⟨rfl, hb3⟩
  go_wp2_with fail
  go_ret
  exact ⟨rfl, HB2.out.trans (hb3.mono HB2.out.size)⟩
end Go.Proofs.Ytncefhjegkhamaa.Val
