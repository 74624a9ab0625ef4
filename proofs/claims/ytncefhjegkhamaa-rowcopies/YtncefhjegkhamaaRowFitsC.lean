/- What row.Fits answers, and the reference's. -/
import Derived.Test.YtncefhjegkhamaaRowB
namespace Go.Proofs.Ytncefhjegkhamaa.Val
open Go.RowKit

def fitsL (cols : List Bool) (xs : List Val) : Bool := (cols.zip xs).all fun p => suitV p.1 p.2
/-- Does a row fit a table that may be? -/
def fitsRow (cols : List Bool) (xs : List Val) : Bool := mayT cols && decide (xs.length = cols.length) && fitsL cols xs
theorem fitsL_iff {cols : List Bool} {xs : List Val} : fitsL cols xs = true ↔ ∀ k (h1 : k < cols.length) (h2 : k < xs.length), suitV cols[k] xs[k] = true := by
  unfold fitsL
  rw [List.all_eq_true]
  refine ⟨fun h k h1 h2 => ?_, fun h p hp => ?_⟩
  · exact h (cols[k], xs[k]) (List.mem_iff_getElem.2 ⟨k, by simp; omega, by simp⟩)
  · obtain ⟨k, hk, rfl⟩ := List.mem_iff_getElem.1 hp
    rw [List.length_zip] at hk
    simpa using h k (by omega) (by omega)
theorem fitsL_no {cols : List Bool} {xs : List Val} {k : Nat} (h1 : k < cols.length) (h2 : k < xs.length) (h : suitV cols[k] xs[k] = false) : fitsL cols xs = false := by
  cases e : fitsL cols xs
  · rfl
  · rw [fitsL_iff.1 e k h1 h2] at h; cases h
/-- So far all suit. -/
def FitsTo (cols : List Bool) (xs : List Val) (k : Nat) : Prop := ∀ j (h1 : j < cols.length) (h2 : j < xs.length), j < k → suitV cols[j] xs[j] = true
theorem FitsTo.zero (cols : List Bool) (xs : List Val) : FitsTo cols xs 0 := fun j _ _ h => by omega
theorem FitsTo.next {cols : List Bool} {xs : List Val} {k : Nat} (h : FitsTo cols xs k) (h1 : k < cols.length) (h2 : k < xs.length) (hs : suitV cols[k] xs[k] = true) : FitsTo cols xs (k + 1) := fun j g1 g2 hj => by
  by_cases e : j = k
  · subst e; exact hs
  · exact h j g1 g2 (by omega)
theorem FitsTo.all {cols : List Bool} {xs : List Val} {k : Nat} (h : FitsTo cols xs k) (hk : xs.length ≤ k) : fitsL cols xs = true := fitsL_iff.2 fun j h1 h2 => h j h1 h2 (by omega)
theorem fitsRow_may {cols : List Bool} {xs : List Val} (h : mayT cols = false) : fitsRow cols xs = false := by unfold fitsRow; rw [h]; rfl
theorem fitsRow_len {cols : List Bool} {xs : List Val} (h : ¬ xs.length = cols.length) : fitsRow cols xs = false := by unfold fitsRow; rw [decide_eq_false h]; simp
theorem fitsRow_of {cols : List Bool} {xs : List Val} (h : mayT cols = true) (hl : xs.length = cols.length) : fitsRow cols xs = fitsL cols xs := by unfold fitsRow; rw [h, decide_eq_true hl]; rfl
theorem back1 {w w1 : World} {o1 : Obj} (h : Below (w.alloc o1).heap.size (w.alloc o1) w1) : Below w.heap.size w w1 :=
  ((Below.refl _ _).alloc (Nat.le_refl _) _).trans (h.mono (by simp))
theorem in1 {w w1 : World} {v : Value} {T : TypeId} (h : Below (w.alloc (.cells #[v] T)).heap.size (w.alloc (.cells #[v] T)) w1) : w1.cell? ⟨w.heap.size, 0, none⟩ = some v := by
  rw [h.cell (by simp)]; simp
theorem next1 {B : Nat} {w wr w2 : World} {o : Obj} (h : Below B w wr) (hB : B ≤ wr.heap.size) (h2 : Below (wr.alloc o).heap.size (wr.alloc o) w2) : Below B w w2 :=
  (h.alloc hB _).trans (h2.mono (by simp; omega))

set_option maxHeartbeats 400000 in
theorem fits_no (vc vr : Value) (cols : List Bool) (xs : List Val) (w : World) (hc : BoolsIn w vc cols) (_hr : RowIn w vr xs) (h : mayT cols = false) :
    Calls Try.prog 15 #[.agg #[vc], vr] w fun e w' => e = .returned (.bool false) ∧ Below w.heap.size w w' := by
  have H : Hid (∀ w1, Below w.heap.size w w1 → Calls Try.prog 13 #[.agg #[vc]] w1 fun e w' => e = .returned (.int .i64 1) ∧ Below w1.heap.size w1 w') := fun w1 hb => by
    have := check_any vc cols w1 (hc.below hb); rw [h] at this; exact this
  clear h hc
  go_enter Try.func15, Try.ntmps15
  go_wp2_with fail
  refine Calls.mono (H.out _ ((Below.refl _ _).alloc (Nat.le_refl _) _)) ?_
  rintro e w1 ⟨rfl, hb1⟩
  go_wp2
  go_ret
  exact ⟨rfl, back1 hb1⟩
set_option maxHeartbeats 400000 in
theorem fits_len (vc vr : Value) (cols : List Bool) (xs : List Val) (w : World) (hc : BoolsIn w vc cols) (hr : RowIn w vr xs) (h : mayT cols = true) (hl : ¬ xs.length = cols.length) :
    Calls Try.prog 15 #[.agg #[vc], vr] w fun e w' => e = .returned (.bool false) ∧ Below w.heap.size w w' := by
  have H : Hid (∀ w1, Below w.heap.size w w1 → Calls Try.prog 13 #[.agg #[vc]] w1 fun e w' => e = .returned (.int .i64 0) ∧ Below w1.heap.size w1 w') := fun w1 hb => by
    have := check_any vc cols w1 (hc.below hb); rw [h] at this; exact this
  obtain ⟨ac, cc, rfl, lc⟩ := hc.slice
  obtain ⟨ar, cr, rfl, lr⟩ := hr.slice
  have hd : ((xs.length : Int) != (cols.length : Int)) = true := by simp; omega
  clear h hc hr hl
  go_enter Try.func15, Try.ntmps15
  go_wp2_with fail
  refine Calls.mono (H.out _ ((Below.refl _ _).alloc (Nat.le_refl _) _)) ?_
  rintro e w1 ⟨rfl, hb1⟩
  have c0 := in1 hb1
  go_wp2
  go_ret
  exact ⟨rfl, back1 hb1⟩
set_option maxHeartbeats 1000000 in
theorem fits_yes (vc vr : Value) (cols : List Bool) (xs : List Val) (w : World) (hc : BoolsIn w vc cols) (hr : RowIn w vr xs) (ho : RowOk xs) (h : mayT cols = true) (hl : xs.length = cols.length) :
    Calls Try.prog 15 #[.agg #[vc], vr] w fun e w' => e = .returned (.bool (fitsL cols xs)) ∧ Below w.heap.size w w' := by
  have H : Hid (∀ w1, Below w.heap.size w w1 → Calls Try.prog 13 #[.agg #[vc]] w1 fun e w' => e = .returned (.int .i64 0) ∧ Below w1.heap.size w1 w') := fun w1 hb => by
    have := check_any vc cols w1 (hc.below hb); rw [h] at this; exact this
  have HS : Hid (∀ w1 (k : Nat) (h1 : k < cols.length) (h2 : k < xs.length), Below w.heap.size w w1 → Calls Try.prog 24 #[.agg #[vc], .int .i64 k, V xs[k].t xs[k].n xs[k].s] w1 fun e w' => e = .returned (.bool (suitV cols[k] xs[k])) ∧ Below w1.heap.size w1 w') :=
    fun w1 k h1 h2 hb => suits_any vc cols k xs[k] w1 (hc.below hb) (ho _ (List.getElem_mem _)).2 h1
  obtain ⟨ac, cc, rfl, lc⟩ := hc.slice
  obtain ⟨ar, cr, rfl, lr⟩ := hr.slice
  have HR : Hid (RowIn w (.slice ar xs.length cr) xs) := hr
  have hd : ((xs.length : Int) != (cols.length : Int)) = false := by simp; omega
  clear h hc hr ho
  have HL : Hid (xs.length = cols.length) := hl
  clear hl
  go_enter Try.func15, Try.ntmps15
  go_wp2_with fail
  refine Calls.mono (H.out _ ((Below.refl _ _).alloc (Nat.le_refl _) _)) ?_
  rintro e w1 ⟨rfl, hb1⟩
  have c0 := in1 hb1
  have HB : Hid (Below (w.heap.size + 1) (w.alloc (.cells #[.slice ac cols.length cc] 24)) w1) := hb1.mono (by simp)
  clear hb1 H
  go_wp2_with fail
  go_loopw [20] (fun i wr => ∃ k : Nat, k ≤ xs.length ∧ i = .int .i64 k ∧ Hid (FitsTo cols xs k) ∧ Hid (Below (w.heap.size + 1) (w.alloc (.cells #[.slice ac cols.length cc] 24)) wr)) (fun i _ => xs.length - (intOf i).toNat)
  case atStart => exact ⟨0, Nat.zero_le _, rfl, FitsTo.zero _ _, HB⟩
  case round =>
    obtain ⟨k, hk, rfl, HT, HW⟩ := hrel
    clear HB c0
    have hBr : Below w.heap.size w wr := back1 (HW.out.mono (by simp))
    have c0 : wr.cell? ⟨w.heap.size, 0, none⟩ = some (.slice ac cols.length cc) := in1 (HW.out.mono (by simp))
    have hz : w.heap.size < wr.heap.size := World.block_lt_of_cell? wr _ c0
    by_cases hlt : k < xs.length
    · have hlt2 : k < cols.length := by rw [← HL.out]; exact hlt
      obtain ⟨b, o, rfl, d0, d1, d2⟩ := (HR.out.below hBr).at k hlt
      have HBr : Hid (Below w.heap.size w wr) := hBr
      clear hBr
      go_wp2_with fail
      refine Calls.mono (HS.out _ k hlt2 hlt (HBr.out.alloc (by omega) _)) ?_
      rintro e w2 ⟨rfl, hb2⟩
      have HB2 : Hid (Below (w.heap.size + 1) (w.alloc (.cells #[.slice ac cols.length cc] 24)) w2) := next1 HW.out (by omega) hb2
      clear hb2
      cases hs : suitV cols[k] xs[k]
      · have HN : Hid (fitsL cols xs = false) := fitsL_no hlt2 hlt hs
        go_wp2_with fail
        go_ret
        exact ⟨ret_bool' HN.out.symm, back1 (HB2.out.mono (by simp))⟩
      · have HN : Hid (FitsTo cols xs (k + 1)) := HT.out.next hlt2 hlt hs
        go_wp2_with fail
        go_roundw
        case rel => exact ⟨k + 1, by omega, by go_num, HN, HB2⟩
        case measure => simp [intOf]; omega
    · have HN : Hid (fitsL cols xs = true) := HT.out.all (by omega)
      go_wp2_with fail
      go_ret
      exact ⟨ret_bool' HN.out.symm, hBr⟩
theorem fits_any (vc vr : Value) (cols : List Bool) (xs : List Val) (w : World) (hc : BoolsIn w vc cols) (hr : RowIn w vr xs) (ho : RowOk xs) :
    Calls Try.prog 15 #[.agg #[vc], vr] w fun e w' => e = .returned (.bool (fitsRow cols xs)) ∧ Below w.heap.size w w' := by
  cases h : mayT cols
  · rw [fitsRow_may h]; exact fits_no vc vr cols xs w hc hr h
  · by_cases hl : xs.length = cols.length
    · rw [fitsRow_of h hl]; exact fits_yes vc vr cols xs w hc hr ho h hl
    · rw [fitsRow_len hl]; exact fits_len vc vr cols xs w hc hr h hl
end Go.Proofs.Ytncefhjegkhamaa.Val
