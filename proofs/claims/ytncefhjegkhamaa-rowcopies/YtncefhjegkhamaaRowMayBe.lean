/- What row.mayBe and row.CheckSets answer. -/
import Derived.Test.YtncefhjegkhamaaSetsPlain
namespace Go.Proofs.Ytncefhjegkhamaa.Val
open Go.RowKit

/-- The table's box and the marks, in memory. -/
def Mk (w : World) (b : Nat) (v : Value) (m : Nat → Bool) : Prop :=
  w.cell? ⟨b, 0, none⟩ = some v ∧ (∀ i, i < 4 → w.cell? ⟨b + 1, i, none⟩ = some (.bool (m i))) ∧ ∀ i, i < 4 → w.frozen? ⟨b + 1, i, none⟩ = false
theorem Mk.next {w1 w2 : World} {b : Nat} {v : Value} {m : Nat → Bool} (h : Mk w1 b v m) (hb : Below w1.heap.size w1 w2) : Mk w2 b v m := by
  obtain ⟨h0, h1, h2⟩ := h
  have hlt : b + 1 < w1.heap.size := World.block_lt_of_cell? _ _ (h1 0 (by omega))
  refine ⟨?_, fun i hi => ?_, fun i hi => ?_⟩
  · rw [hb.cell (World.block_lt_of_cell? _ _ h0)]; exact h0
  · rw [hb.cell hlt]; exact h1 i hi
  · rw [hb.frozen hlt]; exact h2 i hi
theorem Mk.lt {w1 : World} {b : Nat} {v : Value} {m : Nat → Bool} (h : Mk w1 b v m) : b + 1 < w1.heap.size := World.block_lt_of_cell? _ _ (h.2.1 0 (by omega))
/-- A set's box, in memory. -/
def SB (w : World) (b : Nat) (c op f o : Int) (t : Bool) (n : Int) (s : ByteArray) : Prop :=
  w.cell? ⟨b, 0, none⟩ = some (.int .i64 c) ∧ w.cell? ⟨b, 1, none⟩ = some (.int .i64 op) ∧ w.cell? ⟨b, 2, none⟩ = some (.int .i64 f) ∧ w.cell? ⟨b, 3, none⟩ = some (.int .i64 o) ∧ w.cell? ⟨b, 4, none⟩ = some (.bool t) ∧ w.cell? ⟨b, 5, none⟩ = some (.int .i64 n) ∧ w.cell? ⟨b, 6, none⟩ = some (.string s)
theorem SB.next {w1 w2 : World} {b : Nat} {c op f o : Int} {t : Bool} {n : Int} {s : ByteArray} (h : SB w1 b c op f o t n s) (hb : Below w1.heap.size w1 w2) : SB w2 b c op f o t n s := by
  obtain ⟨h1, h2, h3, h4, h5, h6, h7⟩ := h
  refine ⟨?_, ?_, ?_, ?_, ?_, ?_, ?_⟩
  · rw [hb.cell (World.block_lt_of_cell? _ _ h1)]; exact h1
  · rw [hb.cell (World.block_lt_of_cell? _ _ h2)]; exact h2
  · rw [hb.cell (World.block_lt_of_cell? _ _ h3)]; exact h3
  · rw [hb.cell (World.block_lt_of_cell? _ _ h4)]; exact h4
  · rw [hb.cell (World.block_lt_of_cell? _ _ h5)]; exact h5
  · rw [hb.cell (World.block_lt_of_cell? _ _ h6)]; exact h6
  · rw [hb.cell (World.block_lt_of_cell? _ _ h7)]; exact h7
theorem SB.new (w : World) (c op f o : Int) (t : Bool) (n : Int) (s : ByteArray) (T2 : TypeId) :
    SB (w.alloc (.cells #[.int .i64 c, .int .i64 op, .int .i64 f, .int .i64 o, .bool t, .int .i64 n, .string s] T2)) w.heap.size c op f o t n s := by
  refine ⟨?_, ?_, ?_, ?_, ?_, ?_, ?_⟩ <;> simp
theorem Mk.set {w1 : World} {b : Nat} {v : Value} {m : Nat → Bool} (h : Mk w1 b v m) (c : Nat) : Mk (w1.setCell ⟨b + 1, c, none⟩ (.bool true)) b v (fun i => if i = c then true else m i) := by
  obtain ⟨h0, h1, h2⟩ := h
  refine ⟨?_, fun i hi => ?_, fun i hi => ?_⟩
  · rw [World.cell?_setCell_far _ _ _ _ (by simp)]; exact h0
  · by_cases e : i = c
    · subst e; rw [World.cell?_setCell_same _ _ _ (h1 i hi)]; simp
    · rw [World.cell?_setCell_other _ _ _ _ (by simp)]; simp only [e, if_false]; exact h1 i hi
  · rw [World.frozen?_setCell]; exact h2 i hi
set_option maxHeartbeats 1000000 in
theorem mayBe_long (vc vs : Value) (l : List SetP) (w : World) (hs : SetsIn w vs l) (hl : 3 < l.length) :
    Calls Try.prog 23 #[.agg #[vc], vs] w fun e w' => e = .returned (.bool false) ∧ Below w.heap.size w w' := by
  obtain ⟨as', cs, rfl, ls⟩ := hs.slice
  clear hs
  go_enter Try.func23, Try.ntmps23
  go_wp2_with fail
  go_ret
  exact ⟨rfl, (Below.refl _ _).alloc (Nat.le_refl _) _⟩
set_option maxHeartbeats 1000000 in
theorem mayBe_any (vc vs : Value) (cols : List Bool) (l : List SetP) (w : World) (hc : BoolsIn w vc cols) (hs : SetsIn w vs l) (ho : ∀ s ∈ l, s.v.s.size ≤ maxLen) (hm : mayT cols = true) (hl : l.length ≤ 3) :
    Calls Try.prog 23 #[.agg #[vc], vs] w fun e w' => e = .returned (.bool (setsB cols l)) ∧ Below w.heap.size w w' := by
  have HI : Hid (∀ w1 i, Below w.heap.size w w1 → Calls Try.prog 30 #[.agg #[vc], .int .i64 i] w1 fun e w' => e = .returned (.bool (isCol cols i)) ∧ Below w1.heap.size w1 w') := fun w1 i hb => isColumn_any vc cols i w1 (hc.below hb)
  have HG : Hid (∀ w1 (k : Nat) (h : k < l.length), isCol cols l[k].col = true → Below w.heap.size w w1 → Calls Try.prog 31 #[.agg #[vc], SV l[k].col l[k].op l[k].src l[k].other l[k].v.t l[k].v.n l[k].v.s] w1 fun e w' => e = .returned (.bool (goesB cols l[k])) ∧ Below w1.heap.size w1 w') :=
    fun w1 k h hi hb => goes_any vc cols l[k] w1 (hc.below hb) (ho _ (List.getElem_mem _)) (isCol_iff.1 hi).1 (isCol_iff.1 hi).2
  have HM : Hid (cols.length ≤ 4) := (mayT_iff.1 hm).2
  obtain ⟨as', cs, rfl, ls⟩ := hs.slice
  have HSI : Hid (SetsIn w (.slice as' l.length cs) l) := hs
  clear hc hs ho hm
  go_enter Try.func23, Try.ntmps23
  go_wp2_with fail
  go_loopw [14] (fun i wr => ∃ (k : Nat) (m : Nat → Bool), k ≤ l.length ∧ i = .int .i64 k ∧ Hid (OkTo cols l k ∧ Marked l k m) ∧ Hid (Mk wr w.heap.size vc m ∧ Below w.heap.size w wr)) (fun i _ => l.length - (intOf i).toNat)
  case atStart =>
    refine ⟨0, fun i => decide (i = 0), Nat.zero_le _, rfl, ⟨OkTo.zero _ _, Marked.zero _⟩, ⟨?_, ?_, ?_⟩, ?_⟩
    · simp [go_sem]
    · intro i hi
      match i, hi with
      | 0, _ => simp [go_sem]
      | 1, _ => simp [go_sem]
      | 2, _ => simp [go_sem]
      | 3, _ => simp [go_sem]
    · intro i hi; simp [go_sem]
    · exact two_boxes _ _ _
  case round =>
    obtain ⟨k, m, hk, rfl, HT, HW⟩ := hrel
    by_cases hlt : k < l.length
    · obtain ⟨b, o, rfl, d0, d1, d2, d3, d4, d5, d6⟩ := (HSI.out.below HW.out.2).at k hlt
      have c0 := HW.out.1.1
      have hz : w.heap.size + 1 < wr.heap.size := HW.out.1.lt
      have hz0 : w.heap.size < wr.heap.size := by omega
      have HGk : Hid (∀ w1, isCol cols l[k].col = true → Below w.heap.size w w1 → Calls Try.prog 31 #[.agg #[vc], SV l[k].col l[k].op l[k].src l[k].other l[k].v.t l[k].v.n l[k].v.s] w1 fun e w' => e = .returned (.bool (goesB cols l[k])) ∧ Below w1.heap.size w1 w') := fun w1 => HG.out w1 k hlt
      go_wp2_with fail
      refine Calls.mono (HI.out _ _ (HW.out.2.alloc (by omega) _)) ?_
      rintro e w2 ⟨rfl, hb2⟩
      have HM2 : Hid (Mk w2 w.heap.size vc m) := (HW.out.1.next ((Below.refl _ _).alloc (Nat.le_refl _) _)).next hb2
      have HB2 : Hid (Below w.heap.size w w2) := (HW.out.2.alloc (by omega) _).trans (hb2.mono (by simp; omega))
      have HS2 : Hid (SB w2 wr.heap.size l[k].col l[k].op l[k].src l[k].other l[k].v.t l[k].v.n l[k].v.s) := SB.next (SB.new wr _ _ _ _ _ _ _ _) hb2
      clear hb2 c0 d0 d1 d2 d3 d4 d5 d6 hz hz0
      cases hcol : isCol cols l[k].col
      · have HN : Hid (setsB cols l = false) := setsB_bad hlt (setOk_no hcol)
        clear hcol
        go_wp2_with fail
        go_ret
        exact ⟨ret_bool' HN.out.symm, HB2.out⟩
      · obtain ⟨q0, q1⟩ := isCol_iff.1 hcol
        obtain ⟨c, hc⟩ : ∃ c : Nat, l[k].col = c := ⟨l[k].col.toNat, by omega⟩
        have hM := HM.out
        have hc4 : c < 4 := by omega
        have HC : Hid (l[k].col = (c : Int)) := hc
        have HCC : Hid (isCol cols l[k].col = true) := hcol
        have hs := HS2.out
        rw [hc] at hs
        unfold SB at hs
        have c0 := HM2.out.1
        have c1 := HM2.out.2.1 c hc4
        clear hcol q0 q1 hM
        have i0 : (0 : Int) ≤ (c : Int) := by omega
        have i1 : (c : Int) < 4 := by omega
        clear hc
        cases hmc : m c
        · rw [hmc] at c1
          go_wp2_with fail
          have hcall := HGk.out w2 HCC.out HB2.out
          rw [HC.out] at hcall
          refine Calls.mono hcall ?_
          rintro e w3 ⟨rfl, hb3⟩
          have HM3 : Hid (Mk w3 w.heap.size vc m) := HM2.out.next hb3
          have HB3 : Hid (Below w.heap.size w w3) := HB2.out.trans (hb3.mono HB2.out.size)
          have HS3 : Hid (SB w3 wr.heap.size l[k].col l[k].op l[k].src l[k].other l[k].v.t l[k].v.n l[k].v.s) := SB.next HS2.out hb3
          have hy := HT.out.2.yes hlt c hc4 HC.out hmc
          have HY : Hid (∀ i (hi : i < k), l[i].col ≠ l[k].col) := hy.2
          have HO : Hid (setOk cols l[k] = goesB cols l[k]) := setOk_of HCC.out (by rw [HC.out]; have := hy.1; omega)
          clear hs c0 c1 hb3 hcall hy
          have hs := HS3.out
          rw [HC.out] at hs
          unfold SB at hs
          have c1 := HM3.out.2.1 c hc4
          have c2 := HM3.out.2.2 c hc4
          cases hg : goesB cols l[k]
          · have HN : Hid (setsB cols l = false) := setsB_bad hlt (by rw [HO.out]; exact hg)
            clear hg
            go_wp2_with fail
            go_ret
            exact ⟨ret_bool' HN.out.symm, HB3.out⟩
          · have HN : Hid (OkTo cols l (k + 1) ∧ Marked l (k + 1) (fun i => if i = c then true else m i)) := ⟨HT.out.1.next hlt (by rw [HO.out]; exact hg) HY.out, HT.out.2.next hlt c HC.out⟩
            clear hg
            go_wp2_with fail
            go_roundw
            case rel => exact ⟨k + 1, _, by omega, by go_num, HN, HM3.out.set c, HB3.out.setCell (by simp) _⟩
            case measure => simp [intOf]; omega
        · rw [hmc] at c1
          have HN : Hid (setsB cols l = false) := HT.out.2.no hlt c hc4 HC.out hmc
          clear hmc
          go_wp2_with fail
          go_ret
          exact ⟨ret_bool' HN.out.symm, HB2.out⟩
    · have HN : Hid (setsB cols l = true) := setsB_yes hl (by omega) HT.out.1
      go_wp2_with fail
      go_ret
      exact ⟨ret_bool' HN.out.symm, HW.out.2⟩
/-- CheckSets, whatever the table and the sets. -/
def checkSetsN (cols : List Bool) (l : List SetP) : Int := if mayT cols then (if setsB cols l then 0 else 20) else 1
theorem mayBe_all (vc vs : Value) (cols : List Bool) (l : List SetP) (w : World) (hc : BoolsIn w vc cols) (hs : SetsIn w vs l) (ho : ∀ s ∈ l, s.v.s.size ≤ maxLen) (hm : mayT cols = true) :
    Calls Try.prog 23 #[.agg #[vc], vs] w fun e w' => e = .returned (.bool (setsB cols l)) ∧ Below w.heap.size w w' := by
  by_cases hl : l.length ≤ 3
  · exact mayBe_any vc vs cols l w hc hs ho hm hl
  · rw [setsB_long (by omega)]; exact mayBe_long vc vs l w hs (by omega)
set_option maxHeartbeats 400000 in
theorem checkSets_no (vc vs : Value) (cols : List Bool) (w : World) (hc : BoolsIn w vc cols) (hm : mayT cols = false) :
    Calls Try.prog 14 #[.agg #[vc], vs] w fun e w' => e = .returned (.int .i64 1) ∧ Below w.heap.size w w' := by
  have H : Hid (∀ w1, Below w.heap.size w w1 → Calls Try.prog 13 #[.agg #[vc]] w1 fun e w' => e = .returned (.int .i64 1) ∧ Below w1.heap.size w1 w') := fun w1 hb => by
    have := check_any vc cols w1 (hc.below hb); rw [hm] at this; exact this
  clear hc hm
  go_enter Try.func14, Try.ntmps14
  go_wp2_with fail
  refine Calls.mono (H.out _ ((Below.refl _ _).alloc (Nat.le_refl _) _)) ?_
  rintro e w1 ⟨rfl, hb1⟩
  go_wp2_with fail
  go_ret
  exact ⟨rfl, back1' hb1⟩
set_option maxHeartbeats 400000 in
theorem checkSets_yes (vc vs : Value) (cols : List Bool) (l : List SetP) (w : World) (hc : BoolsIn w vc cols) (hs : SetsIn w vs l) (ho : ∀ s ∈ l, s.v.s.size ≤ maxLen) (hm : mayT cols = true) (r : Bool) (hr : setsB cols l = r) :
    Calls Try.prog 14 #[.agg #[vc], vs] w fun e w' => e = .returned (.int .i64 (if r then 0 else 20)) ∧ Below w.heap.size w w' := by
  have H : Hid (∀ w1, Below w.heap.size w w1 → Calls Try.prog 13 #[.agg #[vc]] w1 fun e w' => e = .returned (.int .i64 0) ∧ Below w1.heap.size w1 w') := fun w1 hb => by
    have := check_any vc cols w1 (hc.below hb); rw [hm] at this; exact this
  have H2 : Hid (∀ w1, Below w.heap.size w w1 → Calls Try.prog 23 #[.agg #[vc], vs] w1 fun e w' => e = .returned (.bool r) ∧ Below w1.heap.size w1 w') := fun w1 hb => by
    have := mayBe_all vc vs cols l w1 (hc.below hb) (hs.below hb) ho hm; rw [hr] at this; exact this
  clear hc hm hs ho hr
  cases r
  all_goals
    go_enter Try.func14, Try.ntmps14
    go_wp2_with fail
    refine Calls.mono (H.out _ ((Below.refl _ _).alloc (Nat.le_refl _) _)) ?_
    rintro e w1 ⟨rfl, hb1⟩
    have c0 := in1' hb1
    have HB1 : Hid (Below w.heap.size w w1) := back1' hb1
    clear hb1
    go_wp2_with fail
    refine Calls.mono (H2.out _ HB1.out) ?_
    rintro e w2 ⟨rfl, hb2⟩
    have HB2 : Hid (Below w.heap.size w w2) := HB1.out.trans (hb2.mono HB1.out.size)
    clear hb2
    go_wp2_with fail
    go_ret
    exact ⟨rfl, HB2.out⟩
theorem checkSets_any (vc vs : Value) (cols : List Bool) (l : List SetP) (w : World) (hc : BoolsIn w vc cols) (hs : SetsIn w vs l) (ho : ∀ s ∈ l, s.v.s.size ≤ maxLen) :
    Calls Try.prog 14 #[.agg #[vc], vs] w fun e w' => e = .returned (.int .i64 (checkSetsN cols l)) ∧ Below w.heap.size w w' := by
  cases hm : mayT cols
  · have e : checkSetsN cols l = 1 := by unfold checkSetsN; rw [hm]; rfl
    rw [e]; exact checkSets_no vc vs cols w hc hm
  · have e : checkSetsN cols l = if setsB cols l then 0 else 20 := by unfold checkSetsN; rw [hm]; rfl
    rw [e]; exact checkSets_yes vc vs cols l w hc hs ho hm _ rfl
end Go.Proofs.Ytncefhjegkhamaa.Val
