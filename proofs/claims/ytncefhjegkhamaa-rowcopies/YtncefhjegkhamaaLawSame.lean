/- The law RowSame answers true for any two rows and any value. -/
import Derived.Test.YtncefhjegkhamaaLawFits
import Derived.Test.YtncefhjegkhamaaEqual
import Derived.Test.YtncefhjegkhamaaAppendRow
namespace Go.Proofs.Ytncefhjegkhamaa.Val
open Go.RowKit

set_option maxHeartbeats 400000 in
theorem same_long (va vb : Value) (xs ys : List Val) (x : Val) (w : World) (ha : RowIn w va xs) (hb : RowIn w vb ys) (hl : 1000 < xs.length ∨ 1000 < ys.length) :
    Calls Try.prog 5 #[va, vb, V x.t x.n x.s] w fun e w' => e = .returned (.bool true) ∧ Below w.heap.size w w' := by
  obtain ⟨aa, ca, rfl, la⟩ := ha.slice
  obtain ⟨ab, cb, rfl, lb⟩ := hb.slice
  clear ha hb
  by_cases h1 : 1000 < xs.length
  · go_enter Try.func5, Try.ntmps5
    go_wp2_with fail
    refine Calls.mono (awake_any _) ?_
    rintro e w1 ⟨rfl, hb⟩
    go_wp2_with fail
    go_ret
    exact ⟨rfl, back1' hb⟩
  · have h2 : 1000 < ys.length := by omega
    go_enter Try.func5, Try.ntmps5
    go_wp2_with fail
    refine Calls.mono (awake_any _) ?_
    rintro e w1 ⟨rfl, hb⟩
    go_wp2_with fail
    go_ret
    exact ⟨rfl, back1' hb⟩
theorem own_here {w : World} {base g n cap : Nat} {T : TypeId} {cur : List Val} (h : OwnRow w base T (.slice (some ⟨g, 0, none⟩) n cap) cur) (c : Nat) (hc : c < cur.length) :
    w.cell? ⟨g, c * 3, none⟩ = some (.bool cur[c].t) ∧ w.cell? ⟨g, c * 3 + 1, none⟩ = some (.int .i64 cur[c].n) ∧ w.cell? ⟨g, c * 3 + 2, none⟩ = some (.string cur[c].s) := by
  obtain ⟨b, o, e, h1, h2, h3⟩ := h.isIn.at c hc
  cases e
  refine ⟨?_, ?_, ?_⟩
  · simpa using h1
  · simpa using h2
  · simpa using h3
theorem own_free_here {w : World} {base g n cap : Nat} {T : TypeId} {cur : List Val} (h : OwnRow w base T (.slice (some ⟨g, 0, none⟩) n cap) cur) (c : Nat) :
    w.frozen? ⟨g, c * 3, none⟩ = false ∧ w.frozen? ⟨g, c * 3 + 1, none⟩ = false ∧ w.frozen? ⟨g, c * 3 + 2, none⟩ = false := ⟨h.free _, h.free _, h.free _⟩
theorem own_far3 {w : World} {base g i j k : Nat} {T : TypeId} {v x y z : Value} {cur : List Val} (h : OwnRow w base T v cur) (hg : g < base) : OwnRow (((w.setCell ⟨g, i, none⟩ x).setCell ⟨g, j, none⟩ y).setCell ⟨g, k, none⟩ z) base T v cur :=
  ownsRow_setCell_below (ownsRow_setCell_below (ownsRow_setCell_below h hg _) hg _) hg _
theorem kept_V {w w1 : World} {t : Bool} {n : Int} {s : ByteArray} {T : TypeId} (h : Below (w.alloc (.cells #[.bool t, .int .i64 n, .string s] T)).heap.size (w.alloc (.cells #[.bool t, .int .i64 n, .string s] T)) w1) :
    (w1.cell? ⟨w.heap.size, 0, none⟩ = some (.bool t) ∧ w1.cell? ⟨w.heap.size, 1, none⟩ = some (.int .i64 n) ∧ w1.cell? ⟨w.heap.size, 2, none⟩ = some (.string s)) ∧ Below w.heap.size w w1 := by
  refine ⟨⟨?_, ?_, ?_⟩, back1' h⟩ <;> rw [h.cell (by simp)] <;> simp
theorem kept_V2 {w1 w2 : World} {B : Nat} {t : Bool} {n : Int} {s : ByteArray} (h : w1.cell? ⟨B, 0, none⟩ = some (.bool t) ∧ w1.cell? ⟨B, 1, none⟩ = some (.int .i64 n) ∧ w1.cell? ⟨B, 2, none⟩ = some (.string s)) (hb : Below w1.heap.size w1 w2) :
    w2.cell? ⟨B, 0, none⟩ = some (.bool t) ∧ w2.cell? ⟨B, 1, none⟩ = some (.int .i64 n) ∧ w2.cell? ⟨B, 2, none⟩ = some (.string s) := by
  obtain ⟨h1, h2, h3⟩ := h
  refine ⟨?_, ?_, ?_⟩
  · rw [hb.cell (World.block_lt_of_cell? _ _ h1)]; exact h1
  · rw [hb.cell (World.block_lt_of_cell? _ _ h2)]; exact h2
  · rw [hb.cell (World.block_lt_of_cell? _ _ h3)]; exact h3
set_option maxHeartbeats 1000000 in
theorem same_short (va vb : Value) (xs ys : List Val) (x : Val) (w : World) (ha : RowIn w va xs) (hb : RowIn w vb ys) (hl1 : xs.length ≤ 1000) (hl2 : ys.length ≤ 1000) :
    Calls Try.prog 5 #[va, vb, V x.t x.n x.s] w fun e w' => e = .returned (.bool true) ∧ Below w.heap.size w w' := by
  have H0 : Hid (∀ w1, Calls Try.prog 10 #[] w1 fun e w' => e = .returned (.bool true) ∧ Below w1.heap.size w1 w') := awake_any
  have H1 : Hid (∀ w1, Below w.heap.size w w1 → Calls Try.prog 21 #[va] w1 fun e w' => ∃ v', e = .returned v' ∧ OwnRow w' w1.heap.size 40 v' xs ∧ Below w1.heap.size w1 w') := fun w1 hb1 => clone_any va xs w1 (ha.below hb1) hl1
  have H2 : Hid (∀ w1, Below w.heap.size w w1 → Calls Try.prog 22 #[va, vb] w1 fun e w' => e = .returned (.bool (eqRow xs ys)) ∧ Below w1.heap.size w1 w') := fun w1 hb1 => same_any va vb xs ys w1 (ha.below hb1) (hb.below hb1)
  have H3 : Hid (∀ w1, Below w.heap.size w w1 → Calls Try.prog 20 #[va, vb] w1 fun e w' => e = .returned (.bool (eqRow xs ys)) ∧ Below w1.heap.size w1 w') := fun w1 hb1 => rsame_any va vb xs ys w1 (ha.below hb1) (hb.below hb1)
  have HA : Hid (RowIn w va xs) := ha
  have HL : Hid (xs.length ≤ 1000) := hl1
  obtain ⟨aa, ca, rfl, la⟩ := ha.slice
  obtain ⟨ab, cb, rfl, lb⟩ := hb.slice
  clear ha hb
  generalize eqRow xs ys = eq at *
  go_enter Try.func5, Try.ntmps5
  go_wp2_with fail
  refine Calls.mono (H0.out _) ?_
  rintro e w1 ⟨rfl, hb⟩
  have HK1 : Hid _ := kept_V hb
  clear hb
  go_wp2_with fail
  refine Calls.mono (H1.out _ HK1.out.2) ?_
  rintro e w2 ⟨vc, rfl, hown, hb⟩
  have HB2 : Hid (Below w.heap.size w w2) := HK1.out.2.trans (hb.mono HK1.out.2.size)
  have HV2 : Hid _ := kept_V2 HK1.out.1 hb
  have HO2 : Hid (OwnRow w2 (w.heap.size + 1) 40 vc xs) := hown.mono (World.block_lt_of_cell? _ _ HK1.out.1.1)
  clear hb hown HK1
  go_wp2_with fail
  refine Calls.mono (H2.out _ HB2.out) ?_
  rintro e w3 ⟨rfl, hb⟩
  have HB3 : Hid (Below w.heap.size w w3) := HB2.out.trans (hb.mono HB2.out.size)
  have HV3 : Hid _ := kept_V2 HV2.out hb
  have HO3 : Hid (OwnRow w3 (w.heap.size + 1) 40 vc xs) := HO2.out.below hb
  clear hb HV2 HO2
  go_wp2_with fail
  refine Calls.mono (H3.out _ HB3.out) ?_
  rintro e w4 ⟨rfl, hb⟩
  have HB4 : Hid (Below w.heap.size w w4) := HB3.out.trans (hb.mono HB3.out.size)
  have HV4 : Hid _ := kept_V2 HV3.out hb
  have HO4 : Hid (OwnRow w4 (w.heap.size + 1) 40 vc xs) := HO3.out.below hb
  clear hb HV3 HO3
  have hsame := rsame_any _ vc xs xs w4 (HA.out.below HB4.out) HO4.out.isIn
  rw [eqRow_self] at hsame
  have HS : Hid _ := hsame
  clear hsame
  go_wp2_with fail
  refine Calls.mono HS.out ?_
  rintro e w5 ⟨rfl, hb⟩
  have HB5 : Hid (Below w.heap.size w w5) := HB4.out.trans (hb.mono HB4.out.size)
  have HV5 : Hid _ := kept_V2 HV4.out hb
  have HO5 : Hid (OwnRow w5 (w.heap.size + 1) 40 vc xs) := HO4.out.below hb
  clear hb HV4 HO4 HS
  have hr5 := HA.out.below HB5.out
  have hl := HL.out
  go_wp2_with (at_builtin; refine wpList_append_row rfl _ _ _ rfl Try.underlying26 _ xs rfl rfl hr5 hl ?_)
  intro vo w6 hown hb6
  have HB6 : Hid (Below w.heap.size w w6) := HB5.out.trans (hb6.mono HB5.out.size)
  have HV6 : Hid _ := kept_V2 HV5.out hb6
  have HO6 : Hid (OwnRow w6 (w.heap.size + 1) 40 vc xs) := HO5.out.below hb6
  have HW6 : Hid (OwnRow w6 w5.heap.size 40 vo xs) := hown
  have HG5 : Hid (OwnRow w5 (w.heap.size + 1) 40 vc xs) := HO5.out
  clear hown hb6 hr5 hl HV5 HO5
  have hend : ∀ wr, OwnRow wr w5.heap.size 40 vo xs → Below w.heap.size w wr → Calls Try.prog 20 #[.slice aa xs.length ca, vo] wr fun e w' => e = .returned (.bool true) ∧ Below wr.heap.size wr w' := fun wr h1 h2 => by
    have := rsame_any _ vo xs xs wr (HA.out.below h2) h1.isIn
    rw [eqRow_self] at this
    exact this
  have HE : Hid (∀ wr, OwnRow wr w5.heap.size 40 vo xs → Below w.heap.size w wr → Calls Try.prog 20 #[.slice aa xs.length ca, vo] wr fun e w' => e = .returned (.bool true) ∧ Below wr.heap.size wr w') := hend
  clear hend
  by_cases hn : 0 < xs.length
  · obtain ⟨g, cap, rfl, hg1, hg2⟩ := HG5.out.place hn
    have HG : Hid (w.heap.size < g ∧ g < w5.heap.size) := ⟨hg1, hg2⟩
    clear hg1 hg2
    go_wp2_with fail
    go_loopw [10] (fun i wr => ∃ (k : Nat) (cur : List Val), k ≤ xs.length ∧ i = .int .i64 k ∧ Hid (cur.length = xs.length) ∧ Hid (OwnRow wr (w.heap.size + 1) 40 (.slice (some ⟨g, 0, none⟩) xs.length cap) cur ∧ OwnRow wr w5.heap.size 40 vo xs ∧ Below w.heap.size w wr) ∧ Hid (wr.cell? ⟨w.heap.size, 0, none⟩ = some (.bool x.t) ∧ wr.cell? ⟨w.heap.size, 1, none⟩ = some (.int .i64 x.n) ∧ wr.cell? ⟨w.heap.size, 2, none⟩ = some (.string x.s))) (fun i _ => xs.length - (intOf i).toNat)
    case atStart => exact ⟨0, xs, Nat.zero_le _, rfl, rfl, ⟨HO6.out, HW6.out, HB6.out⟩, HV6⟩
    case round =>
      obtain ⟨k, cur, hk, rfl, HC, HW, HV⟩ := hrel
      clear HO6 HW6 HB6 HV6 HG5
      by_cases hlt : k < xs.length
      · have hcc : k < cur.length := by rw [HC.out]; exact hlt
        obtain ⟨r0, r1, r2⟩ := own_here HW.out.1 k hcc
        obtain ⟨s0, s1, s2⟩ := own_free_here HW.out.1 k
        have hv := HV.out
        have HON : Hid (OwnRow (((wr.setCell ⟨g, k * 3, none⟩ (.bool x.t)).setCell ⟨g, k * 3 + 1, none⟩ (.int .i64 x.n)).setCell ⟨g, k * 3 + 2, none⟩ (.string x.s)) (w.heap.size + 1) 40 (.slice (some ⟨g, 0, none⟩) xs.length cap) (cur.set k x) ∧ OwnRow (((wr.setCell ⟨g, k * 3, none⟩ (.bool x.t)).setCell ⟨g, k * 3 + 1, none⟩ (.int .i64 x.n)).setCell ⟨g, k * 3 + 2, none⟩ (.string x.s)) w5.heap.size 40 vo xs ∧ Below w.heap.size w (((wr.setCell ⟨g, k * 3, none⟩ (.bool x.t)).setCell ⟨g, k * 3 + 1, none⟩ (.int .i64 x.n)).setCell ⟨g, k * 3 + 2, none⟩ (.string x.s))) :=
          ⟨HW.out.1.store k hcc x, own_far3 HW.out.2.1 HG.out.2, ((HW.out.2.2.setCell (Nat.le_of_lt HG.out.1) _).setCell (Nat.le_of_lt HG.out.1) _).setCell (Nat.le_of_lt HG.out.1) _⟩
        have hne : g ≠ w.heap.size := by have := HG.out.1; omega
        have HVN : Hid ((((wr.setCell ⟨g, k * 3, none⟩ (.bool x.t)).setCell ⟨g, k * 3 + 1, none⟩ (.int .i64 x.n)).setCell ⟨g, k * 3 + 2, none⟩ (.string x.s)).cell? ⟨w.heap.size, 0, none⟩ = some (.bool x.t) ∧ (((wr.setCell ⟨g, k * 3, none⟩ (.bool x.t)).setCell ⟨g, k * 3 + 1, none⟩ (.int .i64 x.n)).setCell ⟨g, k * 3 + 2, none⟩ (.string x.s)).cell? ⟨w.heap.size, 1, none⟩ = some (.int .i64 x.n) ∧ (((wr.setCell ⟨g, k * 3, none⟩ (.bool x.t)).setCell ⟨g, k * 3 + 1, none⟩ (.int .i64 x.n)).setCell ⟨g, k * 3 + 2, none⟩ (.string x.s)).cell? ⟨w.heap.size, 2, none⟩ = some (.string x.s)) :=
          ⟨by rw [far3 hne]; exact HV.out.1, by rw [far3 hne]; exact HV.out.2.1, by rw [far3 hne]; exact HV.out.2.2⟩
        have HCN : Hid ((cur.set k x).length = xs.length) := by show _ = _; rw [List.length_set]; exact HC.out
        go_wp2_with fail
        go_roundw
        case rel => exact ⟨k + 1, _, by omega, by go_num, HCN, HON, HVN⟩
        case measure => simp [intOf]; omega
      · go_wp2_with fail
        refine Calls.mono (HE.out _ HW.out.2.1 HW.out.2.2) ?_
        rintro e w7 ⟨rfl, hb⟩
        have HB7 : Hid (Below w.heap.size w w7) := HW.out.2.2.trans (hb.mono HW.out.2.2.size)
        clear hb
        go_wp2_with fail
        go_ret
        exact ⟨rfl, HB7.out⟩
  · obtain ⟨ac, cc, rfl, lc⟩ := HG5.out.isIn.slice
    have hx0 : xs = [] := List.eq_nil_of_length_eq_zero (by omega)
    subst hx0
    have HE0 : Hid (∀ wr, OwnRow wr w5.heap.size 40 vo [] → Below w.heap.size w wr → Calls Try.prog 20 #[.slice aa 0 ca, vo] wr fun e w' => e = .returned (.bool true) ∧ Below wr.heap.size wr w') := HE.out
    clear HE hn
    go_wp2_with fail
    go_loopw [10] (fun i wr => i = .int .i64 0 ∧ wr = w6) (fun _ _ => 0)
    case atStart => exact ⟨rfl, rfl⟩
    case round =>
      obtain ⟨rfl, hw⟩ := hrel
      subst hw
      go_wp2_with fail
      refine Calls.mono (HE0.out _ HW6.out HB6.out) ?_
      rintro e w7 ⟨rfl, hb⟩
      have HB7 : Hid (Below w.heap.size w w7) := HB6.out.trans (hb.mono HB6.out.size)
      clear hb
      go_wp2_with fail
      go_ret
      exact ⟨rfl, HB7.out⟩
theorem same_walk (va vb : Value) (xs ys : List Val) (x : Val) (w : World) (ha : RowIn w va xs) (hb : RowIn w vb ys) :
    Calls Try.prog 5 #[va, vb, V x.t x.n x.s] w fun e w' => e = .returned (.bool true) ∧ Below w.heap.size w w' := by
  by_cases h : 1000 < xs.length ∨ 1000 < ys.length
  · exact same_long va vb xs ys x w ha hb h
  · exact same_short va vb xs ys x w ha hb (by omega) (by omega)
end Go.Proofs.Ytncefhjegkhamaa.Val
