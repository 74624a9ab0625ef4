/- The walk of the law StoreOwn. -/
import Derived.Test.YtafkpfhhmmnpeaaU30
import Derived.Test.YtafkpfhhmmnpeaaU31
import Derived.Deep.RegionHeld3
import Derived.Test.YtafkpfhhmmnpeaaUO
namespace Go.Proofs.Ytafkpfhhmmnpeaa.Val
open Go Go.RowKit
set_option maxRecDepth 100000

def so0 (k v : Val) : Dat := newD [[k.t, v.t]]
def so1 (k v : Val) : Dat := setD (so0 k v) 0 (insP k (plOf [k, v] 1) (rowsD (so0 k v) 0))
theorem so_fits (k v : Val) : fitsD (so0 k v) 0 [k, v] = fitsRow [k.t, v.t] [k, v] := rfl
theorem so_no (k v : Val) (h : fitsRow [k.t, v.t] [k, v] = false) : insE (so0 k v) 3 0 0 [k, v] = (0, 1) ∧ insD (so0 k v) 3 0 0 [k, v] = so0 k v := by
  have e : insE (so0 k v) 3 0 0 [k, v] = (0, 1) := by rw [insE, so_fits, h]; rfl
  refine ⟨e, ?_⟩
  unfold insD
  rw [e]; rfl
theorem so_yes (k v : Val) (h : fitsRow [k.t, v.t] [k, v] = true) : insE (so0 k v) 3 0 0 [k, v] = (1, 0) ∧ insD (so0 k v) 3 0 0 [k, v] = so1 k v := by
  have hp : plD (so0 k v) 0 k = Pl.zero := rfl
  have e : insE (so0 k v) 3 0 0 [k, v] = (1, 0) := by
    rw [insE, so_fits, h, if_pos rfl, show keyR [k, v] = k from rfl, hp, has_zero]
    rfl
  refine ⟨e, ?_⟩
  unfold insD
  rw [e]; rfl
theorem so_used (k v : Val) : usedD (so0 k v) = 0 := rfl
theorem so_at (k v : Val) : plD (so1 k v) 0 k = plOf [k, v] 1 := by
  have e : plD (so1 k v) 0 k = (getP k [(⟨k, plOf [k, v] 1⟩ : Pr)]).1 := rfl
  rw [e]
  unfold getP
  rw [List.find?_cons, eqV_iff.2 rfl]
theorem so_scan (k v : Val) : scanD (so1 k v) 0 spZ = [[k, v]] := by
  have e : scanD (so1 k v) 0 spZ = rowsOf (rangeP spZ [(⟨k, plOf [k, v] 1⟩ : Pr)]) := rfl
  have hz : isZ En.zero = true := isZ_iff.2 rfl
  have hw : withinS spZ k = true := by simp [withinS, spZ, apartE, lowE, uppE, closedE, hz]
  have hr : hasR (plOf [k, v] 1) = true := has_of (by simp) 1
  rw [e]
  unfold rangeP rowsOf
  simp only [List.filter_cons, hw, hr, if_true, List.filter_nil, List.map_cons, List.map_nil]
  rw [row_of (by simp)]
/-- The law's boxes. -/
structure SX (w0 w : World) (k v : Val) : Prop where
  k : VBox w w0.heap.size k
  v : VBox w (w0.heap.size + 1) v
  bel : Below w0.heap.size w0 w
theorem SX.low {w0 w w' : World} {k v : Val} (h : SX w0 w k v) (hb : Below (w0.heap.size + 2) w w') : SX w0 w' k v := by
  obtain ⟨⟨a0, a1, a2⟩, ⟨b0, b1, b2⟩, hB⟩ := h
  refine ⟨⟨?_, ?_, ?_⟩, ⟨?_, ?_, ?_⟩, hB.trans (hb.mono (by omega))⟩
  · rw [hb.cell (p := ⟨w0.heap.size, 0, none⟩) (by show _ < w0.heap.size + 2; exact Nat.lt_succ_of_lt (Nat.lt_succ_self _))]; exact a0
  · rw [hb.cell (p := ⟨w0.heap.size, 1, none⟩) (by show _ < w0.heap.size + 2; exact Nat.lt_succ_of_lt (Nat.lt_succ_self _))]; exact a1
  · rw [hb.cell (p := ⟨w0.heap.size, 2, none⟩) (by show _ < w0.heap.size + 2; exact Nat.lt_succ_of_lt (Nat.lt_succ_self _))]; exact a2
  · rw [hb.cell (p := ⟨w0.heap.size + 1, 0, none⟩) (by show _ < w0.heap.size + 2; exact Nat.lt_succ_self _)]; exact b0
  · rw [hb.cell (p := ⟨w0.heap.size + 1, 1, none⟩) (by show _ < w0.heap.size + 2; exact Nat.lt_succ_self _)]; exact b1
  · rw [hb.cell (p := ⟨w0.heap.size + 1, 2, none⟩) (by show _ < w0.heap.size + 2; exact Nat.lt_succ_self _)]; exact b2
theorem SX.size {w0 w : World} {k v : Val} (h : SX w0 w k v) : w0.heap.size + 2 ≤ w.heap.size := World.block_lt_of_cell? w _ h.v.c0
theorem SX.below {w0 w w' : World} {k v : Val} (h : SX w0 w k v) (hb : Below w.heap.size w w') : SX w0 w' k v := h.low (hb.mono h.size)
/-- A row of two, in memory of the call's own: its second value is set. -/
theorem two_set {w : World} {B : Nat} {r : Value} {x y z : Val} (h : OwnRow w B TVa r [x, y]) : ∃ g c, r = .slice (some ⟨g, 0, none⟩) 2 c ∧ B ≤ g ∧ g < w.heap.size ∧ (w.cell? ⟨g, 3, none⟩ = some (.bool y.t) ∧ w.cell? ⟨g, 4, none⟩ = some (.int .i64 y.n) ∧ w.cell? ⟨g, 5, none⟩ = some (.string y.s)) ∧ (∀ j, w.frozen? ⟨g, j, none⟩ = false) ∧
    OwnRow (((w.setCell ⟨g, 3, none⟩ (.bool z.t)).setCell ⟨g, 4, none⟩ (.int .i64 z.n)).setCell ⟨g, 5, none⟩ (.string z.s)) B TVa r [x, z] := by
  obtain ⟨g, cap, rfl, h1, h2⟩ := h.place (by simp)
  refine ⟨g, cap, rfl, h1, h2, ?_, fun j => h.free j, ?_⟩
  · have := h.isIn.at 1 (by simp)
    obtain ⟨b, o, e, c0, c1, c2⟩ := this
    cases e
    simpa using ⟨c0, c1, c2⟩
  · simpa using h.store 1 (by simp) z
theorem sv_three (w : World) (g i j k : Nat) (x y z : Value) : Sv (· = g) w (((w.setCell ⟨g, i, none⟩ x).setCell ⟨g, j, none⟩ y).setCell ⟨g, k, none⟩ z) :=
  ((Sv.set (X := (· = g)) (Sv.refl _ w) (a := ⟨g, i, none⟩) rfl _).set (a := ⟨g, j, none⟩) rfl _).set (a := ⟨g, k, none⟩) rfl _
/-- With the table's box. -/
structure SY (w0 w : World) (k v : Val) (N : Nat) : Prop where
  sx : SX w0 w k v
  tb : w.cell? ⟨N + 1, 0, none⟩ = some (.slice (some ⟨N, 0, none⟩) 2 2)
  bl : BoolsIn w (.slice (some ⟨N, 0, none⟩) 2 2) [k.t, v.t]
  hN : w0.heap.size + 2 ≤ N
theorem SY.low {w0 w w' : World} {k v : Val} {N : Nat} (h : SY w0 w k v N) (hb : Below (N + 3) w w') : SY w0 w' k v N := by
  have hn := h.hN
  have hlt : ∀ {b : Nat}, b < N + 3 → w'.heap[b]? = w.heap[b]? := fun hb' => hb.block _ hb'
  refine ⟨h.sx.low (hb.mono (by omega)), ?_, ?_, hn⟩
  · rw [hb.cell (p := ⟨N + 1, 0, none⟩) (by show N + 1 < _; omega)]; exact h.tb
  · obtain ⟨ao, c, e, h1, h2, h3, h4⟩ := h.bl
    refine ⟨ao, c, e, h1, h2, h3, ?_⟩
    rcases h4 with h4 | ⟨b, o, e2, h4⟩
    · exact .inl h4
    · refine .inr ⟨b, o, e2, fun j u hj => ?_⟩
      have e3 : b = N := by rw [e2] at e; injection e with e; injection e with e; injection e with e; exact e.symm
      rw [hb.cell (p := ⟨b, o + j, none⟩) (by show b < _; omega)]
      exact h4 j u hj
theorem SY.below {w0 w w' : World} {k v : Val} {N : Nat} (h : SY w0 w k v N) (hs : N + 3 ≤ w.heap.size) (hb : Below w.heap.size w w') : SY w0 w' k v N := h.low (hb.mono hs)
theorem SY.new {w0 w : World} {k v : Val} (h : SX w0 w k v) : SY w0 (((w.alloc (.cells #[.bool k.t, .bool v.t] 4)).alloc (.cells #[.slice (some ⟨w.heap.size, 0, none⟩) 2 2] 60)).alloc (.cells #[.slice (some ⟨w.heap.size, 0, none⟩) 2 2] 60)) k v w.heap.size := by
  refine ⟨h.below (back3 (Below.refl _ _)), by simp [go_sem], ?_, h.size⟩
  refine ⟨some ⟨w.heap.size, 0, none⟩, 2, rfl, Nat.le_refl _, (by decide), (fun h => by cases h), .inr ⟨w.heap.size, 0, rfl, fun j u hj => ?_⟩⟩
  match j, hj with
  | 0, hj => simp at hj; subst hj; simp [go_sem]
  | 1, hj => simp at hj; subst hj; simp [go_sem]
theorem tabs_one {w : World} {x : Value} {cols : List Bool} {T : TypeId} (h : BoolsIn (w.alloc (.cells #[x] T)) x cols) : TabsIn (w.alloc (.cells #[x] T)) (.slice (some ⟨w.heap.size, 0, none⟩) 1 1) [(x, cols)] := by
  refine ⟨⟨some ⟨w.heap.size, 0, none⟩, 1, rfl, Nat.le_refl _, (by decide), (fun h => by cases h), .inr ⟨w.heap.size, 0, rfl, fun j u hj => ?_⟩⟩, fun y hy => ?_⟩
  · match j, hj with
    | 0, hj => simp at hj; subst hj; simp [go_sem]
  · rw [List.mem_singleton] at hy
    subst hy
    exact h
theorem two_new (w : World) (x y : Val) : OwnRow (w.alloc (.cells #[.bool x.t, .int .i64 x.n, .string x.s, .bool y.t, .int .i64 y.n, .string y.s] TVa)) w.heap.size TVa (.slice (some ⟨w.heap.size, 0, none⟩) 2 2) [x, y] :=
  ⟨rfl, .inr ⟨w.heap.size, 2, _, rfl, Nat.le_refl _, World.alloc_heap_new w _, Nat.le_refl _, by unfold maxLen; omega, rfl, rfl⟩⟩
theorem may_two (x y : Bool) (v : Value) : mayS [(v, [x, y])] 3 = true := by simp [mayS, mayT]
set_option maxHeartbeats 16000000 in
theorem sown_walk (k v : Val) (w : World) (hk : fits k.n = true ∧ k.s.size ≤ maxLen) (hv : fits v.n = true ∧ v.s.size ≤ maxLen) : Calls Try.prog 7 #[V k.t k.n k.s, V v.t v.n v.s] w fun e w' => e = .returned (.bool true) ∧ Below w.heap.size w w' := by
  have HW : Hid (∀ w1, Calls Try.prog 9 #[] w1 fun e w' => e = .returned (.bool true) ∧ Below w1.heap.size w1 w') := awake_any
  have HOK : Hid (RowOk [k, v] ∧ k.s.size ≤ maxLen) := ⟨fun x hx => by
    simp only [List.mem_cons, List.not_mem_nil, or_false] at hx
    rcases hx with rfl | rfl
    · exact hk
    · exact hv, hk.2⟩
  have HN : Hid (SX w ((w.alloc (vobj k TVa)).alloc (vobj v TVa)) k v) := by
    refine ⟨⟨?_, ?_, ?_⟩, ⟨?_, ?_, ?_⟩, back2 (Below.refl _ _)⟩ <;> simp [go_sem]
  clear hk hv
  go_enter Try.func7, Try.ntmps7
  go_wp2_with fail
  refine Calls.mono (HW.out _) ?_
  rintro e w1 ⟨rfl, hb⟩
  have H1 : Hid (SX w w1 k v) := HN.out.below hb
  have a0 := H1.out.k.c0
  have b0 := H1.out.v.c0
  clear hb HN HW
  go_wp2_with fail
  have HY2 : Hid _ := SY.new H1.out
  have hs2 := tabs_one HY2.out.bl
  rw [show ((w1.alloc (.cells #[.bool k.t, .bool v.t] 4)).alloc (.cells #[.slice (some ⟨w1.heap.size, 0, none⟩) 2 2] 60)).heap.size = w1.heap.size + 1 + 1 by simp] at hs2
  have HS2 : Hid _ := sq_new hs2 3
  clear hs2
  refine Calls.mono HS2.out ?_
  rintro e w3 ⟨h, hb⟩
  rw [may_two] at h
  rcases h with ⟨h, -⟩ | ⟨-, rfl, q⟩
  · cases h
  have hsz : (((w1.alloc (.cells #[.bool k.t, .bool v.t] 4)).alloc (.cells #[.slice (some ⟨w1.heap.size, 0, none⟩) 2 2] 60)).alloc (.cells #[.slice (some ⟨w1.heap.size, 0, none⟩) 2 2] 60)).heap.size = w1.heap.size + 3 := by simp
  rw [hsz] at q hb
  have hs3 : w1.heap.size + 3 ≤ w3.heap.size := by have := hb.size; omega
  have HY3 : Hid (SY w w3 k v w1.heap.size ∧ w1.heap.size + 3 ≤ w3.heap.size) := ⟨HY2.out.low hb, hs3⟩
  have HQ3 : Hid (SQ (w1.heap.size + 3) 3 0 (so0 k v) (fun j => j < w1.heap.size + 3) w3) := q
  obtain ⟨c0, c1, c2⟩ := HY3.out.1.sx.k
  obtain ⟨d0, d1, d2⟩ := HY3.out.1.sx.v
  clear hb q hsz hs3 HS2 HY2 a0 b0 H1
  rw [show (((w1.alloc (.cells #[.bool k.t, .bool v.t] 4)).alloc (.cells #[.slice (some ⟨w1.heap.size, 0, none⟩) 2 2] 60)).alloc (.cells #[.slice (some ⟨w1.heap.size, 0, none⟩) 2 2] 60)).heap.size = w1.heap.size + 3 by simp]
  generalize w1.heap.size = N at *
  have HQ4 : Hid (SQ (N + 3) 3 0 (so0 k v) (fun j => j < N + 3 ∨ j = w3.heap.size) (w3.alloc (.cells #[.bool k.t, .int .i64 k.n, .string k.s, .bool v.t, .int .i64 v.n, .string v.s] TVa))) := (HQ3.out.more (alloc1 _ _)).less fun j hj => by
    rcases hj with h | h
    · exact .inl h
    · exact .inr (by subst h; simp)
  have HR4 : Hid _ := two_new w3 k v
  have HY4 : Hid _ := HY3.out.1.below HY3.out.2 (alloc1 w3 (.cells #[.bool k.t, .int .i64 k.n, .string k.s, .bool v.t, .int .i64 v.n, .string v.s] TVa))
  have HI4 : Hid _ := sq_insert HQ4.out (OwnRow.isIn HR4.out) HOK.out.1 (fun g hg => .inr (by have h : some w3.heap.size = some g := hg; injection h with h; exact h.symm)) 0 (by omega)
  have HR3 : Hid (N + 3 ≤ w3.heap.size) := HY3.out.2
  clear HQ3 HY3
  go_wp2_with fail
  refine Calls.mono HI4.out ?_
  rintro e w5 ⟨rfl, q, hke⟩
  have HY5 : Hid (SY w w5 k v N) := HY4.out.low (hke.low (fun j hj => .inl hj) (by have := HR3.out; simp; omega))
  have HR5 : Hid (OwnRow w5 w3.heap.size TVa (.slice (some ⟨w3.heap.size, 0, none⟩) 2 2) [k, v]) := ims_sv HR4.out hke fun g hg hx => hx (.inr (by have h : some w3.heap.size = some g := hg; injection h with h; exact h.symm))
  have HS5 : Hid (N + 3 ≤ w5.heap.size) := by have := HR3.out; have := hke.size; simp at this; show _ ≤ _; omega
  obtain ⟨fit, hfit⟩ : ∃ f, fitsRow [k.t, v.t] [k, v] = f := ⟨_, rfl⟩
  have HF5 : Hid _ := rfits_any _ _ _ _ w5 HY5.out.bl (OwnRow.isIn HR5.out) HOK.out.1
  rw [hfit] at HF5
  have tb := HY5.out.tb
  have HQ5 : Hid (SQ (N + 3) 3 (insL (so0 k v) 3 0 0 [k, v]) (insD (so0 k v) 3 0 0 [k, v]) (fun j => j < N + 3 ∨ j = w3.heap.size) w5) := q
  clear q hke HI4 HR4 HY4 HQ4 c0 c1 c2 d0 d1 d2
  cases fit
  · obtain ⟨e1, e2⟩ := so_no k v hfit
    rw [e2] at HQ5
    rw [e1]
    clear hfit e1 e2
    go_wp2_with fail
    refine Calls.mono HF5.out ?_
    rintro e w6 ⟨rfl, hb⟩
    have HU : Hid _ := sq_used (HQ5.out.below hb)
    have HB6 : Hid (Below w.heap.size w w6) := on HY5.out.sx.bel hb
    clear hb tb HF5 HQ5
    go_wp2_with fail
    refine Calls.mono HU.out ?_
    rw [so_used]
    rintro e w7 ⟨rfl, hb⟩
    have HZ : Hid (Below w.heap.size w w7) := on HB6.out hb
    clear hb HU
    go_wp2_with fail
    go_ret
    exact ⟨rfl, HZ.out⟩
  obtain ⟨e1, e2⟩ := so_yes k v hfit
  rw [e2] at HQ5
  rw [e1]
  clear hfit e1 e2
  generalize insL (so0 k v) 3 0 0 [k, v] = la at *
  go_wp2_with fail
  refine Calls.mono HF5.out ?_
  rintro e w6 ⟨rfl, hb⟩
  have HY6 : Hid (SY w w6 k v N) := HY5.out.below HS5.out hb
  have HQ6 : Hid (SQ (N + 3) 3 la (so1 k v) (fun j => j < N + 3 ∨ j = w3.heap.size) w6) := HQ5.out.below hb
  have HS6 : Hid (N + 3 ≤ w6.heap.size) := Nat.le_trans HS5.out hb.size
  have hr6 := HR5.out.below hb
  obtain ⟨g, c, e, hg1, hg2, ⟨r3, r4, r5⟩, hfz, -⟩ := two_set (z := k) hr6
  cases e
  obtain ⟨c0, c1, c2⟩ := HY6.out.sx.k
  have hsv := sv_three w6 w3.heap.size 3 4 5 (.bool k.t) (.int .i64 k.n) (.string k.s)
  have HQ7 : Hid (SQ (N + 3) 3 la (so1 k v) (fun j => j < N + 3 ∨ j = w3.heap.size) (((w6.setCell ⟨w3.heap.size, 3, none⟩ (.bool k.t)).setCell ⟨w3.heap.size, 4, none⟩ (.int .i64 k.n)).setCell ⟨w3.heap.size, 5, none⟩ (.string k.s))) := HQ6.out.sv hsv fun j hj => .inr hj
  have HY7 : Hid (SY w (((w6.setCell ⟨w3.heap.size, 3, none⟩ (.bool k.t)).setCell ⟨w3.heap.size, 4, none⟩ (.int .i64 k.n)).setCell ⟨w3.heap.size, 5, none⟩ (.string k.s)) k v N ∧ N + 3 ≤ (((w6.setCell ⟨w3.heap.size, 3, none⟩ (.bool k.t)).setCell ⟨w3.heap.size, 4, none⟩ (.int .i64 k.n)).setCell ⟨w3.heap.size, 5, none⟩ (.string k.s)).heap.size) := ⟨HY6.out.low (hsv.below HS6.out fun j hj e => by have := HR3.out; omega), Nat.le_trans HS6.out hsv.size⟩
  have HG7 : Hid _ := sq_get HQ7.out 0 k HOK.out.2
  rw [so_at, has_of (by simp) 1, row_of (by simp)] at HG7
  obtain ⟨k0, k1, k2⟩ := HY7.out.1.sx.k
  clear hb hr6 hg1 hg2 hsv tb HF5 HQ5 HQ6 HY5 HY6 HS5 HS6 HR5
  go_wp2_with fail
  refine Calls.mono HG7.out ?_
  rintro e w8 ⟨x, rfl, hx, hb⟩
  simp only [if_true] at hx
  generalize ((w6.setCell ⟨w3.heap.size, 3, none⟩ (.bool k.t)).setCell ⟨w3.heap.size, 4, none⟩ (.int .i64 k.n)).setCell ⟨w3.heap.size, 5, none⟩ (.string k.s) = w7 at *
  have HY8 : Hid (SY w w8 k v N) := HY7.out.1.below HY7.out.2 hb
  have HS8 : Hid (N + 3 ≤ w7.heap.size ∧ N + 3 ≤ w8.heap.size) := ⟨HY7.out.2, Nat.le_trans HY7.out.2 hb.size⟩
  have HQ8 : Hid _ := HQ7.out.more hb
  obtain ⟨g, c, rfl, hg1, hg2, ⟨x3, x4, x5⟩, hfx, -⟩ := two_set (z := k) hx
  have hsv := sv_three w8 g 3 4 5 (.bool k.t) (.int .i64 k.n) (.string k.s)
  have HQ9 : Hid (SQ (N + 3) 3 la (so1 k v) (fun j => j < N + 3) (((w8.setCell ⟨g, 3, none⟩ (.bool k.t)).setCell ⟨g, 4, none⟩ (.int .i64 k.n)).setCell ⟨g, 5, none⟩ (.string k.s))) := (SQ.sv HQ8.out hsv fun j hj => .inr ⟨by rw [hj]; exact hg1, by rw [hj]; exact hg2⟩).less fun j hj => .inl (.inl hj)
  have HY9 : Hid (SY w (((w8.setCell ⟨g, 3, none⟩ (.bool k.t)).setCell ⟨g, 4, none⟩ (.int .i64 k.n)).setCell ⟨g, 5, none⟩ (.string k.s)) k v N ∧ N + 3 ≤ (((w8.setCell ⟨g, 3, none⟩ (.bool k.t)).setCell ⟨g, 4, none⟩ (.int .i64 k.n)).setCell ⟨g, 5, none⟩ (.string k.s)).heap.size) := ⟨HY8.out.low (hsv.below HS8.out.2 fun j hj e => by have := HS8.out.1; omega), Nat.le_trans HS8.out.2 hsv.size⟩
  have HRS : Hid _ := sq_rows HQ9.out 0 spZ
  rw [so_scan] at HRS
  obtain ⟨c0, c1, c2⟩ := HY8.out.sx.k
  clear hb hx hg1 hg2 hsv HG7 HQ7 HQ8 HY7 HY8 HS8 k0 k1 k2 r3 r4 r5 hfz HR3
  go_wp2_with fail
  refine Calls.mono HRS.out ?_
  rintro e w10 ⟨lv, m, rfl, hm, hs, hb⟩
  generalize ((w8.setCell ⟨g, 3, none⟩ (.bool k.t)).setCell ⟨g, 4, none⟩ (.int .i64 k.n)).setCell ⟨g, 5, none⟩ (.string k.s) = w9 at *
  obtain ⟨⟨iv, ir⟩, rfl⟩ : ∃ i, m = [i] := List.length_eq_one_iff.1 (by have := congrArg List.length hs; simpa using this)
  obtain rfl : ir = [k, v] := by simpa using hs
  have hown : OwnRow w10 w9.heap.size TVa iv [k, v] := hm.2 ⟨iv, [k, v]⟩ (by simp)
  have hrow : w10.ownsRow w9.heap.size TRo 1 lv 1 [iv] := hm.1
  obtain ⟨lb, lcap, rfl, hlb, hl0⟩ : ∃ lb lcap, lv = .slice (some ⟨lb, 0, none⟩) 1 lcap ∧ w9.heap.size ≤ lb ∧ w10.cell? ⟨lb, 0, none⟩ = some iv := by
    rcases hrow.2 with ⟨_, h0⟩ | ⟨g', cap', cur, rfl, h1, _⟩
    · cases h0
    · exact ⟨g', cap', rfl, h1, by have := World.ownsRow.cellAt hrow 0 (by omega); simpa using this⟩
  obtain ⟨i, c', rfl, hi1, hi2, ⟨y3, y4, y5⟩, hfy, -⟩ := two_set (z := k) hown
  have hne : lb ≠ i := fun e => own_types hown hrow (by decide) i rfl (by rw [← e]; rfl)
  have HY10 : Hid (SY w w10 k v N) := HY9.out.1.below HY9.out.2 hb
  have HS10 : Hid (N + 3 ≤ w9.heap.size ∧ N + 3 ≤ w10.heap.size) := ⟨HY9.out.2, Nat.le_trans HY9.out.2 hb.size⟩
  have HQ10 : Hid _ := (HQ9.out.more hb)
  have hd := sv_three w10.drew i 3 4 5 (.bool k.t) (.int .i64 k.n) (.string k.s)
  have hdd : Below w10.heap.size w10 w10.drew := (Below.refl _ _).drew
  have HQ11 : Hid (SQ (N + 3) 3 la (so1 k v) (fun j => j < N + 3) (((w10.drew.setCell ⟨i, 3, none⟩ (.bool k.t)).setCell ⟨i, 4, none⟩ (.int .i64 k.n)).setCell ⟨i, 5, none⟩ (.string k.s))) := (SQ.sv (SQ.below HQ10.out hdd) hd fun j hj => .inr ⟨by rw [hj]; exact hi1, by rw [hj]; exact hi2⟩).less fun j hj => .inl hj
  have HY11 : Hid (SY w (((w10.drew.setCell ⟨i, 3, none⟩ (.bool k.t)).setCell ⟨i, 4, none⟩ (.int .i64 k.n)).setCell ⟨i, 5, none⟩ (.string k.s)) k v N ∧ N + 3 ≤ (((w10.drew.setCell ⟨i, 3, none⟩ (.bool k.t)).setCell ⟨i, 4, none⟩ (.int .i64 k.n)).setCell ⟨i, 5, none⟩ (.string k.s)).heap.size) := ⟨(HY10.out.below HS10.out.2 hdd).low (hd.below HS10.out.2 fun j hj e => by have := HS10.out.1; omega), Nat.le_trans HS10.out.2 hd.size⟩
  have HLL : Hid ((((w10.drew.setCell ⟨i, 3, none⟩ (.bool k.t)).setCell ⟨i, 4, none⟩ (.int .i64 k.n)).setCell ⟨i, 5, none⟩ (.string k.s)).cell? ⟨lb, 0, none⟩ = some (.slice (some ⟨i, 0, none⟩) 2 c') ∧ w10.drew.cell? ⟨lb, 0, none⟩ = some (.slice (some ⟨i, 0, none⟩) 2 c')) := by
    have hlt : lb < w10.heap.size := World.block_lt_of_cell? w10 _ hl0
    have h1 : w10.drew.cell? ⟨lb, 0, none⟩ = some (.slice (some ⟨i, 0, none⟩) 2 c') := by rw [hdd.cell (p := ⟨lb, 0, none⟩) hlt]; exact hl0
    exact ⟨by rw [hd.cell (p := ⟨lb, 0, none⟩) hlt hne]; exact h1, h1⟩
  have HYD : Hid (SY w w10.drew k v N) := HY10.out.below HS10.out.2 hdd
  clear hb hs hm hown hrow hlb hi1 hi2 hne hd hdd HRS HQ9 HQ10 HY9 HY10 HS10 x3 x4 x5 hfx c0 c1 c2
  go_wp2_with fail
  have z3 : w10.drew.cell? ⟨i, 3, none⟩ = some (.bool v.t) := y3
  have z4 : w10.drew.cell? ⟨i, 4, none⟩ = some (.int .i64 v.n) := y4
  have z5 : w10.drew.cell? ⟨i, 5, none⟩ = some (.string v.s) := y5
  have fz : ∀ j, w10.drew.frozen? ⟨i, j, none⟩ = false := hfy
  refine wp_region_held_drew (S := fun w' => w'.cell? ⟨lb, 0, none⟩ = some (.slice (some ⟨i, 0, none⟩) 2 c') ∧ w'.cell? ⟨w.heap.size, 0, none⟩ = some (.bool k.t) ∧ w'.cell? ⟨w.heap.size, 1, none⟩ = some (.int .i64 k.n) ∧ w'.cell? ⟨w.heap.size, 2, none⟩ = some (.string k.s)) (by kernel_rfl) ?_ (fun hHeld => ?_)
  · exact ⟨HLL.out.2, HYD.out.sx.k.c0, HYD.out.sx.k.c1, HYD.out.sx.k.c2⟩
  clear y3 y4 y5 hfy hl0
  generalize w10.drew = wd at *
  (try clear hK K)
  refine wpAnyH_take (i := 0) (v := ?_) rfl (by kernel_rfl) (by kernel_rfl) (by kernel_rfl) (fun _ _ _ h => h) (Or.inl ⟨by rfl, ?_⟩) (by assumption) ?_
  rotate_left
  · intro w hSw; (try dsimp only at hSw); go_simp; (try with_reducible rfl)
  (try simp only [Act.put, List.getElem_toArray, List.getElem_cons_zero, List.setIfInBounds_toArray, List.set_cons_zero, List.set_cons_succ])
  refine wpAnyH_take (i := 1) (v := ?_) rfl (by kernel_rfl) (by kernel_rfl) (by kernel_rfl) (fun _ _ _ h => h) (Or.inl ⟨by rfl, ?_⟩) (by assumption) ?_
  rotate_left
  · intro w hSw; (try dsimp only at hSw); go_simp; (try with_reducible rfl)
  (try simp only [Act.put, List.getElem_toArray, List.getElem_cons_succ, List.getElem_cons_zero, List.setIfInBounds_toArray, List.set_cons_zero, List.set_cons_succ])
  refine wpAnyH_take (i := 2) (v := ?_) rfl (by kernel_rfl) (by kernel_rfl) (by kernel_rfl) (fun _ _ _ h => h) (Or.inl ⟨by rfl, ?_⟩) (by assumption) ?_
  rotate_left
  · intro w hSw; (try dsimp only at hSw); go_simp; (try with_reducible rfl)
  (try simp only [Act.put, List.getElem_toArray, List.getElem_cons_succ, List.getElem_cons_zero, List.setIfInBounds_toArray, List.set_cons_zero, List.set_cons_succ])
  refine wpAnyH_take (i := 3) (v := ?_) rfl (by kernel_rfl) (by kernel_rfl) (by kernel_rfl) (fun _ _ _ h => h) (Or.inl ⟨by rfl, ?_⟩) (by assumption) ?_
  rotate_left
  · intro w hSw; (try dsimp only at hSw); go_simp; (try with_reducible rfl)
  (try simp only [Act.put, List.getElem_toArray, List.getElem_cons_succ, List.getElem_cons_zero, List.setIfInBounds_toArray, List.set_cons_zero, List.set_cons_succ])
  refine wpAnyH_take (i := 4) (v := ?_) rfl (by kernel_rfl) (by kernel_rfl) (by kernel_rfl) (fun _ _ _ h => h) (Or.inl ⟨by rfl, ?_⟩) (by assumption) ?_
  rotate_left
  · intro w hSw; (try dsimp only at hSw); go_simp; (try with_reducible rfl)
  (try simp only [Act.put, List.getElem_toArray, List.getElem_cons_succ, List.getElem_cons_zero, List.setIfInBounds_toArray, List.set_cons_zero, List.set_cons_succ])
  (try clear hK K)
  refine wpAnyH_ready (rs := [5]) (by kernel_rfl) (by simp) ?_
  refine AllReadyH.cons rfl (fun K hK => ?_) AllReadyH.nil
  go_simp
  refine hK.out _ _ ?_ (fun hHeld => ?_)
  · exact ⟨HLL.out.1, HY11.out.1.sx.k.c0, HY11.out.1.sx.k.c1, HY11.out.1.sx.k.c2⟩
  (try clear hK K)
  refine wpAnyH_done (by kernel_rfl) ?_ _
  clear z3 z4 z5 fz hHeld HLL HYD
  generalize ((wd.setCell ⟨i, 3, none⟩ (.bool k.t)).setCell ⟨i, 4, none⟩ (.int .i64 k.n)).setCell ⟨i, 5, none⟩ (.string k.s) = w11 at *
  have HG11 : Hid _ := sq_get HQ11.out 0 k HOK.out.2
  rw [so_at, has_of (by simp) 1, row_of (by simp)] at HG11
  obtain ⟨k0, k1, k2⟩ := HY11.out.1.sx.k
  go_wp2_with fail
  refine Calls.mono HG11.out ?_
  rintro e w12 ⟨y, rfl, hy, hb⟩
  simp only [if_true] at hy
  have HY12 : Hid (SY w w12 k v N) := HY11.out.1.below HY11.out.2 hb
  obtain ⟨k0, k1, k2⟩ := HY12.out.sx.k
  obtain ⟨v0, v1, v2⟩ := HY12.out.sx.v
  have HSM : Hid _ := rsame_any y _ [k, v] [k, v] (w12.alloc (.cells #[.bool k.t, .int .i64 k.n, .string k.s, .bool v.t, .int .i64 v.n, .string v.s] TVa)) (hy.below (alloc1 _ _)).isIn (two_new w12 k v).isIn
  rw [eqRow_iff.2 rfl] at HSM
  obtain ⟨ya, yc, rfl, _⟩ := hy.isIn.slice
  have HBW : Hid (Below w.heap.size w (w12.alloc (.cells #[.bool k.t, .int .i64 k.n, .string k.s, .bool v.t, .int .i64 v.n, .string v.s] TVa))) := on HY12.out.sx.bel (alloc1 _ _)
  clear hy hb HG11 HQ11 HY11 HY12
  go_wp2_with fail
  refine Calls.mono HSM.out ?_
  rintro e w13 ⟨rfl, hb⟩
  have HZ : Hid (Below w.heap.size w w13) := on HBW.out hb
  clear hb HSM HBW
  go_wp2_with fail
  go_ret
  exact ⟨rfl, HZ.out⟩
end Go.Proofs.Ytafkpfhhmmnpeaa.Val
/- The law StoreOwn holds: what a store tells is new memory, and what is told to it is not kept. -/
namespace Go.Proofs.Ytafkpfhhmmnpeaa.Val
open Go.ChangeShapes Go.WideShapes Go.ChangeAt Go.RowKit
open Go.ChangeMaps (open_string)

set_option maxRecDepth 100000 in
theorem sown_lifted (os : Os) (started : os.Started) (H : Type) (enc : TypeId × Value → H) :
    ReturnsInHanded {} Try.checked os 7 .any (Rows.storeOwnSpec.pre6 enc Try.prog Try.f7 Rows.storeOwnRow.domain false) (Rows.storeOwnSpec.post enc Try.prog Try.f7 false true false false) := by
  refine returnsInHanded_of_change (C := Try.checked) own started (by kernel_rfl) Try.func7
    (ChangeSpec.witness6 (enc := enc) (C := Try.checked) false ⟨#[], #[.agg #[.bool false, .int .i64 0, .string ⟨#[]⟩], .agg #[.bool false, .int .i64 0, .string ⟨#[]⟩]], []⟩ 8 (by kernel_rfl) (by kernel_rfl) (by kernel_rfl) (by kernel_rfl)) ?_
  intro W base args ds gs before hval0 hW _ _
  have hval : ∀ (j : Nat) t v, Try.f7.params[j]? = some t → args[j]? = some v → Value.okWide Try.prog W .any base t v := hval0
  have hW' := hW
  obtain ⟨p, q, hA0, hV, rfl, hfz, hnd⟩ := hW
  have hA : DataW.TrodAll enc Try.prog W 0 (fun _ => true) true Try.f7.params.toList args.toList ds p := hA0
  rw [Try.params7] at hA hval
  obtain ⟨v0, vs0, d0, ds0, p0, q0, hargs, rfl, rfl, h0, r0⟩ := trodAll_cons hA
  obtain ⟨v1, vs1, d1, ds1, p1, q1, rfl, rfl, rfl, h1, r1⟩ := trodAll_cons r0
  obtain ⟨rfl, rfl, rfl⟩ := trodAll_nil r1
  obtain rfl : args = #[v0, v1] := by cases args; simp_all
  obtain ⟨rfl, rfl⟩ := trodVars_none hV
  have k0 := h0
  have lt0 : ∀ x ∈ p0, x.block < W.heap.size := by obtain ⟨m, hm⟩ := k0; exact DataW.trod_lt m _ _ _ hm
  obtain ⟨x0, rfl, o0⟩ := open_value (hval 0 32 v0 rfl rfl) h0
  have k1 := h1
  have lt1 : ∀ x ∈ p1, x.block < W.heap.size := by obtain ⟨m, hm⟩ := k1; exact DataW.trod_lt m _ _ _ hm
  obtain ⟨x1, rfl, o1⟩ := open_value (hval 1 32 v1 rfl rfl) h1
  clear hA0 hval0
  refine (sown_walk x0 x1 W o0 o1).mono fun e W' ⟨he, bel⟩ => ?_
  subst he
  exact ⟨_, rfl, _, _, _, [], _, [], hW', trodAll_mk1 (shut_bool Try.underlying4 _), (trodAll_cons_mk (Below.trod laidOut (by kernel_rfl) (of_decide_eq_true (by kernel_rfl)) k0 bel lt0) (trodAll_cons_mk (Below.trod laidOut (by kernel_rfl) (of_decide_eq_true (by kernel_rfl)) k1 bel lt1) trodAll_mk0)), rfl, bel.frame _, fun h => by cases h⟩

/-- The statement. -/
theorem sown_said : Rows.StoreOwnSaid :=
  OpenClaim.holds_of_wide 7 Try.f7 rfl rfl rfl rfl rfl rfl rfl ⟨rfl, rfl, rfl, rfl, rfl⟩ rfl rfl rfl rfl rfl (by kernel_rfl) Try.func7 (by kernel_rfl)
    (of_decide_eq_true (by kernel_rfl)) (by unfold Func.isWrapper; first | (rw [if_pos (by decide +kernel)]; kernel_rfl) | (rw [if_neg (by decide +kernel)]; exact ⟨rfl, rfl⟩))
    (fun os started H enc _ => sown_lifted os started H enc)
end Go.Proofs.Ytafkpfhhmmnpeaa.Val
