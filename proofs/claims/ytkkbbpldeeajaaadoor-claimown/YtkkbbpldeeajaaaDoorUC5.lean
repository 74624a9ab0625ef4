/- The law's awake answers true, in whatever world in which the table of modes lies. -/
import Derived.Test.YtkkbbpldeeajaaaDoorUC3
import Derived.Test.YtkkbbpldeeajaaaDoorUC4
import Derived.Test.YtkkbbpldeeajaaaDoorUC2
import Derived.Test.YtkkbbpldeeajaaaDoorUQ
import Derived.Test.YtkkbbpldeeajaaaDoorUC1
import Derived.Test.YtkkbbpldeeajaaaDoorUM
import Derived.Test.YtkkbbpldeeajaaaDoorU1
import Derived.BigQuiet
import Derived.Deep.QuietTactic
namespace Go.Proofs.YtkkbbpldeeajaaaDoor.Val
open Go.RowKit
set_option maxRecDepth 100000

def vn (n : Int) : Val := ⟨false, n, ⟨#[]⟩⟩
theorem lies_new (w : World) (N : Nat) (hN : w.heap.size = N) (cs : List Value) (n : Nat) (T : TypeId) (hn : n ≤ maxLen) : Lies (w.alloc (.cells cs.toArray T)) (.slice (some ⟨N, 0, none⟩) n n) n cs := by
  subst hN
  refine ⟨_, n, rfl, Nat.le_refl _, hn, fun h => (by cases h), .inr ⟨w.heap.size, 0, rfl, fun j u hj => ?_⟩⟩
  rw [Nat.zero_add, cell_of_row (w.alloc _) w.heap.size j cs.toArray T (0, 0) (heap_alloc_new w _)]
  simpa using hj
theorem in_none (w : World) (o c : Int) (v u : Val) (h1 : v.s.size ≤ maxLen) (h2 : u.s.size ≤ maxLen) : In w (.mk o c v u (.slice none 0 0) []) :=
  .mk h1 h2 ⟨none, 0, rfl, Nat.le_refl _, Nat.zero_le _, fun _ => ⟨rfl, rfl⟩, .inl rfl⟩ (by simp)
set_option maxHeartbeats 1000000 in
theorem num_any (n : Int) (w : World) : Tells 26 #[.int .i64 n] w (V false n ⟨#[]⟩) := by
  go_enter Tryd.func26, Tryd.ntmps26
  go_wp2_with fail
  refine bodyPost_ret (v := V false n ⟨#[]⟩) (by simp [results, Tryd.results26, go_sem]) rfl ⟨rfl, ?_⟩
  repeat (first | exact Below.refl _ _ | refine Below.setCell ?_ (by (simp; try omega)) _ | refine Below.alloc ?_ (by (simp; try omega)) _)
/-- The example's claims. -/
def exP : PT := .mk 7 1 (vn 5) Val.zero (.slice none 0 0) []
def exPC : CP := ⟨3, 0, 3, Val.zero, .slice none 0 0, [], exP⟩
def exW (a b c : Nat) : CP := ⟨2, 0, 6, vn 1, .slice (some ⟨c, 0, none⟩) 2 2, [⟨.slice (some ⟨a, 0, none⟩) 2 2, [vn 1, vn 3]⟩, ⟨.slice (some ⟨b, 0, none⟩) 2 2, [vn 1, vn 9]⟩], PT.zero⟩
def exV (a c : Nat) : CP := ⟨2, 0, 6, vn 1, .slice (some ⟨c, 0, none⟩) 2 2, [⟨.slice (some ⟨a, 0, none⟩) 2 2, [vn 1, vn 3]⟩, ⟨.slice none 0 0, []⟩], PT.zero⟩
theorem e0 : (⟨#[]⟩ : ByteArray).toList = [] := by rw [ByteArray.toList_eq]
theorem ex_pw (a b c : Nat) : conflictC exPC (exW a b c) = true := by simp [conflictC, exPC, exW, catchC, CP.rows, exP, holds_mk, leafB, standB, cmpX, cmpV, cmpN, vn]
theorem ex_wp (a b c : Nat) : conflictC (exW a b c) exPC = true := by simp [conflictC, exPC, exW, catchC, CP.rows, exP, holds_mk, leafB, standB, cmpX, cmpV, cmpN, vn]
theorem ex_pv (a c : Nat) : conflictC exPC (exV a c) = false := by simp [conflictC, exPC, exV, catchC, CP.rows, exP, holds_mk, leafB, standB, cmpX, cmpV, cmpN, vn]
theorem ex_vw (s : Bool) (a b c d e : Nat) : sameC s (exV a c) (exW b d e) = true := by simp [sameC, exV, exW, eqV, vn]
theorem ex_j (a b c d e : Nat) : joinI (exV a c).rows (exW b d e).rows = [[vn 1, vn 3], [], [vn 1, vn 9]] := by simp [joinI, CP.rows, exV, exW, addI, hasI, eqRow, eqV, vn]
theorem ex_m6 : joinM 6 6 = 6 := by decide +kernel
theorem ex_c6 : coversM 6 6 = true := by decide +kernel
theorem ex_cov (_ : Bool) {a b c d e : Nat} {j : CP} (h : JoinC true (exV a c) (exW b d e) j) (s' : Bool) : coversC s' j (exW b d e) = true := by
  have hr := h.rows
  have hm := h.mode
  rw [ex_vw, if_pos rfl] at hr hm
  rw [ex_j] at hr
  unfold coversC
  rw [hr, hm]
  have e1 : sameC s' j (exW b d e) = true := by simp [sameC, h.kind, h.table, h.key, exV, exW, eqV, vn]
  rw [e1]
  simp [exV, exW, ex_m6, ex_c6, CP.rows, hasI, eqRow, eqV, vn]
theorem ex_may (v : Value) (a b c : Nat) : mayA [(v, [false, false])] (exW a b c) = true := by
  simp [mayA, mayC, mayT, exW, vn, rightV, suitsC, CP.rows, suitI, fitsRow, fitsL, suitV, eqV]
end Go.Proofs.YtkkbbpldeeajaaaDoor.Val
/- The law's awake answers true: the walk. -/
namespace Go.Proofs.YtkkbbpldeeajaaaDoor.Val
open Go.RowKit
set_option maxRecDepth 100000

structure AX (w0 w : World) (P W V : Nat) (b d e a c : Nat) : Prop where
  cp : CB w P exPC
  cw : CB w W (exW b d e)
  cv : CB w V (exV a c)
  iw : CIn w (exW b d e)
  iv : CIn w (exV a c)
  bel : Below w0.heap.size w0 w
theorem AX.below {w0 w w' : World} {P W V b d e a c : Nat} (h : AX w0 w P W V b d e a c) (hb : Below w.heap.size w w') : AX w0 w' P W V b d e a c :=
  ⟨h.cp.below hb, h.cw.below hb, h.cv.below hb, h.iw.below hb, h.iv.below hb, on h.bel hb⟩
theorem AX.ip (w : World) : CIn w exPC := ⟨by decide, ⟨⟨none, 0, rfl, Nat.le_refl _, Nat.zero_le _, fun _ => ⟨rfl, rfl⟩, .inl rfl⟩, by simp [exPC]⟩, in_none w _ _ _ _ (by decide) (by decide)⟩
theorem zero_in (w : World) : In w PT.zero := in_none w _ _ _ _ (by decide) (by decide)
abbrev row13 : Obj := .cells #[.bool false, .int .i64 1, .string ⟨#[]⟩, .bool false, .int .i64 3, .string ⟨#[]⟩] TVa
abbrev row19 : Obj := .cells #[.bool false, .int .i64 1, .string ⟨#[]⟩, .bool false, .int .i64 9, .string ⟨#[]⟩] TVa
theorem row_new (w : World) (N : Nat) (hN : w.heap.size = N) (n : Int) : RowIn (w.alloc (.cells #[.bool false, .int .i64 1, .string ⟨#[]⟩, .bool false, .int .i64 n, .string ⟨#[]⟩] TVa)) (.slice (some ⟨N, 0, none⟩) 2 2) [vn 1, vn n] := lies_new w N hN ([vn 1, vn n].flatMap Val.cells) 2 TVa (by decide)
theorem ims_new (w : World) (N : Nat) (hN : w.heap.size = N) (x y : Value) (T : TypeId) : Lies (w.alloc (.cells #[x, y] T)) (.slice (some ⟨N, 0, none⟩) 2 2) 2 [x, y] := lies_new w N hN [x, y] 2 T (by decide)
/-- The writer's claim, laid. -/
theorem lay_w {w0 w7 w8 : World} {P a : Nat} (hp : CB w7 P exPC) (hr : RowIn w7 (.slice (some ⟨a, 0, none⟩) 2 2) [vn 1, vn 3]) (hb : Below w0.heap.size w0 w7)
    (h8 : CB w8 (w7.heap.size + 2) (exW a w7.heap.size (w7.heap.size + 1))) (hs : Sv (fun k => k = w7.heap.size + 2) (((w7.alloc row19).alloc (.cells #[.slice (some ⟨a, 0, none⟩) 2 2, .slice (some ⟨w7.heap.size, 0, none⟩) 2 2] TRo)).alloc (cobj zeroC TC)) w8) :
    CB w8 P exPC ∧ CB w8 (w7.heap.size + 2) (exW a w7.heap.size (w7.heap.size + 1)) ∧ CIn w8 (exW a w7.heap.size (w7.heap.size + 1)) ∧ Below w0.heap.size w0 w8 := by
  have b1 := alloc1 w7 row19
  have b2 := alloc1 (w7.alloc row19) (.cells #[.slice (some ⟨a, 0, none⟩) 2 2, .slice (some ⟨w7.heap.size, 0, none⟩) 2 2] TRo)
  have hb8 : Below (w7.heap.size + 2) ((w7.alloc row19).alloc (.cells #[.slice (some ⟨a, 0, none⟩) 2 2, .slice (some ⟨w7.heap.size, 0, none⟩) 2 2] TRo)) w8 := by
    have := (alloc1 ((w7.alloc row19).alloc (.cells #[.slice (some ⟨a, 0, none⟩) 2 2, .slice (some ⟨w7.heap.size, 0, none⟩) 2 2] TRo)) (cobj zeroC TC)).mono (B' := w7.heap.size + 2) (by simp)
    exact this.trans (hs.below (by simp) fun k hk e => by omega)
  have e2 : ((w7.alloc row19).alloc (.cells #[.slice (some ⟨a, 0, none⟩) 2 2, .slice (some ⟨w7.heap.size, 0, none⟩) 2 2] TRo)).heap.size = w7.heap.size + 2 := by simp
  have hall : Below w7.heap.size w7 w8 := (b1.trans (b2.mono (by simp))).trans (hb8.mono (by omega))
  refine ⟨hp.below hall, h8, ⟨by simp only [exW]; decide, ⟨?_, ?_⟩, zero_in _⟩, on hb hall⟩
  · exact Lies.below (ims_new (w7.alloc row19) (w7.heap.size + 1) (by simp) _ _ _) (by rw [e2]; exact hb8)
  · intro i hi
    simp only [exW, List.mem_cons, List.not_mem_nil, or_false] at hi
    rcases hi with rfl | rfl
    · exact hr.below hall
    · exact ((row_new w7 _ rfl 9).below b2).below (by rw [e2]; exact hb8)
theorem lay_v {w0 w7 w8 : World} {P W b d e : Nat} (hp : CB w7 P exPC) (hw : CB w7 W (exW b d e)) (iw : CIn w7 (exW b d e)) (hb : Below w0.heap.size w0 w7)
    (h8 : CB w8 (w7.heap.size + 2) (exV w7.heap.size (w7.heap.size + 1))) (hs : Sv (fun k => k = w7.heap.size + 2) (((w7.alloc row13).alloc (.cells #[.slice (some ⟨w7.heap.size, 0, none⟩) 2 2, .slice none 0 0] TRo)).alloc (cobj zeroC TC)) w8) :
    AX w0 w8 P W (w7.heap.size + 2) b d e w7.heap.size (w7.heap.size + 1) := by
  have b1 := alloc1 w7 row13
  have b2 := alloc1 (w7.alloc row13) (.cells #[.slice (some ⟨w7.heap.size, 0, none⟩) 2 2, .slice none 0 0] TRo)
  have hb8 : Below (w7.heap.size + 2) ((w7.alloc row13).alloc (.cells #[.slice (some ⟨w7.heap.size, 0, none⟩) 2 2, .slice none 0 0] TRo)) w8 := by
    have := (alloc1 ((w7.alloc row13).alloc (.cells #[.slice (some ⟨w7.heap.size, 0, none⟩) 2 2, .slice none 0 0] TRo)) (cobj zeroC TC)).mono (B' := w7.heap.size + 2) (by simp)
    exact this.trans (hs.below (by simp) fun k hk e => by omega)
  have e2 : ((w7.alloc row13).alloc (.cells #[.slice (some ⟨w7.heap.size, 0, none⟩) 2 2, .slice none 0 0] TRo)).heap.size = w7.heap.size + 2 := by simp
  have hall : Below w7.heap.size w7 w8 := (b1.trans (b2.mono (by simp))).trans (hb8.mono (by omega))
  refine ⟨hp.below hall, hw.below hall, h8, iw.below hall, ⟨by simp only [exV]; decide, ⟨?_, ?_⟩, zero_in _⟩, on hb hall⟩
  · exact Lies.below (ims_new (w7.alloc row13) (w7.heap.size + 1) (by simp) _ _ _) (by rw [e2]; exact hb8)
  · intro i hi
    simp only [exV, List.mem_cons, List.not_mem_nil, or_false] at hi
    rcases hi with rfl | rfl
    · exact ((row_new w7 _ rfl 3).below b2).below (by rw [e2]; exact hb8)
    · exact ⟨none, 0, rfl, Nat.le_refl _, Nat.zero_le _, fun _ => ⟨rfl, rfl⟩, .inl rfl⟩
theorem cb_third (w7 : World) (o1 o2 : Obj) : CB (((w7.alloc o1).alloc o2).alloc (cobj zeroC TC)) (w7.heap.size + 2) zeroC := by
  have := CB.new ((w7.alloc o1).alloc o2) zeroC
  simpa using this
/-- All that awake looks at. -/
structure AY (w0 w : World) (P W V b d e a c J : Nat) (j : CP) : Prop where
  ax : AX w0 w P W V b d e a c
  cj : CB w J j
  ij : CIn w j
theorem AY.below {w0 w w' : World} {P W V b d e a c J : Nat} {j : CP} (h : AY w0 w P W V b d e a c J j) (hb : Below w.heap.size w w') : AY w0 w' P W V b d e a c J j := ⟨h.ax.below hb, h.cj.below hb, h.ij.below hb⟩
theorem tbs_new (w : World) (T1 T2 : TypeId) : TbsIn ((w.alloc (.cells #[.bool false, .bool false] T1)).alloc (.cells #[.slice (some ⟨w.heap.size, 0, none⟩) 2 2] T2)) (.slice (some ⟨w.heap.size + 1, 0, none⟩) 1 1) [(.slice (some ⟨w.heap.size, 0, none⟩) 2 2, [false, false])] := by
  refine ⟨lies_new (w.alloc _) _ (by simp) [.slice (some ⟨w.heap.size, 0, none⟩) 2 2] 1 T2 (by decide), fun x hx => ?_⟩
  rw [List.mem_singleton] at hx
  subst hx
  exact (lies_new w _ rfl [.bool false, .bool false] 2 T1 (by decide)).alloc _
theorem exW_ok (a b c : Nat) : OkC (exW a b c) := fun i hi => by
  simp only [exW, List.mem_cons, List.not_mem_nil, or_false] at hi
  rcases hi with rfl | rfl <;> (intro x hx; simp only [List.mem_cons, List.not_mem_nil, or_false] at hx; rcases hx with rfl | rfl <;> exact ⟨by decide, by decide⟩)
set_option maxHeartbeats 8000000 in
theorem awake_any (w : World) (hT : TabC w) : Tells 11 #[] w (.bool true) := by
  have HN : Hid (∀ n w1, Tells 26 #[.int .i64 n] w1 (V false n ⟨#[]⟩)) := num_any
  have HT : Hid (∀ w1, Below w.heap.size w w1 → TabC w1) := fun w1 h => hT.below h
  clear hT
  go_enter Tryd.func11, Tryd.ntmps11
  go_wp2_with fail
  refine Calls.mono (HN.out _ _) ?_
  rintro e w1 ⟨rfl, hb1⟩
  have HB1 : Hid (Below w.heap.size w w1) := hb1
  clear hb1
  go_wp2_with (first
    | (refine step_cstore rfl _ _ rfl w1.heap.size exPC zeroC rfl rfl (AX.ip w).one (CB.new w1 zeroC) ?_; intro w2 h21 h22
       have H2 : Hid (CB w2 w1.heap.size exPC ∧ Below w.heap.size w w2) := ⟨h21, (HB1.out.trans ((alloc1 _ _).mono HB1.out.size)).trans (h22.below (by have := HB1.out.size; simp; omega) fun k hk e => by have := HB1.out.size; omega)⟩
       clear h21 h22 HB1)
    | fail)
  refine Calls.mono (HN.out _ _) ?_
  rintro e w3 ⟨rfl, hb3⟩
  have H3 : Hid (CB w3 w1.heap.size exPC ∧ Below w.heap.size w w3) := ⟨H2.out.1.below hb3, on H2.out.2 hb3⟩
  clear H2 hb3
  go_wp2_with fail
  refine Calls.mono (HN.out _ _) ?_
  rintro e w4 ⟨rfl, hb4⟩
  have H4 : Hid (CB w4 w1.heap.size exPC ∧ Below w.heap.size w w4) := ⟨H3.out.1.below hb4, on H3.out.2 hb4⟩
  clear H3 hb4
  go_wp2_with fail
  refine Calls.mono (HN.out _ _) ?_
  rintro e w5 ⟨rfl, hb5⟩
  have H5 : Hid (CB w5 w1.heap.size exPC ∧ Below w.heap.size w w5) := ⟨H4.out.1.below hb5, on H4.out.2 hb5⟩
  clear H4 hb5
  go_wp2_with fail
  refine Calls.mono (HN.out _ _) ?_
  rintro e w6 ⟨rfl, hb6⟩
  have H6 : Hid (CB w6 w1.heap.size exPC ∧ RowIn w6 (.slice (some ⟨w5.heap.size, 0, none⟩) 2 2) [vn 1, vn 3] ∧ Below w.heap.size w w6) := ⟨(H5.out.1.below (alloc1 _ _)).below hb6, (row_new w5 _ rfl 3).below hb6, on (on H5.out.2 (alloc1 _ _)) hb6⟩
  clear H5 hb6
  go_wp2_with fail
  refine Calls.mono (HN.out _ _) ?_
  rintro e w7 ⟨rfl, hb7⟩
  have H7 : Hid (CB w7 w1.heap.size exPC ∧ RowIn w7 (.slice (some ⟨w5.heap.size, 0, none⟩) 2 2) [vn 1, vn 3] ∧ Below w.heap.size w w7) := ⟨H6.out.1.below hb7, H6.out.2.1.below hb7, on H6.out.2.2 hb7⟩
  clear H6 hb7
  go_wp2_with (first
    | (refine step_cstore rfl _ _ rfl (w7.heap.size + 2) (exW w5.heap.size w7.heap.size (w7.heap.size + 1)) zeroC rfl rfl ⟨⟨_, _, _, rfl⟩, _, _, _, rfl⟩ (cb_third w7 _ _) ?_; intro w8 h81 h82
       have H8 : Hid (CB w8 w1.heap.size exPC ∧ CB w8 (w7.heap.size + 2) (exW w5.heap.size w7.heap.size (w7.heap.size + 1)) ∧ CIn w8 (exW w5.heap.size w7.heap.size (w7.heap.size + 1)) ∧ Below w.heap.size w w8) := lay_w H7.out.1 H7.out.2.1 H7.out.2.2 h81 h82
       clear h81 h82 H7)
    | fail)
  refine Calls.mono (HN.out _ _) ?_
  rintro e w9 ⟨rfl, hb9⟩
  have H9 : Hid (CB w9 w1.heap.size exPC ∧ CB w9 (w7.heap.size + 2) (exW w5.heap.size w7.heap.size (w7.heap.size + 1)) ∧ CIn w9 (exW w5.heap.size w7.heap.size (w7.heap.size + 1)) ∧ Below w.heap.size w w9) := ⟨H8.out.1.below hb9, H8.out.2.1.below hb9, H8.out.2.2.1.below hb9, on H8.out.2.2.2 hb9⟩
  clear H8 hb9
  go_wp2_with fail
  refine Calls.mono (HN.out _ _) ?_
  rintro e w10 ⟨rfl, hb10⟩
  have H10 : Hid (CB w10 w1.heap.size exPC ∧ CB w10 (w7.heap.size + 2) (exW w5.heap.size w7.heap.size (w7.heap.size + 1)) ∧ CIn w10 (exW w5.heap.size w7.heap.size (w7.heap.size + 1)) ∧ Below w.heap.size w w10) := ⟨H9.out.1.below hb10, H9.out.2.1.below hb10, H9.out.2.2.1.below hb10, on H9.out.2.2.2 hb10⟩
  clear H9 hb10
  go_wp2_with fail
  refine Calls.mono (HN.out _ _) ?_
  rintro e w11 ⟨rfl, hb11⟩
  have H11 : Hid (CB w11 w1.heap.size exPC ∧ CB w11 (w7.heap.size + 2) (exW w5.heap.size w7.heap.size (w7.heap.size + 1)) ∧ CIn w11 (exW w5.heap.size w7.heap.size (w7.heap.size + 1)) ∧ Below w.heap.size w w11) := ⟨H10.out.1.below hb11, H10.out.2.1.below hb11, H10.out.2.2.1.below hb11, on H10.out.2.2.2 hb11⟩
  clear H10 hb11
  go_wp2_with (first
    | (refine step_cstore rfl _ _ rfl (w11.heap.size + 2) (exV w11.heap.size (w11.heap.size + 1)) zeroC rfl rfl ⟨⟨_, _, _, rfl⟩, _, _, _, rfl⟩ (cb_third w11 _ _) ?_; intro w12 h1 h2
       have HX : Hid (AX w w12 w1.heap.size (w7.heap.size + 2) (w11.heap.size + 2) w5.heap.size w7.heap.size (w7.heap.size + 1) w11.heap.size (w11.heap.size + 1)) := lay_v H11.out.1 H11.out.2.1 H11.out.2.2.1 H11.out.2.2.2 h1 h2
       clear h1 h2 H11)
    | (refine step_cload rfl _ rfl (w11.heap.size + 2) (exV w11.heap.size (w11.heap.size + 1)) rfl HX.out.cv ?_)
    | (refine step_cload rfl _ rfl (w7.heap.size + 2) (exW w5.heap.size w7.heap.size (w7.heap.size + 1)) rfl HX.out.cw ?_)
    | fail)
  refine Calls.mono (cjoin_any _ _ true (by simp [exV, exW]) _ (HT.out _ HX.out.bel) HX.out.iv HX.out.iw ⟨by simp [exV], by simp [exV], by simp [exV, PT.zero, size_mk]⟩ ⟨by simp [exW], by simp [exW], by simp [exW, PT.zero, size_mk]⟩) ?_
  rintro e w13 ⟨j, rfl, hj, hn, hb13⟩
  have HJ : Hid (JoinC true (exV w11.heap.size (w11.heap.size + 1)) (exW w5.heap.size w7.heap.size (w7.heap.size + 1)) j) := hj
  have HY0 : Hid (∀ w14, CB w14 w13.heap.size j → Sv (fun k => k = w13.heap.size) (w13.alloc (cobj zeroC TC)) w14 → AY w w14 w1.heap.size (w7.heap.size + 2) (w11.heap.size + 2) w5.heap.size w7.heap.size (w7.heap.size + 1) w11.heap.size (w11.heap.size + 1) w13.heap.size j) := fun w14 h1 h2 => by
    have hb : Below w13.heap.size w13 w14 := (alloc1 _ _).trans (h2.below (by simp) fun k hk e => by omega)
    exact ⟨(HX.out.below hb13).below hb, h1, hn.isIn.below hb⟩
  have HO : Hid (OneC j) := hn.isIn.one
  obtain ⟨aj, cj, hjv, _⟩ := hn.isIn.ims.slice
  have hlen : j.ims.length = 3 := by
    have := congrArg List.length hj.rows
    rw [ex_vw, if_pos rfl, ex_j] at this
    simpa [CP.rows] using this
  have HJV : Hid (j.iv = .slice aj 3 cj) := by rw [← hlen]; exact hjv
  clear hjv hlen hj hn hb13 HX
  go_wp2_with (first
    | (refine step_cstore rfl _ _ rfl w13.heap.size j zeroC rfl rfl HO.out (CB.new w13 zeroC) ?_; intro w14 h1 h2
       have HY : Hid _ := HY0.out w14 h1 h2
       clear h1 h2 HY0)
    | (refine step_cload rfl _ rfl w1.heap.size exPC rfl HY.out.ax.cp ?_)
    | (refine step_cload rfl _ rfl (w7.heap.size + 2) (exW w5.heap.size w7.heap.size (w7.heap.size + 1)) rfl HY.out.ax.cw ?_)
    | fail)
  refine Calls.mono (conflict_any _ _ _ (HT.out _ HY.out.ax.bel) (AX.ip _) HY.out.ax.iw) ?_
  rw [ex_pw]
  rintro e w15 ⟨rfl, hb⟩
  replace HY : Hid _ := HY.out.below hb
  clear hb
  go_wp2_with (first
    | (refine step_cloadG _ rfl w1.heap.size exPC rfl HY.out.ax.cp rfl ?_)
    | (refine step_cloadG _ rfl (w7.heap.size + 2) (exW w5.heap.size w7.heap.size (w7.heap.size + 1)) rfl HY.out.ax.cw rfl ?_)
    | fail)
  refine Calls.mono (conflict_any _ _ _ (HT.out _ HY.out.ax.bel) HY.out.ax.iw (AX.ip _)) ?_
  rw [ex_wp]
  rintro e w16 ⟨rfl, hb⟩
  replace HY : Hid _ := HY.out.below hb
  clear hb
  go_wp2_with (first
    | (refine step_cloadG _ rfl w1.heap.size exPC rfl HY.out.ax.cp rfl ?_)
    | (refine step_cloadG _ rfl (w11.heap.size + 2) (exV w11.heap.size (w11.heap.size + 1)) rfl HY.out.ax.cv rfl ?_)
    | fail)
  refine Calls.mono (conflict_any _ _ _ (HT.out _ HY.out.ax.bel) (AX.ip _) HY.out.ax.iv) ?_
  rw [ex_pv]
  rintro e w17 ⟨rfl, hb⟩
  replace HY : Hid _ := HY.out.below hb
  clear hb
  have j6 : w17.cell? ⟨w13.heap.size, 6, none⟩ = some (.slice aj 3 cj) := by have := HY.out.cj.box.c6; rwa [HJV.out] at this
  go_wp2_with (first
    | (refine step_cloadG _ rfl w13.heap.size j rfl HY.out.cj rfl ?_)
    | (refine step_cloadG _ rfl (w7.heap.size + 2) (exW w5.heap.size w7.heap.size (w7.heap.size + 1)) rfl HY.out.ax.cw rfl ?_)
    | fail)
  clear j6
  obtain ⟨s, hs⟩ := some_b (j.p.bare = (exW w5.heap.size w7.heap.size (w7.heap.size + 1)).p.bare)
  refine Calls.mono (ccovers_any _ _ s hs _ (HT.out _ HY.out.ax.bel) HY.out.ij HY.out.ax.iw) ?_
  rw [ex_cov s HJ.out]
  clear hs
  rintro e w18 ⟨rfl, hb⟩
  replace HY : Hid _ := HY.out.below hb
  clear hb
  go_wp2_with (first
    | (refine step_cloadG _ rfl (w11.heap.size + 2) (exV w11.heap.size (w11.heap.size + 1)) rfl HY.out.ax.cv rfl ?_)
    | (refine step_cloadG _ rfl (w7.heap.size + 2) (exW w5.heap.size w7.heap.size (w7.heap.size + 1)) rfl HY.out.ax.cw rfl ?_)
    | fail)
  obtain ⟨s', hs'⟩ := some_b ((exV w11.heap.size (w11.heap.size + 1)).p.bare = (exW w5.heap.size w7.heap.size (w7.heap.size + 1)).p.bare)
  refine Calls.mono (csame_any _ _ s' hs' _ HY.out.ax.iv HY.out.ax.iw) ?_
  rw [ex_vw]
  clear hs'
  rintro e w19 ⟨rfl, hb⟩
  replace HY : Hid _ := HY.out.below hb
  clear hb
  have HZ : Hid (∀ o1 o2, CB ((w19.alloc o1).alloc o2) (w7.heap.size + 2) (exW w5.heap.size w7.heap.size (w7.heap.size + 1)) ∧ CIn ((w19.alloc o1).alloc o2) (exW w5.heap.size w7.heap.size (w7.heap.size + 1)) ∧ Below w.heap.size w ((w19.alloc o1).alloc o2)) := fun o1 o2 =>
    ⟨(HY.out.ax.cw.below (alloc1 _ _)).below (alloc1 _ _), (HY.out.ax.iw.below (alloc1 _ _)).below (alloc1 _ _), on (on HY.out.ax.bel (alloc1 _ _)) (alloc1 _ _)⟩
  clear HY
  go_wp2_with (first
    | (refine step_cloadG _ rfl (w7.heap.size + 2) (exW w5.heap.size w7.heap.size (w7.heap.size + 1)) rfl (HZ.out _ _).1 rfl ?_)
    | fail)
  refine Calls.mono (cchk_any _ _ _ _ (tbs_new w19 _ _) (HZ.out _ _).2.1 (exW_ok _ _ _) (by simp [exW, PT.zero, size_mk])) ?_
  rw [ex_may]
  rintro e w20 ⟨rfl, hb⟩
  have HB : Hid (Below w.heap.size w w20) := on (HZ.out _ _).2.2 hb
  clear hb HZ
  go_wp2_with fail
  go_ret
  exact ⟨rfl, HB.out⟩
end Go.Proofs.YtkkbbpldeeajaaaDoor.Val
/- What the law's flat and few answer. -/
namespace Go.Proofs.YtkkbbpldeeajaaaDoor.Val
open Go.RowKit

/-- flat: where it says yes there are few parts. -/
def FlatOk (p : PT) : Prop := ∀ (w : World) (d : Nat), In w p → d ≤ 21 → Calls Tryd.prog 27 #[p.val, .int .i64 (d : Int)] w fun e w' => ∃ b, e = .returned (.bool b) ∧ (b = true → p.size ≤ 100) ∧ Below w.heap.size w w'
theorem sizeL_few (l : List PT) (h : ∀ (j : Nat) (hj : j < l.length), l[j].size ≤ 100) : sizeL l ≤ 100 * l.length := by
  induction l with
  | nil => simp [sizeL]
  | cons x l ih =>
    rw [sizeL_cons, List.length_cons]
    have h0 := h 0 (by simp)
    have h1 := ih fun j hj => by have := h (j + 1) (by simpa using hj); simpa using this
    simp at h0
    omega
set_option maxHeartbeats 1000000 in
theorem flat_step (p : PT) (ih : ∀ q ∈ p.l, FlatOk q) : FlatOk p := by
  intro w d hi hd
  obtain ⟨ao, c, hlv, hn⟩ := hi.lies.slice
  have HI : Hid (In w p ∧ ∀ q ∈ p.l, FlatOk q) := ⟨hi, ih⟩
  have HLV : Hid (p.lv = .slice ao p.l.length c) := hlv
  clear hi ih
  unfold PT.val
  rw [hlv]
  clear hlv
  have d0 : (0 : Int) ≤ (d : Int) := by omega
  by_cases h40 : 20 < d
  · have e1 : (20 : Int) < (d : Int) := by omega
    clear HI HLV
    go_enter Tryd.func27, Tryd.ntmps27
    go_wp2_with fail
    go_ret
    exact ⟨false, rfl, by simp, alloc1 _ _⟩
  have e1 : decide ((20 : Int) < (d : Int)) = false := by simp; omega
  have e1' : (d : Int) ≤ 20 := by omega
  by_cases hl40 : 20 < p.l.length
  · have e2 : (20 : Int) < (p.l.length : Int) := by omega
    clear HI HLV
    go_enter Tryd.func27, Tryd.ntmps27
    go_wp2_with fail
    go_ret
    exact ⟨false, rfl, by simp, alloc1 _ _⟩
  have e2 : decide ((20 : Int) < (p.l.length : Int)) = false := by simp; omega
  have hl40' : p.l.length ≤ 20 := by omega
  clear hl40
  go_enter Tryd.func27, Tryd.ntmps27
  go_wp2_with fail
  go_loopw [5] (fun i wr => ∃ k : Nat, k ≤ p.l.length ∧ i = .int .i64 k ∧ Hid (∀ (j : Nat) (hj : j < p.l.length), j < k → p.l[j].size ≤ 100) ∧ Hid (Below w.heap.size w wr ∧ Box wr w.heap.size p))
    (fun i _ => p.l.length - (intOf i).toNat)
  case atStart => exact ⟨0, Nat.zero_le _, rfl, fun j hj h => by omega, alloc1 _ _, by have := Box.new w p 29; rw [pobj, HLV.out] at this; exact this⟩
  case round =>
    obtain ⟨k, hk, rfl, HP, HB⟩ := hrel
    have hc := HB.out.2.c8
    rw [HLV.out] at hc
    have hlt : w.heap.size < wr.heap.size := World.block_lt_of_cell? _ _ hc
    by_cases h1 : k < p.l.length
    · have i0 : (0 : Int) ≤ (k : Int) := by omega
      have i1 : (k : Int) < (p.l.length : Int) := by omega
      have hin : In wr p := HI.out.1.keep HB.out.1
      have hl := hin.lies
      rw [HLV.out] at hl
      obtain ⟨b, o, rfl, hat⟩ := lies_at hl k h1
      have hm := List.getElem_mem h1
      have HQ : Hid (Calls Tryd.prog 27 #[p.l[k].val, .int .i64 ((d : Int) + 1)] wr fun e w' => ∃ b, e = .returned (.bool b) ∧ (b = true → p.l[k].size ≤ 100) ∧ Below wr.heap.size wr w') := by
        rw [show (d : Int) + 1 = ((d + 1 : Nat) : Int) by omega]
        exact HI.out.2 _ hm wr (d + 1) (hin.part _ hm) (by omega)
      clear hm hl hin
      obtain ⟨c0, c1, c2, c3, c4, c5, c6, c7, c8⟩ := hat
      unfold PT.val at HQ
      go_wp2_with fail
      refine Calls.mono HQ.out ?_
      rintro e w1 ⟨bb, rfl, himp, hb⟩
      have HB1 : Hid (Below w.heap.size w w1 ∧ Box w1 w.heap.size p) := ⟨on HB.out.1 hb, HB.out.2.below hb⟩
      clear hb HB hc c0 c1 c2 c3 c4 c5 c6 c7 c8 HQ hlt
      cases bb
      · clear himp HP HI
        go_wp2_with fail
        go_ret
        exact ⟨false, rfl, by simp, HB1.out.1⟩
      · have HP1 : Hid (∀ (j : Nat) (hj : j < p.l.length), j < k + 1 → p.l[j].size ≤ 100) := fun j hj h => by
          rcases Nat.lt_succ_iff_lt_or_eq.1 h with h | rfl
          · exact HP.out j hj h
          · exact himp rfl
        clear himp HP
        go_wp2_with fail
        go_roundw
        case rel => exact ⟨k + 1, by omega, by go_num, HP1, HB1⟩
        case measure => simp [intOf]; omega
    · have i1 : decide ((k : Int) < (p.l.length : Int)) = false := by simp; omega
      obtain rfl : k = p.l.length := by omega
      have hsz : p.size ≤ 2001 := by
        rw [size_l]
        have := sizeL_few p.l fun j hj => HP.out j hj hj
        omega
      have HQ : Hid (Calls Tryd.prog 54 #[p.val] wr fun e w' => e = .returned (.int .i64 (p.size : Int)) ∧ Below wr.heap.size wr w') := rsize_any p wr (HI.out.1.keep HB.out.1) (by omega)
      obtain ⟨b0, b1, b2, b3, b4, b5, b6, b7, b8⟩ := HB.out.2
      rw [HLV.out] at b8
      unfold PT.val at HQ
      rw [HLV.out] at HQ
      clear HI HP hc
      go_wp2_with fail
      refine Calls.mono HQ.out ?_
      rintro e w1 ⟨rfl, hb⟩
      have HB1 : Hid (Below w.heap.size w w1) := on HB.out.1 hb
      clear hb HB b0 b1 b2 b3 b4 b5 b6 b7 b8 HQ hlt
      go_wp2_with fail
      go_ret
      exact ⟨_, rfl, fun h => by simp at h; omega, HB1.out⟩
theorem flat_ok (p : PT) : FlatOk p := by
  induction p using PT.ind with
  | h p ih => exact flat_step p ih
theorem flat_any (p : PT) (w : World) (hi : In w p) : Calls Tryd.prog 27 #[p.val, .int .i64 0] w fun e w' => ∃ b, e = .returned (.bool b) ∧ (b = true → p.size ≤ 100) ∧ Below w.heap.size w w' := flat_ok p w 0 hi (by omega)
set_option maxHeartbeats 2000000 in
theorem few_any (c : CP) (w : World) (hc : CIn w c) : Calls Tryd.prog 12 #[c.val] w fun e w' => ∃ b, e = .returned (.bool b) ∧ (b = true → FewC c) ∧ Below w.heap.size w w' := by
  have HF : Hid (∀ w1, Below w.heap.size w w1 → Calls Tryd.prog 27 #[c.p.val, .int .i64 0] w1 fun e w' => ∃ b, e = .returned (.bool b) ∧ (b = true → c.p.size ≤ 100) ∧ Below w1.heap.size w1 w') := fun w1 h => flat_any c.p w1 (hc.p.keep h)
  have HX : Hid (CB (w.alloc (cobj c TC)) w.heap.size c ∧ Below w.heap.size w (w.alloc (cobj c TC))) := ⟨CB.new w c, alloc1 _ _⟩
  have HI : Hid (CIn w c) := hc
  unfold cobj at HX
  obtain ⟨ai, ci, hiv, hn⟩ := hc.ims.slice
  obtain ⟨ap, cp, hlv, _⟩ := hc.p.lies.slice
  have HE : Hid (c.iv = .slice ai c.ims.length ci) := hiv
  unfold CP.val
  rw [hiv, hlv] at HX ⊢
  clear hc hiv hlv
  by_cases h20 : 20 < c.ims.length
  · have e1 : (20 : Int) < (c.ims.length : Int) := by omega
    clear HF HI HE
    go_enter Tryd.func12, Tryd.ntmps12
    go_wp2_with fail
    go_ret
    exact ⟨false, rfl, by simp, HX.out.2⟩
  have e1 : decide ((20 : Int) < (c.ims.length : Int)) = false := by simp; omega
  have e2 : c.ims.length ≤ 20 := by omega
  clear h20
  go_enter Tryd.func12, Tryd.ntmps12
  go_wp2_with fail
  go_loopw [3] (fun i wr => ∃ k : Nat, k ≤ c.ims.length ∧ i = .int .i64 k ∧ Hid (∀ (j : Nat) (hj : j < c.ims.length), j < k → c.ims[j].r.length ≤ 20) ∧ Hid (CB wr w.heap.size c ∧ Below w.heap.size w wr))
    (fun i _ => c.ims.length - (intOf i).toNat)
  case atStart => exact ⟨0, Nat.zero_le _, rfl, fun j hj h => by omega, HX.out⟩
  case round =>
    clear HX
    obtain ⟨k, hk, rfl, HP, HB⟩ := hrel
    have c6 := HB.out.1.box.c6
    rw [HE.out] at c6
    have hlt : w.heap.size < wr.heap.size := World.block_lt_of_cell? _ _ c6
    by_cases h1 : k < c.ims.length
    · have i0 : (0 : Int) ≤ (k : Int) := by omega
      have i1 : (k : Int) < (c.ims.length : Int) := by omega
      have hin := (HI.out.below HB.out.2).ims
      rw [HE.out] at hin
      obtain ⟨b, o, rfl, hat⟩ := hin.at k h1
      obtain ⟨ak, ck, hvk, _⟩ := (hin.2 _ (List.getElem_mem h1)).slice
      rw [hvk] at hat
      by_cases h2 : 20 < c.ims[k].r.length
      · have e3 : (20 : Int) < (c.ims[k].r.length : Int) := by omega
        clear hin HP HF HI HE hvk
        go_wp2_with fail
        go_ret
        exact ⟨false, rfl, by simp, HB.out.2⟩
      · have e3 : decide ((20 : Int) < (c.ims[k].r.length : Int)) = false := by simp; omega
        have HP1 : Hid (∀ (j : Nat) (hj : j < c.ims.length), j < k + 1 → c.ims[j].r.length ≤ 20) := fun j hj h => by
          rcases Nat.lt_succ_iff_lt_or_eq.1 h with h | rfl
          · exact HP.out j hj h
          · omega
        clear hin HP hvk h2
        go_wp2_with fail
        go_roundw
        case rel => exact ⟨k + 1, by omega, by go_num, HP1, HB⟩
        case measure => simp [intOf]; omega
    · have i1 : decide ((k : Int) < (c.ims.length : Int)) = false := by simp; omega
      obtain rfl : k = c.ims.length := by omega
      have HD : Hid (∀ i ∈ c.ims, i.r.length ≤ 20) := fun i hi => by
        obtain ⟨j, hj, rfl⟩ := List.mem_iff_getElem.1 hi
        exact HP.out j hj hj
      clear HP HI
      go_wp2_with (first | (refine step_cloadP rfl _ rfl w.heap.size c rfl HB.out.1 ?_) | fail)
      refine Calls.mono (HF.out _ HB.out.2) ?_
      rintro e w1 ⟨b, rfl, himp, hb⟩
      have HB1 : Hid (Below w.heap.size w w1 ∧ (b = true → c.p.size ≤ 100)) := ⟨on HB.out.2 hb, himp⟩
      clear hb HB HF c6 himp
      go_wp2_with fail
      go_ret
      exact ⟨b, rfl, fun h => ⟨e2, HD.out, HB1.out.2 h⟩, HB1.out.1⟩
end Go.Proofs.YtkkbbpldeeajaaaDoor.Val
/- A law of regions that draw their order. No program. -/
namespace Go.Proofs.YtkkbbpldeeajaaaDoor.Val
open Go.RowKit

/-- A region that draws its order, whose operations leave the world alone and whose calls leave one of a class: walked once, in the order of the text. -/
theorem region_cls {P : Program} {C : World → Prop} {id : Nat} {Q : Exit → Act → World → Prop} {a : Act} {w : World} {l : List Oper} (hm : P.follows .mixedOrders = true) (hB : Region.lexB .any l.toArray = true) (hC : C { w with drawn := w.drawn + 1 })
    (h : wpQuiet P l.toArray C (fun a' => ∀ w', C w' → Q .normal a' w') l a) : (Code.region id l.toArray true).wp P Q a w := wp_region_quiet hm hB hC (by simpa using h)
end Go.Proofs.YtkkbbpldeeajaaaDoor.Val
/- What laws on two claims begin with: awake, few, few. -/
namespace Go.Proofs.YtkkbbpldeeajaaaDoor.Val
open Go.RowKit
set_option maxRecDepth 100000

/-- The boxes of a law's two claims. -/
structure AB (w0 w : World) (a b : CP) : Prop where
  ca : CB w w0.heap.size a
  cb : CB w (w0.heap.size + 1) b
  bel : Below w0.heap.size w0 w
theorem AB.below {w0 w w' : World} {a b : CP} (h : AB w0 w a b) (hb : Below w.heap.size w w') : AB w0 w' a b := ⟨h.ca.below hb, h.cb.below hb, on h.bel hb⟩
theorem AB.new (w : World) (a b : CP) : AB w ((w.alloc (cobj a TC)).alloc (cobj b TC)) a b :=
  ⟨(CB.new w a).below (alloc1 _ _), by have := CB.new (w.alloc (cobj a TC)) b; simpa using this, back2 (Below.refl _ _)⟩
theorem mfits_symm (a b : Int) : fitsM a b = fitsM b a := by
  by_cases ha : rightM a = true
  · by_cases hb : rightM b = true
    · obtain ⟨k, hk, rfl⟩ := mode_of ha
      obtain ⟨j, hj, rfl⟩ := mode_of hb
      rw [fits_nat hk hj, fits_nat hj hk]
      have h : ((List.range 7).all fun k => (List.range 7).all fun j => fitsN k j == fitsN j k) = true := by decide +kernel
      simp only [List.all_eq_true, List.mem_range, beq_iff_eq] at h
      exact h k hk j hj
    · simp [fitsM, hb]
  · simp [fitsM, ha]
/-- A claim is loaded in a region that draws its order. -/
theorem quiet_cload {C : World → Prop} {o : Oper} {a : Act} (x : Operand) (h : o.op = .load 31 x) (b : Nat) (c : CP) (hx : a.eval x = .pointer (some ⟨b, 0, none⟩)) (hC : ∀ w, C w → CB w b c) :
    ∀ w, C w → o.quietAt Tryd.prog a C w c.val := fun w hw => by
  unfold Oper.quietAt execOp
  simp only [h, hx, Instr.loadAt, Instr.sureAddr, Sem.run_bind, Sem.run_pure, Result.andThen_ok, run_loadVar_mid w b 0 31 (ccells c) _ (hC w hw).range Tryd.underlying31 rfl isize_C]
  exact ⟨rfl, rfl⟩
theorem beq_turn (a b : Int) : (a == b) = (b == a) := by rw [Bool.eq_iff_iff, beq_iff_eq, beq_iff_eq]; exact eq_comm
theorem eqV_symm (x y : Val) : eqV x y = eqV y x := by rw [Bool.eq_iff_iff, eqV_iff, eqV_iff]; exact eq_comm
theorem same_symm (s : Bool) (a b : CP) : sameC s a b = sameC s b a := by
  unfold sameC
  rw [eqV_symm a.key b.key, beq_turn a.table b.table]
  by_cases h : a.kind = b.kind
  · rw [h]
  · have h1 : (a.kind == b.kind) = false := by simpa using h
    have h2 : (b.kind == a.kind) = false := by rw [beq_turn]; exact h1
    rw [h1, h2, Bool.false_and, Bool.false_and]
theorem conflict_symm (a b : CP) : conflictC a b = conflictC b a := by
  unfold conflictC
  rw [eqV_symm a.key b.key, mfits_symm a.mode b.mode, beq_turn a.table b.table]
  by_cases h1 : a.kind = 1 <;> by_cases h2 : a.kind = 2 <;> by_cases h3 : a.kind = 3 <;> by_cases k1 : b.kind = 1 <;> by_cases k2 : b.kind = 2 <;> by_cases k3 : b.kind = 3 <;> simp_all
end Go.Proofs.YtkkbbpldeeajaaaDoor.Val
