/- The law's awake answers true, where the table of opposites lies in memory. -/
import Derived.Test.YtfkhfplibhnceaaDoorNormKeysD
import Derived.Test.YtfkhfplibhnceaaDoorPredLit
import Derived.Test.YtfkhfplibhnceaaDoorRegionCls
namespace Go.Proofs.YtfkhfplibhnceaaDoor.Val
open Go.RowKit

def vn (n : Int) : Val := ⟨false, n, ⟨#[]⟩⟩
def exL : List PT := [lfN 7 0 (vn 3) Val.zero, lfN 6 0 (vn 7) Val.zero]
def exA (N : Nat) : PT := .mk 11 0 Val.zero Val.zero (.slice (some ⟨N + 1 + 1, 0, none⟩) 2 2) exL
def exN (N M : Nat) : PT := .mk 10 0 Val.zero Val.zero (.slice (some ⟨M + 1, 0, none⟩) 1 1) [exA N]
def exS : Sp := ⟨false, true, true, vn 3, true, false, vn 7⟩
def exO : PT := .mk 12 0 Val.zero Val.zero (.slice none 0 0) [lfN 6 0 (vn 3) Val.zero, lfN 7 0 (vn 7) Val.zero]
theorem ex_good (N : Nat) : Good [false] (exA N) := by
  have h : ∀ o n, 3 ≤ o ∧ o ≤ 8 → Good [false] (lfN o 0 (vn n) Val.zero) := fun o n ho => suit_lf ho (by simp [ofB, isCol, rightV, vn, colAt])
  refine .mk (show suitO [false] 11 0 Val.zero Val.zero 2 = true by simp [suitO]) fun q hq => ?_
  have hq' : q = lfN 7 0 (vn 3) Val.zero ∨ q = lfN 6 0 (vn 7) Val.zero := by simpa [exA, exL] using hq
  rcases hq' with rfl | rfl
  · exact h 7 3 (by omega)
  · exact h 6 7 (by omega)
theorem ex_size (N : Nat) : (exA N).size = 3 := by simp [exA, exL, lfN, size_mk]
theorem ex_size' (N M : Nat) : (exN N M).size = 4 := by simp [exN, size_mk, ex_size]
theorem ex_check (N : Nat) : checkN [false] (exA N) = 0 := check_iff.2 ⟨by decide, by rw [ex_size]; omega, ex_good N⟩
theorem ex_check' (N M : Nat) : checkN [false] (exN N M) = 0 := check_iff.2 ⟨by decide, by rw [ex_size']; omega, .mk (show suitO [false] 10 0 Val.zero Val.zero 1 = true by simp [suitO]) fun q hq => by
  have : q = exA N := by simpa [exN] using hq
  subst this; exact ex_good N⟩
theorem ex_leaf (o n : Int) (b : Bool) (h : 3 ≤ o ∧ o ≤ 8) : pushP (lfN o 0 (vn n) Val.zero) b = lfN (if b then oppO o else o) 0 (vn n) Val.zero := by
  rw [push_one (by omega) (by omega) (by omega), pushL, if_neg (by omega)]
  cases b
  · rfl
  · rw [if_pos rfl, if_neg (by omega)]; rfl
theorem ex_norm' (N M : Nat) : normP [false] (exN N M) = exO := by
  unfold normP
  rw [if_pos (ex_check' N M), push_10 (p := exN N M) rfl (exA N) rfl, push_list (p := exA N) (.inl rfl)]
  show PT.mk 12 0 Val.zero Val.zero (.slice none 0 0) (exL.map fun q => pushP q true) = exO
  simp only [exL, List.map_cons, List.map_nil]
  rw [ex_leaf 7 3 true (by omega), ex_leaf 6 7 true (by omega)]
  rfl
theorem cmp_vn (a b : Int) : cmpX (vn a) (vn b) = cmpN a b := rfl
theorem ex_meet : meetS (leafS 7 (vn 3) Val.zero) (leafS 6 (vn 7) Val.zero) = exS := by
  have e1 : leafS 7 (vn 3) Val.zero = btw (openE (vn 3)) En.zero := by unfold leafS; rfl
  have e2 : leafS 6 (vn 7) Val.zero = btw En.zero (closedE (vn 7)) := by unfold leafS; rfl
  have a1 : apartE (openE (vn 3)) En.zero = false := by unfold apartE; rw [isZ_zero]; simp
  have a2 : apartE En.zero (closedE (vn 7)) = false := by unfold apartE; rw [isZ_zero]; simp
  have b1 : btw (openE (vn 3)) En.zero = ⟨false, true, true, vn 3, false, false, Val.zero⟩ := by unfold btw; rw [a1]; rfl
  have b2 : btw En.zero (closedE (vn 7)) = ⟨false, false, false, Val.zero, true, false, vn 7⟩ := by unfold btw; rw [a2]; rfl
  have c1 := clean_btw (wf_open (vn 3)) wf_zero
  have c2 := clean_btw wf_zero (wf_closed (vn 7))
  unfold meetS
  rw [e1, e2, c1, c2, b1, b2]
  have z1 : isZ (openE (vn 3)) = false := isZ_has rfl
  have z2 : isZ (closedE (vn 7)) = false := isZ_has rfl
  have i1 : innerE (openE (vn 3)) En.zero 1 = openE (vn 3) := by unfold innerE; rw [z1, isZ_zero]; rfl
  have i2 : innerE En.zero (closedE (vn 7)) (-1) = closedE (vn 7) := by unfold innerE; rw [isZ_zero]; rfl
  show btw (innerE (openE (vn 3)) En.zero 1) (innerE En.zero (closedE (vn 7)) (-1)) = exS
  rw [i1, i2]
  have a3 : apartE (openE (vn 3)) (closedE (vn 7)) = false := by
    unfold apartE
    rw [z1, z2]
    show (!false && sideB (cmpX (vn 3) (vn 7)) true) = false
    rw [cmp_vn]
    decide
  unfold btw
  rw [a3]; rfl
theorem ex_keys (N : Nat) : keysN [false] (exA N) = exS := by
  unfold keysN normP
  rw [if_pos (ex_check N), push_list (p := exA N) (.inl rfl), keys_mk]
  show ((exL.map fun q => pushP q false).map keysP).foldl meetS Sp.all = exS
  simp only [exL, List.map_cons, List.map_nil]
  rw [ex_leaf 7 3 false (by omega), ex_leaf 6 7 false (by omega)]
  have k1 : keysP (lfN 7 0 (vn 3) Val.zero) = leafS 7 (vn 3) Val.zero := by rw [keys_mk]; rfl
  have k2 : keysP (lfN 6 0 (vn 7) Val.zero) = leafS 6 (vn 7) Val.zero := by rw [keys_mk]; rfl
  show List.foldl meetS Sp.all [keysP (lfN 7 0 (vn 3) Val.zero), keysP (lfN 6 0 (vn 7) Val.zero)] = exS
  rw [k1, k2, foldM_cons (clean_leaf _ _ _)]
  exact ex_meet
theorem ex_in3 : withinS exS (vn 3) = false := by
  rw [within_eq]
  show (!false && (loB (openE (vn 3)) (vn 3) && hiB (closedE (vn 7)) (vn 3))) = false
  rw [lo_open, selfX]; rfl
theorem ex_in7 : withinS exS (vn 7) = true := by
  rw [within_eq]
  show (!false && (loB (openE (vn 3)) (vn 7) && hiB (closedE (vn 7)) (vn 7))) = true
  rw [lo_open, hi_closed, selfX, cmp_vn]; decide
theorem ex_hull (N : Nat) : hullS Sp.none exS = exS := by rw [hull_none, ← ex_keys N]; exact clean_keys _
theorem eql_S (a b : Sp) (w : World) : (binOp .eql 35 (SV a.no a.hl a.ol a.lo.t a.lo.n a.lo.s a.hh a.oh a.hi.t a.hi.n a.hi.s) (SV b.no b.hl b.ol b.lo.t b.lo.n b.lo.s b.hh b.oh b.hi.t b.hi.n b.hi.s)).run Tryd.prog w = .ok (.bool (eqS a b)) w := by
  unfold eqS eqV
  by_cases h1 : a.no = b.no
  case neg => simp [go_sem, h1]
  by_cases h2 : a.hl = b.hl
  case neg => simp [go_sem, h1, h2]
  by_cases h3 : a.ol = b.ol
  case neg => simp [go_sem, h1, h2, h3]
  by_cases h4 : a.lo.t = b.lo.t
  case neg => simp [go_sem, h1, h2, h3, h4]
  by_cases h5 : a.lo.n = b.lo.n
  case neg => simp [go_sem, h1, h2, h3, h4, h5]
  by_cases h6 : a.lo.s.toList = b.lo.s.toList
  case neg => simp [go_sem, h1, h2, h3, h4, h5, h6]
  by_cases h7 : a.hh = b.hh
  case neg => simp [go_sem, h1, h2, h3, h4, h5, h6, h7]
  by_cases h8 : a.oh = b.oh
  case neg => simp [go_sem, h1, h2, h3, h4, h5, h6, h7, h8]
  by_cases h9 : a.hi.t = b.hi.t
  case neg => simp [go_sem, h1, h2, h3, h4, h5, h6, h7, h8, h9]
  by_cases h10 : a.hi.n = b.hi.n
  case neg => simp [go_sem, h1, h2, h3, h4, h5, h6, h7, h8, h9, h10]
  by_cases h11 : a.hi.s.toList = b.hi.s.toList
  case neg => simp [go_sem, h1, h2, h3, h4, h5, h6, h7, h8, h9, h10, h11]
  simp [go_sem, h1, h2, h3, h4, h5, h6, h7, h8, h9, h10, h11]
theorem eql_same (a : Sp) (w : World) : (binOp .eql 35 (SV a.no a.hl a.ol a.lo.t a.lo.n a.lo.s a.hh a.oh a.hi.t a.hi.n a.hi.s) (SV a.no a.hl a.ol a.lo.t a.lo.n a.lo.s a.hh a.oh a.hi.t a.hi.n a.hi.s)).run Tryd.prog w = .ok (.bool true) w := by
  rw [eql_S, eqS_iff.2 rfl]
/-- What awake lays. -/
structure AW4 (N : Nat) (w : World) : Prop where
  bools : BoolsIn w (.slice (some ⟨N, 0, none⟩) 1 1) [false]
  tb : w.cell? ⟨N + 1, 0, none⟩ = some (.slice (some ⟨N, 0, none⟩) 1 1)
  part : Lies w (.slice (some ⟨N + 1 + 1, 0, none⟩) 2 2) 2 (exL.flatMap PT.cells)
  pb : Box w (N + 1 + 1 + 1) (exA N)
theorem AW4.below {N : Nat} {w w' : World} (h : AW4 N w) (hb : Below w.heap.size w w') : AW4 N w' := ⟨h.bools.below hb, cell_below h.tb hb, h.part.below hb, h.pb.below hb⟩
theorem AW4.inA {N : Nat} {w : World} (h : AW4 N w) : In w (exA N) := .mk (by decide) (by decide) h.part fun q hq => by
  have hq' : q = lfN 7 0 (vn 3) Val.zero ∨ q = lfN 6 0 (vn 7) Val.zero := by simpa [exL] using hq
  rcases hq' with rfl | rfl
  · exact in_leaf w _ _ _ _ (by decide) (by decide)
  · exact in_leaf w _ _ _ _ (by decide) (by decide)
theorem AW4.new (w : World) (T1 T2 T3 T4 : TypeId) : AW4 w.heap.size ((((w.alloc (.cells #[.bool false] T1)).alloc (.cells #[.slice (some ⟨w.heap.size, 0, none⟩) 1 1] T2)).alloc (.cells (exL.flatMap PT.cells).toArray T3)).alloc (pobj (exA w.heap.size) T4)) := by
  refine ⟨?_, ?_, ?_, ?_⟩
  · exact (((lies_new w _ rfl [.bool false] 1 T1 (by decide)).alloc _).alloc _).alloc _
  · exact cell_alloc (cell_alloc (by simp [go_sem]) _) _
  · exact (lies_new _ _ (by simp) (exL.flatMap PT.cells) 2 T3 (by decide)).alloc _
  · have := Box.new (((w.alloc (.cells #[.bool false] T1)).alloc (.cells #[.slice (some ⟨w.heap.size, 0, none⟩) 1 1] T2)).alloc (.cells (exL.flatMap PT.cells).toArray T3)) (exA w.heap.size) T4
    simpa using this
theorem ex_parts {q : PT} (h : q.bare = exO) : q.op = 12 ∧ q.l.length = 2 ∧ ∀ (h0 : 0 < q.l.length), q.l[0].op = 6 := by
  cases q with | mk o c v u lv l =>
  rw [bare_mk] at h
  have h1 : o = 12 := congrArg PT.op h
  have h2 : l.map PT.bare = [lfN 6 0 (vn 3) Val.zero, lfN 7 0 (vn 7) Val.zero] := congrArg PT.l h
  refine ⟨h1, by simpa using congrArg List.length h2, fun h0 => ?_⟩
  have h3 := congrArg (fun x => x[0]?) h2
  simp only [List.getElem?_map] at h3
  have h0' : 0 < l.length := h0
  rw [List.getElem?_eq_getElem h0'] at h3
  have h4 : l[0].bare = lfN 6 0 (vn 3) Val.zero := by simpa using h3
  have h5 : l[0].bare.op = l[0].op := by cases l[0]; rw [bare_mk]
  show l[0].op = 6
  rw [← h5, h4]; rfl
/-- What the last line of awake reads. -/
structure AWC (w0 : World) (M M2 b o : Nat) (cq : Nat) (w : World) : Prop where
  sb : SBox w M exS
  op : w.cell? ⟨M2, 0, none⟩ = some (.int .i64 12)
  lv : w.cell? ⟨M2, 8, none⟩ = some (.slice (some ⟨b, o, none⟩) 2 cq)
  p0 : w.cell? ⟨b, o, none⟩ = some (.int .i64 6)
  be : Below w0.heap.size w0 w
theorem AWC.below {w0 w w' : World} {M M2 b o cq : Nat} (h : AWC w0 M M2 b o cq w) (hb : Below w.heap.size w w') : AWC w0 M M2 b o cq w' := ⟨h.sb.below hb, cell_below h.op hb, cell_below h.lv hb, cell_below h.p0 hb, on h.be hb⟩
set_option maxRecDepth 100000 in
set_option maxHeartbeats 8000000 in
theorem awake_any (w : World) (hT : Tab w) : Calls Tryd.prog 10 #[] w fun e w' => e = .returned (.bool true) ∧ Below w.heap.size w w' := by
  have K1 : Hid (∀ w1, AW4 w.heap.size w1 → Below w.heap.size w w1 → Calls Tryd.prog 15 #[.agg #[.slice (some ⟨w.heap.size, 0, none⟩) 1 1], (exA w.heap.size).val] w1 fun e w' => e = .returned exS.val ∧ Below w1.heap.size w1 w') := fun w1 h hb => by
    have := pkeys_any _ [false] (exA w.heap.size) w1 h.bools h.inA (hT.below hb) (by rw [ex_size]; omega)
    rw [ex_keys] at this; exact this
  have K2 : Hid (∀ (M : Nat) w1, AW4 w.heap.size w1 → Lies w1 (.slice (some ⟨M + 1, 0, none⟩) 1 1) 1 (([exA w.heap.size] : List PT).flatMap PT.cells) → Below w.heap.size w w1 → Calls Tryd.prog 13 #[.agg #[.slice (some ⟨w.heap.size, 0, none⟩) 1 1], (exN w.heap.size M).val] w1 fun e w' => ∃ q : PT, e = .returned q.val ∧ (q.bare = exO ∧ In w' q) ∧ Below w1.heap.size w1 w') := fun M w1 h hl hb => by
    have hin : In w1 (exN w.heap.size M) := .mk (by decide) (by decide) hl fun q hq => by rw [List.mem_singleton] at hq; subst hq; exact h.inA
    have := normal_any _ [false] (exN w.heap.size M) w1 h.bools hin (hT.below hb) (by rw [ex_size']; omega)
    rw [ex_norm'] at this
    exact this.mono fun e w' ⟨q, h1, h2, h3, h4⟩ => ⟨q, h1, ⟨h2, h3.isIn⟩, h4⟩
  have W3 : Hid (∀ w1, Calls Tryd.prog 17 #[exS.val, V false 3 ⟨#[]⟩] w1 fun e w' => e = .returned (.bool false) ∧ Below w1.heap.size w1 w') := fun w1 => by have := within_any exS (vn 3) w1; rw [ex_in3] at this; exact this
  have W7 : Hid (∀ w1, Calls Tryd.prog 17 #[exS.val, V false 7 ⟨#[]⟩] w1 fun e w' => e = .returned (.bool true) ∧ Below w1.heap.size w1 w') := fun w1 => by have := within_any exS (vn 7) w1; rw [ex_in7] at this; exact this
  have HU : Hid (∀ w1, Calls Tryd.prog 21 #[Sp.none.val, exS.val] w1 fun e w' => e = .returned exS.val ∧ Below w1.heap.size w1 w') := fun w1 => by have := hull_any Sp.none exS w1; rw [ex_hull 0] at this; exact this
  have HN : Hid _ := AW4.new w 4 24 29 29
  have QE : ∀ w1, (binOp .eql 35 (SV false true true false 3 ⟨#[]⟩ true false false 7 ⟨#[]⟩) (SV false true true false 3 ⟨#[]⟩ true false false 7 ⟨#[]⟩)).run Tryd.prog w1 = .ok (.bool true) w1 := fun w1 => eql_same exS w1
  clear hT
  unfold PT.val Sp.val at *
  simp only [exS, exA, exN, vn, Sp.none, Val.zero] at K1 K2 W3 W7 HU
  go_enter Tryd.func10, Tryd.ntmps10
  go_wp2_with fail
  refine Calls.mono (K1.out _ HN.out (back3 (alloc1 _ _))) ?_
  rintro e w1 ⟨rfl, hb⟩
  have HA1 : Hid (AW4 w.heap.size w1 ∧ Below w.heap.size w w1) := ⟨HN.out.below hb, back3 (back1 hb)⟩
  clear hb HN K1
  obtain ⟨_, tb, _, ⟨b0, b1, b2, b3, b4, b5, b6, b7, b8⟩⟩ := HA1.out.1
  simp only [exA, Val.zero] at b0 b1 b2 b3 b4 b5 b6 b7 b8
  have HS1 : Hid _ := SBox.new w1 exS 35
  have l1 : w.heap.size + 1 < w1.heap.size := World.block_lt_of_cell? _ _ tb
  have l2 : w.heap.size + 1 + 1 + 1 < w1.heap.size := World.block_lt_of_cell? _ _ b0
  go_wp2_with fail
  refine Calls.mono (K2.out w1.heap.size _ (((HA1.out.1.below (alloc1 _ _)).below (alloc1 _ _))) (lies_new _ _ (by simp) (([exA w.heap.size] : List PT).flatMap PT.cells) 1 _ (by decide)) (on (on HA1.out.2 (alloc1 _ _)) (alloc1 _ _))) ?_
  rintro e w2 ⟨q, rfl, ⟨hqb, hqi⟩, hb⟩
  obtain ⟨e1, e2, e3⟩ := ex_parts hqb
  obtain ⟨aq, cq, hlq, _⟩ := hqi.lies.slice
  have hlie := hqi.lies
  rw [hlq] at hlie
  obtain ⟨b, o, rfl, hat⟩ := lies_at hlie 0 (by omega)
  rw [Nat.zero_mul, Nat.add_zero] at hat
  have p0 := hat.c0
  rw [e3 (by omega)] at p0
  rw [hlq, e1, e2]
  rw [e2] at hlq
  have HC : Hid (∀ ob, (w2.alloc ob).cell? ⟨w2.heap.size, 0, none⟩ = some (.int .i64 12) → (w2.alloc ob).cell? ⟨w2.heap.size, 8, none⟩ = some (.slice (some ⟨b, o, none⟩) 2 cq) → AWC w w1.heap.size w2.heap.size b o cq (w2.alloc ob)) := fun ob h1 h2 =>
    ⟨((HS1.out.alloc _).below hb).alloc _, h1, h2, cell_alloc p0 _, on (on HA1.out.2 (back2 hb)) (alloc1 _ _)⟩
  clear hqb hqi hb e1 e2 e3 hlq hlie hat p0 HS1 HA1 K2 l1 l2 tb b0 b1 b2 b3 b4 b5 b6 b7 b8
  go_wp2_with fail
  simp only [List.append]
  refine region_cls (C := AWC w w1.heap.size w2.heap.size b o cq) (by kernel_rfl) (by kernel_rfl) ?_ ?_
  · exact (HC.out _ (by simp [go_sem]) (by simp [go_sem])).below (Below.refl _ _).drew
  clear HC
  go_big_quiet_want
  refine ⟨.pointer (some ⟨w1.heap.size, 1, none⟩), fun w' hw' => ?_, ?_⟩
  · go_simp
  simp only [Act.put, List.setIfInBounds_toArray, List.set_cons_zero, List.set_cons_succ]
  go_big_quiet_on
  go_big_quiet_want
  refine ⟨.bool true, fun w' hw' => ?_, ?_⟩
  · obtain ⟨⟨c0, c1, c2, c3, c4, c5, c6, c7, c8, c9, c10⟩, d0, d8, e0, _⟩ := hw'
    simp only [exS, vn] at c0 c1 c2 c3 c4 c5 c6 c7 c8 c9 c10
    go_simp
  simp only [Act.put, List.setIfInBounds_toArray, List.set_cons_zero, List.set_cons_succ]
  go_big_quiet_on
  go_big_quiet_want
  go_big_quiet_op
  go_big_quiet_on
  go_big_quiet_want
  refine ⟨.pointer (some ⟨w1.heap.size, 2, none⟩), fun w' hw' => ?_, ?_⟩
  · go_simp
  simp only [Act.put, List.setIfInBounds_toArray, List.set_cons_zero, List.set_cons_succ]
  go_big_quiet_on
  go_big_quiet_want
  refine ⟨.bool true, fun w' hw' => ?_, ?_⟩
  · obtain ⟨⟨c0, c1, c2, c3, c4, c5, c6, c7, c8, c9, c10⟩, d0, d8, e0, _⟩ := hw'
    simp only [exS, vn] at c0 c1 c2 c3 c4 c5 c6 c7 c8 c9 c10
    go_simp
  simp only [Act.put, List.setIfInBounds_toArray, List.set_cons_zero, List.set_cons_succ]
  go_big_quiet_on
  go_big_quiet_want
  refine ⟨.bool true, fun w' hw' => ?_, ?_⟩
  · go_simp
  simp only [Act.put, List.setIfInBounds_toArray, List.set_cons_zero, List.set_cons_succ]
  go_big_quiet_on
  go_big_quiet_want
  go_big_quiet_op
  go_big_quiet_on
  go_big_quiet_want
  refine ⟨.pointer (some ⟨w1.heap.size, 3, none⟩), fun w' hw' => ?_, ?_⟩
  · go_simp
  simp only [Act.put, List.setIfInBounds_toArray, List.set_cons_zero, List.set_cons_succ]
  go_big_quiet_on
  go_big_quiet_want
  refine ⟨.pointer (some ⟨w1.heap.size, 4, none⟩), fun w' hw' => ?_, ?_⟩
  · go_simp
  simp only [Act.put, List.setIfInBounds_toArray, List.set_cons_zero, List.set_cons_succ]
  go_big_quiet_on
  go_big_quiet_want
  refine ⟨.int .i64 3, fun w' hw' => ?_, ?_⟩
  · obtain ⟨⟨c0, c1, c2, c3, c4, c5, c6, c7, c8, c9, c10⟩, d0, d8, e0, _⟩ := hw'
    simp only [exS, vn] at c0 c1 c2 c3 c4 c5 c6 c7 c8 c9 c10
    go_simp
  simp only [Act.put, List.setIfInBounds_toArray, List.set_cons_zero, List.set_cons_succ]
  go_big_quiet_on
  go_big_quiet_want
  refine ⟨.bool true, fun w' hw' => ?_, ?_⟩
  · go_simp
  simp only [Act.put, List.setIfInBounds_toArray, List.set_cons_zero, List.set_cons_succ]
  go_big_quiet_on
  go_big_quiet_want
  refine ⟨.bool true, fun w' hw' => ?_, ?_⟩
  · go_simp
  simp only [Act.put, List.setIfInBounds_toArray, List.set_cons_zero, List.set_cons_succ]
  go_big_quiet_on
  go_big_quiet_want
  go_big_quiet_op
  go_big_quiet_on
  go_big_quiet_want
  refine ⟨.pointer (some ⟨w1.heap.size, 6, none⟩), fun w' hw' => ?_, ?_⟩
  · go_simp
  simp only [Act.put, List.setIfInBounds_toArray, List.set_cons_zero, List.set_cons_succ]
  go_big_quiet_on
  go_big_quiet_want
  refine ⟨.bool true, fun w' hw' => ?_, ?_⟩
  · obtain ⟨⟨c0, c1, c2, c3, c4, c5, c6, c7, c8, c9, c10⟩, d0, d8, e0, _⟩ := hw'
    simp only [exS, vn] at c0 c1 c2 c3 c4 c5 c6 c7 c8 c9 c10
    go_simp
  simp only [Act.put, List.setIfInBounds_toArray, List.set_cons_zero, List.set_cons_succ]
  go_big_quiet_on
  go_big_quiet_want
  refine ⟨.bool true, fun w' hw' => ?_, ?_⟩
  · go_simp
  simp only [Act.put, List.setIfInBounds_toArray, List.set_cons_zero, List.set_cons_succ]
  go_big_quiet_on
  go_big_quiet_want
  go_big_quiet_op
  go_big_quiet_on
  go_big_quiet_want
  refine ⟨.pointer (some ⟨w1.heap.size, 7, none⟩), fun w' hw' => ?_, ?_⟩
  · go_simp
  simp only [Act.put, List.setIfInBounds_toArray, List.set_cons_zero, List.set_cons_succ]
  go_big_quiet_on
  go_big_quiet_want
  refine ⟨.bool false, fun w' hw' => ?_, ?_⟩
  · obtain ⟨⟨c0, c1, c2, c3, c4, c5, c6, c7, c8, c9, c10⟩, d0, d8, e0, _⟩ := hw'
    simp only [exS, vn] at c0 c1 c2 c3 c4 c5 c6 c7 c8 c9 c10
    go_simp
  simp only [Act.put, List.setIfInBounds_toArray, List.set_cons_zero, List.set_cons_succ]
  go_big_quiet_on
  go_big_quiet_want
  refine ⟨.bool true, fun w' hw' => ?_, ?_⟩
  · go_simp
  simp only [Act.put, List.setIfInBounds_toArray, List.set_cons_zero, List.set_cons_succ]
  go_big_quiet_on
  go_big_quiet_want
  refine ⟨.bool true, fun w' hw' => ?_, ?_⟩
  · go_simp
  simp only [Act.put, List.setIfInBounds_toArray, List.set_cons_zero, List.set_cons_succ]
  go_big_quiet_on
  go_big_quiet_want
  go_big_quiet_op
  go_big_quiet_on
  go_big_quiet_want
  refine ⟨.pointer (some ⟨w1.heap.size, 8, none⟩), fun w' hw' => ?_, ?_⟩
  · go_simp
  simp only [Act.put, List.setIfInBounds_toArray, List.set_cons_zero, List.set_cons_succ]
  go_big_quiet_on
  go_big_quiet_want
  refine ⟨.pointer (some ⟨w1.heap.size, 9, none⟩), fun w' hw' => ?_, ?_⟩
  · go_simp
  simp only [Act.put, List.setIfInBounds_toArray, List.set_cons_zero, List.set_cons_succ]
  go_big_quiet_on
  go_big_quiet_want
  refine ⟨.int .i64 7, fun w' hw' => ?_, ?_⟩
  · obtain ⟨⟨c0, c1, c2, c3, c4, c5, c6, c7, c8, c9, c10⟩, d0, d8, e0, _⟩ := hw'
    simp only [exS, vn] at c0 c1 c2 c3 c4 c5 c6 c7 c8 c9 c10
    go_simp
  simp only [Act.put, List.setIfInBounds_toArray, List.set_cons_zero, List.set_cons_succ]
  go_big_quiet_on
  go_big_quiet_want
  refine ⟨.bool true, fun w' hw' => ?_, ?_⟩
  · go_simp
  simp only [Act.put, List.setIfInBounds_toArray, List.set_cons_zero, List.set_cons_succ]
  go_big_quiet_on
  go_big_quiet_want
  refine ⟨.bool true, fun w' hw' => ?_, ?_⟩
  · go_simp
  simp only [Act.put, List.setIfInBounds_toArray, List.set_cons_zero, List.set_cons_succ]
  go_big_quiet_on
  go_big_quiet_want
  go_big_quiet_op
  go_big_quiet_on
  go_big_quiet_want
  refine ⟨SV false true true false 3 ⟨#[]⟩ true false false 7 ⟨#[]⟩, fun w' hw' => ?_, ?_⟩
  · obtain ⟨⟨c0, c1, c2, c3, c4, c5, c6, c7, c8, c9, c10⟩, d0, d8, e0, _⟩ := hw'
    simp only [exS, vn] at c0 c1 c2 c3 c4 c5 c6 c7 c8 c9 c10
    go_simp
  simp only [Act.put, List.setIfInBounds_toArray, List.set_cons_zero, List.set_cons_succ]
  go_big_quiet_on
  go_big_quiet_want
  refine ⟨V false 3 ⟨#[]⟩, fun w' hw' => ?_, ?_⟩
  · go_simp
  simp only [Act.put, List.setIfInBounds_toArray, List.set_cons_zero, List.set_cons_succ]
  go_big_quiet_on
  go_big_quiet_want
  refine ⟨.bool false, fun w' hw' => ?_, ?_⟩
  · go_simp
    exact (W3.out w').mono fun e w'' h => ⟨h.1, hw'.below h.2⟩
  simp only [Act.put, List.setIfInBounds_toArray, List.set_cons_zero, List.set_cons_succ]
  go_big_quiet_on
  go_big_quiet_want
  refine ⟨.bool true, fun w' hw' => ?_, ?_⟩
  · go_simp
  simp only [Act.put, List.setIfInBounds_toArray, List.set_cons_zero, List.set_cons_succ]
  go_big_quiet_on
  go_big_quiet_want
  refine ⟨.bool true, fun w' hw' => ?_, ?_⟩
  · go_simp
  simp only [Act.put, List.setIfInBounds_toArray, List.set_cons_zero, List.set_cons_succ]
  go_big_quiet_on
  go_big_quiet_want
  go_big_quiet_op
  go_big_quiet_on
  go_big_quiet_want
  refine ⟨SV false true true false 3 ⟨#[]⟩ true false false 7 ⟨#[]⟩, fun w' hw' => ?_, ?_⟩
  · obtain ⟨⟨c0, c1, c2, c3, c4, c5, c6, c7, c8, c9, c10⟩, d0, d8, e0, _⟩ := hw'
    simp only [exS, vn] at c0 c1 c2 c3 c4 c5 c6 c7 c8 c9 c10
    go_simp
  simp only [Act.put, List.setIfInBounds_toArray, List.set_cons_zero, List.set_cons_succ]
  go_big_quiet_on
  go_big_quiet_want
  refine ⟨V false 7 ⟨#[]⟩, fun w' hw' => ?_, ?_⟩
  · go_simp
  simp only [Act.put, List.setIfInBounds_toArray, List.set_cons_zero, List.set_cons_succ]
  go_big_quiet_on
  go_big_quiet_want
  refine ⟨.bool true, fun w' hw' => ?_, ?_⟩
  · go_simp
    exact (W7.out w').mono fun e w'' h => ⟨h.1, hw'.below h.2⟩
  simp only [Act.put, List.setIfInBounds_toArray, List.set_cons_zero, List.set_cons_succ]
  go_big_quiet_on
  go_big_quiet_want
  refine ⟨.bool true, fun w' hw' => ?_, ?_⟩
  · go_simp
  simp only [Act.put, List.setIfInBounds_toArray, List.set_cons_zero, List.set_cons_succ]
  go_big_quiet_on
  go_big_quiet_want
  go_big_quiet_op
  go_big_quiet_on
  go_big_quiet_want
  refine ⟨.pointer (some ⟨w2.heap.size, 0, none⟩), fun w' hw' => ?_, ?_⟩
  · go_simp
  simp only [Act.put, List.setIfInBounds_toArray, List.set_cons_zero, List.set_cons_succ]
  go_big_quiet_on
  go_big_quiet_want
  refine ⟨.int .i64 12, fun w' hw' => ?_, ?_⟩
  · obtain ⟨⟨c0, c1, c2, c3, c4, c5, c6, c7, c8, c9, c10⟩, d0, d8, e0, _⟩ := hw'
    simp only [exS, vn] at c0 c1 c2 c3 c4 c5 c6 c7 c8 c9 c10
    go_simp
  simp only [Act.put, List.setIfInBounds_toArray, List.set_cons_zero, List.set_cons_succ]
  go_big_quiet_on
  go_big_quiet_want
  refine ⟨.bool true, fun w' hw' => ?_, ?_⟩
  · go_simp
  simp only [Act.put, List.setIfInBounds_toArray, List.set_cons_zero, List.set_cons_succ]
  go_big_quiet_on
  go_big_quiet_want
  refine ⟨.bool true, fun w' hw' => ?_, ?_⟩
  · go_simp
  simp only [Act.put, List.setIfInBounds_toArray, List.set_cons_zero, List.set_cons_succ]
  go_big_quiet_on
  go_big_quiet_want
  go_big_quiet_op
  go_big_quiet_on
  go_big_quiet_want
  refine ⟨.pointer (some ⟨w2.heap.size, 8, none⟩), fun w' hw' => ?_, ?_⟩
  · go_simp
  simp only [Act.put, List.setIfInBounds_toArray, List.set_cons_zero, List.set_cons_succ]
  go_big_quiet_on
  go_big_quiet_want
  refine ⟨.slice (some ⟨b, o, none⟩) 2 cq, fun w' hw' => ?_, ?_⟩
  · obtain ⟨⟨c0, c1, c2, c3, c4, c5, c6, c7, c8, c9, c10⟩, d0, d8, e0, _⟩ := hw'
    simp only [exS, vn] at c0 c1 c2 c3 c4 c5 c6 c7 c8 c9 c10
    go_simp
  simp only [Act.put, List.setIfInBounds_toArray, List.set_cons_zero, List.set_cons_succ]
  go_big_quiet_on
  go_big_quiet_want
  refine ⟨.int .i64 2, fun w' hw' => ?_, ?_⟩
  · go_simp
  simp only [Act.put, List.setIfInBounds_toArray, List.set_cons_zero, List.set_cons_succ]
  go_big_quiet_on
  go_big_quiet_want
  refine ⟨.bool true, fun w' hw' => ?_, ?_⟩
  · go_simp
  simp only [Act.put, List.setIfInBounds_toArray, List.set_cons_zero, List.set_cons_succ]
  go_big_quiet_on
  go_big_quiet_want
  refine ⟨.bool true, fun w' hw' => ?_, ?_⟩
  · go_simp
  simp only [Act.put, List.setIfInBounds_toArray, List.set_cons_zero, List.set_cons_succ]
  go_big_quiet_on
  go_big_quiet_want
  go_big_quiet_op
  go_big_quiet_on
  go_big_quiet_want
  refine ⟨.pointer (some ⟨w2.heap.size, 8, none⟩), fun w' hw' => ?_, ?_⟩
  · go_simp
  simp only [Act.put, List.setIfInBounds_toArray, List.set_cons_zero, List.set_cons_succ]
  go_big_quiet_on
  go_big_quiet_want
  refine ⟨.slice (some ⟨b, o, none⟩) 2 cq, fun w' hw' => ?_, ?_⟩
  · obtain ⟨⟨c0, c1, c2, c3, c4, c5, c6, c7, c8, c9, c10⟩, d0, d8, e0, _⟩ := hw'
    simp only [exS, vn] at c0 c1 c2 c3 c4 c5 c6 c7 c8 c9 c10
    go_simp
  simp only [Act.put, List.setIfInBounds_toArray, List.set_cons_zero, List.set_cons_succ]
  go_big_quiet_on
  go_big_quiet_want
  refine ⟨.pointer (some ⟨b, o, none⟩), fun w' hw' => ?_, ?_⟩
  · go_simp
  simp only [Act.put, List.setIfInBounds_toArray, List.set_cons_zero, List.set_cons_succ]
  go_big_quiet_on
  go_big_quiet_want
  refine ⟨.pointer (some ⟨b, o, none⟩), fun w' hw' => ?_, ?_⟩
  · go_simp
  simp only [Act.put, List.setIfInBounds_toArray, List.set_cons_zero, List.set_cons_succ]
  go_big_quiet_on
  go_big_quiet_want
  refine ⟨.int .i64 6, fun w' hw' => ?_, ?_⟩
  · obtain ⟨⟨c0, c1, c2, c3, c4, c5, c6, c7, c8, c9, c10⟩, d0, d8, e0, _⟩ := hw'
    simp only [exS, vn] at c0 c1 c2 c3 c4 c5 c6 c7 c8 c9 c10
    go_simp
  simp only [Act.put, List.setIfInBounds_toArray, List.set_cons_zero, List.set_cons_succ]
  go_big_quiet_on
  go_big_quiet_want
  refine ⟨.bool true, fun w' hw' => ?_, ?_⟩
  · go_simp
  simp only [Act.put, List.setIfInBounds_toArray, List.set_cons_zero, List.set_cons_succ]
  go_big_quiet_on
  go_big_quiet_want
  refine ⟨.bool true, fun w' hw' => ?_, ?_⟩
  · go_simp
  simp only [Act.put, List.setIfInBounds_toArray, List.set_cons_zero, List.set_cons_succ]
  go_big_quiet_on
  go_big_quiet_want
  go_big_quiet_op
  go_big_quiet_on
  go_big_quiet_want
  refine ⟨SV true false false false 0 ⟨#[]⟩ false false false 0 ⟨#[]⟩, fun w' hw' => ?_, ?_⟩
  · go_simp
  simp only [Act.put, List.setIfInBounds_toArray, List.set_cons_zero, List.set_cons_succ]
  go_big_quiet_on
  go_big_quiet_want
  refine ⟨SV false true true false 3 ⟨#[]⟩ true false false 7 ⟨#[]⟩, fun w' hw' => ?_, ?_⟩
  · obtain ⟨⟨c0, c1, c2, c3, c4, c5, c6, c7, c8, c9, c10⟩, d0, d8, e0, _⟩ := hw'
    simp only [exS, vn] at c0 c1 c2 c3 c4 c5 c6 c7 c8 c9 c10
    go_simp
  simp only [Act.put, List.setIfInBounds_toArray, List.set_cons_zero, List.set_cons_succ]
  go_big_quiet_on
  go_big_quiet_want
  refine ⟨SV false true true false 3 ⟨#[]⟩ true false false 7 ⟨#[]⟩, fun w' hw' => ?_, ?_⟩
  · go_simp
    exact (HU.out w').mono fun e w'' h => ⟨h.1, hw'.below h.2⟩
  simp only [Act.put, List.setIfInBounds_toArray, List.set_cons_zero, List.set_cons_succ]
  go_big_quiet_on
  go_big_quiet_want
  refine ⟨SV false true true false 3 ⟨#[]⟩ true false false 7 ⟨#[]⟩, fun w' hw' => ?_, ?_⟩
  · obtain ⟨⟨c0, c1, c2, c3, c4, c5, c6, c7, c8, c9, c10⟩, d0, d8, e0, _⟩ := hw'
    simp only [exS, vn] at c0 c1 c2 c3 c4 c5 c6 c7 c8 c9 c10
    go_simp
  simp only [Act.put, List.setIfInBounds_toArray, List.set_cons_zero, List.set_cons_succ]
  go_big_quiet_on
  go_big_quiet_want
  refine ⟨.bool true, fun w' hw' => ?_, ?_⟩
  · go_simp
  simp only [Act.put, List.setIfInBounds_toArray, List.set_cons_zero, List.set_cons_succ]
  go_big_quiet_on
  go_big_quiet_want
  refine ⟨.bool true, fun w' hw' => ?_, ?_⟩
  · go_simp
  simp only [Act.put, List.setIfInBounds_toArray, List.set_cons_zero, List.set_cons_succ]
  go_big_quiet_on
  go_big_quiet_want
  go_big_quiet_op
  go_big_quiet_on
  refine wpQuiet_nil ?_
  intro w' hw'
  have HBz : Hid (Below w.heap.size w w') := hw'.be
  clear hw'
  go_wp2_with fail
  go_ret
  exact ⟨rfl, HBz.out⟩
end Go.Proofs.YtfkhfplibhnceaaDoor.Val
