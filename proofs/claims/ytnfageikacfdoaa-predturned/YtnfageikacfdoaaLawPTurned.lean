/- The walk of the law on opposites and on the order of parts. -/
import Derived.Test.YtnfageikacfdoaaPredBoth
import Derived.Deep.RegionHeld3
namespace Go.Proofs.Ytnfageikacfdoaa.Val
open Go.RowKit

/-- Two predicates' boxes. -/
structure T2 (N : Nat) (a b : PT) (w : World) : Prop where
  pa : Box w N a
  pb : Box w (N + 1) b
theorem T2.below {N : Nat} {a b : PT} {w w' : World} (h : T2 N a b w) (hb : Below w.heap.size w w') : T2 N a b w' := ⟨h.pa.below hb, h.pb.below hb⟩
theorem T2.new (w : World) (a b : PT) (T1 T3 : TypeId) : T2 w.heap.size a b ((w.alloc (pobj a T1)).alloc (pobj b T3)) := by
  refine ⟨(Box.new w a T1).alloc _, ?_⟩
  have := Box.new (w.alloc (pobj a T1)) b T3; simpa using this
/-- The opposite of one, whose part lies in a block. -/
abbrev notP (K : Nat) (a : PT) : PT := .mk 10 0 Val.zero Val.zero (.slice (some ⟨K, 0, none⟩) 1 1) [a]
abbrev orP (K : Nat) (a b : PT) : PT := .mk 12 0 Val.zero Val.zero (.slice (some ⟨K, 0, none⟩) 2 2) [a, b]
/-- What is laid first: two opposites. -/
structure T4 (N M : Nat) (a b : PT) (w : World) : Prop where
  pa : Box w N a
  pb : Box w (N + 1) b
  na : Box w (M + 1) (notP M a)
  nb : Box w (M + 1 + 1 + 1) (notP (M + 1 + 1) b)
  la : Lies w (.slice (some ⟨M, 0, none⟩) 1 1) 1 (([a] : List PT).flatMap PT.cells)
  lb : Lies w (.slice (some ⟨M + 1 + 1, 0, none⟩) 1 1) 1 (([b] : List PT).flatMap PT.cells)
theorem T4.below {N M : Nat} {a b : PT} {w w' : World} (h : T4 N M a b w) (hb : Below w.heap.size w w') : T4 N M a b w' := ⟨h.pa.below hb, h.pb.below hb, h.na.below hb, h.nb.below hb, h.la.below hb, h.lb.below hb⟩
theorem T4.new {N : Nat} {a b : PT} {w : World} (h : T2 N a b w) (T1 T3 T5 T6 : TypeId) : T4 N w.heap.size a b ((((w.alloc (pobj a T1)).alloc (pobj (notP w.heap.size a) T3)).alloc (pobj b T5)).alloc (pobj (notP (w.heap.size + 1 + 1) b) T6)) := by
  refine ⟨(((h.pa.alloc _).alloc _).alloc _).alloc _, (((h.pb.alloc _).alloc _).alloc _).alloc _, ?_, ?_, ?_, ?_⟩
  · have := ((Box.new (w.alloc (pobj a T1)) (notP w.heap.size a) T3).alloc (pobj b T5)).alloc (pobj (notP (w.heap.size + 1 + 1) b) T6); simpa using this
  · have := Box.new (((w.alloc (pobj a T1)).alloc (pobj (notP w.heap.size a) T3)).alloc (pobj b T5)) (notP (w.heap.size + 1 + 1) b) T6; simpa using this
  · exact (((lies_new w _ rfl (([a] : List PT).flatMap PT.cells) 1 T1 (by decide)).alloc _).alloc _).alloc _
  · exact (lies_new ((w.alloc (pobj a T1)).alloc (pobj (notP w.heap.size a) T3)) _ (by simp) (([b] : List PT).flatMap PT.cells) 1 T5 (by decide)).alloc _
theorem one_in {w : World} {a : PT} (ha : In w a) : ∀ p ∈ [a], In w p := by intro p hp; rw [List.mem_singleton] at hp; subst hp; exact ha
theorem T4.inA {N M : Nat} {a b : PT} {w : World} (h : T4 N M a b w) (ha : In w a) : In w (notP M a) := In.mk (by decide) (by decide) h.la (one_in ha)
theorem T4.inB {N M : Nat} {a b : PT} {w : World} (h : T4 N M a b w) (hb : In w b) : In w (notP (M + 1 + 1) b) := In.mk (by decide) (by decide) h.lb (one_in hb)
theorem holds_not (r : List Val) (K : Nat) (a : PT) : holdsP r (notP K a) = !holdsP r a := by rw [holds_mk]; simp
theorem holds_or (r : List Val) (K : Nat) (a b : PT) : holdsP r (orP K a b) = (holdsP r a || holdsP r b) := by rw [holds_mk]; simp
theorem holds_both (r : List Val) (a b : PT) : holdsP r (bothP a b) = (holdsP r a && holdsP r b) := by rw [holds_mk]; simp
/-- All that is laid. -/
structure T9 (N M K J : Nat) (a b q q' : PT) (w : World) : Prop where
  t4 : T4 N M a b w
  bq : Box w K q
  iq : In w q
  br : Box w J q'
  ir : In w q'
  lo : Lies w (.slice (some ⟨J + 1, 0, none⟩) 2 2) 2 (([b, a] : List PT).flatMap PT.cells)
  bo : Box w (J + 1 + 1) (orP (J + 1) b a)
  le : Lies w (.slice (some ⟨J + 1 + 1 + 1, 0, none⟩) 2 2) 2 (([notP M a, notP (M + 1 + 1) b] : List PT).flatMap PT.cells)
  be : Box w (J + 1 + 1 + 1 + 1) (orP (J + 1 + 1 + 1) (notP M a) (notP (M + 1 + 1) b))
theorem T9.below {N M K J : Nat} {a b q q' : PT} {w w' : World} (h : T9 N M K J a b q q' w) (hb : Below w.heap.size w w') : T9 N M K J a b q q' w' :=
  ⟨h.t4.below hb, h.bq.below hb, h.iq.keep hb, h.br.below hb, h.ir.keep hb, h.lo.below hb, h.bo.below hb, h.le.below hb, h.be.below hb⟩
theorem T9.new {N M K : Nat} {a b q q' : PT} {w : World} (h4 : T4 N M a b w) (hq : Box w K q) (hi : In w q) (hr : In w q') (T : TypeId) :
    T9 N M K w.heap.size a b q q' (((((w.alloc (pobj q' T)).alloc (.cells (([b, a] : List PT).flatMap PT.cells).toArray T)).alloc (pobj (orP (w.heap.size + 1) b a) T)).alloc (.cells (([notP M a, notP (M + 1 + 1) b] : List PT).flatMap PT.cells).toArray T)).alloc (pobj (orP (w.heap.size + 1 + 1 + 1) (notP M a) (notP (M + 1 + 1) b)) T)) := by
  have hb5 : ∀ o1 o2 o3 o4 o5, Below w.heap.size w (((((w.alloc o1).alloc o2).alloc o3).alloc o4).alloc o5) := fun _ _ _ _ _ => back1 (back1 (back1 (back1 (alloc1 _ _))))
  refine ⟨h4.below (hb5 ..), hq.below (hb5 ..), hi.keep (hb5 ..), ?_, hr.keep (hb5 ..), ?_, ?_, ?_, ?_⟩
  · exact ((((Box.new w q' T).alloc _).alloc _).alloc _).alloc _
  · exact (((lies_new (w.alloc (pobj q' T)) _ (by simp) (([b, a] : List PT).flatMap PT.cells) 2 T (by decide)).alloc _).alloc _).alloc _
  · have := ((Box.new ((w.alloc (pobj q' T)).alloc (.cells (([b, a] : List PT).flatMap PT.cells).toArray T)) (orP (w.heap.size + 1) b a) T).alloc (.cells (([notP M a, notP (M + 1 + 1) b] : List PT).flatMap PT.cells).toArray T)).alloc (pobj (orP (w.heap.size + 1 + 1 + 1) (notP M a) (notP (M + 1 + 1) b)) T)
    simpa using this
  · exact (lies_new (((w.alloc (pobj q' T)).alloc (.cells (([b, a] : List PT).flatMap PT.cells).toArray T)).alloc (pobj (orP (w.heap.size + 1) b a) T)) _ (by simp) (([notP M a, notP (M + 1 + 1) b] : List PT).flatMap PT.cells) 2 T (by decide)).alloc _
  · have := Box.new ((((w.alloc (pobj q' T)).alloc (.cells (([b, a] : List PT).flatMap PT.cells).toArray T)).alloc (pobj (orP (w.heap.size + 1) b a) T)).alloc (.cells (([notP M a, notP (M + 1 + 1) b] : List PT).flatMap PT.cells).toArray T)) (orP (w.heap.size + 1 + 1 + 1) (notP M a) (notP (M + 1 + 1) b)) T
    simpa using this
/-- What the calls answer. -/
structure PTu (w : World) (vr : Value) (r : List Val) (a b : PT) : Prop where
  row : RowIn w vr r
  ia : In w a
  ib : In w b
set_option maxHeartbeats 8000000 in
theorem turned_start (ar : Option Addr) (r : List Val) (cr : Nat) (a b : PT) (w : World) (hP : PTu w (.slice ar r.length cr) r a b) (x y : Bool) (hx : holdsP r a = x) (hy : holdsP r b = y) :
    Calls Try.prog 6 #[a.val, b.val, .slice ar r.length cr] w fun e w' => e = .returned (.bool true) ∧ Below w.heap.size w w' := by
  have H0 : Hid (∀ w1, Calls Try.prog 11 #[] w1 fun e w' => e = .returned (.bool true) ∧ Below w1.heap.size w1 w') := awake_any
  have HP : Hid (PTu w (.slice ar r.length cr) r a b) := hP
  have HT : Hid _ := T2.new w a b 26 26
  have hn : r.length ≤ 9223372036854775807 := by obtain ⟨_, _, e, h⟩ := hP.row.slice; exact h
  have HXY : Hid (holdsP r a = x ∧ holdsP r b = y) := ⟨hx, hy⟩
  clear hP hx hy
  have FA : Hid (∀ w1, Below w.heap.size w w1 → Calls Try.prog 12 #[a.val, .int .i64 0] w1 fun e w' => ∃ b, e = .returned (.bool b) ∧ (b = true → a.size ≤ 200) ∧ Below w1.heap.size w1 w') := fun w1 hb => few_any a w1 (HP.out.ia.keep hb)
  have FB : Hid (∀ w1, Below w.heap.size w w1 → Calls Try.prog 12 #[b.val, .int .i64 0] w1 fun e w' => ∃ c, e = .returned (.bool c) ∧ (c = true → b.size ≤ 200) ∧ Below w1.heap.size w1 w') := fun w1 hb => few_any b w1 (HP.out.ib.keep hb)
  have HA : Hid (∀ w1, Below w.heap.size w w1 → Calls Try.prog 13 #[a.val, .slice ar r.length cr] w1 fun e w' => e = .returned (.bool x) ∧ Below w1.heap.size w1 w') := fun w1 hb => by rw [← HXY.out.1]; exact holds_any a _ r w1 (HP.out.ia.keep hb) (HP.out.row.below hb)
  have HBb : Hid (∀ w1, Below w.heap.size w w1 → Calls Try.prog 13 #[b.val, .slice ar r.length cr] w1 fun e w' => e = .returned (.bool y) ∧ Below w1.heap.size w1 w') := fun w1 hb => by rw [← HXY.out.2]; exact holds_any b _ r w1 (HP.out.ib.keep hb) (HP.out.row.below hb)
  unfold PT.val at *
  go_enter Try.func6, Try.ntmps6
  go_wp2_with fail
  refine Calls.mono (H0.out _) ?_
  rintro e w1 ⟨rfl, hb⟩
  have T1 : Hid (T2 w.heap.size a b w1) := HT.out.below hb
  have HB1 : Hid (Below w.heap.size w w1) := back2 hb
  clear hb H0 HT
  obtain ⟨⟨a0, a1, a2, a3, a4, a5, a6, a7, a8⟩, ⟨b0, b1, b2, b3, b4, b5, b6, b7, b8⟩⟩ := T1.out
  go_wp2_with fail
  refine Calls.mono (FA.out _ HB1.out) ?_
  rintro e w2 ⟨ba, rfl, hsa, hb⟩
  have T1' : Hid (T2 w.heap.size a b w2) := T1.out.below hb
  have HB2 : Hid (Below w.heap.size w w2) := on HB1.out hb
  have HSA : Hid (ba = true → a.size ≤ 200) := hsa
  clear hb HB1 T1 FA hsa a0 a1 a2 a3 a4 a5 a6 a7 a8 b0 b1 b2 b3 b4 b5 b6 b7 b8
  obtain ⟨⟨a0, a1, a2, a3, a4, a5, a6, a7, a8⟩, ⟨b0, b1, b2, b3, b4, b5, b6, b7, b8⟩⟩ := T1'.out
  go_wp2_with fail
  refine Calls.mono (FB.out _ HB2.out) ?_
  rintro e w3 ⟨bb, rfl, hsb, hb⟩
  have T3' : Hid (T2 w.heap.size a b w3) := T1'.out.below hb
  have HB3 : Hid (Below w.heap.size w w3) := on HB2.out hb
  have HSB : Hid (bb = true → b.size ≤ 200) := hsb
  clear hb HB2 T1' FB hsb a0 a1 a2 a3 a4 a5 a6 a7 a8 b0 b1 b2 b3 b4 b5 b6 b7 b8
  cases ba
  · go_wp2_with fail
    go_ret
    exact ⟨rfl, HB3.out⟩
  cases bb
  · go_wp2_with fail
    go_ret
    exact ⟨rfl, HB3.out⟩
  have sa := HSA.out rfl
  have sb := HSB.out rfl
  clear HSA HSB
  obtain ⟨⟨a0, a1, a2, a3, a4, a5, a6, a7, a8⟩, ⟨b0, b1, b2, b3, b4, b5, b6, b7, b8⟩⟩ := T3'.out
  by_cases hlen : 1000 < r.length
  · have e1 : (1000 : Int) < (r.length : Int) := by omega
    go_wp2_with fail
    go_ret
    exact ⟨rfl, HB3.out⟩
  have e1 : decide ((1000 : Int) < (r.length : Int)) = false := by simp; omega
  have AN : Hid (∀ w1 lv, Below w.heap.size w w1 → Lies w1 lv 2 (([a, b] : List PT).flatMap PT.cells) → Calls Try.prog 25 #[lv] w1 fun e w' => ∃ (q : PT) (aq : Option Addr) (cq : Nat), e = .returned q.val ∧ (q.bare = (bothP a b).bare ∧ In w' q ∧ q.lv = .slice aq q.l.length cq) ∧ Below w1.heap.size w1 w') := fun w1 lv hb hl => and_two a b (by omega) w1 lv hl (HP.out.ia.keep hb) (HP.out.ib.keep hb)
  have BN : Hid (∀ w1 lv, Below w.heap.size w w1 → Lies w1 lv 2 (([b, a] : List PT).flatMap PT.cells) → Calls Try.prog 25 #[lv] w1 fun e w' => ∃ (q : PT) (aq : Option Addr) (cq : Nat), e = .returned q.val ∧ (q.bare = (bothP b a).bare ∧ In w' q ∧ q.lv = .slice aq q.l.length cq) ∧ Below w1.heap.size w1 w') := fun w1 lv hb hl => and_two b a (by omega) w1 lv hl (HP.out.ib.keep hb) (HP.out.ia.keep hb)
  clear sa sb hlen
  unfold PT.val at *
  go_wp2_with fail
  refine Calls.mono (HA.out _ HB3.out) ?_
  rintro e w4 ⟨rfl, hb⟩
  have T5 : Hid (T2 w.heap.size a b w4) := T3'.out.below hb
  have HB4 : Hid (Below w.heap.size w w4) := on HB3.out hb
  clear hb HB3 T3' HA a0 a1 a2 a3 a4 a5 a6 a7 a8 b0 b1 b2 b3 b4 b5 b6 b7 b8
  obtain ⟨⟨a0, a1, a2, a3, a4, a5, a6, a7, a8⟩, ⟨b0, b1, b2, b3, b4, b5, b6, b7, b8⟩⟩ := T5.out
  go_wp2_with fail
  refine Calls.mono (HBb.out _ HB4.out) ?_
  rintro e w5 ⟨rfl, hb⟩
  have T6 : Hid (T2 w.heap.size a b w5) := T5.out.below hb
  have HB5 : Hid (Below w.heap.size w w5) := on HB4.out hb
  clear hb HB4 T5 HBb a0 a1 a2 a3 a4 a5 a6 a7 a8 b0 b1 b2 b3 b4 b5 b6 b7 b8
  have N6 : Hid _ := T4.new T6.out 26 26 26 26
  have z0 := T6.out.pa.lt
  have z1 := T6.out.pb.lt
  have a0 := fun o1 o2 o3 o4 => ((((T6.out.pa.alloc o1).alloc o2).alloc o3).alloc o4).c0
  have b0 := fun o1 o2 o3 o4 => ((((T6.out.pb.alloc o1).alloc o2).alloc o3).alloc o4).c0
  have a0' := T6.out.pa.c0
  have b0' := T6.out.pb.c0
  have a1 := fun o1 o2 o3 o4 => ((((T6.out.pa.alloc o1).alloc o2).alloc o3).alloc o4).c1
  have b1 := fun o1 o2 o3 o4 => ((((T6.out.pb.alloc o1).alloc o2).alloc o3).alloc o4).c1
  have a1' := T6.out.pa.c1
  have b1' := T6.out.pb.c1
  have a2 := fun o1 o2 o3 o4 => ((((T6.out.pa.alloc o1).alloc o2).alloc o3).alloc o4).c2
  have b2 := fun o1 o2 o3 o4 => ((((T6.out.pb.alloc o1).alloc o2).alloc o3).alloc o4).c2
  have a2' := T6.out.pa.c2
  have b2' := T6.out.pb.c2
  have a3 := fun o1 o2 o3 o4 => ((((T6.out.pa.alloc o1).alloc o2).alloc o3).alloc o4).c3
  have b3 := fun o1 o2 o3 o4 => ((((T6.out.pb.alloc o1).alloc o2).alloc o3).alloc o4).c3
  have a3' := T6.out.pa.c3
  have b3' := T6.out.pb.c3
  have a4 := fun o1 o2 o3 o4 => ((((T6.out.pa.alloc o1).alloc o2).alloc o3).alloc o4).c4
  have b4 := fun o1 o2 o3 o4 => ((((T6.out.pb.alloc o1).alloc o2).alloc o3).alloc o4).c4
  have a4' := T6.out.pa.c4
  have b4' := T6.out.pb.c4
  have a5 := fun o1 o2 o3 o4 => ((((T6.out.pa.alloc o1).alloc o2).alloc o3).alloc o4).c5
  have b5 := fun o1 o2 o3 o4 => ((((T6.out.pb.alloc o1).alloc o2).alloc o3).alloc o4).c5
  have a5' := T6.out.pa.c5
  have b5' := T6.out.pb.c5
  have a6 := fun o1 o2 o3 o4 => ((((T6.out.pa.alloc o1).alloc o2).alloc o3).alloc o4).c6
  have b6 := fun o1 o2 o3 o4 => ((((T6.out.pb.alloc o1).alloc o2).alloc o3).alloc o4).c6
  have a6' := T6.out.pa.c6
  have b6' := T6.out.pb.c6
  have a7 := fun o1 o2 o3 o4 => ((((T6.out.pa.alloc o1).alloc o2).alloc o3).alloc o4).c7
  have b7 := fun o1 o2 o3 o4 => ((((T6.out.pb.alloc o1).alloc o2).alloc o3).alloc o4).c7
  have a7' := T6.out.pa.c7
  have b7' := T6.out.pb.c7
  have a8 := fun o1 o2 o3 o4 => ((((T6.out.pa.alloc o1).alloc o2).alloc o3).alloc o4).c8
  have b8 := fun o1 o2 o3 o4 => ((((T6.out.pb.alloc o1).alloc o2).alloc o3).alloc o4).c8
  have a8' := T6.out.pa.c8
  have b8' := T6.out.pb.c8
  go_wp2_with fail
  refine Calls.mono (AN.out _ _ ?hb ?hl) ?_
  case hb => exact on HB5.out (back1 (back1 (back1 (back1 (alloc1 _ _)))))
  case hl => exact lies_new _ _ (by simp) (([a, b] : List PT).flatMap PT.cells) 2 _ (by decide)
  rintro e w6 ⟨q, aq, cq, rfl, hq, hb⟩
  have T7 : Hid (T4 w.heap.size w5.heap.size a b w6) := (N6.out.below (alloc1 _ _)).below hb
  have HB6 : Hid (Below w.heap.size w w6) := on HB5.out (back1 (back1 (back1 (back1 (back1 hb)))))
  have HQ : Hid (q.bare = (bothP a b).bare ∧ In w6 q ∧ q.lv = .slice aq q.l.length cq) := hq
  have hlq := hq.2.2
  clear hb hq HB5 T6 N6 AN z0 z1 a0 a1 a2 a3 a4 a5 a6 a7 a8 b0 b1 b2 b3 b4 b5 b6 b7 b8 a0' b0' a1' b1' a2' b2' a3' b3' a4' b4' a5' b5' a6' b6' a7' b7' a8' b8'
  rw [hlq]
  clear hlq
  have z0 := T7.out.pa.lt
  have z1 := T7.out.pb.lt
  obtain ⟨a0, a1, a2, a3, a4, a5, a6, a7, a8⟩ := T7.out.pa
  obtain ⟨b0, b1, b2, b3, b4, b5, b6, b7, b8⟩ := T7.out.pb
  go_wp2_with fail
  refine Calls.mono (BN.out _ _ ?hb ?hl) ?_
  case hb => exact on HB6.out (back1 (alloc1 _ _))
  case hl => exact lies_new _ _ (by simp) (([b, a] : List PT).flatMap PT.cells) 2 _ (by decide)
  rintro e w7 ⟨q', aq', cq', rfl, hq', hb⟩
  have QB : Hid (Box (w6.alloc (pobj q 26)) w6.heap.size q) := Box.new w6 q _
  rw [pobj, HQ.out.2.2] at QB
  have T8 : Hid (T4 w.heap.size w5.heap.size a b w7) := T7.out.below (back2 hb)
  have HB7 : Hid (Below w.heap.size w w7) := on HB6.out (back2 hb)
  have HQ7 : Hid (q.bare = (bothP a b).bare ∧ In w7 q ∧ Box w7 w6.heap.size q) := ⟨HQ.out.1, HQ.out.2.1.keep (back2 hb), (QB.out.alloc _).below hb⟩
  have HR7 : Hid (q'.bare = (bothP b a).bare ∧ In w7 q' ∧ q'.lv = .slice aq' q'.l.length cq') := hq'
  have hlq := hq'.2.2
  clear hb hq' HB6 T7 BN QB HQ z0 z1 a0 a1 a2 a3 a4 a5 a6 a7 a8 b0 b1 b2 b3 b4 b5 b6 b7 b8
  rw [hlq]
  clear hlq
  have z0 := T8.out.pa.lt
  have z1 := T8.out.pb.lt
  obtain ⟨a0, a1, a2, a3, a4, a5, a6, a7, a8⟩ := T8.out.pa
  obtain ⟨b0, b1, b2, b3, b4, b5, b6, b7, b8⟩ := T8.out.pb
  have m0 := fun o1 o2 o3 => (((T8.out.na.alloc o1).alloc o2).alloc o3).c0
  have k0 := fun o1 o2 o3 => (((T8.out.nb.alloc o1).alloc o2).alloc o3).c0
  have m1 := fun o1 o2 o3 => (((T8.out.na.alloc o1).alloc o2).alloc o3).c1
  have k1 := fun o1 o2 o3 => (((T8.out.nb.alloc o1).alloc o2).alloc o3).c1
  have m2 := fun o1 o2 o3 => (((T8.out.na.alloc o1).alloc o2).alloc o3).c2
  have k2 := fun o1 o2 o3 => (((T8.out.nb.alloc o1).alloc o2).alloc o3).c2
  have m3 := fun o1 o2 o3 => (((T8.out.na.alloc o1).alloc o2).alloc o3).c3
  have k3 := fun o1 o2 o3 => (((T8.out.nb.alloc o1).alloc o2).alloc o3).c3
  have m4 := fun o1 o2 o3 => (((T8.out.na.alloc o1).alloc o2).alloc o3).c4
  have k4 := fun o1 o2 o3 => (((T8.out.nb.alloc o1).alloc o2).alloc o3).c4
  have m5 := fun o1 o2 o3 => (((T8.out.na.alloc o1).alloc o2).alloc o3).c5
  have k5 := fun o1 o2 o3 => (((T8.out.nb.alloc o1).alloc o2).alloc o3).c5
  have m6 := fun o1 o2 o3 => (((T8.out.na.alloc o1).alloc o2).alloc o3).c6
  have k6 := fun o1 o2 o3 => (((T8.out.nb.alloc o1).alloc o2).alloc o3).c6
  have m7 := fun o1 o2 o3 => (((T8.out.na.alloc o1).alloc o2).alloc o3).c7
  have k7 := fun o1 o2 o3 => (((T8.out.nb.alloc o1).alloc o2).alloc o3).c7
  have m8 := fun o1 o2 o3 => (((T8.out.na.alloc o1).alloc o2).alloc o3).c8
  have k8 := fun o1 o2 o3 => (((T8.out.nb.alloc o1).alloc o2).alloc o3).c8
  dsimp only at m0 m1 m2 m3 m4 m5 m6 m7 m8 k0 k1 k2 k3 k4 k5 k6 k7 k8
  have n0 := fun o1 o2 o3 o4 o5 => (((((T8.out.na.alloc o1).alloc o2).alloc o3).alloc o4).alloc o5).c0
  have n1 := fun o1 o2 o3 o4 o5 => (((((T8.out.na.alloc o1).alloc o2).alloc o3).alloc o4).alloc o5).c1
  have n2 := fun o1 o2 o3 o4 o5 => (((((T8.out.na.alloc o1).alloc o2).alloc o3).alloc o4).alloc o5).c2
  have n3 := fun o1 o2 o3 o4 o5 => (((((T8.out.na.alloc o1).alloc o2).alloc o3).alloc o4).alloc o5).c3
  have n4 := fun o1 o2 o3 o4 o5 => (((((T8.out.na.alloc o1).alloc o2).alloc o3).alloc o4).alloc o5).c4
  have n5 := fun o1 o2 o3 o4 o5 => (((((T8.out.na.alloc o1).alloc o2).alloc o3).alloc o4).alloc o5).c5
  have n6 := fun o1 o2 o3 o4 o5 => (((((T8.out.na.alloc o1).alloc o2).alloc o3).alloc o4).alloc o5).c6
  have n7 := fun o1 o2 o3 o4 o5 => (((((T8.out.na.alloc o1).alloc o2).alloc o3).alloc o4).alloc o5).c7
  have n8 := fun o1 o2 o3 o4 o5 => (((((T8.out.na.alloc o1).alloc o2).alloc o3).alloc o4).alloc o5).c8
  dsimp only at n0 n1 n2 n3 n4 n5 n6 n7 n8
  have N9 : Hid _ := T9.new T8.out HQ7.out.2.2 HQ7.out.2.1 HR7.out.2.1 26
  rw [pobj, HR7.out.2.2] at N9
  have W1 : Hid (∀ w1, T9 w.heap.size w5.heap.size w6.heap.size w7.heap.size a b q q' w1 → Below w.heap.size w w1 → Calls Try.prog 13 #[(notP w5.heap.size a).val, .slice ar r.length cr] w1 fun e w' => e = .returned (.bool (!x)) ∧ Below w1.heap.size w1 w') := fun w1 h hb => by
    rw [← HXY.out.1, ← holds_not]; exact holds_any _ _ r w1 (h.t4.inA (HP.out.ia.keep hb)) (HP.out.row.below hb)
  have W2 : Hid (∀ w1, T9 w.heap.size w5.heap.size w6.heap.size w7.heap.size a b q q' w1 → Below w.heap.size w w1 → Calls Try.prog 13 #[q.val, .slice ar r.length cr] w1 fun e w' => e = .returned (.bool (x && y)) ∧ Below w1.heap.size w1 w') := fun w1 h hb => by
    rw [← HXY.out.1, ← HXY.out.2, ← holds_both, ← holds_of_bare HQ7.out.1]; exact holds_any _ _ r w1 h.iq (HP.out.row.below hb)
  have W3 : Hid (∀ w1, T9 w.heap.size w5.heap.size w6.heap.size w7.heap.size a b q q' w1 → Below w.heap.size w w1 → Calls Try.prog 13 #[q'.val, .slice ar r.length cr] w1 fun e w' => e = .returned (.bool (x && y)) ∧ Below w1.heap.size w1 w') := fun w1 h hb => by
    rw [Bool.and_comm, ← HXY.out.1, ← HXY.out.2, ← holds_both, ← holds_of_bare HR7.out.1]; exact holds_any _ _ r w1 h.ir (HP.out.row.below hb)
  have W4 : Hid (∀ w1, T9 w.heap.size w5.heap.size w6.heap.size w7.heap.size a b q q' w1 → Below w.heap.size w w1 → Calls Try.prog 13 #[(orP (w7.heap.size + 1) b a).val, .slice ar r.length cr] w1 fun e w' => e = .returned (.bool (x || y)) ∧ Below w1.heap.size w1 w') := fun w1 h hb => by
    rw [Bool.or_comm, ← HXY.out.1, ← HXY.out.2, ← holds_or]; exact holds_any _ _ r w1 (In.mk (by decide) (by decide) h.lo (two_in (HP.out.ib.keep hb) (HP.out.ia.keep hb))) (HP.out.row.below hb)
  have W5 : Hid (∀ w1, T9 w.heap.size w5.heap.size w6.heap.size w7.heap.size a b q q' w1 → Below w.heap.size w w1 → Calls Try.prog 13 #[(orP (w7.heap.size + 1 + 1 + 1) (notP w5.heap.size a) (notP (w5.heap.size + 1 + 1) b)).val, .slice ar r.length cr] w1 fun e w' => e = .returned (.bool (!x || !y)) ∧ Below w1.heap.size w1 w') := fun w1 h hb => by
    rw [← HXY.out.1, ← HXY.out.2, ← holds_not r w5.heap.size a, ← holds_not r (w5.heap.size + 1 + 1) b, ← holds_or]; exact holds_any _ _ r w1 (In.mk (by decide) (by decide) h.le (two_in (h.t4.inA (HP.out.ia.keep hb)) (h.t4.inB (HP.out.ib.keep hb)))) (HP.out.row.below hb)
  unfold PT.val at W1 W2 W3 W4 W5
  dsimp only at W1 W4 W5
  clear HP HXY HQ7
  go_wp2_with fail
  refine Calls.mono (W1.out _ N9.out ?hb) ?_
  case hb => exact on HB7.out (back1 (back1 (back1 (back1 (alloc1 _ _)))))
  rintro e w8 ⟨rfl, hb⟩
  have X8 : Hid (T9 w.heap.size w5.heap.size w6.heap.size w7.heap.size a b q q' w8) := N9.out.below hb
  have HB8 : Hid (Below w.heap.size w w8) := on HB7.out (back1 (back1 (back1 (back1 (back1 hb)))))
  clear hb N9 HB7 T8 HR7 W1 z0 z1 a0 a1 a2 a3 a4 a5 a6 a7 a8 b0 b1 b2 b3 b4 b5 b6 b7 b8 m0 m1 m2 m3 m4 m5 m6 m7 m8 k0 k1 k2 k3 k4 k5 k6 k7 k8 n0 n1 n2 n3 n4 n5 n6 n7 n8
  cases x <;> cases y
  all_goals
    obtain ⟨q0, q1, q2, q3, q4, q5, q6, q7, q8⟩ := X8.out.bq
    go_wp2_with fail
    refine Calls.mono (W2.out _ X8.out HB8.out) ?_
    rintro e w9 ⟨rfl, hb⟩
    have X9 : Hid (T9 w.heap.size w5.heap.size w6.heap.size w7.heap.size a b q q' w9) := X8.out.below hb
    have HB9 : Hid (Below w.heap.size w w9) := on HB8.out hb
    clear hb q0 q1 q2 q3 q4 q5 q6 q7 q8 X8 HB8 W2
    obtain ⟨q0, q1, q2, q3, q4, q5, q6, q7, q8⟩ := X9.out.br
    simp only [Bool.and_self, Bool.and_true, Bool.and_false]
    go_wp2_with fail
    refine Calls.mono (W3.out _ X9.out HB9.out) ?_
    rintro e w10 ⟨rfl, hb⟩
    have X10 : Hid (T9 w.heap.size w5.heap.size w6.heap.size w7.heap.size a b q q' w10) := X9.out.below hb
    have HB10 : Hid (Below w.heap.size w w10) := on HB9.out hb
    clear hb q0 q1 q2 q3 q4 q5 q6 q7 q8 X9 HB9 W3
    obtain ⟨q0, q1, q2, q3, q4, q5, q6, q7, q8⟩ := X10.out.bo
    dsimp only at q0 q1 q2 q3 q4 q5 q6 q7 q8
    simp only [Bool.and_self, Bool.and_true, Bool.and_false]
    go_wp2_with fail
    refine Calls.mono (W4.out _ X10.out HB10.out) ?_
    rintro e w11 ⟨rfl, hb⟩
    have X11 : Hid (T9 w.heap.size w5.heap.size w6.heap.size w7.heap.size a b q q' w11) := X10.out.below hb
    have HB11 : Hid (Below w.heap.size w w11) := on HB10.out hb
    clear hb q0 q1 q2 q3 q4 q5 q6 q7 q8 X10 HB10 W4
    obtain ⟨q0, q1, q2, q3, q4, q5, q6, q7, q8⟩ := X11.out.be
    dsimp only at q0 q1 q2 q3 q4 q5 q6 q7 q8
    simp only [Bool.or_self, Bool.or_true, Bool.or_false]
    go_wp2_with fail
    refine Calls.mono (W5.out _ X11.out HB11.out) ?_
    rintro e w12 ⟨rfl, hb⟩
    have HB12 : Hid (Below w.heap.size w w12) := on HB11.out hb
    clear hb q0 q1 q2 q3 q4 q5 q6 q7 q8 X11 HB11 W5
    simp only [Bool.not_true, Bool.not_false, Bool.or_self, Bool.or_true, Bool.or_false]
    go_wp2_with fail
    go_ret
    exact ⟨rfl, HB12.out⟩
theorem turned_walk (vr : Value) (r : List Val) (a b : PT) (w : World) (hr : RowIn w vr r) (ha : In w a) (hb : In w b) :
    Calls Try.prog 6 #[a.val, b.val, vr] w fun e w' => e = .returned (.bool true) ∧ Below w.heap.size w w' := by
  obtain ⟨ar, cr, rfl, hn⟩ := hr.slice
  exact turned_start ar r cr a b w ⟨hr, ha, hb⟩ _ _ rfl rfl
end Go.Proofs.Ytnfageikacfdoaa.Val
