/- The walk of the law on sizes. -/
import Derived.Test.YtnfageikacfdoaaPredBoth
namespace Go.Proofs.Ytnfageikacfdoaa.Val
open Go.RowKit

/-- A table's and two predicates' boxes. -/
structure T3 (N : Nat) (vc : Value) (a b : PT) (w : World) : Prop where
  t : w.cell? ⟨N, 0, none⟩ = some vc
  pa : Box w (N + 1) a
  pb : Box w (N + 1 + 1) b
theorem T3.below {N : Nat} {vc : Value} {a b : PT} {w w' : World} (h : T3 N vc a b w) (hb : Below w.heap.size w w') : T3 N vc a b w' := ⟨cell_below h.t hb, h.pa.below hb, h.pb.below hb⟩
theorem T3.new (w : World) (vc : Value) (a b : PT) (T1 T2 T4 : TypeId) : T3 w.heap.size vc a b (((w.alloc (.cells #[vc] T1)).alloc (pobj a T2)).alloc (pobj b T4)) := by
  refine ⟨cell_alloc (cell_alloc (by simp [go_sem]) _) _, ?_, ?_⟩
  · have := (Box.new (w.alloc (.cells #[vc] T1)) a T2).alloc (pobj b T4); simpa using this
  · have := Box.new ((w.alloc (.cells #[vc] T1)).alloc (pobj a T2)) b T4; simpa using this
def NoP (ca cb cq : Int) : Prop := ca ≠ 0 ∨ cb ≠ 0 → cq ≠ 0
def YesP (ca cb cq x y : Int) : Prop := ca = 0 → cb = 0 → (cq == 0) = decide (x + y + 1 ≤ 15)
/-- What the calls answer. -/
structure PSz (w : World) (vc : Value) (cols : List Bool) (a b : PT) : Prop where
  bools : BoolsIn w vc cols
  ia : In w a
  ib : In w b
set_option maxHeartbeats 8000000 in
theorem sizes_walk (vc : Value) (cols : List Bool) (a b : PT) (w : World) (hbo : BoolsIn w vc cols) (hia : In w a) (hib : In w b) :
    Calls Try.prog 9 #[.agg #[vc], a.val, b.val] w fun e w' => e = .returned (.bool true) ∧ Below w.heap.size w w' := by
  have H0 : Hid (∀ w1, Calls Try.prog 11 #[] w1 fun e w' => e = .returned (.bool true) ∧ Below w1.heap.size w1 w') := awake_any
  obtain ⟨ac, cc, rfl, hn⟩ := hbo.slice
  have HP : Hid (PSz w (.slice ac cols.length cc) cols a b) := ⟨hbo, hia, hib⟩
  have HT : Hid _ := T3.new w (.slice ac cols.length cc) a b 34 26 26
  clear hbo hia hib
  have FA : Hid (∀ w1, Below w.heap.size w w1 → Calls Try.prog 12 #[a.val, .int .i64 0] w1 fun e w' => ∃ b, e = .returned (.bool b) ∧ (b = true → a.size ≤ 200) ∧ Below w1.heap.size w1 w') := fun w1 hb => few_any a w1 (HP.out.ia.keep hb)
  have FB : Hid (∀ w1, Below w.heap.size w w1 → Calls Try.prog 12 #[b.val, .int .i64 0] w1 fun e w' => ∃ c, e = .returned (.bool c) ∧ (c = true → b.size ≤ 200) ∧ Below w1.heap.size w1 w') := fun w1 hb => few_any b w1 (HP.out.ib.keep hb)
  unfold PT.val at *
  go_enter Try.func9, Try.ntmps9
  go_wp2_with fail
  refine Calls.mono (H0.out _) ?_
  rintro e w1 ⟨rfl, hb⟩
  have T1 : Hid (T3 w.heap.size (.slice ac cols.length cc) a b w1) := HT.out.below hb
  have HB1 : Hid (Below w.heap.size w w1) := back3 hb
  clear hb H0 HT
  obtain ⟨t0, ⟨a0, a1, a2, a3, a4, a5, a6, a7, a8⟩, ⟨b0, b1, b2, b3, b4, b5, b6, b7, b8⟩⟩ := T1.out
  go_wp2_with fail
  refine Calls.mono (FA.out _ HB1.out) ?_
  rintro e w2 ⟨ba, rfl, hsa, hb⟩
  have T2 : Hid (T3 w.heap.size (.slice ac cols.length cc) a b w2) := T1.out.below hb
  have HB2 : Hid (Below w.heap.size w w2) := on HB1.out hb
  have HSA : Hid (ba = true → a.size ≤ 200) := hsa
  clear hb HB1 T1 FA hsa t0 a0 a1 a2 a3 a4 a5 a6 a7 a8 b0 b1 b2 b3 b4 b5 b6 b7 b8
  obtain ⟨t0, ⟨a0, a1, a2, a3, a4, a5, a6, a7, a8⟩, ⟨b0, b1, b2, b3, b4, b5, b6, b7, b8⟩⟩ := T2.out
  go_wp2_with fail
  refine Calls.mono (FB.out _ HB2.out) ?_
  rintro e w3 ⟨bb, rfl, hsb, hb⟩
  have T3' : Hid (T3 w.heap.size (.slice ac cols.length cc) a b w3) := T2.out.below hb
  have HB3 : Hid (Below w.heap.size w w3) := on HB2.out hb
  have HSB : Hid (bb = true → b.size ≤ 200) := hsb
  clear hb HB2 T2 FB hsb t0 a0 a1 a2 a3 a4 a5 a6 a7 a8 b0 b1 b2 b3 b4 b5 b6 b7 b8
  cases ba
  · go_wp2_with fail
    go_ret
    exact ⟨rfl, HB3.out⟩
  cases bb
  · go_wp2_with fail
    go_ret
    exact ⟨rfl, HB3.out⟩
  have sa := HSA.out rfl
  have sb := HSB.out rfl
  clear HSA HSB
  obtain ⟨t0, ⟨a0, a1, a2, a3, a4, a5, a6, a7, a8⟩, ⟨b0, b1, b2, b3, b4, b5, b6, b7, b8⟩⟩ := T3'.out
  by_cases hlen : 1000 < cols.length
  · have e1 : (1000 : Int) < (cols.length : Int) := by omega
    go_wp2_with fail
    go_ret
    exact ⟨rfl, HB3.out⟩
  have e1 : decide ((1000 : Int) < (cols.length : Int)) = false := by simp; omega
  have pa := size_pos a
  have pb := size_pos b
  have HZ : Hid (a.size ≤ 200 ∧ b.size ≤ 200 ∧ 1 ≤ a.size ∧ 1 ≤ b.size) := ⟨sa, sb, pa, pb⟩
  have SA : Hid (∀ w1, Below w.heap.size w w1 → Calls Try.prog 18 #[a.val] w1 fun e w' => e = .returned (.int .i64 (a.size : Int)) ∧ Below w1.heap.size w1 w') := fun w1 hb => size_any a w1 (HP.out.ia.keep hb) (by omega)
  have SB : Hid (∀ w1, Below w.heap.size w w1 → Calls Try.prog 18 #[b.val] w1 fun e w' => e = .returned (.int .i64 (b.size : Int)) ∧ Below w1.heap.size w1 w') := fun w1 hb => size_any b w1 (HP.out.ib.keep hb) (by omega)
  have SQ : Hid (∀ q w1, q.bare = (bothP a b).bare → In w1 q → Calls Try.prog 18 #[q.val] w1 fun e w' => e = .returned (.int .i64 ((a.size : Int) + (b.size : Int) + 1)) ∧ Below w1.heap.size w1 w') := fun q w1 h1 h2 => by
    have hq : q.size = a.size + b.size + 1 := (size_of_bare h1).trans (both_size a b)
    have := size_any q w1 h2 (by omega)
    rw [hq] at this
    simpa using this
  obtain ⟨ca, hca⟩ : ∃ c, checkN cols a = c := ⟨_, rfl⟩
  obtain ⟨cb, hcb⟩ : ∃ c, checkN cols b = c := ⟨_, rfl⟩
  obtain ⟨cq, hcq⟩ : ∃ c, checkN cols (bothP a b) = c := ⟨_, rfl⟩
  have CA : Hid (∀ w1, Below w.heap.size w w1 → Calls Try.prog 17 #[.agg #[.slice ac cols.length cc], a.val] w1 fun e w' => e = .returned (.int .i64 ca) ∧ Below w1.heap.size w1 w') := fun w1 hb => by rw [← hca]; exact pcheck_any _ cols a w1 (HP.out.bools.below hb) (HP.out.ia.keep hb) (by omega)
  have CB : Hid (∀ w1, Below w.heap.size w w1 → Calls Try.prog 17 #[.agg #[.slice ac cols.length cc], b.val] w1 fun e w' => e = .returned (.int .i64 cb) ∧ Below w1.heap.size w1 w') := fun w1 hb => by rw [← hcb]; exact pcheck_any _ cols b w1 (HP.out.bools.below hb) (HP.out.ib.keep hb) (by omega)
  have CQ : Hid (∀ q w1, q.bare = (bothP a b).bare → In w1 q → Below w.heap.size w w1 → Calls Try.prog 17 #[.agg #[.slice ac cols.length cc], q.val] w1 fun e w' => e = .returned (.int .i64 cq) ∧ Below w1.heap.size w1 w') := fun q w1 h1 h2 hb => by
    have hq : q.size = a.size + b.size + 1 := (size_of_bare h1).trans (both_size a b)
    rw [← hcq, ← check_of_bare h1]
    exact pcheck_any _ cols q w1 (HP.out.bools.below hb) h2 (by omega)
  have HNO : Hid (NoP ca cb cq) := fun h => by rw [← hcq]; rw [← hca, ← hcb] at h; exact both_no h
  have HYES : Hid (YesP ca cb cq (a.size : Int) (b.size : Int)) := fun h h' => by rw [← hcq]; exact both_yes (hca.trans h) (hcb.trans h')
  have AN : Hid (∀ w1 lv, Below w.heap.size w w1 → Lies w1 lv 2 (([a, b] : List PT).flatMap PT.cells) → Calls Try.prog 25 #[lv] w1 fun e w' => ∃ (q : PT) (aq : Option Addr) (cq : Nat), e = .returned q.val ∧ (q.bare = (bothP a b).bare ∧ In w' q ∧ q.lv = .slice aq q.l.length cq) ∧ Below w1.heap.size w1 w') := fun w1 lv hb hl => and_two a b (by omega) w1 lv hl (HP.out.ia.keep hb) (HP.out.ib.keep hb)
  have x0 : (1 : Int) ≤ (a.size : Int) := by omega
  have y0 : (1 : Int) ≤ (b.size : Int) := by omega
  have x1 : (a.size : Int) ≤ 200 := by omega
  have y1 : (b.size : Int) ≤ 200 := by omega
  clear HP hca hcb hcq sa sb pa pb hlen HZ
  unfold PT.val at *
  generalize (a.size : Int) = x at *
  generalize (b.size : Int) = y at *
  go_wp2_with fail
  refine Calls.mono (SA.out _ HB3.out) ?_
  rintro e w4 ⟨rfl, hb⟩
  have T4 : Hid (T3 w.heap.size (.slice ac cols.length cc) a b w4) := T3'.out.below hb
  have HB4 : Hid (Below w.heap.size w w4) := on HB3.out hb
  clear hb HB3 T3' SA t0 a0 a1 a2 a3 a4 a5 a6 a7 a8 b0 b1 b2 b3 b4 b5 b6 b7 b8
  obtain ⟨t0, ⟨a0, a1, a2, a3, a4, a5, a6, a7, a8⟩, ⟨b0, b1, b2, b3, b4, b5, b6, b7, b8⟩⟩ := T4.out
  go_wp2_with fail
  refine Calls.mono (SB.out _ HB4.out) ?_
  rintro e w5 ⟨rfl, hb⟩
  have T5 : Hid (T3 w.heap.size (.slice ac cols.length cc) a b w5) := T4.out.below hb
  have HB5 : Hid (Below w.heap.size w w5) := on HB4.out hb
  clear hb HB4 T4 SB t0 a0 a1 a2 a3 a4 a5 a6 a7 a8 b0 b1 b2 b3 b4 b5 b6 b7 b8
  obtain ⟨t0, ⟨a0, a1, a2, a3, a4, a5, a6, a7, a8⟩, ⟨b0, b1, b2, b3, b4, b5, b6, b7, b8⟩⟩ := T5.out
  go_wp2_with fail
  refine Calls.mono (AN.out _ _ (on HB5.out (alloc1 _ _)) (lies_new _ _ rfl (([a, b] : List PT).flatMap PT.cells) 2 _ (by decide))) ?_
  rintro e w6 ⟨q, aq, cq', rfl, hq, hb⟩
  have T6 : Hid (T3 w.heap.size (.slice ac cols.length cc) a b w6) := T5.out.below (back1 hb)
  have HB6 : Hid (Below w.heap.size w w6) := on HB5.out (back1 hb)
  have HQ : Hid (q.bare = (bothP a b).bare ∧ In w6 q ∧ q.lv = .slice aq q.l.length cq') := hq
  have hlq := hq.2.2
  clear hb HB5 T5 AN hq t0 a0 a1 a2 a3 a4 a5 a6 a7 a8 b0 b1 b2 b3 b4 b5 b6 b7 b8
  rw [hlq]
  have SQ1 : Hid (∀ w1, In w1 q → Calls Try.prog 18 #[PV q.op q.col q.v.t q.v.n q.v.s q.w.t q.w.n q.w.s (.slice aq q.l.length cq')] w1 fun e w' => e = .returned (.int .i64 (x + y + 1)) ∧ Below w1.heap.size w1 w') := fun w1 h => by
    have := SQ.out q w1 HQ.out.1 h; rw [HQ.out.2.2] at this; exact this
  have CQ1 : Hid (∀ w1, In w1 q → Below w.heap.size w w1 → Calls Try.prog 17 #[.agg #[.slice ac cols.length cc], PV q.op q.col q.v.t q.v.n q.v.s q.w.t q.w.n q.w.s (.slice aq q.l.length cq')] w1 fun e w' => e = .returned (.int .i64 cq) ∧ Below w1.heap.size w1 w') := fun w1 h hb => by
    have := CQ.out q w1 HQ.out.1 h hb; rw [HQ.out.2.2] at this; exact this
  have QB : Hid (Box (w6.alloc (pobj q 26)) w6.heap.size q) := Box.new w6 q _
  rw [pobj, HQ.out.2.2] at QB
  clear hlq SQ CQ
  go_wp2_with fail
  refine Calls.mono (SQ1.out _ (HQ.out.2.1.keep (alloc1 _ _))) ?_
  rintro e w7 ⟨rfl, hb⟩
  have T7 : Hid (T3 w.heap.size (.slice ac cols.length cc) a b w7) := T6.out.below (back1 hb)
  have HB7 : Hid (Below w.heap.size w w7) := on HB6.out (back1 hb)
  have Q7 : Hid (Box w7 w6.heap.size q ∧ In w7 q) := ⟨QB.out.below hb, HQ.out.2.1.keep (back1 hb)⟩
  have LQ : Hid (q.lv = .slice aq q.l.length cq') := HQ.out.2.2
  clear hb HB6 T6 SQ1 QB HQ
  obtain ⟨t0, ⟨a0, a1, a2, a3, a4, a5, a6, a7, a8⟩, ⟨b0, b1, b2, b3, b4, b5, b6, b7, b8⟩⟩ := T7.out
  obtain ⟨q0, q1, q2, q3, q4, q5, q6, q7, q8⟩ := Q7.out.1
  rw [LQ.out] at q8
  have f1 : decide (x < 1) = false := by simp; omega
  have f2 : decide (y < 1) = false := by simp; omega
  go_wp2_with fail
  refine Calls.mono (CQ1.out _ Q7.out.2 HB7.out) ?_
  rintro e w8 ⟨rfl, hb⟩
  have T8 : Hid (T3 w.heap.size (.slice ac cols.length cc) a b w8) := T7.out.below hb
  have HB8 : Hid (Below w.heap.size w w8) := on HB7.out hb
  clear hb HB7 T7 CQ1 Q7 LQ q0 q1 q2 q3 q4 q5 q6 q7 q8 t0 a0 a1 a2 a3 a4 a5 a6 a7 a8 b0 b1 b2 b3 b4 b5 b6 b7 b8
  obtain ⟨t0, ⟨a0, a1, a2, a3, a4, a5, a6, a7, a8⟩, ⟨b0, b1, b2, b3, b4, b5, b6, b7, b8⟩⟩ := T8.out
  go_wp2_with fail
  refine Calls.mono (CA.out _ HB8.out) ?_
  rintro e w9 ⟨rfl, hb⟩
  have T9 : Hid (T3 w.heap.size (.slice ac cols.length cc) a b w9) := T8.out.below hb
  have HB9 : Hid (Below w.heap.size w w9) := on HB8.out hb
  clear hb HB8 T8 CA t0 a0 a1 a2 a3 a4 a5 a6 a7 a8 b0 b1 b2 b3 b4 b5 b6 b7 b8
  obtain ⟨t0, ⟨a0, a1, a2, a3, a4, a5, a6, a7, a8⟩, ⟨b0, b1, b2, b3, b4, b5, b6, b7, b8⟩⟩ := T9.out
  by_cases za : ca = 0
  · subst za
    go_wp2_with fail
    refine Calls.mono (CB.out _ HB9.out) ?_
    rintro e w10 ⟨rfl, hb⟩
    have HB10 : Hid (Below w.heap.size w w10) := on HB9.out hb
    clear hb HB9 T9 CB t0 a0 a1 a2 a3 a4 a5 a6 a7 a8 b0 b1 b2 b3 b4 b5 b6 b7 b8
    by_cases zb : cb = 0
    · subst zb
      have HF : Hid ((cq == 0) = decide (x + y + 1 ≤ 15)) := HYES.out rfl rfl
      clear HYES HNO
      go_wp2_with fail
      go_ret
      exact ⟨ret_b (by rw [HF.out]; simp), HB10.out⟩
    · have zb' : (cb != 0) = true := by simpa using zb
      have HF : Hid (cq ≠ 0) := HNO.out (.inr zb)
      clear HYES HNO zb
      go_wp2_with fail
      go_ret
      exact ⟨ret_b (by simpa using HF.out), HB10.out⟩
  · have za' : (ca != 0) = true := by simpa using za
    have HF : Hid (cq ≠ 0) := HNO.out (.inl za)
    clear HYES HNO za CB
    go_wp2_with fail
    go_ret
    exact ⟨ret_b (by simpa using HF.out), HB9.out⟩
end Go.Proofs.Ytnfageikacfdoaa.Val
