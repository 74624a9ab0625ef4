/- TreeRanges: the walk. -/
import Derived.Test.YtooblmldmbbejaaU23
import Derived.Test.YtooblmldmbbejaaUO2
namespace Go.Proofs.Ytooblmldmbbejaa.Val
open Go Go.RowKit

set_option maxRecDepth 100000 in
set_option maxHeartbeats 16000000 in
theorem tranges_walk (v : Value) (xs : List AcP) (s : Sp) (w : World) (hin : ActsIn w v xs) (hok : ∀ a ∈ xs, a.k.s.size ≤ maxLen) (hso : s.ok) : Calls Try.prog 4 #[v, s.val] w fun e w' => e = .returned (.bool true) ∧ Below w.heap.size w w' := by
  obtain ⟨ao, cap, rfl, hmx⟩ := Lies.slice hin
  have HA : Hid (∀ w1, Calls Try.prog 7 #[] w1 fun e w' => e = .returned (.bool true) ∧ Below w1.heap.size w1 w') := awake_any
  have HN : Hid (∀ w1, Calls Try.prog 8 #[] w1 fun e w' => e = .returned (.pointer (some ⟨w1.heap.size, 0, none⟩)) ∧ Tr w' ⟨w1.heap.size, .slice none 0 0, .slice none 0 0, .slice none 0 0⟩ [] ∧ Below w1.heap.size w1 w') := tr_new
  have HIN : Hid (ActsIn w (.slice ao xs.length cap) xs ∧ ∀ a ∈ xs, a.k.s.size ≤ maxLen) := ⟨hin, hok⟩
  have HSO : Hid s.ok := hso
  clear hin hok hso
  unfold Sp.val
  go_enter Try.func4, Try.ntmps4
  go_wp2_with fail
  refine Calls.mono (HA.out _) ?_
  rintro e w0 ⟨rfl, hb⟩
  have HB0 : Hid (Below w.heap.size w w0) := back1 hb
  have HSB : Hid (SBox w0 w.heap.size s) := SBox.below (by constructor <;> simp [go_sem]) hb
  clear hb HA
  go_wp2_with fail
  refine Calls.mono (HN.out _) ?_
  rintro e w1 ⟨rfl, T1, hb⟩
  have HO1 : Hid (∃ l, QP w0 l (.slice none 0 0) l w1 ∧ l.length ≤ 0) := ⟨[], qp_new T1 hb, by simp⟩
  clear T1 hb HN
  go_wp2_with fail
  go_loopw [7, 8] (fun lv ai wr => ∃ j : Nat, j ≤ xs.length ∧ j ≤ 120 ∧ ai = .int .i64 j ∧ Hid (∃ l, QP w0 l lv l wr ∧ l.length ≤ j)) (fun _ ai _ => xs.length - (intOf ai).toNat)
  case atStart => exact ⟨0, Nat.zero_le _, by omega, rfl, HO1.out⟩
  case round =>
    obtain ⟨j, hj, hj2, rfl, HO⟩ := hrel
    clear HO1
    by_cases h1 : j < xs.length ∧ j < 120
    · obtain ⟨l, q, hl⟩ := HO.out
      have HIR : ActsIn wr (.slice ao xs.length cap) xs := HIN.out.1.below (on HB0.out (q.blw.mono (Nat.le_refl _)))
      obtain ⟨b, oo, rfl, c0, c1, c2, c3, c4⟩ := HIR.at j h1.1
      have hs := HIN.out.2 xs[j] (List.getElem_mem h1.1)
      have HCB : Hid (∀ w3, Below w0.heap.size w0 w3 → w3.cell? ⟨b, oo + j * 5 + 1, none⟩ = some (.bool xs[j].k.t) ∧ w3.cell? ⟨b, oo + j * 5 + 2, none⟩ = some (.int .i64 xs[j].k.n) ∧ w3.cell? ⟨b, oo + j * 5 + 3, none⟩ = some (.string xs[j].k.s)) := fun w3 hb => by
        have hR : ActsIn w3 (.slice (some ⟨b, oo, none⟩) xs.length cap) xs := HIN.out.1.below (on HB0.out hb)
        obtain ⟨b', oo', e, _, q1, q2, q3, q4⟩ := hR.at j h1.1
        cases e
        exact ⟨q1, q2, q3⟩
      have HD : Hid (Calls Try.prog 9 #[.pointer (some ⟨w0.heap.size, 0, none⟩), u7, .agg #[.bool xs[j].del, .bool xs[j].k.t, .int .i64 xs[j].k.n, .string xs[j].k.s, .int .i64 xs[j].v]] wr fun e w' => ∃ lv', e = .returned (.tuple #[lv', .bool true]) ∧ QP w0 (actP xs[j] l) lv' (actP xs[j] l) w') := done_any q (by omega) xs[j] hs
      have hla : (actP xs[j] l).length ≤ j + 1 := Nat.le_trans (actP_len q.rises.1 q.rises.2 xs[j]) (by omega)
      have hl1 : (actP xs[j] l).length ≤ 121 := by omega
      have HK : Hid (xs[j].k.s.size ≤ maxLen) := hs
      have HJ : Hid (j + 1 ≤ xs.length ∧ j < 120 ∧ (actP xs[j] l).length ≤ j + 1) := ⟨h1.1, h1.2, hla⟩
      have j0 : (0 : Int) ≤ (j : Int) := by omega
      have j1 : (j : Int) < (xs.length : Int) := by omega
      have j2 : (j : Int) < 120 := by omega
      have j3 : j ≤ 120 := by omega
      clear HIR q hl hs HO hla
      generalize xs[j] = x at *
      clear h1 hj hj2
      generalize actP x l = l1 at *
      go_wp2_with fail
      refine Calls.mono HD.out ?_
      rintro e w2 ⟨lv1, rfl, q1⟩
      have HQ1 : Hid (QP w0 l1 lv1 l1 w2) := q1
      clear q1 HD c0 c1 c2 c3 c4 HCB HK
      go_wp2_with fail
      go_roundw
      case rel => exact ⟨j + 1, HJ.out.1, by have := HJ.out.2.1; omega, by go_num, l1, HQ1.out, HJ.out.2.2⟩
      case measure => have := HJ.out.1; simp [intOf]; omega
    · by_cases h2 : j < xs.length
      · obtain rfl : j = 120 := by omega
        have j1 : ((120 : Nat) : Int) < (xs.length : Int) := by omega
        have j1' : (120 : Int) < (xs.length : Int) := by omega
        have j1'' : 120 < xs.length := by omega
        clear h1 h2 hj hj2
        obtain ⟨l, q, hl⟩ := HO.out
        have HQ1 : Hid (QP w0 l u7 l wr) := q
        have CR : Hid (∀ W, QP w0 l u7 l W → Calls Try.prog 15 #[u7, .agg #[.bool s.no, .bool s.hl, .bool s.ol, .bool s.lo.t, .int .i64 s.lo.n, .string s.lo.s, .bool s.hh, .bool s.oh, .bool s.hi.t, .int .i64 s.hi.n, .string s.hi.s]] W fun e w' => ∃ v, e = .returned v ∧ QP w0 l v (rangeP s l) w') := fun W q => (prange_any u7 l s W q.pairs (by omega) HSO.out (rights_size q.rises.2)).mono fun e w' ⟨v, he, hp, hb⟩ => ⟨v, he, q.turn hb hp.1 hp.2⟩
        have CP : Hid (∀ W v, QP w0 l v (rangeP s l) W → Calls Try.prog 14 #[.pointer (some ⟨w0.heap.size, 0, none⟩), .agg #[.bool s.no, .bool s.hl, .bool s.ol, .bool s.lo.t, .int .i64 s.lo.n, .string s.lo.s, .bool s.hh, .bool s.oh, .bool s.hi.t, .int .i64 s.hi.n, .string s.hi.s]] W fun e w' => ∃ p, e = .returned p ∧ PairsIn w' p (rangeP s l) ∧ QP w0 l v (rangeP s l) w') := fun W v q => qp_pairs q (by omega) s
        have CS : Hid (∀ W p v, PairsIn W p (rangeP s l) → QP w0 l v (rangeP s l) W → Calls Try.prog 13 #[p, v] W fun e w' => e = .returned (.bool true) ∧ QP w0 l v (rangeP s l) w') := fun W p v hp q => (psame_any p v _ W hp q.pairs).mono fun e w' ⟨he, hb⟩ => ⟨he, q.below hb⟩
        clear q hl HO
        obtain ⟨s0, s1, s2, s3, s4, s5, s6, s7, s8, s9, s10⟩ := HSB.out.below HQ1.out.blw
        go_wp2_with fail
        refine Calls.mono (CR.out _ HQ1.out) ?_
        rintro e w2 ⟨rv, rfl, q2⟩
        have HQ2 : Hid (QP w0 l rv (rangeP s l) w2) := q2
        clear q2 CR HQ1 s0 s1 s2 s3 s4 s5 s6 s7 s8 s9 s10
        obtain ⟨s0, s1, s2, s3, s4, s5, s6, s7, s8, s9, s10⟩ := HSB.out.below HQ2.out.blw
        go_wp2_with fail
        refine Calls.mono (CP.out _ _ HQ2.out) ?_
        rintro e w3 ⟨p3, rfl, hp, q2⟩
        have HQ3 : Hid (PairsIn w3 p3 (rangeP s l) ∧ QP w0 l rv (rangeP s l) w3) := ⟨hp, q2⟩
        clear hp q2 HQ2 s0 s1 s2 s3 s4 s5 s6 s7 s8 s9 s10
        go_wp2_with fail
        refine Calls.mono (CS.out _ _ _ HQ3.out.1 HQ3.out.2) ?_
        rintro e w4 ⟨rfl, q2⟩
        have HQ4 : Hid (QP w0 l rv (rangeP s l) w4) := q2
        clear q2 HQ3
        obtain ⟨s0, s1, s2, s3, s4, s5, s6, s7, s8, s9, s10⟩ := HSB.out.below HQ4.out.blw
        go_wp2_with fail
        refine Calls.mono (CP.out _ _ HQ4.out) ?_
        rintro e w5 ⟨p5, rfl, hp, q2⟩
        have HQ5 : Hid (PairsIn w5 p5 (rangeP s l) ∧ QP w0 l rv (rangeP s l) w5) := ⟨hp, q2⟩
        clear hp q2 HQ4 s0 s1 s2 s3 s4 s5 s6 s7 s8 s9 s10
        go_wp2_with fail
        refine Calls.mono (CS.out _ _ _ HQ5.out.1 HQ5.out.2) ?_
        rintro e w6 ⟨rfl, q2⟩
        have HQ6 : Hid (QP w0 l rv (rangeP s l) w6) := q2
        clear q2 HQ5
        have HE : Hid (Below w.heap.size w w6) := on HB0.out HQ6.out.blw
        clear CP CS HQ6 HSB
        go_wp2_with fail
        go_ret
        exact ⟨rfl, HE.out⟩
      · obtain rfl : j = xs.length := by omega
        have hj3 : xs.length ≤ 120 := hj2
        clear h1 h2 hj hj2
        obtain ⟨l, q, hl⟩ := HO.out
        have HQ1 : Hid (QP w0 l u7 l wr) := q
        have CR : Hid (∀ W, QP w0 l u7 l W → Calls Try.prog 15 #[u7, .agg #[.bool s.no, .bool s.hl, .bool s.ol, .bool s.lo.t, .int .i64 s.lo.n, .string s.lo.s, .bool s.hh, .bool s.oh, .bool s.hi.t, .int .i64 s.hi.n, .string s.hi.s]] W fun e w' => ∃ v, e = .returned v ∧ QP w0 l v (rangeP s l) w') := fun W q => (prange_any u7 l s W q.pairs (by omega) HSO.out (rights_size q.rises.2)).mono fun e w' ⟨v, he, hp, hb⟩ => ⟨v, he, q.turn hb hp.1 hp.2⟩
        have CP : Hid (∀ W v, QP w0 l v (rangeP s l) W → Calls Try.prog 14 #[.pointer (some ⟨w0.heap.size, 0, none⟩), .agg #[.bool s.no, .bool s.hl, .bool s.ol, .bool s.lo.t, .int .i64 s.lo.n, .string s.lo.s, .bool s.hh, .bool s.oh, .bool s.hi.t, .int .i64 s.hi.n, .string s.hi.s]] W fun e w' => ∃ p, e = .returned p ∧ PairsIn w' p (rangeP s l) ∧ QP w0 l v (rangeP s l) w') := fun W v q => qp_pairs q (by omega) s
        have CS : Hid (∀ W p v, PairsIn W p (rangeP s l) → QP w0 l v (rangeP s l) W → Calls Try.prog 13 #[p, v] W fun e w' => e = .returned (.bool true) ∧ QP w0 l v (rangeP s l) w') := fun W p v hp q => (psame_any p v _ W hp q.pairs).mono fun e w' ⟨he, hb⟩ => ⟨he, q.below hb⟩
        clear q hl HO
        obtain ⟨s0, s1, s2, s3, s4, s5, s6, s7, s8, s9, s10⟩ := HSB.out.below HQ1.out.blw
        go_wp2_with fail
        refine Calls.mono (CR.out _ HQ1.out) ?_
        rintro e w2 ⟨rv, rfl, q2⟩
        have HQ2 : Hid (QP w0 l rv (rangeP s l) w2) := q2
        clear q2 CR HQ1 s0 s1 s2 s3 s4 s5 s6 s7 s8 s9 s10
        obtain ⟨s0, s1, s2, s3, s4, s5, s6, s7, s8, s9, s10⟩ := HSB.out.below HQ2.out.blw
        go_wp2_with fail
        refine Calls.mono (CP.out _ _ HQ2.out) ?_
        rintro e w3 ⟨p3, rfl, hp, q2⟩
        have HQ3 : Hid (PairsIn w3 p3 (rangeP s l) ∧ QP w0 l rv (rangeP s l) w3) := ⟨hp, q2⟩
        clear hp q2 HQ2 s0 s1 s2 s3 s4 s5 s6 s7 s8 s9 s10
        go_wp2_with fail
        refine Calls.mono (CS.out _ _ _ HQ3.out.1 HQ3.out.2) ?_
        rintro e w4 ⟨rfl, q2⟩
        have HQ4 : Hid (QP w0 l rv (rangeP s l) w4) := q2
        clear q2 HQ3
        obtain ⟨s0, s1, s2, s3, s4, s5, s6, s7, s8, s9, s10⟩ := HSB.out.below HQ4.out.blw
        go_wp2_with fail
        refine Calls.mono (CP.out _ _ HQ4.out) ?_
        rintro e w5 ⟨p5, rfl, hp, q2⟩
        have HQ5 : Hid (PairsIn w5 p5 (rangeP s l) ∧ QP w0 l rv (rangeP s l) w5) := ⟨hp, q2⟩
        clear hp q2 HQ4 s0 s1 s2 s3 s4 s5 s6 s7 s8 s9 s10
        go_wp2_with fail
        refine Calls.mono (CS.out _ _ _ HQ5.out.1 HQ5.out.2) ?_
        rintro e w6 ⟨rfl, q2⟩
        have HQ6 : Hid (QP w0 l rv (rangeP s l) w6) := q2
        clear q2 HQ5
        have HE : Hid (Below w.heap.size w w6) := on HB0.out HQ6.out.blw
        clear CP CS HQ6 HSB
        go_wp2_with fail
        go_ret
        exact ⟨rfl, HE.out⟩
end Go.Proofs.Ytooblmldmbbejaa.Val
/- The statement of TreeRanges (P5.2): the keys of a tree within any span are the document's; a span can be gone through again. No conditions. -/
namespace Go.Proofs.Ytooblmldmbbejaa.Val
open Go.ChangeShapes Go.WideShapes Go.ChangeAt Go.RowKit
open Go.ChangeMaps (open_string)

set_option maxRecDepth 100000 in
theorem tranges_lifted (os : Os) (started : os.Started) (H : Type) (enc : TypeId × Value → H) :
    ReturnsInHanded {} Try.checked os 4 .any (Rows.treeRangesSpec.pre6 enc Try.prog Try.f4 Rows.treeRangesRow.domain false) (Rows.treeRangesSpec.post enc Try.prog Try.f4 false true false false) := by
  refine returnsInHanded_of_change (C := Try.checked) own started (by kernel_rfl) Try.func4
    (ChangeSpec.witness6 (enc := enc) (C := Try.checked) false ⟨#[], #[.slice none 0 0, .agg #[.bool false, .bool false, .bool false, .bool false, .int .i64 0, .string ⟨#[]⟩, .bool false, .bool false, .bool false, .int .i64 0, .string ⟨#[]⟩]], []⟩ 8 (by kernel_rfl) (by kernel_rfl) (by kernel_rfl) (by kernel_rfl)) ?_
  intro W base args ds gs before hval0 hW _ _
  have hval : ∀ (j : Nat) t v, Try.f4.params[j]? = some t → args[j]? = some v → Value.okWide Try.prog W .any base t v := hval0
  have hW' := hW
  obtain ⟨p, q, hA0, hV, rfl, hfz, hnd⟩ := hW
  have hA : DataW.TrodAll enc Try.prog W 0 (fun _ => true) true Try.f4.params.toList args.toList ds p := hA0
  rw [Try.params4] at hA hval
  obtain ⟨v0, vs0, d0, ds0, p0, q0, hargs, rfl, rfl, h0, r0⟩ := trodAll_cons hA
  obtain ⟨v1, vs1, d1, ds1, p1, q1, rfl, rfl, rfl, h1, r1⟩ := trodAll_cons r0
  obtain ⟨rfl, rfl, rfl⟩ := trodAll_nil r1
  obtain rfl : args = #[v0, v1] := by cases args; simp_all
  obtain ⟨rfl, rfl⟩ := trodVars_none hV
  have k0 := h0
  have lt0 : ∀ x ∈ p0, x.block < W.heap.size := by obtain ⟨m, hm⟩ := k0; exact DataW.trod_lt m _ _ _ hm
  obtain ⟨a0, len0, cap0, rfl⟩ := okWide_slice Try.underlying22 (hval 0 22 v0 rfl rfl)
  obtain ⟨l0, w0, o0⟩ := open_acts h0 rfl
  have k1 := h1
  have lt1 : ∀ x ∈ p1, x.block < W.heap.size := by obtain ⟨m, hm⟩ := k1; exact DataW.trod_lt m _ _ _ hm
  obtain ⟨x1, rfl, o1⟩ := open_span (hval 1 40 v1 rfl rfl) h1
  clear hA0 hval0
  refine (tranges_walk _ l0 x1 W w0 o0 o1).mono fun e W' ⟨he, bel⟩ => ?_
  subst he
  exact ⟨_, rfl, _, _, _, [], _, [], hW', trodAll_mk1 (shut_bool Try.underlying4 _), (trodAll_cons_mk (Below.trod laidOut (by kernel_rfl) (of_decide_eq_true (by kernel_rfl)) k0 bel lt0) (trodAll_cons_mk (Below.trod laidOut (by kernel_rfl) (of_decide_eq_true (by kernel_rfl)) k1 bel lt1) trodAll_mk0)), rfl, bel.frame _, fun h => by cases h⟩

/-- The statement. -/
theorem tranges_said : Rows.TreeRangesSaid :=
  OpenClaim.holds_of_wide 4 Try.f4 rfl rfl rfl rfl rfl rfl rfl ⟨rfl, rfl, rfl, rfl, rfl⟩ rfl rfl rfl rfl rfl (by kernel_rfl) Try.func4 (by kernel_rfl)
    (of_decide_eq_true (by kernel_rfl)) (by unfold Func.isWrapper; first | (rw [if_pos (by decide +kernel)]; kernel_rfl) | (rw [if_neg (by decide +kernel)]; exact ⟨rfl, rfl⟩))
    (fun os started H enc _ => tranges_lifted os started H enc)
end Go.Proofs.Ytooblmldmbbejaa.Val
