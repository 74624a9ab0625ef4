/- The walk of UndoMeets. -/
import Derived.Test.YtbfoplaccalegaaUndoMetP
import Derived.Test.YtbfoplaccalegaaEqV
import Derived.BigRegion
import Derived.BigQuiet
import Derived.Deep.QuietTactic
import Derived.WalkSmall
namespace Go.Proofs.Ytbfoplaccalegaa.Val
open Go Go.RowKit

theorem bits_and3 : ∀ k, k < 64 → bits BinOp.and IntKind.i64 ((k : Nat) : Int) 3 = ((k % 4 : Nat) : Int) := by decide +kernel
set_option maxRecDepth 100000 in
theorem meets_a (a0 : Option Addr) (c0 : Nat) (l : List En) (n : Int) (W : World) (h1 : 60 < (l.length : Int)) : Calls Try.prog 7 #[.slice a0 l.length c0, .int .i64 n] W fun x w' => x = .returned (.bool true) ∧ Below W.heap.size W w' := by
  have HA : Hid (∀ w1, Calls Try.prog 8 #[] w1 fun e w' => e = .returned (.bool true) ∧ Below w1.heap.size w1 w') := awake_any
  go_enter Try.func7, Try.ntmps7
  go_wp2_with fail
  refine Calls.mono (HA.out _) ?_
  rintro x w1 ⟨rfl, hb⟩
  have HB1 : Hid (Below W.heap.size W w1) := hb
  clear hb HA
  go_wp2_with fail
  go_ret
  exact ⟨rfl, HB1.out⟩
set_option maxRecDepth 100000 in
theorem meets_b (a0 : Option Addr) (c0 : Nat) (l : List En) (n : Int) (W : World) (h1 : (l.length : Int) ≤ 60) (h2 : n < 1) : Calls Try.prog 7 #[.slice a0 l.length c0, .int .i64 n] W fun x w' => x = .returned (.bool true) ∧ Below W.heap.size W w' := by
  have HA : Hid (∀ w1, Calls Try.prog 8 #[] w1 fun e w' => e = .returned (.bool true) ∧ Below w1.heap.size w1 w') := awake_any
  go_enter Try.func7, Try.ntmps7
  go_wp2_with fail
  refine Calls.mono (HA.out _) ?_
  rintro x w1 ⟨rfl, hb⟩
  have HB1 : Hid (Below W.heap.size W w1) := hb
  clear hb HA
  go_wp2_with fail
  go_ret
  exact ⟨rfl, HB1.out⟩
set_option maxRecDepth 100000 in
theorem meets_c (a0 : Option Addr) (c0 : Nat) (l : List En) (n : Int) (W : World) (h1 : (l.length : Int) ≤ 60) (h2 : 1 ≤ n) (h3 : 3 < n) : Calls Try.prog 7 #[.slice a0 l.length c0, .int .i64 n] W fun x w' => x = .returned (.bool true) ∧ Below W.heap.size W w' := by
  have HA : Hid (∀ w1, Calls Try.prog 8 #[] w1 fun e w' => e = .returned (.bool true) ∧ Below w1.heap.size w1 w') := awake_any
  go_enter Try.func7, Try.ntmps7
  go_wp2_with fail
  refine Calls.mono (HA.out _) ?_
  rintro x w1 ⟨rfl, hb⟩
  have HB1 : Hid (Below W.heap.size W w1) := hb
  clear hb HA
  go_wp2_with fail
  go_ret
  exact ⟨rfl, HB1.out⟩
set_option maxHeartbeats 2000000 in
set_option maxRecDepth 100000 in
theorem meets_main (a0 : Option Addr) (c0 : Nat) (l : List En) (n : Int) (W : World) (i0 : Lies W (.slice a0 l.length c0) l.length (ecells l)) (g0 : ∀ e ∈ l, GoodE W e) (hl : l.length ≤ 60) (hn : okn n = true) : Calls Try.prog 7 #[.slice a0 l.length c0, .int .i64 n] W fun x w' => x = .returned (.bool true) ∧ Below W.heap.size W w' := by
  have HA : Hid (∀ w1, Calls Try.prog 8 #[] w1 fun e w' => e = .returned (.bool true) ∧ Below w1.heap.size w1 w') := awake_any
  have HI : Hid (Lies W (.slice a0 l.length c0) l.length (ecells l) ∧ ∀ e ∈ l, GoodE W e) := ⟨i0, g0⟩
  have HS : Hid (l.length ≤ 60 ∧ okn n = true) := ⟨hl, hn⟩
  have HF : Hid _ := mt_facts l n hn hl
  have h1 : (l.length : Int) ≤ 60 := by omega
  have h2 : 1 ≤ n := (okn_yes hn).1
  have h3 : n ≤ 3 := (okn_yes hn).2
  clear i0 g0 hl hn
  go_enter Try.func7, Try.ntmps7
  go_wp2_with fail
  refine Calls.mono (HA.out _) ?_
  rintro x w1 ⟨rfl, hb⟩
  have HB1 : Hid (Below W.heap.size W w1) := hb
  clear hb HA
  go_wp2_with fail
  clear h1 h2 h3
  refine Calls.mono (new_q W w1 60 HB1.out) ?_
  rintro x w2 ⟨p, rfl, q⟩
  have HQ2 : Hid (QU W w2 p (newL 60) []) := q
  clear q HB1
  go_wp2_with fail
  refine Calls.mono (save_q HQ2.out n HS.out.2) ?_
  rintro x w3 ⟨rfl, q⟩
  have HQ3 : Hid (QU W w3 p (mt l n 0) []) := q
  clear q HQ2
  go_wp2_with fail
  go_loopw [7] (fun i wr => ∃ k : Nat, k ≤ l.length ∧ i = .int .i64 k ∧ Hid (QU W wr p (mt l n k) [])) (fun i _ => l.length - (intOf i).toNat)
  case atStart => exact ⟨0, Nat.zero_le _, rfl, HQ3⟩
  case round =>
    obtain ⟨k, hk, rfl, HQ⟩ := hrel
    clear HQ3
    rcases Nat.lt_or_ge k l.length with h1 | h1
    · have i1 : (k : Int) < l.length := by omega
      have i2 : IntKind.i64.wrap ((k : Int) + 1) = k + 1 := by have := HS.out.1; rw [IntKind.wrap_i64]; omega
      obtain ⟨b, o, rfl, d0, d1, d2, d3, d4⟩ := ents_at (HI.out.1.below HQ.out.blw) k h1
      have ge := HI.out.2 _ (List.getElem_mem h1)
      have hE := mt_next l n k h1
      generalize l[k] = e at *
      have hf := HF.out k hk
      have HP : Hid _ := push_q HQ.out e ge.1 ge.2.1 ge.2.2 (by rw [hf.2.2.2]; have := mets_len (l.take k); rw [List.length_take] at this; have := HS.out.1; omega)
      have HJ : Hid (k < l.length) := h1
      have HG : Hid (((mt l n k).push e).get n = some 0) := ((push_facts (mt l n k) e (by have := HS.out.1; omega)).2.2 n).trans hf.1
      have HE : Hid _ := hE
      have hb3 := bits_and3 k (by have := HS.out.1; omega)
      have i3 : ((k : Int) + 1).toNat = k + 1 := by omega
      by_cases h4 : k % 4 = 3
      · rw [h4] at hb3
        have HE4 : Hid (mt l n (k + 1) = ((mt l n k).push e).back 0) := HE.out.trans (by rw [mtS, if_pos h4])
        clear HQ hk ge hf h4 HE hE h1
        go_wp2_with fail
        refine Calls.mono HP.out ?_
        rintro x w4 ⟨rfl, q⟩
        have HQ4 : Hid (QU W w4 p ((mt l n k).push e) []) := q
        clear q HP d0 d1 d2 d3 d4
        go_wp2_with fail
        refine Calls.mono (back_q HQ4.out n HS.out.2 0 HG.out (Nat.zero_le _)) ?_
        rintro x w5 ⟨v, rfl, q⟩
        rw [← HE4.out] at q
        have HQ5 : Hid (QU W w5 p (mt l n (k + 1)) []) := q.less (by simp)
        clear q HQ4 HG HE4 hb3
        go_wp2_with fail
        go_roundw
        case rel => exact ⟨k + 1, HJ.out, by simp, HQ5⟩
        case measure => have := HJ.out; simp [intOf]; omega
      · have HE4 : Hid (mt l n (k + 1) = (mt l n k).push e) := HE.out.trans (by rw [mtS, if_neg h4])
        have hb4 : (bits BinOp.and IntKind.i64 (k : Int) 3 == 3) = false := by rw [hb3]; simp; omega
        clear HQ hk ge hf h4 HE hb3 hE h1
        go_wp2_with fail
        refine Calls.mono HP.out ?_
        rintro x w4 ⟨rfl, q⟩
        rw [← HE4.out] at q
        have HQ4 : Hid (QU W w4 p (mt l n (k + 1)) []) := q
        clear q HP d0 d1 d2 d3 d4 HG HE4
        go_wp2_with fail
        go_roundw
        case rel => exact ⟨k + 1, HJ.out, by simp, HQ4⟩
        case measure => have := HJ.out; simp [intOf]; omega
    · obtain rfl : k = l.length := by omega
      have hf := HF.out l.length (Nat.le_refl _)
      have hm : (mt l n l.length).met = mets l := by rw [hf.2.2.2, List.take_length]
      have hm1 := mets_len l
      have HT : Hid _ := touched_q HQ.out (by rw [hm]; have := HS.out.1; omega)
      rw [hm] at HT
      have HM : Hid ((mets l).length ≤ 60 ∧ (mt l n l.length).room = 60) := ⟨by have := HS.out.1; omega, hf.2.2.1⟩
      clear HQ hk h1 hf hm hm1
      go_wp2_with fail
      refine Calls.mono HT.out ?_
      rintro x w4 ⟨v, rfl, q⟩
      obtain ⟨av, cv, rfl, -⟩ := q.slice (v := v) (l := (mets l).map touE) (by simp)
      rw [List.length_map] at q ⊢
      have HQ4 : Hid (QU W w4 p (mt l n l.length) [(.slice av (mets l).length cv, (mets l).map touE)]) := q
      clear q HT
      go_wp2_with fail
      go_loopw [9, 10] (fun kk i wr => ∃ k : Nat, k ≤ l.length ∧ i = .int .i64 k ∧ kk = .int .i64 ((mets (l.take k)).length : Nat) ∧ Hid (QU W wr p (mt l n l.length) [(.slice av (mets l).length cv, (mets l).map touE)])) (fun _ i _ => l.length - (intOf i).toNat)
      case atStart => exact ⟨0, Nat.zero_le _, rfl, rfl, HQ4⟩
      case round =>
        obtain ⟨k, hk, rfl, rfl, HQ⟩ := hrel
        clear HQ4
        rcases Nat.lt_or_ge k l.length with h1 | h1
        · have i1 : (k : Int) < l.length := by omega
          have i2 : IntKind.i64.wrap ((k : Int) + 1) = k + 1 := by have := HS.out.1; rw [IntKind.wrap_i64]; omega
          have i3 : ((k : Int) + 1).toNat = k + 1 := by omega
          have HK : Hid (∀ w', Below W.heap.size W w' → ∃ b o, a0 = some ⟨b, o, none⟩ ∧ w'.cell? ⟨b, o + k * 5, none⟩ = some (.int .i64 l[k].t) ∧ w'.cell? ⟨b, o + k * 5 + 1, none⟩ = some (.bool l[k].k.t) ∧ w'.cell? ⟨b, o + k * 5 + 2, none⟩ = some (.int .i64 l[k].k.n) ∧ w'.cell? ⟨b, o + k * 5 + 3, none⟩ = some (.string l[k].k.s)) := fun w' hb => by
            obtain ⟨b, o, e0, d0, d1, d2, d3, _⟩ := ents_at (HI.out.1.below hb) k h1
            exact ⟨b, o, e0, d0, d1, d2, d3⟩
          have HOld : Hid (anyS (l.take k) l[k].sp = true → mets (l.take (k + 1)) = mets (l.take k)) := mets_old l k h1
          have HNew : Hid (anyS (l.take k) l[k].sp = false → ∃ hl : (mets (l.take k)).length < (mets l).length, (mets l)[(mets (l.take k)).length] = l[k].sp ∧ (mets (l.take (k + 1))).length = (mets (l.take k)).length + 1) := mets_at l k h1
          generalize l[k] = e at *
          have HJ : Hid (k < l.length) := h1
          have HKl : Hid (k ≤ l.length) := hk
          clear hk h1
          go_wp2_with fail
          go_loopw [11, 12] (fun a i wr => ∃ j : Nat, j ≤ k ∧ i = .int .i64 j ∧ a = .bool (anyS (l.take j) e.sp) ∧ Hid (QU W wr p (mt l n l.length) [(.slice av (mets l).length cv, (mets l).map touE)])) (fun _ i _ => k - (intOf i).toNat)
          case atStart => exact ⟨0, Nat.zero_le _, rfl, rfl, HQ⟩
          case round =>
            obtain ⟨j, hj, rfl, rfl, HQ2⟩ := hrel
            clear HQ
            rcases Nat.lt_or_ge j k with h2 | h2
            · have h3 : j < l.length := Nat.lt_trans h2 HJ.out
              have i4 : (j : Int) < k := by omega
              have i5 : (j : Int) < l.length := by omega
              have i6 : IntKind.i64.wrap ((j : Int) + 1) = j + 1 := by have := HS.out.1; rw [IntKind.wrap_i64]; omega
              have i7 : ((j : Int) + 1).toNat = j + 1 := by omega
              obtain ⟨b, o, rfl, c0, c1, c2, c3⟩ := HK.out _ HQ2.out.blw
              obtain ⟨b', o', e0, d0, d1, d2, d3, -⟩ := ents_at (HI.out.1.below HQ2.out.blw) j h3
              cases e0
              have hN := anyS_next l e.sp j h3
              have hql := eql_V l[j].k e.k
              generalize l[j] = f at *
              have hN2 : anyS (l.take (j + 1)) e.sp = (anyS (l.take j) e.sp || (f.t == e.t && eqV f.k e.k)) := hN
              have HJ2 : Hid (j < k) := h2
              clear hN hj h2 h3
              generalize anyS (l.take j) e.sp = aj at *
              cases aj
              · by_cases h4 : f.t = e.t
                · rw [h4] at d0
                  have HX : Hid (anyS (l.take (j + 1)) e.sp = eqV f.k e.k) := hN2.trans (by rw [h4]; simp)
                  clear hN2 h4
                  go_wp2
                  go_quiet (fail)
                  go_wp2
                  go_roundw
                  case rel => exact ⟨j + 1, HJ2.out, by simp, by rw [HX.out], HQ2.out.below (below_drewN (Below.refl _ _) _)⟩
                  case measure => have := HJ2.out; simp [intOf]; omega
                · have HX : Hid (anyS (l.take (j + 1)) e.sp = false) := hN2.trans (by rw [show (f.t == e.t) = false by simpa using h4]; simp)
                  have h5 : (f.t == e.t) = false := by simpa using h4
                  clear hN2 h4
                  go_wp2
                  go_quiet (fail)
                  go_wp2
                  go_roundw
                  case rel => exact ⟨j + 1, HJ2.out, by simp, by rw [HX.out], HQ2.out.below (below_drewN (Below.refl _ _) _)⟩
                  case measure => have := HJ2.out; simp [intOf]; omega
              · have HX : Hid (anyS (l.take (j + 1)) e.sp = true) := hN2.trans (by simp)
                clear hN2
                go_wp2
                go_quiet (fail)
                go_wp2
                go_roundw
                case rel => exact ⟨j + 1, HJ2.out, by simp, by rw [HX.out], HQ2.out.below (below_drewN (Below.refl _ _) _)⟩
                case measure => have := HJ2.out; simp [intOf]; omega
            · obtain rfl : j = k := by omega
              clear hj h2
              cases ha : anyS (l.take j) e.sp
              · obtain ⟨hl, hat, hlen⟩ := HNew.out ha
                have i4 : (((mets (l.take j)).length : Nat) : Int) < (mets l).length := by omega
                have i5 : IntKind.i64.wrap (((mets (l.take j)).length : Nat) + 1 : Int) = ((mets (l.take j)).length : Nat) + 1 := by have := HM.out.1; rw [IntKind.wrap_i64]; omega
                obtain ⟨b, o, rfl, c0, c1, c2, c3⟩ := HK.out _ HQ2.out.blw
                obtain ⟨bx, ox, rx, rfl, x0, x1, x2, x3, -⟩ := HQ2.out.at (l := (mets l).map touE) (c := cv) (ao := av) (n := (mets l).length) (by simp) (mets (l.take j)).length (by simpa using hl)
                simp only [List.getElem_map, hat, touE, En.sp] at x0 x1 x2 x3
                have hql := neq_V e.k e.k
                simp only [show eqV e.k e.k = true from eqV_iff.2 rfl, Bool.not_true] at hql
                have HL : Hid (((mets (l.take (j + 1))).length : Int) = ((mets (l.take j)).length : Int) + 1) := congrArg Int.ofNat hlen
                have i7 : decide ((mets l).length ≤ (mets (l.take j)).length) = false := decide_eq_false (by omega)
                clear hl hat hlen ha HNew HOld
                generalize (mets (l.take j)).length = y at *
                go_wp2
                go_quiet (fail)
                go_wp2
                go_roundw
                case rel => exact ⟨j + 1, HJ.out, by simp, by rw [HL.out], HQ2.out.below (below_drewN (Below.refl _ _) _)⟩
                case measure => have := HJ.out; simp [intOf]; omega
              · have HL : Hid _ := HOld.out ha
                clear HNew HOld ha
                go_wp2
                go_roundw
                case rel => exact ⟨j + 1, HJ.out, by simp, by rw [HL.out], HQ2.out⟩
                case measure => have := HJ.out; simp [intOf]; omega
        · obtain rfl : k = l.length := by omega
          rw [List.take_length]
          have HQ5 : Hid _ := all_q HQ.out
          rw [HM.out.2] at HQ5
          clear HQ hk h1
          go_wp2_with fail
          refine Calls.mono HQ5.out ?_
          rintro x w6 ⟨v6, rfl, q⟩
          have HQ6 : Hid (QU W w6 p (newL 60) []) := q.less (by simp)
          clear q HQ5
          go_wp2_with fail
          refine Calls.mono (touched_q HQ6.out (Nat.zero_le _)) ?_
          rintro x w7 ⟨v7, rfl, q⟩
          obtain ⟨a7, c7, rfl, -⟩ := q.slice (v := v7) (l := []) (by simp [newL])
          have HZ : Hid (Below W.heap.size W w7) := q.blw
          rw [show ([] : List En).length = 0 from rfl]
          clear q HQ6
          go_wp2_with fail
          go_ret
          exact ⟨rfl, HZ.out⟩
theorem meets_law {a0 : Option Addr} {n0 c0 : Nat} (l : List En) (n : Int) (W : World) (i0 : Lies W (.slice a0 n0 c0) l.length (ecells l)) (g0 : ∀ e ∈ l, GoodE W e) :
    Calls Try.prog 7 #[.slice a0 n0 c0, .int .i64 n] W fun x w' => x = .returned (.bool true) ∧ Below W.heap.size W w' := by
  obtain rfl : n0 = l.length := by obtain ⟨_, _, e, _⟩ := i0; cases e; rfl
  by_cases h1 : l.length ≤ 60
  · cases hn : okn n
    · rcases okn_no hn with h | h
      · exact meets_b a0 c0 l n W (by omega) h
      · exact meets_c a0 c0 l n W (by omega) (by omega) h
    · exact meets_main a0 c0 l n W i0 g0 h1 hn
  · exact meets_a a0 c0 l n W (by omega)
end Go.Proofs.Ytbfoplaccalegaa.Val
