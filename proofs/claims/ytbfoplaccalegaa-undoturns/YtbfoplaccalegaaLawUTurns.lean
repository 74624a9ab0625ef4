/- The walk of UndoTurns. -/
import Derived.Test.YtbfoplaccalegaaUndoPushes
import Derived.Test.YtbfoplaccalegaaEqual
import Derived.Test.YtbfoplaccalegaaEqV
namespace Go.Proofs.Ytbfoplaccalegaa.Val
open Go Go.RowKit

def tuA (l0 : List En) : Lg := pushAll (newL 60) l0
def tuB (l0 : List En) (n : Int) : Lg := (tuA l0).put n (some l0.length)
def tuC (l0 l1 : List En) (n : Int) : Lg := pushAll (tuB l0 n) l1
def tuD (l0 l1 : List En) (n : Int) : Lg := (tuC l0 l1 n).back l0.length
def tuE (l0 l1 : List En) (n : Int) : Lg := (tuD l0 l1 n).back l0.length
/-- What the log holds, step by step. -/
structure TuF (l0 l1 : List En) (n : Int) : Prop where
  aE : ∀ k, k < l0.length → pushE (pushAll (newL 60) (l0.take k)) = 0
  aM : ∀ k, k < l0.length → (pushAll (newL 60) (l0.take k)).met.length ≤ 1000
  aL : (tuA l0).es.length = l0.length
  bE : ∀ k, k < l1.length → pushE (pushAll (tuB l0 n) (l1.take k)) = 0
  bM : ∀ k, k < l1.length → (pushAll (tuB l0 n) (l1.take k)).met.length ≤ 1000
  cG : (tuC l0 l1 n).get n = some l0.length
  cL : l0.length ≤ (tuC l0 l1 n).es.length
  cD : (tuC l0 l1 n).es.drop l0.length = l1
  dG : (tuD l0 l1 n).get n = some l0.length
  dL : l0.length ≤ (tuD l0 l1 n).es.length
  dD : (tuD l0 l1 n).es.drop l0.length = []
  eE : (tuE l0 l1 n).es = l0
  eR : (tuE l0 l1 n).room = 60
theorem tu_facts (l0 l1 : List En) (n : Int) (hn : okn n = true) (hl : l0.length + l1.length ≤ 60) : TuF l0 l1 n := by
  have pa := fun k (hk : k < l0.length) => pushAll_facts (newL 60) (l0.take k) (by simp [newL]; omega)
  obtain ⟨a1, a2, a3, a4⟩ := pushAll_facts (newL 60) l0 (by simp [newL]; omega)
  have aes : (tuA l0).es = l0 := a1
  obtain ⟨p1, p2, p3⟩ := Lg.put_es (tuA l0) n (some l0.length)
  have bes : (tuB l0 n).es = l0 := p1.trans aes
  have brm : (tuB l0 n).room = 60 := p3.trans a2
  have bmt : (tuB l0 n).met.length ≤ l0.length := by
    have h2 : (tuB l0 n).met = (tuA l0).met := p2
    have h3 : (tuA l0).met.length ≤ (newL 60).met.length + l0.length := a4
    rw [h2]; simp [newL] at h3; exact h3
  have pb := fun k (hk : k < l1.length) => pushAll_facts (tuB l0 n) (l1.take k) (by rw [bes, brm, List.length_take]; omega)
  obtain ⟨c1, c2, c3, c4⟩ := pushAll_facts (tuB l0 n) l1 (by rw [bes, brm]; exact hl)
  have ces : (tuC l0 l1 n).es = l0 ++ l1 := c1.trans (by rw [bes])
  have cg : (tuC l0 l1 n).get n = some l0.length := (c3 n).trans (get_put _ n hn _)
  have des : (tuD l0 l1 n).es = l0 := by show (tuC l0 l1 n).es.take l0.length = l0; rw [ces, List.take_left]
  have dg : (tuD l0 l1 n).get n = some l0.length := (get_back _ _ _).trans (by rw [cg]; exact clr_not (Nat.lt_irrefl _))
  refine ⟨fun k hk => ?_, fun k hk => ?_, by rw [aes], fun k hk => ?_, fun k hk => ?_, cg, by rw [ces]; simp, by rw [ces, List.drop_left], dg, by rw [des]; exact Nat.le_refl _, by rw [des, List.drop_length], ?_, c2.trans brm⟩
  · obtain ⟨b1, b2, _, _⟩ := pa k hk
    rw [pushE, b1, b2, if_pos (by simp [newL]; omega)]
  · obtain ⟨_, _, _, b4⟩ := pa k hk
    rw [List.length_take] at b4
    have : (newL 60).met.length = 0 := rfl
    omega
  · obtain ⟨b1, b2, _, _⟩ := pb k hk
    rw [pushE, b1, b2, bes, brm, if_pos (by simp; omega)]
  · obtain ⟨_, _, _, b4⟩ := pb k hk
    rw [List.length_take] at b4
    omega
  · show (tuD l0 l1 n).es.take l0.length = l0
    rw [des, List.take_length]
set_option maxRecDepth 100000 in
set_option maxHeartbeats 2000000 in
theorem turns_a (a0 a1 : Option Addr) (c0 c1 : Nat) (l0 l1 : List En) (n : Int) (W : World) (s : Int) (hs : IntKind.i64.wrap ((l0.length : Int) + l1.length) = s) (h1 : 60 < s) :
    Calls Try.prog 4 #[.slice a0 l0.length c0, .slice a1 l1.length c1, .int .i64 n] W fun x w' => x = .returned (.bool true) ∧ Below W.heap.size W w' := by
  have HA : Hid (∀ w1, Calls Try.prog 8 #[] w1 fun e w' => e = .returned (.bool true) ∧ Below w1.heap.size w1 w') := awake_any
  go_enter Try.func4, Try.ntmps4
  go_wp2_with fail
  refine Calls.mono (HA.out _) ?_
  rintro x w1 ⟨rfl, hb⟩
  have HB1 : Hid (Below W.heap.size W w1) := hb
  clear hb HA
  go_wp2_with fail
  go_ret
  exact ⟨rfl, HB1.out⟩
set_option maxRecDepth 100000 in
set_option maxHeartbeats 2000000 in
theorem turns_b (a0 a1 : Option Addr) (c0 c1 : Nat) (l0 l1 : List En) (n : Int) (W : World) (s : Int) (hs : IntKind.i64.wrap ((l0.length : Int) + l1.length) = s) (h1 : s ≤ 60) (h2 : 60 < (l0.length : Int)) :
    Calls Try.prog 4 #[.slice a0 l0.length c0, .slice a1 l1.length c1, .int .i64 n] W fun x w' => x = .returned (.bool true) ∧ Below W.heap.size W w' := by
  have HA : Hid (∀ w1, Calls Try.prog 8 #[] w1 fun e w' => e = .returned (.bool true) ∧ Below w1.heap.size w1 w') := awake_any
  go_enter Try.func4, Try.ntmps4
  go_wp2_with fail
  refine Calls.mono (HA.out _) ?_
  rintro x w1 ⟨rfl, hb⟩
  have HB1 : Hid (Below W.heap.size W w1) := hb
  clear hb HA
  go_wp2_with fail
  go_ret
  exact ⟨rfl, HB1.out⟩
set_option maxRecDepth 100000 in
set_option maxHeartbeats 2000000 in
theorem turns_c (a0 a1 : Option Addr) (c0 c1 : Nat) (l0 l1 : List En) (n : Int) (W : World) (s : Int) (hs : IntKind.i64.wrap ((l0.length : Int) + l1.length) = s) (h1 : s ≤ 60) (h2 : (l0.length : Int) ≤ 60) (h3 : 60 < (l1.length : Int)) :
    Calls Try.prog 4 #[.slice a0 l0.length c0, .slice a1 l1.length c1, .int .i64 n] W fun x w' => x = .returned (.bool true) ∧ Below W.heap.size W w' := by
  have HA : Hid (∀ w1, Calls Try.prog 8 #[] w1 fun e w' => e = .returned (.bool true) ∧ Below w1.heap.size w1 w') := awake_any
  go_enter Try.func4, Try.ntmps4
  go_wp2_with fail
  refine Calls.mono (HA.out _) ?_
  rintro x w1 ⟨rfl, hb⟩
  have HB1 : Hid (Below W.heap.size W w1) := hb
  clear hb HA
  go_wp2_with fail
  go_ret
  exact ⟨rfl, HB1.out⟩
set_option maxRecDepth 100000 in
set_option maxHeartbeats 2000000 in
theorem turns_d (a0 a1 : Option Addr) (c0 c1 : Nat) (l0 l1 : List En) (n : Int) (W : World) (h1 : 60 < (l0.length : Int) + l1.length) (h2 : (l0.length : Int) ≤ 60) (h3 : (l1.length : Int) ≤ 60) :
    Calls Try.prog 4 #[.slice a0 l0.length c0, .slice a1 l1.length c1, .int .i64 n] W fun x w' => x = .returned (.bool true) ∧ Below W.heap.size W w' := by
  have HA : Hid (∀ w1, Calls Try.prog 8 #[] w1 fun e w' => e = .returned (.bool true) ∧ Below w1.heap.size w1 w') := awake_any
  go_enter Try.func4, Try.ntmps4
  go_wp2_with fail
  refine Calls.mono (HA.out _) ?_
  rintro x w1 ⟨rfl, hb⟩
  have HB1 : Hid (Below W.heap.size W w1) := hb
  clear hb HA
  go_wp2_with fail
  go_ret
  exact ⟨rfl, HB1.out⟩
set_option maxRecDepth 100000 in
set_option maxHeartbeats 2000000 in
theorem turns_e (a0 a1 : Option Addr) (c0 c1 : Nat) (l0 l1 : List En) (n : Int) (W : World) (h1 : (l0.length : Int) + l1.length ≤ 60) (h2 : (l0.length : Int) ≤ 60) (h3 : (l1.length : Int) ≤ 60) (h4 : n < 1) :
    Calls Try.prog 4 #[.slice a0 l0.length c0, .slice a1 l1.length c1, .int .i64 n] W fun x w' => x = .returned (.bool true) ∧ Below W.heap.size W w' := by
  have HA : Hid (∀ w1, Calls Try.prog 8 #[] w1 fun e w' => e = .returned (.bool true) ∧ Below w1.heap.size w1 w') := awake_any
  go_enter Try.func4, Try.ntmps4
  go_wp2_with fail
  refine Calls.mono (HA.out _) ?_
  rintro x w1 ⟨rfl, hb⟩
  have HB1 : Hid (Below W.heap.size W w1) := hb
  clear hb HA
  go_wp2_with fail
  go_ret
  exact ⟨rfl, HB1.out⟩
set_option maxRecDepth 100000 in
set_option maxHeartbeats 2000000 in
theorem turns_f (a0 a1 : Option Addr) (c0 c1 : Nat) (l0 l1 : List En) (n : Int) (W : World) (h1 : (l0.length : Int) + l1.length ≤ 60) (h2 : (l0.length : Int) ≤ 60) (h3 : (l1.length : Int) ≤ 60) (h4 : 1 ≤ n) (h5 : 3 < n) :
    Calls Try.prog 4 #[.slice a0 l0.length c0, .slice a1 l1.length c1, .int .i64 n] W fun x w' => x = .returned (.bool true) ∧ Below W.heap.size W w' := by
  have HA : Hid (∀ w1, Calls Try.prog 8 #[] w1 fun e w' => e = .returned (.bool true) ∧ Below w1.heap.size w1 w') := awake_any
  go_enter Try.func4, Try.ntmps4
  go_wp2_with fail
  refine Calls.mono (HA.out _) ?_
  rintro x w1 ⟨rfl, hb⟩
  have HB1 : Hid (Below W.heap.size W w1) := hb
  clear hb HA
  go_wp2_with fail
  go_ret
  exact ⟨rfl, HB1.out⟩
theorem turns_early (a0 a1 : Option Addr) (c0 c1 : Nat) (l0 l1 : List En) (n : Int) (W : World) (hc : ¬ (l0.length + l1.length ≤ 60 ∧ okn n = true)) :
    Calls Try.prog 4 #[.slice a0 l0.length c0, .slice a1 l1.length c1, .int .i64 n] W fun x w' => x = .returned (.bool true) ∧ Below W.heap.size W w' := by
  by_cases h0 : (l0.length : Int) ≤ 60
  · by_cases h1 : (l1.length : Int) ≤ 60
    · by_cases h2 : (l0.length : Int) + l1.length ≤ 60
      · have : ¬ okn n = true := fun h => hc ⟨by omega, h⟩
        rcases okn_no (by simpa using this) with h | h
        · exact turns_e _ _ _ _ _ _ _ _ h2 h0 h1 h
        · exact turns_f _ _ _ _ _ _ _ _ h2 h0 h1 (by omega) h
      · exact turns_d _ _ _ _ _ _ _ _ (by omega) h0 h1
    · by_cases h2 : IntKind.i64.wrap ((l0.length : Int) + l1.length) ≤ 60
      · exact turns_c _ _ _ _ _ _ _ _ _ rfl h2 h0 (by omega)
      · exact turns_a _ _ _ _ _ _ _ _ _ rfl (by omega)
  · by_cases h2 : IntKind.i64.wrap ((l0.length : Int) + l1.length) ≤ 60
    · exact turns_b _ _ _ _ _ _ _ _ _ rfl h2 (by omega)
    · exact turns_a _ _ _ _ _ _ _ _ _ rfl (by omega)
set_option maxRecDepth 100000 in
set_option maxHeartbeats 2000000 in
theorem turns_main (a0 a1 : Option Addr) (c0 c1 : Nat) (l0 l1 : List En) (n : Int) (W : World) (i0 : Lies W (.slice a0 l0.length c0) l0.length (ecells l0)) (g0 : ∀ e ∈ l0, GoodE W e) (i1 : Lies W (.slice a1 l1.length c1) l1.length (ecells l1)) (g1 : ∀ e ∈ l1, GoodE W e) (hc : l0.length + l1.length ≤ 60 ∧ okn n = true) :
    Calls Try.prog 4 #[.slice a0 l0.length c0, .slice a1 l1.length c1, .int .i64 n] W fun x w' => x = .returned (.bool true) ∧ Below W.heap.size W w' := by
  have HA : Hid (∀ w1, Calls Try.prog 8 #[] w1 fun e w' => e = .returned (.bool true) ∧ Below w1.heap.size w1 w') := awake_any
  have HI : Hid (Lies W (.slice a0 l0.length c0) l0.length (ecells l0) ∧ Lies W (.slice a1 l1.length c1) l1.length (ecells l1) ∧ (∀ e ∈ l0, GoodE W e) ∧ (∀ e ∈ l1, GoodE W e)) := ⟨i0, i1, g0, g1⟩
  have HS : Hid _ := hc
  have h1 : (l0.length : Int) + l1.length ≤ 60 := by omega
  have h2 : (l0.length : Int) ≤ 60 := by omega
  have h3 : (l1.length : Int) ≤ 60 := by omega
  have h4 : 1 ≤ n := (okn_yes hc.2).1
  have h5 : n ≤ 3 := (okn_yes hc.2).2
  clear hc
  clear i0 i1 g0 g1
  go_enter Try.func4, Try.ntmps4
  go_wp2_with fail
  refine Calls.mono (HA.out _) ?_
  rintro x w1 ⟨rfl, hb⟩
  have HB1 : Hid (Below W.heap.size W w1) := hb
  clear hb HA
  go_wp2_with fail
  clear h1 h2 h3 h4 h5
  refine Calls.mono (new_q W w1 60 HB1.out) ?_
  rintro x w2 ⟨p, rfl, q⟩
  have HQ2 : Hid (QU W w2 p (newL 60) []) := q
  have HF : Hid _ := tu_facts l0 l1 n HS.out.2 HS.out.1
  clear q HB1
  go_wp2_with fail
  go_loopw [9] (fun i wr => ∃ k : Nat, k ≤ l0.length ∧ i = .int .i64 k ∧ Hid (QU W wr p (pushAll (newL 60) (l0.take k)) [])) (fun i _ => l0.length - (intOf i).toNat)
  case atStart => exact ⟨0, Nat.zero_le _, rfl, HQ2⟩
  case round =>
    obtain ⟨k, hk, rfl, HQ⟩ := hrel
    clear HQ2
    rcases Nat.lt_or_ge k l0.length with h1 | h1
    · have i1 : (k : Int) < l0.length := by omega
      have i2 : IntKind.i64.wrap ((k : Int) + 1) = k + 1 := by have := HS.out.1; rw [IntKind.wrap_i64]; omega
      obtain ⟨b, o, rfl, d0, d1, d2, d3, d4⟩ := ents_at (HI.out.1.below HQ.out.blw) k h1
      have ge := HI.out.2.2.1 l0[k] (List.getElem_mem h1)
      have HP : Hid _ := push_q HQ.out l0[k] ge.1 ge.2.1 ge.2.2 (HF.out.aM k h1)
      rw [HF.out.aE k h1, ← pushAll_next _ _ _ h1] at HP
      have HJ : Hid (k < l0.length) := h1
      clear HQ hk ge
      go_wp2_with fail
      refine Calls.mono HP.out ?_
      rintro x w4 ⟨rfl, q⟩
      have HQ4 : Hid (QU W w4 p (pushAll (newL 60) (l0.take (k + 1))) []) := q
      clear q HP d0 d1 d2 d3 d4
      go_wp2_with fail
      go_roundw
      case rel => exact ⟨k + 1, HJ.out, by simp, HQ4⟩
      case measure => have := HJ.out; simp [intOf]; omega
    · obtain rfl : k = l0.length := by omega
      rw [List.take_length] at HQ
      have HN9 : Hid (QU W wr p (tuA l0) []) := HQ.out
      clear HQ hk h1
      go_wp2_with fail
      refine Calls.mono (save_q HN9.out n HS.out.2) ?_
      rintro x w3 ⟨rfl, q⟩
      rw [HF.out.aL] at q
      have HQ5 : Hid (QU W w3 p (tuB l0 n) []) := q
      clear q HN9
      go_wp2_with fail
      go_loopw [10] (fun i wr => ∃ k : Nat, k ≤ l1.length ∧ i = .int .i64 k ∧ Hid (QU W wr p (pushAll (tuB l0 n) (l1.take k)) [])) (fun i _ => l1.length - (intOf i).toNat)
      case atStart => exact ⟨0, Nat.zero_le _, rfl, HQ5⟩
      case round =>
        obtain ⟨k, hk, rfl, HQ⟩ := hrel
        clear HQ5
        rcases Nat.lt_or_ge k l1.length with h1 | h1
        · have i1 : (k : Int) < l1.length := by omega
          have i2 : IntKind.i64.wrap ((k : Int) + 1) = k + 1 := by have := HS.out.1; rw [IntKind.wrap_i64]; omega
          obtain ⟨b, o, rfl, d0, d1, d2, d3, d4⟩ := ents_at (HI.out.2.1.below HQ.out.blw) k h1
          have ge := HI.out.2.2.2 l1[k] (List.getElem_mem h1)
          have HP : Hid _ := push_q HQ.out l1[k] ge.1 ge.2.1 ge.2.2 (HF.out.bM k h1)
          rw [HF.out.bE k h1, ← pushAll_next _ _ _ h1] at HP
          have HJ : Hid (k < l1.length) := h1
          clear HQ hk ge
          go_wp2_with fail
          refine Calls.mono HP.out ?_
          rintro x w4 ⟨rfl, q⟩
          have HQ4 : Hid (QU W w4 p (pushAll (tuB l0 n) (l1.take (k + 1))) []) := q
          clear q HP d0 d1 d2 d3 d4
          go_wp2_with fail
          go_roundw
          case rel => exact ⟨k + 1, HJ.out, by simp, HQ4⟩
          case measure => have := HJ.out; simp [intOf]; omega
        · obtain rfl : k = l1.length := by omega
          rw [List.take_length] at HQ
          have HN10 : Hid (QU W wr p (tuC l0 l1 n) []) := HQ.out
          clear HQ hk h1
          go_wp2_with fail
          refine Calls.mono (back_q HN10.out n HS.out.2 l0.length HF.out.cG HF.out.cL) ?_
          rintro x w5 ⟨v1, rfl, q⟩
          rw [HF.out.cD] at q
          have HQ6 : Hid (QU W w5 p (tuD l0 l1 n) [(v1, l1.reverse)]) := q
          clear q HN10
          go_wp2_with fail
          refine Calls.mono (back_q HQ6.out n HS.out.2 l0.length HF.out.dG HF.out.dL) ?_
          rintro x w6 ⟨v2, rfl, q⟩
          rw [HF.out.dD] at q
          have HQ7 : Hid (QU W w6 p (tuE l0 l1 n) [(v2, []), (v1, l1.reverse)]) := q
          clear q HQ6
          go_wp2_with fail
          refine Calls.mono (all_q HQ7.out) ?_
          rintro x w7 ⟨v3, rfl, q⟩
          rw [HF.out.eE, HF.out.eR] at q
          have HQ8 : Hid (QU W w7 p (newL 60) [(v3, l0.reverse), (v2, []), (v1, l1.reverse)]) := q
          clear q HQ7
          go_wp2_with fail
          refine Calls.mono (back_qn HQ8.out n (fun _ => newr_get 60 n)) ?_
          rintro x w8 ⟨rfl, q⟩
          have HQ9 : Hid (QU W w8 p (newL 60) [(v3, l0.reverse), (v2, []), (v1, l1.reverse)]) := q
          obtain ⟨av1, cav1, rfl, -⟩ := q.slice (v := v1) (l := l1.reverse) (by simp)
          obtain ⟨av2, cav2, rfl, -⟩ := q.slice (v := v2) (l := []) (by simp)
          obtain ⟨av3, cav3, rfl, -⟩ := q.slice (v := v3) (l := l0.reverse) (by simp)
          rw [List.length_reverse, List.length_reverse] at *
          clear q HQ8
          go_wp2_with fail
          refine Calls.mono (len_q HQ9.out) ?_
          rintro x w9 ⟨rfl, q⟩
          have HQ10 : Hid (QU W w9 p (newL 60) [(.slice av3 l0.length cav3, l0.reverse), (.slice av2 0 cav2, []), (.slice av1 l1.length cav1, l1.reverse)]) := q
          rw [show ((newL 60).es.length : Int) = 0 from rfl]
          clear q HQ9
          go_wp2_with fail
          refine Calls.mono (touched_q HQ10.out (Nat.zero_le _)) ?_
          rintro x w10 ⟨v4, rfl, q⟩
          obtain ⟨av4, cv4, rfl, -⟩ := q.slice (v := v4) (l := []) (by simp [newL])
          have HQ11 : Hid (QU W w10 p (newL 60) [(.slice av3 l0.length cav3, l0.reverse), (.slice av1 l1.length cav1, l1.reverse)]) := q.less (by simp)
          rw [show ([] : List En).length = 0 from rfl]
          clear q HQ10
          go_wp2_with fail
          go_loopw [18] (fun i wr => ∃ k : Nat, k ≤ l1.length ∧ i = .int .i64 k ∧ Hid (QU W wr p (newL 60) [(.slice av3 l0.length cav3, l0.reverse), (.slice av1 l1.length cav1, l1.reverse)])) (fun i _ => l1.length - (intOf i).toNat)
          case atStart => exact ⟨0, Nat.zero_le _, rfl, HQ11⟩
          case round =>
            obtain ⟨k, hk, rfl, HQ⟩ := hrel
            clear HQ11
            rcases Nat.lt_or_ge k l1.length with h1 | h1
            · obtain ⟨m, hm⟩ : ∃ m, m = l1.length - 1 - k := ⟨_, rfl⟩
              have hml : m < l1.length := by omega
              have i1 : (k : Int) < l1.length := by omega
              have i2 : IntKind.i64.wrap ((k : Int) + 1) = k + 1 := by have := HS.out.1; rw [IntKind.wrap_i64]; omega
              have i3 : IntKind.i64.wrap ((l1.length : Int) - 1) = (l1.length : Int) - 1 := by have := HS.out.1; rw [IntKind.wrap_i64]; omega
              have i4 : IntKind.i64.wrap ((l1.length : Int) - 1 - k) = m := by have := HS.out.1; rw [IntKind.wrap_i64]; omega
              have i5 : (m : Int) < l1.length := by omega
              have hrv : l1.reverse[k]'(by simpa using h1) = l1[m] := by rw [List.getElem_reverse]; congr 1; exact hm.symm
              obtain ⟨b, o, rfl, d0, d1, d2, d3, d4⟩ := ents_at (HI.out.2.1.below HQ.out.blw) m hml
              obtain ⟨bx, ox, rx, hav, x0, x1, x2, x3, x4, xr⟩ := HQ.out.at (ao := av1) (l := l1.reverse) (n := l1.length) (c := cav1) (by simp) k (by simpa using h1)
              rw [hrv] at x0 x1 x2 x3 xr
              subst hav
              have ge := HI.out.2.2.2 l1[m] (List.getElem_mem hml)
              have hne := fun w' => neq_V l1[m].k l1[m].k w'
              simp only [show eqV l1[m].k l1[m].k = true from eqV_iff.2 rfl, Bool.not_true] at hne
              obtain ⟨ra, rc, hr, -⟩ := ge.2.1.slice
              rw [hr] at d4
              have HR : Hid (∀ w1, Below wr.heap.size wr w1 → Calls Try.prog 19 #[rx, .slice ra l1[m].xs.length rc] w1 fun x w' => x = .returned (.bool true) ∧ Below w1.heap.size w1 w') := fun w1 hb => by
                have := rsame_any rx l1[m].r l1[m].xs l1[m].xs w1 (xr.below hb) ((ge.2.1.below HQ.out.blw).below hb)
                rwa [eqRow_self, hr] at this
              have HX : Hid (∀ w', Below wr.heap.size wr w' → EB w' wr.heap.size l1[m] → w'.cell? ⟨bx, ox + k * 5, none⟩ = some (.int .i64 l1[m].t) ∧ w'.cell? ⟨bx, ox + k * 5 + 1, none⟩ = some (.bool l1[m].k.t) ∧ w'.cell? ⟨bx, ox + k * 5 + 2, none⟩ = some (.int .i64 l1[m].k.n) ∧ w'.cell? ⟨bx, ox + k * 5 + 3, none⟩ = some (.string l1[m].k.s) ∧ w'.cell? ⟨bx, ox + k * 5 + 4, none⟩ = some rx ∧ w'.cell? ⟨wr.heap.size, 0, none⟩ = some (.int .i64 l1[m].t) ∧ w'.cell? ⟨wr.heap.size, 1, none⟩ = some (.bool l1[m].k.t) ∧ w'.cell? ⟨wr.heap.size, 2, none⟩ = some (.int .i64 l1[m].k.n) ∧ w'.cell? ⟨wr.heap.size, 3, none⟩ = some (.string l1[m].k.s) ∧ w'.cell? ⟨wr.heap.size, 4, none⟩ = some (.slice ra l1[m].xs.length rc)) := fun w' hb eb => ⟨cell_below x0 hb, cell_below x1 hb, cell_below x2 hb, cell_below x3 hb, cell_below x4 hb, eb.c0, eb.c1, eb.c2, eb.c3, by rw [← hr]; exact eb.c4⟩
              have HEB : Hid (EB (wr.alloc (.cells #[.int .i64 l1[m].t, .bool l1[m].k.t, .int .i64 l1[m].k.n, .string l1[m].k.s, .slice ra l1[m].xs.length rc] TE)).drew wr.heap.size l1[m] ∧ Below wr.heap.size wr (wr.alloc (.cells #[.int .i64 l1[m].t, .bool l1[m].k.t, .int .i64 l1[m].k.n, .string l1[m].k.s, .slice ra l1[m].xs.length rc] TE)).drew) := ⟨by rw [← hr]; exact (EB.new wr l1[m]).below (Below.refl _ _).drew, (alloc1 _ _).drew⟩
              have HJ : Hid (k < l1.length) := h1
              clear hk ge h1 hm xr hrv x0 x1 x2 x3 x4 hr
              go_wp2_with fail
              clear d0 d1 d2 d3 d4 i3 i4
              generalize wr.alloc (.cells #[.int .i64 l1[m].t, .bool l1[m].k.t, .int .i64 l1[m].k.n, .string l1[m].k.s, .slice ra l1[m].xs.length rc] TE) = wz at *
              refine wp_region_held_drew (S := fun w' => w'.cell? ⟨bx, ox + k * 5, none⟩ = some (.int .i64 l1[m].t) ∧ w'.cell? ⟨bx, ox + k * 5 + 1, none⟩ = some (.bool l1[m].k.t) ∧ w'.cell? ⟨bx, ox + k * 5 + 2, none⟩ = some (.int .i64 l1[m].k.n) ∧ w'.cell? ⟨bx, ox + k * 5 + 3, none⟩ = some (.string l1[m].k.s) ∧ w'.cell? ⟨bx, ox + k * 5 + 4, none⟩ = some rx ∧ w'.cell? ⟨wr.heap.size, 0, none⟩ = some (.int .i64 l1[m].t) ∧ w'.cell? ⟨wr.heap.size, 1, none⟩ = some (.bool l1[m].k.t) ∧ w'.cell? ⟨wr.heap.size, 2, none⟩ = some (.int .i64 l1[m].k.n) ∧ w'.cell? ⟨wr.heap.size, 3, none⟩ = some (.string l1[m].k.s) ∧ w'.cell? ⟨wr.heap.size, 4, none⟩ = some (.slice ra l1[m].xs.length rc)) (by kernel_rfl) ?_ (fun hHeld => ?_)
              · exact HX.out _ HEB.out.2 HEB.out.1
              (try clear hK K)
              refine wpAnyH_take (i := 0) (v := ?_) rfl (by kernel_rfl) (by kernel_rfl) (by kernel_rfl) (fun _ _ _ h => h) (Or.inl ⟨by rfl, ?_⟩) (by assumption) ?_
              rotate_left
              · intro w hSw; (try dsimp only at hSw); go_simp; (try with_reducible rfl)
              (try simp only [Act.put, List.getElem_toArray, List.getElem_cons_zero, List.setIfInBounds_toArray, List.set_cons_zero, List.set_cons_succ])
              refine wpAnyH_take (i := 1) (v := ?_) rfl (by kernel_rfl) (by kernel_rfl) (by kernel_rfl) (fun _ _ _ h => h) (Or.inl ⟨by rfl, ?_⟩) (by assumption) ?_
              rotate_left
              · intro w hSw; (try dsimp only at hSw); go_simp; (try with_reducible rfl)
              (try simp only [Act.put, List.getElem_toArray, List.getElem_cons_succ, List.getElem_cons_zero, List.setIfInBounds_toArray, List.set_cons_zero, List.set_cons_succ])
              refine wpAnyH_take (i := 2) (v := ?_) rfl (by kernel_rfl) (by kernel_rfl) (by kernel_rfl) (fun _ _ _ h => h) (Or.inl ⟨by rfl, ?_⟩) (by assumption) ?_
              rotate_left
              · intro w hSw; (try dsimp only at hSw); go_simp; (try with_reducible rfl)
              (try simp only [Act.put, List.getElem_toArray, List.getElem_cons_succ, List.getElem_cons_zero, List.setIfInBounds_toArray, List.set_cons_zero, List.set_cons_succ])
              refine wpAnyH_take (i := 3) (v := ?_) rfl (by kernel_rfl) (by kernel_rfl) (by kernel_rfl) (fun _ _ _ h => h) (Or.inl ⟨by rfl, ?_⟩) (by assumption) ?_
              rotate_left
              · intro w hSw; (try dsimp only at hSw); go_simp; (try with_reducible rfl)
              (try simp only [Act.put, List.getElem_toArray, List.getElem_cons_succ, List.getElem_cons_zero, List.setIfInBounds_toArray, List.set_cons_zero, List.set_cons_succ])
              refine wpAnyH_take (i := 4) (v := ?_) rfl (by kernel_rfl) (by kernel_rfl) (by kernel_rfl) (fun _ _ _ h => h) (Or.inl ⟨by rfl, ?_⟩) (by assumption) ?_
              rotate_left
              · intro w hSw; (try dsimp only at hSw); go_simp; (try with_reducible rfl)
              (try simp only [Act.put, List.getElem_toArray, List.getElem_cons_succ, List.getElem_cons_zero, List.setIfInBounds_toArray, List.set_cons_zero, List.set_cons_succ])
              refine wpAnyH_take (i := 5) (v := ?_) rfl (by kernel_rfl) (by kernel_rfl) (by kernel_rfl) (fun _ _ _ h => h) (Or.inl ⟨by rfl, ?_⟩) (by assumption) ?_
              rotate_left
              · intro w hSw; (try dsimp only at hSw); go_simp; (try with_reducible rfl)
              (try simp only [Act.put, List.getElem_toArray, List.getElem_cons_succ, List.getElem_cons_zero, List.setIfInBounds_toArray, List.set_cons_zero, List.set_cons_succ])
              refine wpAnyH_take (i := 6) (v := ?_) rfl (by kernel_rfl) (by kernel_rfl) (by kernel_rfl) (fun _ _ _ h => h) (Or.inl ⟨by rfl, ?_⟩) (by assumption) ?_
              rotate_left
              · intro w hSw; (try dsimp only at hSw); go_simp; (try with_reducible rfl)
              (try simp only [Act.put, List.getElem_toArray, List.getElem_cons_succ, List.getElem_cons_zero, List.setIfInBounds_toArray, List.set_cons_zero, List.set_cons_succ])
              refine wpAnyH_take (i := 7) (v := ?_) rfl (by kernel_rfl) (by kernel_rfl) (by kernel_rfl) (fun _ _ _ h => h) (Or.inl ⟨by rfl, ?_⟩) (by assumption) ?_
              rotate_left
              · intro w hSw; (try dsimp only at hSw); go_simp; (try with_reducible rfl)
              (try simp only [Act.put, List.getElem_toArray, List.getElem_cons_succ, List.getElem_cons_zero, List.setIfInBounds_toArray, List.set_cons_zero, List.set_cons_succ])
              refine wpAnyH_take (i := 8) (v := ?_) rfl (by kernel_rfl) (by kernel_rfl) (by kernel_rfl) (fun _ _ _ h => h) (Or.inl ⟨by rfl, ?_⟩) (by assumption) ?_
              rotate_left
              · intro w hSw; (try dsimp only at hSw); go_simp; (try with_reducible rfl)
              (try simp only [Act.put, List.getElem_toArray, List.getElem_cons_succ, List.getElem_cons_zero, List.setIfInBounds_toArray, List.set_cons_zero, List.set_cons_succ])
              refine wpAnyH_take (i := 9) (v := ?_) rfl (by kernel_rfl) (by kernel_rfl) (by kernel_rfl) (fun _ _ _ h => h) (Or.inl ⟨by rfl, ?_⟩) (by assumption) ?_
              rotate_left
              · intro w hSw; (try dsimp only at hSw); go_simp; (try with_reducible rfl)
              (try simp only [Act.put, List.getElem_toArray, List.getElem_cons_succ, List.getElem_cons_zero, List.setIfInBounds_toArray, List.set_cons_zero, List.set_cons_succ])
              refine wpAnyH_take (i := 10) (v := ?_) rfl (by kernel_rfl) (by kernel_rfl) (by kernel_rfl) (fun _ _ _ h => h) (Or.inl ⟨by rfl, ?_⟩) (by assumption) ?_
              rotate_left
              · intro w hSw; (try dsimp only at hSw); go_simp; (try with_reducible rfl)
              (try simp only [Act.put, List.getElem_toArray, List.getElem_cons_succ, List.getElem_cons_zero, List.setIfInBounds_toArray, List.set_cons_zero, List.set_cons_succ])
              refine wpAnyH_take (i := 11) (v := ?_) rfl (by kernel_rfl) (by kernel_rfl) (by kernel_rfl) (fun _ _ _ h => h) (Or.inl ⟨by rfl, ?_⟩) (by assumption) ?_
              rotate_left
              · intro w hSw; (try dsimp only at hSw); go_simp; (try with_reducible rfl)
              (try simp only [Act.put, List.getElem_toArray, List.getElem_cons_succ, List.getElem_cons_zero, List.setIfInBounds_toArray, List.set_cons_zero, List.set_cons_succ])
              refine wpAnyH_take (i := 12) (v := ?_) rfl (by kernel_rfl) (by kernel_rfl) (by kernel_rfl) (fun _ _ _ h => h) (Or.inl ⟨by rfl, ?_⟩) (by assumption) ?_
              rotate_left
              · intro w hSw; (try dsimp only at hSw); go_simp; (try with_reducible rfl)
              (try simp only [Act.put, List.getElem_toArray, List.getElem_cons_succ, List.getElem_cons_zero, List.setIfInBounds_toArray, List.set_cons_zero, List.set_cons_succ])
              refine wpAnyH_take (i := 13) (v := ?_) rfl (by kernel_rfl) (by kernel_rfl) (by kernel_rfl) (fun _ _ _ h => h) (Or.inl ⟨by rfl, ?_⟩) (by assumption) ?_
              rotate_left
              · intro w hSw; (try dsimp only at hSw); go_simp; (try with_reducible rfl)
              (try simp only [Act.put, List.getElem_toArray, List.getElem_cons_succ, List.getElem_cons_zero, List.setIfInBounds_toArray, List.set_cons_zero, List.set_cons_succ])
              refine wpAnyH_take (i := 14) (v := ?_) rfl (by kernel_rfl) (by kernel_rfl) (by kernel_rfl) (fun _ _ _ h => h) (Or.inl ⟨by rfl, ?_⟩) (by assumption) ?_
              rotate_left
              · intro w hSw; (try dsimp only at hSw); go_simp; (try with_reducible rfl)
              (try simp only [Act.put, List.getElem_toArray, List.getElem_cons_succ, List.getElem_cons_zero, List.setIfInBounds_toArray, List.set_cons_zero, List.set_cons_succ])
              refine wpAnyH_take (i := 15) (v := ?_) rfl (by kernel_rfl) (by kernel_rfl) (by kernel_rfl) (fun _ _ _ h => h) (Or.inl ⟨by rfl, ?_⟩) (by assumption) ?_
              rotate_left
              · intro w hSw; (try dsimp only at hSw); go_simp; (try with_reducible rfl)
              (try simp only [Act.put, List.getElem_toArray, List.getElem_cons_succ, List.getElem_cons_zero, List.setIfInBounds_toArray, List.set_cons_zero, List.set_cons_succ])
              refine wpAnyH_take (i := 16) (v := ?_) rfl (by kernel_rfl) (by kernel_rfl) (by kernel_rfl) (fun _ _ _ h => h) (Or.inl ⟨by rfl, ?_⟩) (by assumption) ?_
              rotate_left
              · intro w hSw; (try dsimp only at hSw); go_simp; (try with_reducible rfl)
              (try simp only [Act.put, List.getElem_toArray, List.getElem_cons_succ, List.getElem_cons_zero, List.setIfInBounds_toArray, List.set_cons_zero, List.set_cons_succ])
              refine wpAnyH_take (i := 17) (v := ?_) rfl (by kernel_rfl) (by kernel_rfl) (by kernel_rfl) (fun _ _ _ h => h) (Or.inl ⟨by rfl, ?_⟩) (by assumption) ?_
              rotate_left
              · intro w hSw; (try dsimp only at hSw); go_simp; (try with_reducible rfl)
              (try simp only [Act.put, List.getElem_toArray, List.getElem_cons_succ, List.getElem_cons_zero, List.setIfInBounds_toArray, List.set_cons_zero, List.set_cons_succ])
              refine wpAnyH_take (i := 18) (v := ?_) rfl (by kernel_rfl) (by kernel_rfl) (by kernel_rfl) (fun _ _ _ h => h) (Or.inl ⟨by rfl, ?_⟩) (by assumption) ?_
              rotate_left
              · intro w hSw; (try dsimp only at hSw); go_simp; (try with_reducible rfl)
              (try simp only [Act.put, List.getElem_toArray, List.getElem_cons_succ, List.getElem_cons_zero, List.setIfInBounds_toArray, List.set_cons_zero, List.set_cons_succ])
              refine wpAnyH_take (i := 19) (v := ?_) rfl (by kernel_rfl) (by kernel_rfl) (by kernel_rfl) (fun _ _ _ h => h) (Or.inl ⟨by rfl, ?_⟩) (by assumption) ?_
              rotate_left
              · intro w hSw; (try dsimp only at hSw); go_simp; (try with_reducible rfl)
              (try simp only [Act.put, List.getElem_toArray, List.getElem_cons_succ, List.getElem_cons_zero, List.setIfInBounds_toArray, List.set_cons_zero, List.set_cons_succ])
              refine wpAnyH_take (i := 20) (v := ?_) rfl (by kernel_rfl) (by kernel_rfl) (by kernel_rfl) (fun _ _ _ h => h) (Or.inl ⟨by rfl, ?_⟩) (by assumption) ?_
              rotate_left
              · intro w hSw; (try dsimp only at hSw); go_simp; (try with_reducible rfl)
              (try simp only [Act.put, List.getElem_toArray, List.getElem_cons_succ, List.getElem_cons_zero, List.setIfInBounds_toArray, List.set_cons_zero, List.set_cons_succ])
              refine wpAnyH_take (i := 21) (v := ?_) rfl (by kernel_rfl) (by kernel_rfl) (by kernel_rfl) (fun _ _ _ h => h) (Or.inl ⟨by rfl, ?_⟩) (by assumption) ?_
              rotate_left
              · intro w hSw; (try dsimp only at hSw); go_simp; (try with_reducible rfl)
              (try simp only [Act.put, List.getElem_toArray, List.getElem_cons_succ, List.getElem_cons_zero, List.setIfInBounds_toArray, List.set_cons_zero, List.set_cons_succ])
              refine wpAnyH_take (i := 22) (v := ?_) rfl (by kernel_rfl) (by kernel_rfl) (by kernel_rfl) (fun _ _ _ h => h) (Or.inl ⟨by rfl, ?_⟩) (by assumption) ?_
              rotate_left
              · intro w hSw; (try dsimp only at hSw); go_simp; (try with_reducible rfl)
              (try simp only [Act.put, List.getElem_toArray, List.getElem_cons_succ, List.getElem_cons_zero, List.setIfInBounds_toArray, List.set_cons_zero, List.set_cons_succ])
              refine wpAnyH_take (i := 23) (v := ?_) rfl (by kernel_rfl) (by kernel_rfl) (by kernel_rfl) (fun _ _ _ h => h) (Or.inl ⟨by rfl, ?_⟩) (by assumption) ?_
              rotate_left
              · intro w hSw; (try dsimp only at hSw); go_simp; (try with_reducible rfl)
              (try simp only [Act.put, List.getElem_toArray, List.getElem_cons_succ, List.getElem_cons_zero, List.setIfInBounds_toArray, List.set_cons_zero, List.set_cons_succ])
              refine wpAnyH_take (i := 24) (v := ?_) rfl (by kernel_rfl) (by kernel_rfl) (by kernel_rfl) (fun _ _ _ h => h) (Or.inl ⟨by rfl, ?_⟩) (by assumption) ?_
              rotate_left
              · intro w hSw; (try dsimp only at hSw); go_simp; (try with_reducible rfl)
              (try simp only [Act.put, List.getElem_toArray, List.getElem_cons_succ, List.getElem_cons_zero, List.setIfInBounds_toArray, List.set_cons_zero, List.set_cons_succ])
              refine wpAnyH_take (i := 25) (v := ?_) rfl (by kernel_rfl) (by kernel_rfl) (by kernel_rfl) (fun _ _ _ h => h) (Or.inl ⟨by rfl, ?_⟩) (by assumption) ?_
              rotate_left
              · intro w hSw; (try dsimp only at hSw); go_simp; (try with_reducible rfl)
              (try simp only [Act.put, List.getElem_toArray, List.getElem_cons_succ, List.getElem_cons_zero, List.setIfInBounds_toArray, List.set_cons_zero, List.set_cons_succ])
              (try clear hK K)
              refine wpAnyH_ready (rs := [26]) (by kernel_rfl) (by simp) ?_
              refine AllReadyH.cons rfl (fun K hK => ?_) AllReadyH.nil
              go_simp
              (refine Calls.mono (HR.out _ HEB.out.2) ?_; rintro e w3 ⟨rfl, hb3⟩)
              refine hK.out _ _ ?_ (fun hHeld => ?_)
              · exact HX.out _ (on HEB.out.2 hb3) (HEB.out.1.below hb3)
              (try clear hK K)
              refine wpAnyH_take (i := 27) (v := ?_) rfl (by kernel_rfl) (by kernel_rfl) (by kernel_rfl) (fun _ _ _ h => h) (Or.inl ⟨by rfl, ?_⟩) (by assumption) ?_
              rotate_left
              · intro w hSw; (try dsimp only at hSw); go_simp; (try with_reducible rfl)
              (try simp only [Act.put, List.getElem_toArray, List.getElem_cons_succ, List.getElem_cons_zero, List.setIfInBounds_toArray, List.set_cons_zero, List.set_cons_succ])
              refine wpAnyH_take (i := 28) (v := ?_) rfl (by kernel_rfl) (by kernel_rfl) (by kernel_rfl) (fun _ _ _ h => h) (Or.inl ⟨by rfl, ?_⟩) (by assumption) ?_
              rotate_left
              · intro w hSw; (try dsimp only at hSw); go_simp; (try with_reducible rfl)
              (try simp only [Act.put, List.getElem_toArray, List.getElem_cons_succ, List.getElem_cons_zero, List.setIfInBounds_toArray, List.set_cons_zero, List.set_cons_succ])
              (try clear hK K)
              refine wpAnyH_done (by kernel_rfl) ?_ _
              have HQ4 : Hid (QU W w3 p (newL 60) [(.slice av3 l0.length cav3, l0.reverse), (.slice (some ⟨bx, ox, none⟩) l1.length cav1, l1.reverse)]) := HQ.out.below (on HEB.out.2 hb3)
              clear hb3 HQ HX HR HEB
              go_wp2_with fail
              go_roundw
              case rel => exact ⟨k + 1, HJ.out, by simp, HQ4⟩
              case measure => have := HJ.out; simp [intOf]; omega
            · obtain rfl : k = l1.length := by omega
              have HN18 : Hid (QU W wr p (newL 60) [(.slice av3 l0.length cav3, l0.reverse), (.slice av1 l1.length cav1, l1.reverse)]) := HQ.out
              clear HQ hk h1
              go_wp2_with fail
              go_loopw [20] (fun i wr => ∃ k : Nat, k ≤ l0.length ∧ i = .int .i64 k ∧ Hid (QU W wr p (newL 60) [(.slice av3 l0.length cav3, l0.reverse), (.slice av1 l1.length cav1, l1.reverse)])) (fun i _ => l0.length - (intOf i).toNat)
              case atStart => exact ⟨0, Nat.zero_le _, rfl, HN18⟩
              case round =>
                obtain ⟨k, hk, rfl, HQ⟩ := hrel
                clear HN18
                rcases Nat.lt_or_ge k l0.length with h1 | h1
                · obtain ⟨m, hm⟩ : ∃ m, m = l0.length - 1 - k := ⟨_, rfl⟩
                  have hml : m < l0.length := by omega
                  have i1 : (k : Int) < l0.length := by omega
                  have i2 : IntKind.i64.wrap ((k : Int) + 1) = k + 1 := by have := HS.out.1; rw [IntKind.wrap_i64]; omega
                  have i3 : IntKind.i64.wrap ((l0.length : Int) - 1) = (l0.length : Int) - 1 := by have := HS.out.1; rw [IntKind.wrap_i64]; omega
                  have i4 : IntKind.i64.wrap ((l0.length : Int) - 1 - k) = m := by have := HS.out.1; rw [IntKind.wrap_i64]; omega
                  have i5 : (m : Int) < l0.length := by omega
                  have hrv : l0.reverse[k]'(by simpa using h1) = l0[m] := by rw [List.getElem_reverse]; congr 1; exact hm.symm
                  obtain ⟨b, o, rfl, d0, d1, d2, d3, d4⟩ := ents_at (HI.out.1.below HQ.out.blw) m hml
                  obtain ⟨bx, ox, rx, hav, x0, x1, x2, x3, x4, xr⟩ := HQ.out.at (ao := av3) (l := l0.reverse) (n := l0.length) (c := cav3) (by simp) k (by simpa using h1)
                  rw [hrv] at x0 x1 x2 x3 xr
                  subst hav
                  have ge := HI.out.2.2.1 l0[m] (List.getElem_mem hml)
                  have hne := fun w' => neq_V l0[m].k l0[m].k w'
                  simp only [show eqV l0[m].k l0[m].k = true from eqV_iff.2 rfl, Bool.not_true] at hne
                  obtain ⟨ra, rc, hr, -⟩ := ge.2.1.slice
                  rw [hr] at d4
                  have HR : Hid (∀ w1, Below wr.heap.size wr w1 → Calls Try.prog 19 #[rx, .slice ra l0[m].xs.length rc] w1 fun x w' => x = .returned (.bool true) ∧ Below w1.heap.size w1 w') := fun w1 hb => by
                    have := rsame_any rx l0[m].r l0[m].xs l0[m].xs w1 (xr.below hb) ((ge.2.1.below HQ.out.blw).below hb)
                    rwa [eqRow_self, hr] at this
                  have HX : Hid (∀ w', Below wr.heap.size wr w' → EB w' wr.heap.size l0[m] → w'.cell? ⟨bx, ox + k * 5, none⟩ = some (.int .i64 l0[m].t) ∧ w'.cell? ⟨bx, ox + k * 5 + 1, none⟩ = some (.bool l0[m].k.t) ∧ w'.cell? ⟨bx, ox + k * 5 + 2, none⟩ = some (.int .i64 l0[m].k.n) ∧ w'.cell? ⟨bx, ox + k * 5 + 3, none⟩ = some (.string l0[m].k.s) ∧ w'.cell? ⟨bx, ox + k * 5 + 4, none⟩ = some rx ∧ w'.cell? ⟨wr.heap.size, 0, none⟩ = some (.int .i64 l0[m].t) ∧ w'.cell? ⟨wr.heap.size, 1, none⟩ = some (.bool l0[m].k.t) ∧ w'.cell? ⟨wr.heap.size, 2, none⟩ = some (.int .i64 l0[m].k.n) ∧ w'.cell? ⟨wr.heap.size, 3, none⟩ = some (.string l0[m].k.s) ∧ w'.cell? ⟨wr.heap.size, 4, none⟩ = some (.slice ra l0[m].xs.length rc)) := fun w' hb eb => ⟨cell_below x0 hb, cell_below x1 hb, cell_below x2 hb, cell_below x3 hb, cell_below x4 hb, eb.c0, eb.c1, eb.c2, eb.c3, by rw [← hr]; exact eb.c4⟩
                  have HEB : Hid (EB (wr.alloc (.cells #[.int .i64 l0[m].t, .bool l0[m].k.t, .int .i64 l0[m].k.n, .string l0[m].k.s, .slice ra l0[m].xs.length rc] TE)).drew wr.heap.size l0[m] ∧ Below wr.heap.size wr (wr.alloc (.cells #[.int .i64 l0[m].t, .bool l0[m].k.t, .int .i64 l0[m].k.n, .string l0[m].k.s, .slice ra l0[m].xs.length rc] TE)).drew) := ⟨by rw [← hr]; exact (EB.new wr l0[m]).below (Below.refl _ _).drew, (alloc1 _ _).drew⟩
                  have HJ : Hid (k < l0.length) := h1
                  clear hk ge h1 hm xr hrv x0 x1 x2 x3 x4 hr
                  go_wp2_with fail
                  clear d0 d1 d2 d3 d4 i3 i4
                  generalize wr.alloc (.cells #[.int .i64 l0[m].t, .bool l0[m].k.t, .int .i64 l0[m].k.n, .string l0[m].k.s, .slice ra l0[m].xs.length rc] TE) = wz at *
                  refine wp_region_held_drew (S := fun w' => w'.cell? ⟨bx, ox + k * 5, none⟩ = some (.int .i64 l0[m].t) ∧ w'.cell? ⟨bx, ox + k * 5 + 1, none⟩ = some (.bool l0[m].k.t) ∧ w'.cell? ⟨bx, ox + k * 5 + 2, none⟩ = some (.int .i64 l0[m].k.n) ∧ w'.cell? ⟨bx, ox + k * 5 + 3, none⟩ = some (.string l0[m].k.s) ∧ w'.cell? ⟨bx, ox + k * 5 + 4, none⟩ = some rx ∧ w'.cell? ⟨wr.heap.size, 0, none⟩ = some (.int .i64 l0[m].t) ∧ w'.cell? ⟨wr.heap.size, 1, none⟩ = some (.bool l0[m].k.t) ∧ w'.cell? ⟨wr.heap.size, 2, none⟩ = some (.int .i64 l0[m].k.n) ∧ w'.cell? ⟨wr.heap.size, 3, none⟩ = some (.string l0[m].k.s) ∧ w'.cell? ⟨wr.heap.size, 4, none⟩ = some (.slice ra l0[m].xs.length rc)) (by kernel_rfl) ?_ (fun hHeld => ?_)
                  · exact HX.out _ HEB.out.2 HEB.out.1
                  (try clear hK K)
                  refine wpAnyH_take (i := 0) (v := ?_) rfl (by kernel_rfl) (by kernel_rfl) (by kernel_rfl) (fun _ _ _ h => h) (Or.inl ⟨by rfl, ?_⟩) (by assumption) ?_
                  rotate_left
                  · intro w hSw; (try dsimp only at hSw); go_simp; (try with_reducible rfl)
                  (try simp only [Act.put, List.getElem_toArray, List.getElem_cons_zero, List.setIfInBounds_toArray, List.set_cons_zero, List.set_cons_succ])
                  refine wpAnyH_take (i := 1) (v := ?_) rfl (by kernel_rfl) (by kernel_rfl) (by kernel_rfl) (fun _ _ _ h => h) (Or.inl ⟨by rfl, ?_⟩) (by assumption) ?_
                  rotate_left
                  · intro w hSw; (try dsimp only at hSw); go_simp; (try with_reducible rfl)
                  (try simp only [Act.put, List.getElem_toArray, List.getElem_cons_succ, List.getElem_cons_zero, List.setIfInBounds_toArray, List.set_cons_zero, List.set_cons_succ])
                  refine wpAnyH_take (i := 2) (v := ?_) rfl (by kernel_rfl) (by kernel_rfl) (by kernel_rfl) (fun _ _ _ h => h) (Or.inl ⟨by rfl, ?_⟩) (by assumption) ?_
                  rotate_left
                  · intro w hSw; (try dsimp only at hSw); go_simp; (try with_reducible rfl)
                  (try simp only [Act.put, List.getElem_toArray, List.getElem_cons_succ, List.getElem_cons_zero, List.setIfInBounds_toArray, List.set_cons_zero, List.set_cons_succ])
                  refine wpAnyH_take (i := 3) (v := ?_) rfl (by kernel_rfl) (by kernel_rfl) (by kernel_rfl) (fun _ _ _ h => h) (Or.inl ⟨by rfl, ?_⟩) (by assumption) ?_
                  rotate_left
                  · intro w hSw; (try dsimp only at hSw); go_simp; (try with_reducible rfl)
                  (try simp only [Act.put, List.getElem_toArray, List.getElem_cons_succ, List.getElem_cons_zero, List.setIfInBounds_toArray, List.set_cons_zero, List.set_cons_succ])
                  refine wpAnyH_take (i := 4) (v := ?_) rfl (by kernel_rfl) (by kernel_rfl) (by kernel_rfl) (fun _ _ _ h => h) (Or.inl ⟨by rfl, ?_⟩) (by assumption) ?_
                  rotate_left
                  · intro w hSw; (try dsimp only at hSw); go_simp; (try with_reducible rfl)
                  (try simp only [Act.put, List.getElem_toArray, List.getElem_cons_succ, List.getElem_cons_zero, List.setIfInBounds_toArray, List.set_cons_zero, List.set_cons_succ])
                  refine wpAnyH_take (i := 5) (v := ?_) rfl (by kernel_rfl) (by kernel_rfl) (by kernel_rfl) (fun _ _ _ h => h) (Or.inl ⟨by rfl, ?_⟩) (by assumption) ?_
                  rotate_left
                  · intro w hSw; (try dsimp only at hSw); go_simp; (try with_reducible rfl)
                  (try simp only [Act.put, List.getElem_toArray, List.getElem_cons_succ, List.getElem_cons_zero, List.setIfInBounds_toArray, List.set_cons_zero, List.set_cons_succ])
                  refine wpAnyH_take (i := 6) (v := ?_) rfl (by kernel_rfl) (by kernel_rfl) (by kernel_rfl) (fun _ _ _ h => h) (Or.inl ⟨by rfl, ?_⟩) (by assumption) ?_
                  rotate_left
                  · intro w hSw; (try dsimp only at hSw); go_simp; (try with_reducible rfl)
                  (try simp only [Act.put, List.getElem_toArray, List.getElem_cons_succ, List.getElem_cons_zero, List.setIfInBounds_toArray, List.set_cons_zero, List.set_cons_succ])
                  refine wpAnyH_take (i := 7) (v := ?_) rfl (by kernel_rfl) (by kernel_rfl) (by kernel_rfl) (fun _ _ _ h => h) (Or.inl ⟨by rfl, ?_⟩) (by assumption) ?_
                  rotate_left
                  · intro w hSw; (try dsimp only at hSw); go_simp; (try with_reducible rfl)
                  (try simp only [Act.put, List.getElem_toArray, List.getElem_cons_succ, List.getElem_cons_zero, List.setIfInBounds_toArray, List.set_cons_zero, List.set_cons_succ])
                  refine wpAnyH_take (i := 8) (v := ?_) rfl (by kernel_rfl) (by kernel_rfl) (by kernel_rfl) (fun _ _ _ h => h) (Or.inl ⟨by rfl, ?_⟩) (by assumption) ?_
                  rotate_left
                  · intro w hSw; (try dsimp only at hSw); go_simp; (try with_reducible rfl)
                  (try simp only [Act.put, List.getElem_toArray, List.getElem_cons_succ, List.getElem_cons_zero, List.setIfInBounds_toArray, List.set_cons_zero, List.set_cons_succ])
                  refine wpAnyH_take (i := 9) (v := ?_) rfl (by kernel_rfl) (by kernel_rfl) (by kernel_rfl) (fun _ _ _ h => h) (Or.inl ⟨by rfl, ?_⟩) (by assumption) ?_
                  rotate_left
                  · intro w hSw; (try dsimp only at hSw); go_simp; (try with_reducible rfl)
                  (try simp only [Act.put, List.getElem_toArray, List.getElem_cons_succ, List.getElem_cons_zero, List.setIfInBounds_toArray, List.set_cons_zero, List.set_cons_succ])
                  refine wpAnyH_take (i := 10) (v := ?_) rfl (by kernel_rfl) (by kernel_rfl) (by kernel_rfl) (fun _ _ _ h => h) (Or.inl ⟨by rfl, ?_⟩) (by assumption) ?_
                  rotate_left
                  · intro w hSw; (try dsimp only at hSw); go_simp; (try with_reducible rfl)
                  (try simp only [Act.put, List.getElem_toArray, List.getElem_cons_succ, List.getElem_cons_zero, List.setIfInBounds_toArray, List.set_cons_zero, List.set_cons_succ])
                  refine wpAnyH_take (i := 11) (v := ?_) rfl (by kernel_rfl) (by kernel_rfl) (by kernel_rfl) (fun _ _ _ h => h) (Or.inl ⟨by rfl, ?_⟩) (by assumption) ?_
                  rotate_left
                  · intro w hSw; (try dsimp only at hSw); go_simp; (try with_reducible rfl)
                  (try simp only [Act.put, List.getElem_toArray, List.getElem_cons_succ, List.getElem_cons_zero, List.setIfInBounds_toArray, List.set_cons_zero, List.set_cons_succ])
                  refine wpAnyH_take (i := 12) (v := ?_) rfl (by kernel_rfl) (by kernel_rfl) (by kernel_rfl) (fun _ _ _ h => h) (Or.inl ⟨by rfl, ?_⟩) (by assumption) ?_
                  rotate_left
                  · intro w hSw; (try dsimp only at hSw); go_simp; (try with_reducible rfl)
                  (try simp only [Act.put, List.getElem_toArray, List.getElem_cons_succ, List.getElem_cons_zero, List.setIfInBounds_toArray, List.set_cons_zero, List.set_cons_succ])
                  refine wpAnyH_take (i := 13) (v := ?_) rfl (by kernel_rfl) (by kernel_rfl) (by kernel_rfl) (fun _ _ _ h => h) (Or.inl ⟨by rfl, ?_⟩) (by assumption) ?_
                  rotate_left
                  · intro w hSw; (try dsimp only at hSw); go_simp; (try with_reducible rfl)
                  (try simp only [Act.put, List.getElem_toArray, List.getElem_cons_succ, List.getElem_cons_zero, List.setIfInBounds_toArray, List.set_cons_zero, List.set_cons_succ])
                  refine wpAnyH_take (i := 14) (v := ?_) rfl (by kernel_rfl) (by kernel_rfl) (by kernel_rfl) (fun _ _ _ h => h) (Or.inl ⟨by rfl, ?_⟩) (by assumption) ?_
                  rotate_left
                  · intro w hSw; (try dsimp only at hSw); go_simp; (try with_reducible rfl)
                  (try simp only [Act.put, List.getElem_toArray, List.getElem_cons_succ, List.getElem_cons_zero, List.setIfInBounds_toArray, List.set_cons_zero, List.set_cons_succ])
                  refine wpAnyH_take (i := 15) (v := ?_) rfl (by kernel_rfl) (by kernel_rfl) (by kernel_rfl) (fun _ _ _ h => h) (Or.inl ⟨by rfl, ?_⟩) (by assumption) ?_
                  rotate_left
                  · intro w hSw; (try dsimp only at hSw); go_simp; (try with_reducible rfl)
                  (try simp only [Act.put, List.getElem_toArray, List.getElem_cons_succ, List.getElem_cons_zero, List.setIfInBounds_toArray, List.set_cons_zero, List.set_cons_succ])
                  refine wpAnyH_take (i := 16) (v := ?_) rfl (by kernel_rfl) (by kernel_rfl) (by kernel_rfl) (fun _ _ _ h => h) (Or.inl ⟨by rfl, ?_⟩) (by assumption) ?_
                  rotate_left
                  · intro w hSw; (try dsimp only at hSw); go_simp; (try with_reducible rfl)
                  (try simp only [Act.put, List.getElem_toArray, List.getElem_cons_succ, List.getElem_cons_zero, List.setIfInBounds_toArray, List.set_cons_zero, List.set_cons_succ])
                  refine wpAnyH_take (i := 17) (v := ?_) rfl (by kernel_rfl) (by kernel_rfl) (by kernel_rfl) (fun _ _ _ h => h) (Or.inl ⟨by rfl, ?_⟩) (by assumption) ?_
                  rotate_left
                  · intro w hSw; (try dsimp only at hSw); go_simp; (try with_reducible rfl)
                  (try simp only [Act.put, List.getElem_toArray, List.getElem_cons_succ, List.getElem_cons_zero, List.setIfInBounds_toArray, List.set_cons_zero, List.set_cons_succ])
                  refine wpAnyH_take (i := 18) (v := ?_) rfl (by kernel_rfl) (by kernel_rfl) (by kernel_rfl) (fun _ _ _ h => h) (Or.inl ⟨by rfl, ?_⟩) (by assumption) ?_
                  rotate_left
                  · intro w hSw; (try dsimp only at hSw); go_simp; (try with_reducible rfl)
                  (try simp only [Act.put, List.getElem_toArray, List.getElem_cons_succ, List.getElem_cons_zero, List.setIfInBounds_toArray, List.set_cons_zero, List.set_cons_succ])
                  refine wpAnyH_take (i := 19) (v := ?_) rfl (by kernel_rfl) (by kernel_rfl) (by kernel_rfl) (fun _ _ _ h => h) (Or.inl ⟨by rfl, ?_⟩) (by assumption) ?_
                  rotate_left
                  · intro w hSw; (try dsimp only at hSw); go_simp; (try with_reducible rfl)
                  (try simp only [Act.put, List.getElem_toArray, List.getElem_cons_succ, List.getElem_cons_zero, List.setIfInBounds_toArray, List.set_cons_zero, List.set_cons_succ])
                  refine wpAnyH_take (i := 20) (v := ?_) rfl (by kernel_rfl) (by kernel_rfl) (by kernel_rfl) (fun _ _ _ h => h) (Or.inl ⟨by rfl, ?_⟩) (by assumption) ?_
                  rotate_left
                  · intro w hSw; (try dsimp only at hSw); go_simp; (try with_reducible rfl)
                  (try simp only [Act.put, List.getElem_toArray, List.getElem_cons_succ, List.getElem_cons_zero, List.setIfInBounds_toArray, List.set_cons_zero, List.set_cons_succ])
                  refine wpAnyH_take (i := 21) (v := ?_) rfl (by kernel_rfl) (by kernel_rfl) (by kernel_rfl) (fun _ _ _ h => h) (Or.inl ⟨by rfl, ?_⟩) (by assumption) ?_
                  rotate_left
                  · intro w hSw; (try dsimp only at hSw); go_simp; (try with_reducible rfl)
                  (try simp only [Act.put, List.getElem_toArray, List.getElem_cons_succ, List.getElem_cons_zero, List.setIfInBounds_toArray, List.set_cons_zero, List.set_cons_succ])
                  refine wpAnyH_take (i := 22) (v := ?_) rfl (by kernel_rfl) (by kernel_rfl) (by kernel_rfl) (fun _ _ _ h => h) (Or.inl ⟨by rfl, ?_⟩) (by assumption) ?_
                  rotate_left
                  · intro w hSw; (try dsimp only at hSw); go_simp; (try with_reducible rfl)
                  (try simp only [Act.put, List.getElem_toArray, List.getElem_cons_succ, List.getElem_cons_zero, List.setIfInBounds_toArray, List.set_cons_zero, List.set_cons_succ])
                  refine wpAnyH_take (i := 23) (v := ?_) rfl (by kernel_rfl) (by kernel_rfl) (by kernel_rfl) (fun _ _ _ h => h) (Or.inl ⟨by rfl, ?_⟩) (by assumption) ?_
                  rotate_left
                  · intro w hSw; (try dsimp only at hSw); go_simp; (try with_reducible rfl)
                  (try simp only [Act.put, List.getElem_toArray, List.getElem_cons_succ, List.getElem_cons_zero, List.setIfInBounds_toArray, List.set_cons_zero, List.set_cons_succ])
                  refine wpAnyH_take (i := 24) (v := ?_) rfl (by kernel_rfl) (by kernel_rfl) (by kernel_rfl) (fun _ _ _ h => h) (Or.inl ⟨by rfl, ?_⟩) (by assumption) ?_
                  rotate_left
                  · intro w hSw; (try dsimp only at hSw); go_simp; (try with_reducible rfl)
                  (try simp only [Act.put, List.getElem_toArray, List.getElem_cons_succ, List.getElem_cons_zero, List.setIfInBounds_toArray, List.set_cons_zero, List.set_cons_succ])
                  refine wpAnyH_take (i := 25) (v := ?_) rfl (by kernel_rfl) (by kernel_rfl) (by kernel_rfl) (fun _ _ _ h => h) (Or.inl ⟨by rfl, ?_⟩) (by assumption) ?_
                  rotate_left
                  · intro w hSw; (try dsimp only at hSw); go_simp; (try with_reducible rfl)
                  (try simp only [Act.put, List.getElem_toArray, List.getElem_cons_succ, List.getElem_cons_zero, List.setIfInBounds_toArray, List.set_cons_zero, List.set_cons_succ])
                  (try clear hK K)
                  refine wpAnyH_ready (rs := [26]) (by kernel_rfl) (by simp) ?_
                  refine AllReadyH.cons rfl (fun K hK => ?_) AllReadyH.nil
                  go_simp
                  (refine Calls.mono (HR.out _ HEB.out.2) ?_; rintro e w3 ⟨rfl, hb3⟩)
                  refine hK.out _ _ ?_ (fun hHeld => ?_)
                  · exact HX.out _ (on HEB.out.2 hb3) (HEB.out.1.below hb3)
                  (try clear hK K)
                  refine wpAnyH_take (i := 27) (v := ?_) rfl (by kernel_rfl) (by kernel_rfl) (by kernel_rfl) (fun _ _ _ h => h) (Or.inl ⟨by rfl, ?_⟩) (by assumption) ?_
                  rotate_left
                  · intro w hSw; (try dsimp only at hSw); go_simp; (try with_reducible rfl)
                  (try simp only [Act.put, List.getElem_toArray, List.getElem_cons_succ, List.getElem_cons_zero, List.setIfInBounds_toArray, List.set_cons_zero, List.set_cons_succ])
                  refine wpAnyH_take (i := 28) (v := ?_) rfl (by kernel_rfl) (by kernel_rfl) (by kernel_rfl) (fun _ _ _ h => h) (Or.inl ⟨by rfl, ?_⟩) (by assumption) ?_
                  rotate_left
                  · intro w hSw; (try dsimp only at hSw); go_simp; (try with_reducible rfl)
                  (try simp only [Act.put, List.getElem_toArray, List.getElem_cons_succ, List.getElem_cons_zero, List.setIfInBounds_toArray, List.set_cons_zero, List.set_cons_succ])
                  (try clear hK K)
                  refine wpAnyH_done (by kernel_rfl) ?_ _
                  have HQ4 : Hid (QU W w3 p (newL 60) [(.slice (some ⟨bx, ox, none⟩) l0.length cav3, l0.reverse), (.slice av1 l1.length cav1, l1.reverse)]) := HQ.out.below (on HEB.out.2 hb3)
                  clear hb3 HQ HX HR HEB
                  go_wp2_with fail
                  go_roundw
                  case rel => exact ⟨k + 1, HJ.out, by simp, HQ4⟩
                  case measure => have := HJ.out; simp [intOf]; omega
                · obtain rfl : k = l0.length := by omega
                  have HN20 : Hid (QU W wr p (newL 60) [(.slice av3 l0.length cav3, l0.reverse), (.slice av1 l1.length cav1, l1.reverse)]) := HQ.out
                  clear HQ hk h1
                  go_wp2_with fail
                  have HZ : Hid (Below W.heap.size W wr) := HN20.out.blw
                  go_ret
                  exact ⟨rfl, HZ.out⟩
theorem turns_law {a0 a1 : Option Addr} {n0 n1 c0 c1 : Nat} (l0 l1 : List En) (n : Int) (W : World) (i0 : Lies W (.slice a0 n0 c0) l0.length (ecells l0)) (g0 : ∀ e ∈ l0, GoodE W e) (i1 : Lies W (.slice a1 n1 c1) l1.length (ecells l1)) (g1 : ∀ e ∈ l1, GoodE W e) :
    Calls Try.prog 4 #[.slice a0 n0 c0, .slice a1 n1 c1, .int .i64 n] W fun x w' => x = .returned (.bool true) ∧ Below W.heap.size W w' := by
  obtain rfl : n0 = l0.length := by obtain ⟨_, _, e, _⟩ := i0; cases e; rfl
  obtain rfl : n1 = l1.length := by obtain ⟨_, _, e, _⟩ := i1; cases e; rfl
  by_cases hc : l0.length + l1.length ≤ 60 ∧ okn n = true
  · exact turns_main a0 a1 c0 c1 l0 l1 n W i0 g0 i1 g1 hc
  · exact turns_early a0 a1 c0 c1 l0 l1 n W hc
end Go.Proofs.Ytbfoplaccalegaa.Val
