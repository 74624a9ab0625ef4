/- What the reference's set answers, whatever the set. -/
import Derived.Test.YtncefhjegkhamaaRefSet
namespace Go.Proofs.Ytncefhjegkhamaa.Val
open Go.RowKit

set_option maxHeartbeats 1000000 in
theorem rset_none (ac : Option Addr) (len cc : Nat) (c : Nat) (op f o : Int) (t : Bool) (n : Int) (s : ByteArray) (w : World) (h0 : decide ((c : Int) < 1) = false) (_h : (c : Int) < len) (_hl : len ≤ 9223372036854775807) (r : Bool)
    (h1 : (op == 1) = false) (h2 : (op == 2) = false) (h3 : (op == 3) = false) (h4 : (op == 4) = false) (h5 : (op == 5) = false) (h6 : (op == 6) = false)
    (H : Hid (∀ w1, Calls Try.prog 25 #[V t n s] w1 fun e w' => e = .returned (.bool r) ∧ Below w1.heap.size w1 w')) :
    Calls Try.prog 26 #[.agg #[.slice ac len cc], SV c op f o t n s] w fun e w' => e = .returned (.bool false) ∧ Below w.heap.size w w' := by
  go_enter Try.func26, Try.ntmps26
  go_wp2_with fail
  refine Calls.mono (H.out _) ?_
  rintro e w1 ⟨rfl, hb1⟩
  have HB1 : Hid (Below w.heap.size w w1) := back2 hb1
  have ht := TS.next (TS.new w (.slice ac len cc) c op f o t n s _ _) hb1
  unfold TS at ht
  clear hb1
  go_wp2_with fail
  go_ret
  exact ⟨rfl, HB1.out⟩
set_option maxHeartbeats 2000000 in
theorem rset_reckons (ac : Option Addr) (len cc : Nat) (c : Nat) (op f o : Int) (t : Bool) (n : Int) (s : ByteArray) (w : World) (h0 : decide ((c : Int) < 1) = false) (_h : (c : Int) < len) (_hl : len ≤ 9223372036854775807) (r bc bf : Bool)
    (h1 : (op == 1) = false) (h2 : (op == 2) = false) (h3 : ((op == 3) = true) ∨ ((op == 3) = false ∧ (op == 4) = true) ∨ ((op == 3) = false ∧ (op == 4) = false ∧ (op == 5) = true))
    (H : Hid (∀ w1, Calls Try.prog 25 #[V t n s] w1 fun e w' => e = .returned (.bool r) ∧ Below w1.heap.size w1 w'))
    (HC : Hid (∀ w1, Below w.heap.size w w1 → Calls Try.prog 33 #[.agg #[.slice ac len cc], .int .i64 c] w1 fun e w' => e = .returned (.bool bc) ∧ Below w1.heap.size w1 w'))
    (HF : Hid (∀ w1, Below w.heap.size w w1 → Calls Try.prog 33 #[.agg #[.slice ac len cc], .int .i64 f] w1 fun e w' => e = .returned (.bool bf) ∧ Below w1.heap.size w1 w')) :
    Calls Try.prog 26 #[.agg #[.slice ac len cc], SV c op f o t n s] w fun e w' => e = .returned (.bool (bc && bf && r && !t)) ∧ Below w.heap.size w w' := by
  rcases h3 with h3 | ⟨h3, h4⟩ | ⟨h3, h4, h5⟩ <;> cases bc <;> cases bf <;> cases r
  all_goals
    go_enter Try.func26, Try.ntmps26
    go_wp2_with fail
    refine Calls.mono (H.out _) ?_
    rintro e w1 ⟨rfl, hb1⟩
    have HB1 : Hid (Below w.heap.size w w1) := back2 hb1
    have ht := TS.next (TS.new w (.slice ac len cc) c op f o t n s _ _) hb1
    have HT : Hid (TS w1 w.heap.size (.slice ac len cc) c op f o t n s) := ht
    unfold TS at ht
    clear hb1
    go_wp2_with fail
    refine Calls.mono (HC.out _ HB1.out) ?_
    rintro e w2 ⟨rfl, hb2⟩
    have HB2 : Hid (Below w.heap.size w w2) := HB1.out.trans (hb2.mono HB1.out.size)
    clear ht
    have ht := TS.next HT.out hb2
    have HT2 : Hid (TS w2 w.heap.size (.slice ac len cc) c op f o t n s) := ht
    unfold TS at ht
    clear hb2
    go_wp2_with fail
  all_goals first | (go_ret; exact ⟨rfl, HB2.out⟩) | skip
  all_goals
    refine Calls.mono (HF.out _ HB2.out) ?_
    rintro e w3 ⟨rfl, hb3⟩
    have HB3 : Hid (Below w.heap.size w w3) := HB2.out.trans (hb3.mono HB2.out.size)
    clear ht
    have ht := TS.next HT2.out hb3
    unfold TS at ht
    clear hb3
    go_wp2_with fail
    go_ret
    exact ⟨rfl, HB3.out⟩
set_option maxHeartbeats 2000000 in
theorem rset_sum (ac : Option Addr) (len cc : Nat) (c : Nat) (f o : Int) (t : Bool) (n : Int) (s : ByteArray) (w : World) (h0 : decide ((c : Int) < 1) = false) (_h : (c : Int) < len) (_hl : len ≤ 9223372036854775807) (r bc bf bo : Bool)
    (H : Hid (∀ w1, Calls Try.prog 25 #[V t n s] w1 fun e w' => e = .returned (.bool r) ∧ Below w1.heap.size w1 w'))
    (HC : Hid (∀ w1, Below w.heap.size w w1 → Calls Try.prog 33 #[.agg #[.slice ac len cc], .int .i64 c] w1 fun e w' => e = .returned (.bool bc) ∧ Below w1.heap.size w1 w'))
    (HF : Hid (∀ w1, Below w.heap.size w w1 → Calls Try.prog 33 #[.agg #[.slice ac len cc], .int .i64 f] w1 fun e w' => e = .returned (.bool bf) ∧ Below w1.heap.size w1 w'))
    (HO : Hid (∀ w1, Below w.heap.size w w1 → Calls Try.prog 33 #[.agg #[.slice ac len cc], .int .i64 o] w1 fun e w' => e = .returned (.bool bo) ∧ Below w1.heap.size w1 w')) :
    Calls Try.prog 26 #[.agg #[.slice ac len cc], SV c 6 f o t n s] w fun e w' => e = .returned (.bool (bc && bf && bo)) ∧ Below w.heap.size w w' := by
  cases bc <;> cases bf
  all_goals
    go_enter Try.func26, Try.ntmps26
    go_wp2_with fail
    refine Calls.mono (H.out _) ?_
    rintro e w1 ⟨rfl, hb1⟩
    have HB1 : Hid (Below w.heap.size w w1) := back2 hb1
    have ht := TS.next (TS.new w (.slice ac len cc) c 6 f o t n s _ _) hb1
    have HT : Hid (TS w1 w.heap.size (.slice ac len cc) c 6 f o t n s) := ht
    unfold TS at ht
    clear hb1
    go_wp2_with fail
    refine Calls.mono (HC.out _ HB1.out) ?_
    rintro e w2 ⟨rfl, hb2⟩
    have HB2 : Hid (Below w.heap.size w w2) := HB1.out.trans (hb2.mono HB1.out.size)
    clear ht
    have ht := TS.next HT.out hb2
    have HT2 : Hid (TS w2 w.heap.size (.slice ac len cc) c 6 f o t n s) := ht
    unfold TS at ht
    clear hb2
    go_wp2_with fail
  all_goals first | (go_ret; exact ⟨rfl, HB2.out⟩) | skip
  all_goals
    refine Calls.mono (HF.out _ HB2.out) ?_
    rintro e w3 ⟨rfl, hb3⟩
    have HB3 : Hid (Below w.heap.size w w3) := HB2.out.trans (hb3.mono HB2.out.size)
    clear ht
    have ht := TS.next HT2.out hb3
    unfold TS at ht
    clear hb3
    go_wp2_with fail
  all_goals first | (go_ret; exact ⟨rfl, HB3.out⟩) | skip
  all_goals
    refine Calls.mono (HO.out _ HB3.out) ?_
    rintro e w4 ⟨rfl, hb4⟩
    have HB4 : Hid (Below w.heap.size w w4) := HB3.out.trans (hb4.mono HB3.out.size)
    clear hb4
    go_wp2_with fail
    go_ret
    exact ⟨rfl, HB4.out⟩
theorem setOk_low {cols : List Bool} {s : SetP} (h : s.col < 1) : setOk cols s = false := by
  cases e : setOk cols s
  · rfl
  · unfold setOk at e
    rw [Bool.and_eq_true, Bool.and_eq_true, decide_eq_true_eq, isCol_iff] at e
    omega
theorem setOk_high {cols : List Bool} {s : SetP} (h : (cols.length : Int) ≤ s.col) : setOk cols s = false := by
  cases e : setOk cols s
  · rfl
  · unfold setOk at e
    rw [Bool.and_eq_true, Bool.and_eq_true, decide_eq_true_eq, isCol_iff] at e
    omega
theorem reckons_same {cols : List Bool} {c f : Int} {v : Val} : (isNum cols c && isNum cols f && rightV v.t v.n v.s && !v.t) = (isNum cols c && isNum cols f && suitV (colAt cols c) v) := by
  cases e : isNum cols c
  · rfl
  · have ec : colAt cols c = false := by
      unfold isNum at e
      rw [Bool.and_eq_true] at e
      simpa using e.2
    rw [ec]
    unfold suitV
    cases isNum cols f <;> cases rightV v.t v.n v.s <;> cases v.t <;> rfl
theorem rset_any (vc : Value) (cols : List Bool) (s : SetP) (w : World) (hb : BoolsIn w vc cols) (hs : s.v.s.size ≤ maxLen) :
    Calls Try.prog 26 #[.agg #[vc], SV s.col s.op s.src s.other s.v.t s.v.n s.v.s] w fun e w' => e = .returned (.bool (setOk cols s)) ∧ Below w.heap.size w w' := by
  by_cases h1 : s.col < 1
  · rw [setOk_low h1]; exact rset_low vc s.col s.op s.src s.other s.v.t s.v.n s.v.s w h1
  obtain ⟨ac, cc, rfl, hl⟩ := hb.slice
  by_cases h2 : (cols.length : Int) ≤ s.col
  · rw [setOk_high h2]; exact rset_high ac cols.length cc s.col s.op s.src s.other s.v.t s.v.n s.v.s w (by simpa using h1) h2 hl
  have hcol : isCol cols s.col = true := isCol_iff.2 ⟨by omega, by omega⟩
  rw [setOk_of hcol (by omega)]
  have H : ∀ r, rightV s.v.t s.v.n s.v.s = r → Hid (∀ w1, Calls Try.prog 25 #[V s.v.t s.v.n s.v.s] w1 fun e w' => e = .returned (.bool r) ∧ Below w1.heap.size w1 w') := fun r hr w1 => by
    have := rright_any s.v.t s.v.n s.v.s w1 hs; rw [hr] at this; exact this
  have HN : ∀ i, Hid (∀ w1, Below w.heap.size w w1 → Calls Try.prog 33 #[.agg #[.slice ac cols.length cc], .int .i64 i] w1 fun e w' => e = .returned (.bool (isNum cols i)) ∧ Below w1.heap.size w1 w') := fun i w1 hb' => rnumber_any _ cols i w1 (hb.below hb')
  obtain ⟨c, op, f, o, v⟩ := s
  simp only at *
  obtain ⟨k, rfl, hk⟩ : ∃ k : Nat, c = k ∧ k < cols.length := ⟨c.toNat, by omega, by omega⟩
  have h0 : decide ((k : Int) < 1) = false := by simpa using h1
  have hk' : (k : Int) < cols.length := by omega
  have gk := colAt_nat hk
  rcases op_cases op with rfl | rfl | ⟨g1, g2, g3, g4⟩ | rfl | ⟨g1, g2, g3, g4, g5, g6⟩
  · cases hr : rightV v.t v.n v.s
    · have e : goesB cols ⟨k, 1, f, o, v⟩ = false := suitV_no hr
      rw [e]; exact rset_to_no ac cols.length cc k f o v.t v.n v.s w h0 hk' hl (H _ hr)
    · have e : goesB cols ⟨k, 1, f, o, v⟩ = (v.t == cols[k]) := by rw [← gk]; exact suitV_yes hr
      rw [e]; exact rset_to_yes ac cc cols k f o v.t v.n v.s w hb h0 hk hl (H _ hr)
  · by_cases hf : 0 ≤ f
    · by_cases hf2 : f < cols.length
      · obtain ⟨j, rfl⟩ : ∃ j : Nat, f = j := ⟨f.toNat, by omega⟩
        have hj : j < cols.length := by omega
        have e : goesB cols ⟨k, 2, j, o, v⟩ = (cols[j] == cols[k]) := by simp [goesB, isCol_iff.2 ⟨hf, hf2⟩, gk, colAt_nat hj]
        rw [e]; exact rset_copy_yes ac cc cols k j o v.t v.n v.s w hb h0 hk hl _ hj (H _ rfl)
      · have e : goesB cols ⟨k, 2, f, o, v⟩ = false := by simp [goesB, isCol_no (cols := cols) (i := f) (by omega)]
        rw [e]; exact rset_copy_high ac cols.length cc k f o v.t v.n v.s w h0 hk' hl _ hf (by simpa using hf2) (H _ rfl)
    · have e : goesB cols ⟨k, 2, f, o, v⟩ = false := by simp [goesB, isCol_no (cols := cols) (i := f) (by omega)]
      rw [e]; exact rset_copy_low ac cols.length cc k f o v.t v.n v.s w h0 hk' hl _ (by simpa using hf) (H _ rfl)
  · have e : goesB cols ⟨k, op, f, o, v⟩ = (isNum cols k && isNum cols f && rightV v.t v.n v.s && !v.t) := by
      have e1 : op ≠ 1 := by simpa using g1
      have e2 : op ≠ 2 := by simpa using g2
      rw [reckons_same]
      simp [goesB, e1, e2, g3]
    rw [e]
    exact rset_reckons ac cols.length cc k op f o v.t v.n v.s w h0 hk' hl _ _ _ g1 g2 g4 (H _ rfl) (HN _) (HN _)
  · exact rset_sum ac cols.length cc k f o v.t v.n v.s w h0 hk' hl _ _ _ _ (H _ rfl) (HN _) (HN _) (HN _)
  · have e : goesB cols ⟨k, op, f, o, v⟩ = false := by
      have e1 : op ≠ 1 := by simpa using g1
      have e2 : op ≠ 2 := by simpa using g2
      have e3 : op ≠ 3 := by simpa using g3
      have e4 : op ≠ 4 := by simpa using g4
      have e5 : op ≠ 5 := by simpa using g5
      have e6 : op ≠ 6 := by simpa using g6
      simp [goesB, e1, e2, e3, e4, e5, e6]
    rw [e]
    exact rset_none ac cols.length cc k op f o v.t v.n v.s w h0 hk' hl _ g1 g2 g3 g4 g5 g6 (H _ rfl)
end Go.Proofs.Ytncefhjegkhamaa.Val
