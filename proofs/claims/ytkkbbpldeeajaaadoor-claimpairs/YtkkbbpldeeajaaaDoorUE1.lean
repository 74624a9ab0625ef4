/- What the document's Fits of modes answers, of modes. -/
import Derived.Test.YtkkbbpldeeajaaaDoorUM
namespace Go.Proofs.YtkkbbpldeeajaaaDoor.Val
open Go Go.RowKit

set_option maxHeartbeats 4000000 in
theorem rfits_in (k j : Nat) (hk : k < 7) (hj : j < 7) (w : World) : Tells 37 #[.int .i64 (k : Int), .int .i64 (j : Int)] w (.bool (fitsN k j)) := by
  obtain rfl | rfl | rfl | rfl | rfl | rfl | rfl : k = 0 ∨ k = 1 ∨ k = 2 ∨ k = 3 ∨ k = 4 ∨ k = 5 ∨ k = 6 := by omega
  all_goals obtain rfl | rfl | rfl | rfl | rfl | rfl | rfl : j = 0 ∨ j = 1 ∨ j = 2 ∨ j = 3 ∨ j = 4 ∨ j = 5 ∨ j = 6 := by omega
  all_goals
    go_enter Tryd.func37, Tryd.ntmps37
    go_wp2_with fail
    go_ret
    first
      | exact ⟨rfl, Below.refl _ _⟩
      | exact ⟨rfl, (Below.refl _ _).alloc (Nat.le_refl _) _⟩
      | fail
end Go.Proofs.YtkkbbpldeeajaaaDoor.Val
/- What the document's Fits, Intent and Name of modes answer, for any numbers. -/
namespace Go.Proofs.YtkkbbpldeeajaaaDoor.Val
open Go Go.RowKit

set_option maxHeartbeats 1000000 in
theorem mrfits_any (a b : Int) (w : World) : Tells 37 #[.int .i64 a, .int .i64 b] w (.bool (fitsM a b)) := by
  by_cases ha : rightM a = true
  · by_cases hb : rightM b = true
    · obtain ⟨k, hk, rfl⟩ := mode_of ha
      obtain ⟨j, hj, rfl⟩ := mode_of hb
      rw [fits_nat hk hj]
      exact rfits_in k j hk hj w
    · have e : fitsM a b = false := by simp [fitsM, hb]
      rw [e]
      obtain ⟨a0, a1⟩ := right_iff.1 ha
      rw [right_iff] at hb
      clear e ha
      by_cases b0 : b < 0
      · go_enter Tryd.func37, Tryd.ntmps37
        go_wp2_with fail
        go_ret
        exact ⟨rfl, Below.refl _ _⟩
      · have b1 : 6 < b := by omega
        go_enter Tryd.func37, Tryd.ntmps37
        go_wp2_with fail
        go_ret
        exact ⟨rfl, Below.refl _ _⟩
  · have e : fitsM a b = false := by simp [fitsM, ha]
    rw [e]
    rw [right_iff] at ha
    clear e
    by_cases a0 : a < 0
    · go_enter Tryd.func37, Tryd.ntmps37
      go_wp2_with fail
      go_ret
      exact ⟨rfl, Below.refl _ _⟩
    · have a1 : 6 < a := by omega
      go_enter Tryd.func37, Tryd.ntmps37
      go_wp2_with fail
      go_ret
      exact ⟨rfl, Below.refl _ _⟩
end Go.Proofs.YtkkbbpldeeajaaaDoor.Val
/- What the document's Covers and Join of modes answer, for any numbers. -/
namespace Go.Proofs.YtkkbbpldeeajaaaDoor.Val
open Go Go.RowKit

def le7R (p : Nat → Nat → Bool) : Bool := (List.range 7).all fun k => (List.range 7).all fun j => p k j
theorem of_le7R {p : Nat → Nat → Bool} (h : le7R p = true) {k j : Nat} (hk : k < 7) (hj : j < 7) : p k j = true := by
  simp only [le7R, List.all_eq_true, List.mem_range] at h
  exact h k hk j hj
/-- What stands in the way among the first n: nothing. -/
def coversTo (a b n : Nat) : Bool := (List.range n).all fun i => !fitsN a i || fitsN b i
theorem coversTo_succ (a b n : Nat) : coversTo a b (n + 1) = (coversTo a b n && (!fitsN a n || fitsN b n)) := by simp [coversTo, List.range_succ]
theorem covers_stop {a b n : Nat} (hn : n < 7) (h : (!fitsN a n || fitsN b n) = false) : coversN a b = false := by
  rw [coversN, List.all_eq_false]
  exact ⟨n, List.mem_range.2 hn, by rw [h]; decide⟩
set_option maxHeartbeats 4000000 in
theorem rcovers_in (k j : Nat) (hk : k < 7) (hj : j < 7) (w : World) : Tells 43 #[.int .i64 (k : Int), .int .i64 (j : Int)] w (.bool (coversN k j)) := by
  have HF : Hid (∀ (a b : Nat) v w1, a < 7 → b < 7 → fitsN a b = v → Tells 37 #[.int .i64 (a : Int), .int .i64 (b : Int)] w1 (.bool v)) := fun a b v w1 ha hb h => by rw [← h]; exact rfits_in a b ha hb _
  have HKJ : Hid (k < 7 ∧ j < 7) := ⟨hk, hj⟩
  have k1 : (k : Int) ≤ 6 := by omega
  have j1 : (j : Int) ≤ 6 := by omega
  have k0 : (0 : Int) ≤ (k : Int) := by omega
  have j0 : (0 : Int) ≤ (j : Int) := by omega
  clear hk hj
  go_enter Tryd.func43, Tryd.ntmps43
  go_wp2_with fail
  clear k1 j1 k0 j0
  go_loopw [5, 6, 7] (fun i _ _ wr => ∃ n : Nat, n ≤ 7 ∧ i = .int .i64 (n : Int) ∧ Hid (coversTo k j n = true ∧ Below w.heap.size w wr)) (fun i _ _ _ => 7 - (intOf i).toNat)
  case atStart => exact ⟨0, by omega, rfl, rfl, Below.refl _ _⟩
  case round =>
    obtain ⟨n, hn, rfl, HW⟩ := hrel
    by_cases h7 : n < 7
    · have HL : Hid (n < 7) := h7
      have h6 : (n : Int) ≤ 6 := by omega
      clear hn h7
      cases x1 : fitsN k n with
      | true =>
        go_wp2_with fail
        refine Calls.mono (HF.out k n _ _ HKJ.out.1 HL.out x1) ?_
        rintro e w1 ⟨rfl, hb⟩
        have HB : Hid (Below w.heap.size w w1) := HW.out.2.trans (hb.mono HW.out.2.size)
        clear hb
        cases x2 : fitsN j n with
        | true =>
          go_wp2_with fail
          refine Calls.mono (HF.out j n _ _ HKJ.out.2 HL.out x2) ?_
          rintro e w2 ⟨rfl, hb⟩
          have HB2 : Hid (Below w.heap.size w w2) := HB.out.trans (hb.mono HB.out.size)
          clear hb
          go_wp2_with fail
          go_roundw
          case rel => exact ⟨n + 1, by have := HL.out; omega, by go_num, by rw [coversTo_succ, HW.out.1, x1, x2]; rfl, HB2.out⟩
          case measure => have := HL.out; simp [intOf]; omega
        | false =>
          go_wp2_with fail
          refine Calls.mono (HF.out j n _ _ HKJ.out.2 HL.out x2) ?_
          rintro e w2 ⟨rfl, hb⟩
          have HB2 : Hid (Below w.heap.size w w2) := HB.out.trans (hb.mono HB.out.size)
          have HE : Hid (coversN k j = false) := covers_stop HL.out (by rw [x1, x2]; rfl)
          clear hb
          go_wp2_with fail
          go_ret
          exact ⟨by rw [HE.out]; rfl, HB2.out⟩
      | false =>
        go_wp2_with fail
        refine Calls.mono (HF.out k n _ _ HKJ.out.1 HL.out x1) ?_
        rintro e w1 ⟨rfl, hb⟩
        have HB : Hid (Below w.heap.size w w1) := HW.out.2.trans (hb.mono HW.out.2.size)
        clear hb
        obtain ⟨v2, x2⟩ : ∃ v, fitsN j n = v := ⟨_, rfl⟩
        go_wp2_with fail
        refine Calls.mono (HF.out j n _ _ HKJ.out.2 HL.out x2) ?_
        rintro e w2 ⟨rfl, hb⟩
        have HB2 : Hid (Below w.heap.size w w2) := HB.out.trans (hb.mono HB.out.size)
        clear hb
        go_wp2_with fail
        go_roundw
        case rel => exact ⟨n + 1, by have := HL.out; omega, by go_num, by rw [coversTo_succ, HW.out.1, x1]; rfl, HB2.out⟩
        case measure => have := HL.out; simp [intOf]; omega
    · obtain rfl : n = 7 := by omega
      have HE : Hid (coversN k j = true) := HW.out.1
      go_wp2_with fail
      go_ret
      exact ⟨by rw [HE.out]; rfl, HW.out.2⟩
set_option maxHeartbeats 1000000 in
theorem rcovers_any (a b : Int) (w : World) : Tells 43 #[.int .i64 a, .int .i64 b] w (.bool (coversM a b)) := by
  by_cases ha : rightM a = true
  · by_cases hb : rightM b = true
    · obtain ⟨k, hk, rfl⟩ := mode_of ha
      obtain ⟨j, hj, rfl⟩ := mode_of hb
      rw [covers_nat hk hj]
      exact rcovers_in k j hk hj w
    · have e : coversM a b = false := by simp [coversM, hb]
      rw [e]
      obtain ⟨a0, a1⟩ := right_iff.1 ha
      rw [right_iff] at hb
      clear e ha
      by_cases b0 : b < 0
      · go_enter Tryd.func43, Tryd.ntmps43
        go_wp2_with fail
        go_ret
        exact ⟨rfl, Below.refl _ _⟩
      · have b1 : 6 < b := by omega
        go_enter Tryd.func43, Tryd.ntmps43
        go_wp2_with fail
        go_ret
        exact ⟨rfl, Below.refl _ _⟩
  · have e : coversM a b = false := by simp [coversM, ha]
    rw [e]
    rw [right_iff] at ha
    clear e
    by_cases a0 : a < 0
    · go_enter Tryd.func43, Tryd.ntmps43
      go_wp2_with fail
      go_ret
      exact ⟨rfl, Below.refl _ _⟩
    · have a1 : 6 < a := by omega
      go_enter Tryd.func43, Tryd.ntmps43
      go_wp2_with fail
      go_ret
      exact ⟨rfl, Below.refl _ _⟩
/-- The best of the first n, as the document's loop finds it. -/
def bestTo (a b : Nat) : Nat → Int
  | 0 => -1
  | n + 1 => if coversN n a && coversN n b && (decide (bestTo a b n < 0) || coversN (bestTo a b n).toNat n) then (n : Int) else bestTo a b n
theorem best_range (a b n : Nat) : -1 ≤ bestTo a b n ∧ bestTo a b n < n := by
  induction n with
  | zero => exact ⟨Int.le_refl _, by show (-1 : Int) < 0; omega⟩
  | succ n ih => rw [bestTo]; split <;> omega
theorem best_seven {k j : Nat} (hk : k < 7) (hj : j < 7) : bestTo k j 7 = (joinN k j : Nat) := by
  have := of_le7R (p := fun k j => bestTo k j 7 == ((joinN k j : Nat) : Int)) (by decide +kernel) hk hj
  exact eq_of_beq this
set_option maxHeartbeats 4000000 in
theorem rjoin_in (k j : Nat) (hk : k < 7) (hj : j < 7) (w : World) : Tells 50 #[.int .i64 (k : Int), .int .i64 (j : Int)] w (.int .i64 (joinN k j : Nat)) := by
  have HC : Hid (∀ (a b : Nat) v w1, a < 7 → b < 7 → coversN a b = v → Tells 43 #[.int .i64 (a : Int), .int .i64 (b : Int)] w1 (.bool v)) := fun a b v w1 ha hb h => by rw [← h]; exact rcovers_in a b ha hb _
  have HKJ : Hid (k < 7 ∧ j < 7) := ⟨hk, hj⟩
  clear hk hj
  go_enter Tryd.func50, Tryd.ntmps50
  go_wp2_with fail
  go_loopw [5, 6, 7] (fun l i _ wr => ∃ n : Nat, n ≤ 7 ∧ i = .int .i64 (n : Int) ∧ l = .int .i64 (bestTo k j n) ∧ Hid (Below w.heap.size w wr)) (fun _ i _ _ => 7 - (intOf i).toNat)
  case atStart => exact ⟨0, by omega, rfl, rfl, Below.refl _ _⟩
  case round =>
    obtain ⟨n, hn, rfl, rfl, HW⟩ := hrel
    by_cases h7 : n < 7
    · have HJ : Hid (bestTo k j (n + 1) = if coversN n k && coversN n j && (decide (bestTo k j n < 0) || coversN (bestTo k j n).toNat n) then (n : Int) else bestTo k j n) := rfl
      have HR : Hid (-1 ≤ bestTo k j n ∧ bestTo k j n < n) := best_range k j n
      generalize bestTo k j n = l at *
      have h6 : (n : Int) ≤ 6 := by omega
      have HL : Hid (n < 7) := h7
      clear h7 hn
      cases x1 : coversN n k with
      | true =>
        go_wp2_with fail
        refine Calls.mono (HC.out n k _ _ HL.out HKJ.out.1 x1) ?_
        rintro e w1 ⟨rfl, hb⟩
        have HB : Hid (Below w.heap.size w w1) := HW.out.trans (hb.mono HW.out.size)
        clear hb
        cases x2 : coversN n j with
        | true =>
          go_wp2_with fail
          refine Calls.mono (HC.out n j _ _ HL.out HKJ.out.2 x2) ?_
          rintro e w2 ⟨rfl, hb⟩
          have HB2 : Hid (Below w.heap.size w w2) := HB.out.trans (hb.mono HB.out.size)
          clear hb
          by_cases hl : l < 0
          · have HJ2 : Hid (bestTo k j (n + 1) = n) := by show _ = _; rw [HJ.out]; simp [x1, x2, hl]
            clear HJ
            go_wp2_with fail
            go_roundw
            case rel => exact ⟨n + 1, by have := HL.out; omega, by go_num, by rw [HJ2.out], HB2.out⟩
            case measure => have := HL.out; simp [intOf]; omega
          · obtain ⟨l', rfl⟩ : ∃ l' : Nat, l = (l' : Int) := ⟨l.toNat, by omega⟩
            have HL2 : Hid (l' < 7) := by have := HR.out; show l' < 7; omega
            have hl0 : (0 : Int) ≤ (l' : Int) := by omega
            cases x3 : coversN l' n with
            | true =>
              go_wp2_with fail
              refine Calls.mono (HC.out l' n _ _ HL2.out HL.out x3) ?_
              rintro e w3 ⟨rfl, hb⟩
              have HB3 : Hid (Below w.heap.size w w3) := HB2.out.trans (hb.mono HB2.out.size)
              have HJ2 : Hid (bestTo k j (n + 1) = n) := by show _ = _; rw [HJ.out]; simp [x1, x2, x3]
              clear HJ hb
              go_wp2_with fail
              go_roundw
              case rel => exact ⟨n + 1, by have := HL.out; omega, by go_num, by rw [HJ2.out], HB3.out⟩
              case measure => have := HL.out; simp [intOf]; omega
            | false =>
              go_wp2_with fail
              refine Calls.mono (HC.out l' n _ _ HL2.out HL.out x3) ?_
              rintro e w3 ⟨rfl, hb⟩
              have HB3 : Hid (Below w.heap.size w w3) := HB2.out.trans (hb.mono HB2.out.size)
              have HJ2 : Hid (bestTo k j (n + 1) = l') := by show _ = _; rw [HJ.out]; simp [x3]; omega
              clear HJ hb
              go_wp2_with fail
              go_roundw
              case rel => exact ⟨n + 1, by have := HL.out; omega, by go_num, by rw [HJ2.out], HB3.out⟩
              case measure => have := HL.out; simp [intOf]; omega
        | false =>
          go_wp2_with fail
          refine Calls.mono (HC.out n j _ _ HL.out HKJ.out.2 x2) ?_
          rintro e w2 ⟨rfl, hb⟩
          have HB2 : Hid (Below w.heap.size w w2) := HB.out.trans (hb.mono HB.out.size)
          have HJ2 : Hid (bestTo k j (n + 1) = l) := by show _ = _; rw [HJ.out]; simp [x2]
          clear HJ hb
          go_wp2_with fail
          go_roundw
          case rel => exact ⟨n + 1, by have := HL.out; omega, by go_num, by rw [HJ2.out], HB2.out⟩
          case measure => have := HL.out; simp [intOf]; omega
      | false =>
        go_wp2_with fail
        refine Calls.mono (HC.out n k _ _ HL.out HKJ.out.1 x1) ?_
        rintro e w1 ⟨rfl, hb⟩
        have HB2 : Hid (Below w.heap.size w w1) := HW.out.trans (hb.mono HW.out.size)
        have HJ2 : Hid (bestTo k j (n + 1) = l) := by show _ = _; rw [HJ.out]; simp [x1]
        clear HJ hb
        go_wp2_with fail
        go_roundw
        case rel => exact ⟨n + 1, by have := HL.out; omega, by go_num, by rw [HJ2.out], HB2.out⟩
        case measure => have := HL.out; simp [intOf]; omega
    · obtain rfl : n = 7 := by omega
      rw [best_seven HKJ.out.1 HKJ.out.2]
      have h0 : (0 : Int) ≤ ((joinN k j : Nat) : Int) := by omega
      go_wp2_with fail
      go_ret
      exact ⟨rfl, HW.out⟩
set_option maxHeartbeats 4000000 in
theorem rjoin_out (a b : Int) (h : (rightM a && rightM b) = false) (w : World) : Tells 50 #[.int .i64 a, .int .i64 b] w (.int .i64 0) := by
  have HC : Hid (∀ (a b : Int) v w1, coversM a b = v → Tells 43 #[.int .i64 a, .int .i64 b] w1 (.bool v)) := fun a b v w1 h => by rw [← h]; exact rcovers_any a b _
  have HN : Hid (∀ n : Int, coversM n a = false ∨ coversM n b = false) := fun n => by
    cases ha : rightM a with
    | false => exact .inl (by simp [coversM, ha])
    | true => rw [ha] at h; exact .inr (by simp only [coversM]; rw [show rightM b = false by simpa using h]; simp)
  clear h
  go_enter Tryd.func50, Tryd.ntmps50
  go_wp2_with fail
  go_loopw [5, 6, 7] (fun l i _ wr => ∃ n : Nat, n ≤ 7 ∧ i = .int .i64 (n : Int) ∧ l = .int .i64 (-1) ∧ Hid (Below w.heap.size w wr)) (fun _ i _ _ => 7 - (intOf i).toNat)
  case atStart => exact ⟨0, by omega, rfl, rfl, Below.refl _ _⟩
  case round =>
    obtain ⟨n, hn, rfl, rfl, HW⟩ := hrel
    by_cases h7 : n < 7
    · have h6 : (n : Int) ≤ 6 := by omega
      have HL : Hid (n < 7) := h7
      clear h7 hn
      cases x1 : coversM n a with
      | true =>
        have x2 : coversM n b = false := by have := HN.out n; rw [x1] at this; simpa using this
        go_wp2_with fail
        refine Calls.mono (HC.out n a _ _ x1) ?_
        rintro e w1 ⟨rfl, hb⟩
        have HB : Hid (Below w.heap.size w w1) := HW.out.trans (hb.mono HW.out.size)
        clear hb
        go_wp2_with fail
        refine Calls.mono (HC.out n b _ _ x2) ?_
        rintro e w2 ⟨rfl, hb⟩
        have HB2 : Hid (Below w.heap.size w w2) := HB.out.trans (hb.mono HB.out.size)
        clear hb
        go_wp2_with fail
        go_roundw
        case rel => exact ⟨n + 1, by have := HL.out; omega, by go_num, rfl, HB2.out⟩
        case measure => have := HL.out; simp [intOf]; omega
      | false =>
        go_wp2_with fail
        refine Calls.mono (HC.out n a _ _ x1) ?_
        rintro e w1 ⟨rfl, hb⟩
        have HB2 : Hid (Below w.heap.size w w1) := HW.out.trans (hb.mono HW.out.size)
        clear hb
        go_wp2_with fail
        go_roundw
        case rel => exact ⟨n + 1, by have := HL.out; omega, by go_num, rfl, HB2.out⟩
        case measure => have := HL.out; simp [intOf]; omega
    · obtain rfl : n = 7 := by omega
      go_wp2_with fail
      go_ret
      exact ⟨rfl, HW.out⟩
theorem rjoin_any (a b : Int) (w : World) : Tells 50 #[.int .i64 a, .int .i64 b] w (.int .i64 (joinM a b)) := by
  cases h : rightM a && rightM b with
  | true =>
    rw [Bool.and_eq_true] at h
    obtain ⟨k, hk, rfl⟩ := mode_of h.1
    obtain ⟨j, hj, rfl⟩ := mode_of h.2
    rw [join_nat hk hj]
    exact rjoin_in k j hk hj w
  | false =>
    have e : joinM a b = 0 := by rw [joinM, h]; rfl
    rw [e]
    exact rjoin_out a b h w
end Go.Proofs.YtkkbbpldeeajaaaDoor.Val
