/- Modes as plain data: which is one, what may be held at once, what covers, joins, intents, names; and the tables in which the program keeps them. -/
import Derived.Test.YtkkbbpldeeajaaaDoorRows
import Derived.WalkKit
import Derived.WalkSpells
import Derived.WalkLawsBesides
import Derived.Below
import Derived.Outline
import Derived.Deep.QuietTactic
import Derived.Deep.RegionWith
import Derived.BigQuiet
namespace Go.Proofs.YtkkbbpldeeajaaaDoor.Val
open Go Go.RowKit

def rightM (a : Int) : Bool := decide (0 ≤ a) && decide (a ≤ 6)
/-- What may not be held at once with each mode, a bit each. -/
def clashT : List Int := [0, 64, 120, 84, 124, 116, 126]
def fitsN (a b : Nat) : Bool := !((clashT.getD a 0).toNat.testBit b)
def fitsM (a b : Int) : Bool := rightM a && rightM b && fitsN a.toNat b.toNat
def coversN (a b : Nat) : Bool := (List.range 7).all fun i => !fitsN a i || fitsN b i
def coversM (a b : Int) : Bool := rightM a && rightM b && coversN a.toNat b.toNat
/-- The least of the first n modes that covers both. -/
def joinTo (a b : Nat) : Nat → Nat
  | 0 => 6
  | n + 1 => if coversN n a && coversN n b && coversN (joinTo a b n) n then n else joinTo a b n
def joinN (a b : Nat) : Nat := joinTo a b 7
def joinM (a b : Int) : Int := if rightM a && rightM b then (joinN a.toNat b.toNat : Nat) else 0
def intentT : List Int := [0, 1, 2, 1, 4, 2, 2]
def intentM (a : Int) : Int := if rightM a then intentT.getD a.toNat 0 else 0
def nameT : List ByteArray := [⟨#[78, 76]⟩, ⟨#[73, 83]⟩, ⟨#[73, 88]⟩, ⟨#[83]⟩, ⟨#[83, 73, 88]⟩, ⟨#[85]⟩, ⟨#[88]⟩]
def nameM (a : Int) : ByteArray := if rightM a then nameT.getD a.toNat ⟨#[]⟩ else ⟨#[]⟩
/-- A number that is a mode. -/
theorem mode_of {a : Int} (h : rightM a = true) : ∃ k : Nat, k < 7 ∧ a = (k : Int) := by
  simp [rightM] at h
  exact ⟨a.toNat, by omega, by omega⟩
theorem right_iff {a : Int} : rightM a = true ↔ 0 ≤ a ∧ a ≤ 6 := by simp [rightM]
theorem right_nat {k : Nat} (h : k < 7) : rightM (k : Int) = true := by rw [right_iff]; omega
theorem fits_nat {k j : Nat} (hk : k < 7) (hj : j < 7) : fitsM (k : Int) (j : Int) = fitsN k j := by simp [fitsM, right_nat hk, right_nat hj]
theorem covers_nat {k j : Nat} (hk : k < 7) (hj : j < 7) : coversM (k : Int) (j : Int) = coversN k j := by simp [coversM, right_nat hk, right_nat hj]
theorem join_nat {k j : Nat} (hk : k < 7) (hj : j < 7) : joinM (k : Int) (j : Int) = (joinN k j : Nat) := by simp [joinM, right_nat hk, right_nat hj]

/-- The tables lie in memory. -/
def TabC (w : World) : Prop := ∀ k : Nat, k < 7 → w.cell? ⟨0, k, none⟩ = some (.int .u8 (clashT.getD k 0))
theorem TabC.below {w w' : World} (h : TabC w) (hb : Below w.heap.size w w') : TabC w' := fun i hi => by
  rw [hb.cell (World.block_lt_of_cell? w _ (h i hi))]; exact h i hi
theorem TabC.drewN {w : World} (h : TabC w) (n : Nat) : TabC (w.drewN n) := fun i hi => by simpa using h i hi
/-- A call that only reads answers v. -/
abbrev Reads (f : FuncId) (args : Array Value) (w : World) (v : Value) : Prop := Calls Tryd.prog f args w fun e w' => e = .returned v ∧ ∃ m, w' = w.drewN m
end Go.Proofs.YtkkbbpldeeajaaaDoor.Val
/- What the document's Fits and Name of modes answer, for any numbers. -/
namespace Go.Proofs.YtkkbbpldeeajaaaDoor.Val
open Go Go.RowKit

/-- A call that writes nothing old answers v. -/
abbrev Tells (f : FuncId) (args : Array Value) (w : World) (v : Value) : Prop := Calls Tryd.prog f args w fun e w' => e = .returned v ∧ Below w.heap.size w w'
theorem drew_below (w : World) (n : Nat) : Below w.heap.size w (w.drewN n) := have h := Below.refl w.heap.size w; ⟨h.os, h.tape, h.output, h.size, h.block⟩
theorem Reads.tells {f : FuncId} {args : Array Value} {w : World} {v : Value} (h : Reads f args w v) : Tells f args w v :=
  Calls.mono h (by rintro e w' ⟨rfl, m, rfl⟩; exact ⟨rfl, drew_below w m⟩)
end Go.Proofs.YtkkbbpldeeajaaaDoor.Val
/- What Right, Fits and Covers of package mode answer, for any numbers. -/
namespace Go.Proofs.YtkkbbpldeeajaaaDoor.Val
open Go Go.RowKit

set_option maxHeartbeats 1000000 in
theorem mright_any (a : Int) (w : World) : Reads 58 #[.int .i64 a] w (.bool (rightM a)) := by
  by_cases h0 : 0 ≤ a
  · by_cases h1 : a ≤ 6
    · go_enter Tryd.func58, Tryd.ntmps58
      go_wp2_with fail
      go_ret
      exact ⟨by simp [rightM, h0, h1], 0, rfl⟩
    · go_enter Tryd.func58, Tryd.ntmps58
      go_wp2_with fail
      go_ret
      exact ⟨by simp [rightM, h0, h1], 0, rfl⟩
  · go_enter Tryd.func58, Tryd.ntmps58
    go_wp2_with fail
    go_ret
    exact ⟨by simp [rightM]; omega, 0, rfl⟩

theorem right_yes {k : Nat} (hk : k < 7) (w : World) : Reads 58 #[.int .i64 (k : Int)] w (.bool true) := by
  have := mright_any (k : Int) w; rwa [right_nat hk] at this
theorem shl_pow {j : Nat} (hj : j < 7) : (2 : Int) ^ min j 8 % 256 = ((2 ^ j : Nat) : Int) := by
  obtain rfl | rfl | rfl | rfl | rfl | rfl | rfl : j = 0 ∨ j = 1 ∨ j = 2 ∨ j = 3 ∨ j = 4 ∨ j = 5 ∨ j = 6 := by omega
  all_goals rfl
def le7 (p : Nat → Nat → Bool) : Bool := (List.range 7).all fun k => (List.range 7).all fun j => p k j
theorem of_le7 {p : Nat → Nat → Bool} (h : le7 p = true) {k j : Nat} (hk : k < 7) (hj : j < 7) : p k j = true := by
  simp only [le7, List.all_eq_true, List.mem_range] at h
  exact h k hk j hj
theorem fits_bits {k j : Nat} (hk : k < 7) (hj : j < 7) : (bits .and .u8 (clashT.getD k 0) ((2 ^ j : Nat) : Int) == 0) = fitsN k j := by
  have := of_le7 (p := fun k j => (bits .and .u8 (clashT.getD k 0) ((2 ^ j : Nat) : Int) == 0) == fitsN k j) (by decide +kernel) hk hj
  exact eq_of_beq this
theorem covers_bits {k j : Nat} (hk : k < 7) (hj : j < 7) : (bits .andNot .u8 (clashT.getD j 0) (clashT.getD k 0) == 0) = coversN k j := by
  have := of_le7 (p := fun k j => (bits .andNot .u8 (clashT.getD j 0) (clashT.getD k 0) == 0) == coversN k j) (by decide +kernel) hk hj
  exact eq_of_beq this
set_option maxHeartbeats 1000000 in
theorem fits_in (k j : Nat) (hk : k < 7) (hj : j < 7) (w : World) (hT : TabC w) : Reads 35 #[.int .i64 (k : Int), .int .i64 (j : Int)] w (.bool (fitsN k j)) := by
  rw [← fits_bits hk hj, ← shl_pow hj]
  have hc := hT k hk
  generalize clashT.getD k 0 = c at *
  have hk0 : (0 : Int) ≤ (k : Int) := by omega
  have hk1 : (k : Int) < 7 := by omega
  have HR1 : Hid (∀ w1, Reads 58 #[.int .i64 (k : Int)] w1 (.bool true)) := fun w1 => right_yes hk w1
  have HR2 : Hid (∀ w1, Reads 58 #[.int .i64 (j : Int)] w1 (.bool true)) := fun w1 => right_yes hj w1
  clear hT hk hj
  go_enter Tryd.func35, Tryd.ntmps35
  go_wp2_with fail
  go_quiet (first | (go_at_call_of 58 (k : Int); exact Calls.quiet_of (HR1.out _)) | (go_at_call_of 58 (j : Int); exact Calls.quiet_of (HR2.out _)))
  go_wp2_with fail
  go_ret
  exact ⟨rfl, _, rfl⟩
end Go.Proofs.YtkkbbpldeeajaaaDoor.Val
/- What Fits of package mode answers, for any two numbers. -/
namespace Go.Proofs.YtkkbbpldeeajaaaDoor.Val
open Go Go.RowKit

set_option maxHeartbeats 1000000 in
theorem mfits_any (a b : Int) (w : World) (hT : TabC w) : Reads 35 #[.int .i64 a, .int .i64 b] w (.bool (fitsM a b)) := by
  by_cases ha : rightM a = true
  · by_cases hb : rightM b = true
    · obtain ⟨k, hk, rfl⟩ := mode_of ha
      obtain ⟨j, hj, rfl⟩ := mode_of hb
      rw [fits_nat hk hj]
      exact fits_in k j hk hj w hT
    · have e : fitsM a b = false := by simp [fitsM, hb]
      have HR1 : Hid (∀ w1, Reads 58 #[.int .i64 a] w1 (.bool true)) := fun w1 => by have := mright_any a w1; rwa [ha] at this
      have HR2 : Hid (∀ w1, Reads 58 #[.int .i64 b] w1 (.bool false)) := fun w1 => by have := mright_any b w1; rwa [Bool.eq_false_iff.2 hb] at this
      rw [e]
      clear hT ha hb e
      go_enter Tryd.func35, Tryd.ntmps35
      go_wp2_with fail
      go_quiet (first | (go_at_call_of 58 a; exact Calls.quiet_of (HR1.out _)) | (go_at_call_of 58 b; exact Calls.quiet_of (HR2.out _)))
      go_wp2_with fail
      go_ret
      exact ⟨rfl, _, rfl⟩
  · have e : fitsM a b = false := by simp [fitsM, ha]
    have HR1 : Hid (∀ w1, Reads 58 #[.int .i64 a] w1 (.bool false)) := fun w1 => by have := mright_any a w1; rwa [Bool.eq_false_iff.2 ha] at this
    rw [e]
    clear hT ha e
    go_enter Tryd.func35, Tryd.ntmps35
    go_wp2_with fail
    go_quiet ((go_at_call_of 58 a; exact Calls.quiet_of (HR1.out _)))
    go_wp2_with fail
    go_ret
    exact ⟨rfl, _, rfl⟩
end Go.Proofs.YtkkbbpldeeajaaaDoor.Val
/- What Covers of package mode answers, for any two numbers. -/
namespace Go.Proofs.YtkkbbpldeeajaaaDoor.Val
open Go Go.RowKit

set_option maxHeartbeats 1000000 in
theorem covers_in (k j : Nat) (hk : k < 7) (hj : j < 7) (w : World) (hT : TabC w) : Reads 39 #[.int .i64 (k : Int), .int .i64 (j : Int)] w (.bool (coversN k j)) := by
  rw [← covers_bits hk hj]
  have hc := hT k hk
  have hd := hT j hj
  generalize clashT.getD k 0 = c at *
  generalize clashT.getD j 0 = d at *
  have hk0 : (0 : Int) ≤ (k : Int) := by omega
  have hk1 : (k : Int) < 7 := by omega
  have hj0 : (0 : Int) ≤ (j : Int) := by omega
  have hj1 : (j : Int) < 7 := by omega
  have HR1 : Hid (∀ w1, Reads 58 #[.int .i64 (k : Int)] w1 (.bool true)) := fun w1 => right_yes hk w1
  have HR2 : Hid (∀ w1, Reads 58 #[.int .i64 (j : Int)] w1 (.bool true)) := fun w1 => right_yes hj w1
  clear hT hk hj
  go_enter Tryd.func39, Tryd.ntmps39
  go_wp2_with fail
  go_quiet (first | (go_at_call_of 58 (k : Int); exact Calls.quiet_of (HR1.out _)) | (go_at_call_of 58 (j : Int); exact Calls.quiet_of (HR2.out _)))
  go_wp2_with fail
  go_ret
  exact ⟨rfl, _, rfl⟩
set_option maxHeartbeats 1000000 in
theorem covers_any (a b : Int) (w : World) (hT : TabC w) : Reads 39 #[.int .i64 a, .int .i64 b] w (.bool (coversM a b)) := by
  by_cases ha : rightM a = true
  · by_cases hb : rightM b = true
    · obtain ⟨k, hk, rfl⟩ := mode_of ha
      obtain ⟨j, hj, rfl⟩ := mode_of hb
      rw [covers_nat hk hj]
      exact covers_in k j hk hj w hT
    · have e : coversM a b = false := by simp [coversM, hb]
      have HR1 : Hid (∀ w1, Reads 58 #[.int .i64 a] w1 (.bool true)) := fun w1 => by have := mright_any a w1; rwa [ha] at this
      have HR2 : Hid (∀ w1, Reads 58 #[.int .i64 b] w1 (.bool false)) := fun w1 => by have := mright_any b w1; rwa [Bool.eq_false_iff.2 hb] at this
      rw [e]
      clear hT ha hb e
      go_enter Tryd.func39, Tryd.ntmps39
      go_wp2_with fail
      go_quiet (first | (go_at_call_of 58 a; exact Calls.quiet_of (HR1.out _)) | (go_at_call_of 58 b; exact Calls.quiet_of (HR2.out _)))
      go_wp2_with fail
      go_ret
      exact ⟨rfl, _, rfl⟩
  · have e : coversM a b = false := by simp [coversM, ha]
    have HR1 : Hid (∀ w1, Reads 58 #[.int .i64 a] w1 (.bool false)) := fun w1 => by have := mright_any a w1; rwa [Bool.eq_false_iff.2 ha] at this
    rw [e]
    clear hT ha e
    go_enter Tryd.func39, Tryd.ntmps39
    go_wp2_with fail
    go_quiet ((go_at_call_of 58 a; exact Calls.quiet_of (HR1.out _)))
    go_wp2_with fail
    go_ret
    exact ⟨rfl, _, rfl⟩
end Go.Proofs.YtkkbbpldeeajaaaDoor.Val
/- What Join, Intent and Name of package mode answer, for any numbers. -/
namespace Go.Proofs.YtkkbbpldeeajaaaDoor.Val
open Go Go.RowKit

theorem joinTo_lt (k j n : Nat) (hn : n ≤ 7) : joinTo k j n < 7 := by
  induction n with
  | zero => show 6 < 7; omega
  | succ n ih => rw [joinTo]; split <;> have := ih (by omega) <;> omega
set_option maxHeartbeats 4000000 in
theorem join_in (k j : Nat) (hk : k < 7) (hj : j < 7) (w : World) (hT : TabC w) : Reads 46 #[.int .i64 (k : Int), .int .i64 (j : Int)] w (.int .i64 (joinN k j : Nat)) := by
  have HR : Hid (∀ (i : Nat) w1, i < 7 → Reads 58 #[.int .i64 (i : Int)] w1 (.bool true)) := fun i w1 hi => right_yes hi w1
  have HC : Hid (∀ (a b : Nat) v q, a < 7 → b < 7 → coversN a b = v → Reads 39 #[.int .i64 (a : Int), .int .i64 (b : Int)] (w.drewN q) (.bool v)) := fun a b v q ha hb h => by rw [← h]; exact covers_in a b ha hb _ (hT.drewN q)
  have HKJ : Hid (k < 7 ∧ j < 7) := ⟨hk, hj⟩
  clear hT hk hj
  go_enter Tryd.func46, Tryd.ntmps46
  go_wp2_with fail
  refine Calls.mono (HR.out k _ HKJ.out.1) ?_
  rintro e w1 ⟨rfl, q1, rfl⟩
  go_wp2_with fail
  refine Calls.mono (HR.out j _ HKJ.out.2) ?_
  rintro e w1 ⟨rfl, q2, rfl⟩
  rw [World.drewN_drewN]
  go_wp2_with fail
  go_loopw [5, 6] (fun l i wr => ∃ n : Nat, n ≤ 7 ∧ i = .int .i64 (n : Int) ∧ l = .int .i64 (joinTo k j n : Nat) ∧ Hid (∃ q, wr = w.drewN q)) (fun _ i _ => 7 - (intOf i).toNat)
  case atStart => exact ⟨0, by omega, rfl, rfl, _, rfl⟩
  case round =>
    obtain ⟨n, hn, rfl, rfl, HW⟩ := hrel
    obtain ⟨q, rfl⟩ := HW.out
    clear HW
    by_cases h7 : n < 7
    · have hl := joinTo_lt k j n hn
      have HJ : Hid (joinTo k j (n + 1) = if coversN n k && coversN n j && coversN (joinTo k j n) n then n else joinTo k j n) := rfl
      generalize joinTo k j n = l at *
      have h6 : (n : Int) ≤ 6 := by omega
      have HL : Hid (l < 7 ∧ n < 7) := ⟨hl, h7⟩
      clear hl h7 hn
      by_cases x1 : coversN n k = true
      · go_wp2_with fail
        refine Calls.mono (HC.out n k _ _ HL.out.2 HKJ.out.1 x1) ?_
        rintro e w1 ⟨rfl, q3, rfl⟩
        rw [World.drewN_drewN]
        by_cases x2 : coversN n j = true
        · go_wp2_with fail
          refine Calls.mono (HC.out n j _ _ HL.out.2 HKJ.out.2 x2) ?_
          rintro e w1 ⟨rfl, q4, rfl⟩
          rw [World.drewN_drewN]
          by_cases x3 : coversN l n = true
          · go_wp2_with fail
            refine Calls.mono (HC.out l n _ _ HL.out.1 HL.out.2 x3) ?_
            rintro e w1 ⟨rfl, q5, rfl⟩
            rw [World.drewN_drewN]
            have HJ2 : Hid (joinTo k j (n + 1) = n) := by show _ = _; rw [HJ.out]; simp [x1, x2, x3]
            clear HJ
            go_wp2_with fail
            go_roundw
            case rel => exact ⟨n + 1, by have := HL.out.2; omega, by go_num, by rw [HJ2.out], _, rfl⟩
            case measure => have := HL.out.2; simp [intOf]; omega
          · go_wp2_with fail
            refine Calls.mono (HC.out l n _ _ HL.out.1 HL.out.2 (Bool.eq_false_iff.2 x3)) ?_
            rintro e w1 ⟨rfl, q5, rfl⟩
            rw [World.drewN_drewN]
            have HJ2 : Hid (joinTo k j (n + 1) = l) := by show _ = _; rw [HJ.out]; simp [x3]
            clear HJ
            go_wp2_with fail
            go_roundw
            case rel => exact ⟨n + 1, by have := HL.out.2; omega, by go_num, by rw [HJ2.out], _, rfl⟩
            case measure => have := HL.out.2; simp [intOf]; omega
        · go_wp2_with fail
          refine Calls.mono (HC.out n j _ _ HL.out.2 HKJ.out.2 (Bool.eq_false_iff.2 x2)) ?_
          rintro e w1 ⟨rfl, q4, rfl⟩
          rw [World.drewN_drewN]
          have HJ2 : Hid (joinTo k j (n + 1) = l) := by show _ = _; rw [HJ.out]; simp [x2]
          clear HJ
          go_wp2_with fail
          go_roundw
          case rel => exact ⟨n + 1, by have := HL.out.2; omega, by go_num, by rw [HJ2.out], _, rfl⟩
          case measure => have := HL.out.2; simp [intOf]; omega
      · go_wp2_with fail
        refine Calls.mono (HC.out n k _ _ HL.out.2 HKJ.out.1 (Bool.eq_false_iff.2 x1)) ?_
        rintro e w1 ⟨rfl, q3, rfl⟩
        rw [World.drewN_drewN]
        have HJ2 : Hid (joinTo k j (n + 1) = l) := by show _ = _; rw [HJ.out]; simp [x1]
        clear HJ
        go_wp2_with fail
        go_roundw
        case rel => exact ⟨n + 1, by have := HL.out.2; omega, by go_num, by rw [HJ2.out], _, rfl⟩
        case measure => have := HL.out.2; simp [intOf]; omega
    · obtain rfl : n = 7 := by omega
      have HJ : Hid (joinTo k j 7 = joinN k j) := rfl
      generalize joinTo k j 7 = l at *
      go_wp2_with fail
      go_ret
      exact ⟨by rw [HJ.out]; rfl, _, rfl⟩
set_option maxHeartbeats 1000000 in
theorem join_any (a b : Int) (w : World) (hT : TabC w) : Reads 46 #[.int .i64 a, .int .i64 b] w (.int .i64 (joinM a b)) := by
  by_cases ha : rightM a = true
  · by_cases hb : rightM b = true
    · obtain ⟨k, hk, rfl⟩ := mode_of ha
      obtain ⟨j, hj, rfl⟩ := mode_of hb
      rw [join_nat hk hj]
      exact join_in k j hk hj w hT
    · have e : joinM a b = 0 := by simp [joinM, hb]
      have HR1 : Hid (∀ w1, Reads 58 #[.int .i64 a] w1 (.bool true)) := fun w1 => by have := mright_any a w1; rwa [ha] at this
      have HR2 : Hid (∀ w1, Reads 58 #[.int .i64 b] w1 (.bool false)) := fun w1 => by have := mright_any b w1; rwa [Bool.eq_false_iff.2 hb] at this
      rw [e]
      clear hT ha hb e
      go_enter Tryd.func46, Tryd.ntmps46
      go_wp2_with fail
      refine Calls.mono (HR1.out _) ?_
      rintro e w1 ⟨rfl, q1, rfl⟩
      go_wp2_with fail
      refine Calls.mono (HR2.out _) ?_
      rintro e w1 ⟨rfl, q2, rfl⟩
      rw [World.drewN_drewN]
      go_wp2_with fail
      go_ret
      exact ⟨rfl, _, rfl⟩
  · have e : joinM a b = 0 := by simp [joinM, ha]
    have HR1 : Hid (∀ w1, Reads 58 #[.int .i64 a] w1 (.bool false)) := fun w1 => by have := mright_any a w1; rwa [Bool.eq_false_iff.2 ha] at this
    rw [e]
    clear hT ha e
    go_enter Tryd.func46, Tryd.ntmps46
    go_wp2_with fail
    refine Calls.mono (HR1.out _) ?_
    rintro e w1 ⟨rfl, q1, rfl⟩
    go_wp2_with fail
    go_ret
    exact ⟨rfl, _, rfl⟩
end Go.Proofs.YtkkbbpldeeajaaaDoor.Val
