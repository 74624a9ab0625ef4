/- What the reference's set answers: the same as the program's rules. -/
import Derived.Test.YtncefhjegkhamaaSetsPlain
import Derived.Test.YtncefhjegkhamaaRefFits
namespace Go.Proofs.Ytncefhjegkhamaa.Val
open Go.RowKit

set_option maxHeartbeats 400000 in
theorem rset_low (vc : Value) (c op f o : Int) (t : Bool) (n : Int) (s : ByteArray) (w : World) (h : c < 1) :
    Calls Try.prog 26 #[.agg #[vc], SV c op f o t n s] w fun e w' => e = .returned (.bool false) ∧ Below w.heap.size w w' := by
  go_enter Try.func26, Try.ntmps26
  go_wp2_with fail
  go_ret
  exact ⟨rfl, two_boxes _ _ _⟩
set_option maxHeartbeats 400000 in
theorem rset_high (ac : Option Addr) (len cc : Nat) (c op f o : Int) (t : Bool) (n : Int) (s : ByteArray) (w : World) (h0 : decide (c < 1) = false) (h : (len : Int) ≤ c) (_hl : len ≤ 9223372036854775807) :
    Calls Try.prog 26 #[.agg #[.slice ac len cc], SV c op f o t n s] w fun e w' => e = .returned (.bool false) ∧ Below w.heap.size w w' := by
  go_enter Try.func26, Try.ntmps26
  go_wp2_with fail
  go_ret
  exact ⟨rfl, two_boxes _ _ _⟩
set_option maxHeartbeats 1000000 in
theorem rset_to_no (ac : Option Addr) (len cc : Nat) (c : Nat) (f o : Int) (t : Bool) (n : Int) (s : ByteArray) (w : World) (h0 : decide ((c : Int) < 1) = false) (h : (c : Int) < len) (_hl : len ≤ 9223372036854775807)
    (H : Hid (∀ w1, Calls Try.prog 25 #[V t n s] w1 fun e w' => e = .returned (.bool false) ∧ Below w1.heap.size w1 w')) :
    Calls Try.prog 26 #[.agg #[.slice ac len cc], SV c 1 f o t n s] w fun e w' => e = .returned (.bool false) ∧ Below w.heap.size w w' := by
  go_enter Try.func26, Try.ntmps26
  go_wp2_with fail
  refine Calls.mono (H.out _) ?_
  rintro e w1 ⟨rfl, hb1⟩
  have HB1 : Hid (Below w.heap.size w w1) := back2 hb1
  have ht := TS.next (TS.new w (.slice ac len cc) c 1 f o t n s _ _) hb1
  unfold TS at ht
  clear hb1
  go_wp2_with fail
  go_quiet (fail)
  go_wp2_with fail
  go_ret
  exact ⟨rfl, below_drewN HB1.out _⟩
set_option maxHeartbeats 1000000 in
theorem rset_to_yes (ac : Option Addr) (cc : Nat) (cols : List Bool) (c : Nat) (f o : Int) (t : Bool) (n : Int) (s : ByteArray) (w : World) (hbo : BoolsIn w (.slice ac cols.length cc) cols) (h0 : decide ((c : Int) < 1) = false) (h : c < cols.length) (_hl : cols.length ≤ 9223372036854775807)
    (H : Hid (∀ w1, Calls Try.prog 25 #[V t n s] w1 fun e w' => e = .returned (.bool true) ∧ Below w1.heap.size w1 w')) :
    Calls Try.prog 26 #[.agg #[.slice ac cols.length cc], SV c 1 f o t n s] w fun e w' => e = .returned (.bool (t == cols[c])) ∧ Below w.heap.size w w' := by
  obtain ⟨b, p, rfl, d1⟩ := hbo.at c h
  have hlt : b < w.heap.size := World.block_lt_of_cell? w _ d1
  have k0 : (0 : Int) ≤ (c : Int) := by omega
  have k1 : (c : Int) < (cols.length : Int) := by omega
  clear hbo
  generalize cols[c] = x at *
  go_enter Try.func26, Try.ntmps26
  go_wp2_with fail
  refine Calls.mono (H.out _) ?_
  rintro e w1 ⟨rfl, hb1⟩
  have HB1 : Hid (Below w.heap.size w w1) := back2 hb1
  have ht := TS.next (TS.new w (.slice (some ⟨b, p, none⟩) cols.length cc) c 1 f o t n s _ _) hb1
  have d2 : w1.cell? ⟨b, p + c, none⟩ = some (.bool x) := by rw [HB1.out.cell hlt]; exact d1
  unfold TS at ht
  clear hb1
  go_wp2_with fail
  go_quiet (fail)
  go_wp2_with fail
  go_ret
  exact ⟨rfl, below_drewN HB1.out _⟩
set_option maxHeartbeats 1000000 in
theorem rset_copy_low (ac : Option Addr) (len cc : Nat) (c : Nat) (f o : Int) (t : Bool) (n : Int) (s : ByteArray) (w : World) (h0 : decide ((c : Int) < 1) = false) (h : (c : Int) < len) (_hl : len ≤ 9223372036854775807) (r : Bool) (hf : decide (0 ≤ f) = false)
    (H : Hid (∀ w1, Calls Try.prog 25 #[V t n s] w1 fun e w' => e = .returned (.bool r) ∧ Below w1.heap.size w1 w')) :
    Calls Try.prog 26 #[.agg #[.slice ac len cc], SV c 2 f o t n s] w fun e w' => e = .returned (.bool false) ∧ Below w.heap.size w w' := by
  go_enter Try.func26, Try.ntmps26
  go_wp2_with fail
  refine Calls.mono (H.out _) ?_
  rintro e w1 ⟨rfl, hb1⟩
  have HB1 : Hid (Below w.heap.size w w1) := back2 hb1
  have ht := TS.next (TS.new w (.slice ac len cc) c 2 f o t n s _ _) hb1
  unfold TS at ht
  clear hb1
  go_wp2_with fail
  go_quiet (fail)
  go_wp2_with fail
  go_ret
  exact ⟨rfl, below_drewN HB1.out _⟩
set_option maxHeartbeats 1000000 in
theorem rset_copy_high (ac : Option Addr) (len cc : Nat) (c : Nat) (f o : Int) (t : Bool) (n : Int) (s : ByteArray) (w : World) (h0 : decide ((c : Int) < 1) = false) (h : (c : Int) < len) (_hl : len ≤ 9223372036854775807) (r : Bool) (hf : 0 ≤ f) (hf2 : decide (f < (len : Int)) = false)
    (H : Hid (∀ w1, Calls Try.prog 25 #[V t n s] w1 fun e w' => e = .returned (.bool r) ∧ Below w1.heap.size w1 w')) :
    Calls Try.prog 26 #[.agg #[.slice ac len cc], SV c 2 f o t n s] w fun e w' => e = .returned (.bool false) ∧ Below w.heap.size w w' := by
  go_enter Try.func26, Try.ntmps26
  go_wp2_with fail
  refine Calls.mono (H.out _) ?_
  rintro e w1 ⟨rfl, hb1⟩
  have HB1 : Hid (Below w.heap.size w w1) := back2 hb1
  have ht := TS.next (TS.new w (.slice ac len cc) c 2 f o t n s _ _) hb1
  unfold TS at ht
  clear hb1
  go_wp2_with fail
  go_quiet (fail)
  go_wp2_with fail
  go_ret
  exact ⟨rfl, below_drewN HB1.out _⟩
set_option maxHeartbeats 1000000 in
theorem rset_copy_yes (ac : Option Addr) (cc : Nat) (cols : List Bool) (c f : Nat) (o : Int) (t : Bool) (n : Int) (s : ByteArray) (w : World) (hbo : BoolsIn w (.slice ac cols.length cc) cols) (h0 : decide ((c : Int) < 1) = false) (h : c < cols.length) (_hl : cols.length ≤ 9223372036854775807) (r : Bool) (hf : f < cols.length)
    (H : Hid (∀ w1, Calls Try.prog 25 #[V t n s] w1 fun e w' => e = .returned (.bool r) ∧ Below w1.heap.size w1 w')) :
    Calls Try.prog 26 #[.agg #[.slice ac cols.length cc], SV c 2 f o t n s] w fun e w' => e = .returned (.bool (cols[f] == cols[c])) ∧ Below w.heap.size w w' := by
  obtain ⟨b, p, rfl, d1⟩ := hbo.at c h
  obtain ⟨b', p', e', d2⟩ := hbo.at f hf
  cases e'
  have hlt : b < w.heap.size := World.block_lt_of_cell? w _ d1
  have k0 : (0 : Int) ≤ (c : Int) := by omega
  have k1 : (c : Int) < (cols.length : Int) := by omega
  have f0 : (0 : Int) ≤ (f : Int) := by omega
  have f1 : (f : Int) < (cols.length : Int) := by omega
  clear hbo
  generalize cols[c] = x at *
  generalize cols[f] = y at *
  go_enter Try.func26, Try.ntmps26
  go_wp2_with fail
  refine Calls.mono (H.out _) ?_
  rintro e w1 ⟨rfl, hb1⟩
  have HB1 : Hid (Below w.heap.size w w1) := back2 hb1
  have ht := TS.next (TS.new w (.slice (some ⟨b, p, none⟩) cols.length cc) c 2 f o t n s _ _) hb1
  have d3 : w1.cell? ⟨b, p + c, none⟩ = some (.bool x) := by rw [HB1.out.cell hlt]; exact d1
  have d4 : w1.cell? ⟨b, p + f, none⟩ = some (.bool y) := by rw [HB1.out.cell hlt]; exact d2
  unfold TS at ht
  clear hb1
  go_wp2_with fail
  go_quiet (fail)
  go_wp2_with fail
  go_ret
  exact ⟨rfl, below_drewN HB1.out _⟩
end Go.Proofs.Ytncefhjegkhamaa.Val
