/- What the reference's Digits answers: the number's decimal digits. -/
import Derived.Test.YtmgkjojifhchkaaDoorRefSums
import Derived.Test.YtmgkjojifhchkaaDoorNumPlain
import Derived.Test.YtmgkjojifhchkaaDoorReadText
import Derived.Lib.ItoaLen
import Derived.Lib.Strings
namespace Go.Proofs.YtmgkjojifhchkaaDoor.Val
open Go.RowKit

theorem dec_step (x : Nat) (l : List UInt8) (h : ¬ x < 10) : Lib.decDigits x ++ l = Lib.decDigits (x / 10) ++ (UInt8.ofNat (48 + x % 10) :: l) := by rw [dec_big h]; simp
theorem dec_last (x : Nat) (l : List UInt8) (h : x < 10) : Lib.decDigits x ++ l = UInt8.ofNat (48 + x % 10) :: l := by rw [dec_small h, Nat.mod_eq_of_lt h]; rfl
theorem one_string {P : Program} (w : World) (T E D : TypeId) (c : UInt8) (hs : P.underlying T = some (.slice E)) (he : P.underlying E = some (.int .u8)) (hd : P.underlying D = some .string) :
    (convert T D (.slice (some ⟨w.heap.size, 0, none⟩) 1 1)).run P (w.alloc (.cells #[.int .u8 (c.toNat : Int)] E)) = .ok (.string ⟨#[c]⟩) (w.alloc (.cells #[.int .u8 (c.toNat : Int)] E)) :=
  run_convert_bytes_back (w.alloc (.cells #[.int .u8 (c.toNat : Int)] E)) T D E ⟨w.heap.size, 0, none⟩ 1 [c] hs he hd (fun j hj => by
    match j, hj with
    | 0, _ => simp [Addr.add])

theorem ret_str {a b : ByteArray} (h : a = b) : Ending.returned (.string a) = .returned (.string b) := by rw [h]
theorem of_toList {a : ByteArray} {l : List UInt8} (h : a.data.toList = l) : a = ⟨l.toArray⟩ := by
  subst h; cases a; simp
theorem append_data (a b : ByteArray) : (a ++ b).data.toList = a.data.toList ++ b.data.toList := by simp
theorem itoa_size (n : Int) (u : Nat) (h : (u : Int) = size n) : Lib.itoa n = if n < 0 then 45 :: Lib.decDigits u else Lib.decDigits u := by
  unfold size at h
  unfold Lib.itoa
  split
  · rename_i hn
    rw [if_pos hn] at h
    rw [show n.natAbs = u by omega]
  · rename_i hn
    rw [if_neg hn] at h
    rw [show n.toNat = u by omega]
theorem dec_length (n : Int) (u : Nat) (h : (u : Int) = size n) (h1 : -9223372036854775808 ≤ n) (h3 : n ≤ 9223372036854775807) : (Lib.decDigits u).length ≤ 21 := by
  have := Lib.itoa_length_le n h1 h3
  rw [itoa_size n u h] at this
  split at this
  · simp only [List.length_cons] at this; omega
  · exact this
set_option maxHeartbeats 1000000 in
theorem digits_loop (n : Int) (u : Nat) (w : World) (hu : u ≤ 9223372036854775808) (h2 : (u : Int) = size n) (h1 : -9223372036854775808 ≤ n) (h3 : n ≤ 9223372036854775807) :
    Calls Tryd.prog 33 #[.int .i64 n] w fun e w' => e = .returned (.string ⟨(Lib.itoa n).toArray⟩) ∧ Below w.heap.size w w' := by
  have HZ : Hid (∀ w1 : World, Calls Tryd.prog 27 #[.int .i64 n] w1 fun e w' => e = .returned (.int .u64 (u : Int)) ∧ w' = w1) := fun w1 => by rw [h2]; exact size_any n w1 h1 h3
  have HU : Hid ((u : Int) = size n) := h2
  have HL : Hid ((Lib.decDigits u).length ≤ 21) := dec_length n u h2 h1 h3
  clear h2
  go_enter Tryd.func33, Tryd.ntmps33
  go_wp2_with fail
  refine Calls.mono (HZ.out _) ?_
  rintro e w1 ⟨rfl, hw⟩
  obtain rfl := hw.symm
  go_wp2_with fail
  go_loopw [3, 4] (fun x v wr => ∃ (k : Nat) (s : ByteArray), k ≤ 9223372036854775808 ∧ x = .int .u64 (k : Int) ∧ v = .string s ∧ Hid (Lib.decDigits u = Lib.decDigits k ++ s.data.toList) ∧ Hid (Below w.heap.size w wr))
    (fun x _ _ => (intOf x).toNat)
  case atStart => exact ⟨u, ⟨#[]⟩, hu, rfl, rfl, by show _ = _ ++ []; simp, Below.refl _ _⟩
  case round =>
    obtain ⟨k, s, hk, rfl, rfl, HD, HB⟩ := hrel
    have hlen : s.size ≤ 21 := by
      have := congrArg List.length HD.out
      rw [List.length_append, ← Lib.size_eq] at this
      have := HL.out
      omega
    have hd : k % 10 < 10 := Nat.mod_lt _ (by decide)
    obtain ⟨c, hc⟩ : ∃ c : UInt8, c = UInt8.ofNat (48 + k % 10) := ⟨_, rfl⟩
    have HC : Hid (c = UInt8.ofNat (48 + k % 10)) := hc
    have q1 : 48 + (k : Int) % 10 = (c.toNat : Int) := by rw [hc, dig_toNat hd]; omega
    clear hc
    have hconv := one_string (P := Tryd.prog) wr 41 5 9 c Tryd.underlying41 Tryd.underlying5 Tryd.underlying9
    have hsz := HB.out.size
    have HS : Hid ((⟨#[c]⟩ ++ s : ByteArray).data.toList = c :: s.data.toList) := by show _ = _; simp
    by_cases h10 : k < 10
    · have q2 : (k : Int) / 10 = 0 := by omega
      have HE : Hid (Lib.decDigits u = (⟨#[c]⟩ ++ s : ByteArray).data.toList) := by
        show _ = _
        rw [HS.out, HD.out, dec_last k _ h10, HC.out]
      clear HD HC HS
      go_wp2
      · have hn : n < 0 := by assumption
        go_ret
        exact ⟨ret_str (of_toList (by rw [append_data, itoa_size n u HU.out, if_pos hn, HE.out]; rfl)), HB.out.alloc hsz _⟩
      · have hn : 0 ≤ n := by assumption
        go_ret
        exact ⟨ret_str (of_toList (by rw [itoa_size n u HU.out, if_neg (by omega), HE.out])), HB.out.alloc hsz _⟩
    · have q2 : ((k : Int) / 10 == 0) = false := by rw [beq_eq_false_iff_ne]; omega
      have HN : Hid (Lib.decDigits u = Lib.decDigits (k / 10) ++ (⟨#[c]⟩ ++ s : ByteArray).data.toList) := by
        show _ = _
        rw [HS.out, HD.out, dec_step k _ h10, HC.out]
      clear HD HC HS
      go_wp2
      go_roundw
      case rel => exact ⟨k / 10, ⟨#[c]⟩ ++ s, by omega, by go_num, rfl, HN, HB.out.alloc hsz _⟩
      case measure => simp [intOf]; omega
theorem digits_any (n : Int) (w : World) (hn : fits n = true) :
    Calls Tryd.prog 33 #[.int .i64 n] w fun e w' => e = .returned (.string ⟨(Lib.itoa n).toArray⟩) ∧ Below w.heap.size w w' := by
  rw [fits_iff] at hn
  refine digits_loop n (size n).toNat w ?_ ?_ hn.1 hn.2
  · unfold size; split <;> omega
  · unfold size; split <;> omega
end Go.Proofs.YtmgkjojifhchkaaDoor.Val
