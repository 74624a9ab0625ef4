/- Plain facts on decimal numerals: what is told is read. No program. -/
import Derived.Lib.ItoaNum
import Derived.Lib.ParseIntB
import Derived.Lib.ParseIntBTie
import Derived.Test.YtmgkjojifhchkaaDoorHexPlain
import Derived.Test.YtmgkjojifhchkaaDoorSumsPlain
namespace Go.Proofs.YtmgkjojifhchkaaDoor.Val
open Go Go.Lib

theorem dec_small {u : Nat} (h : u < 10) : decDigits u = [UInt8.ofNat (48 + u)] := by rw [decDigits, dif_pos h]
theorem dec_big {u : Nat} (h : ¬ u < 10) : decDigits u = decDigits (u / 10) ++ [UInt8.ofNat (48 + u % 10)] := by rw [decDigits, dif_neg h]
theorem dig_toNat {d : Nat} (h : d < 10) : (UInt8.ofNat (48 + d)).toNat = 48 + d := UInt8.toNat_ofNat_of_lt' (by show _ < 256; omega)
theorem dec_mem : ∀ (m u : Nat), u < m → ∀ c ∈ decDigits u, 48 ≤ c.toNat ∧ c.toNat ≤ 57
  | 0, u, h, _, _ => by omega
  | m + 1, u, h, c, hc => by
    by_cases hs : u < 10
    · rw [dec_small hs] at hc
      simp only [List.mem_cons, List.not_mem_nil, or_false] at hc
      subst hc; rw [dig_toNat hs]; omega
    · rw [dec_big hs, List.mem_append] at hc
      rcases hc with hc | hc
      · exact dec_mem m (u / 10) (by omega) c hc
      · simp only [List.mem_cons, List.not_mem_nil, or_false] at hc
        subst hc; rw [dig_toNat (by omega)]; omega
theorem dec_digit {u : Nat} {c : UInt8} (h : c ∈ decDigits u) : 48 ≤ c.toNat ∧ c.toNat ≤ 57 := dec_mem (u + 1) u (by omega) c h
theorem dec_ne (u : Nat) : decDigits u ≠ [] := by
  by_cases hs : u < 10
  · rw [dec_small hs]; simp
  · rw [dec_big hs]; simp
theorem dec_cons (u : Nat) : ∃ c r, decDigits u = c :: r ∧ 48 ≤ c.toNat ∧ c.toNat ≤ 57 := by
  cases h : decDigits u with
  | nil => exact absurd h (dec_ne u)
  | cons c r => exact ⟨c, r, rfl, dec_digit (u := u) (by rw [h]; simp)⟩

theorem parseM_snoc (M : Nat) (c : UInt8) : ∀ (l : List UInt8) (acc v : Nat), parseUintM M acc l = .ok v → parseUintM M acc (l ++ [c]) = parseUintM M v [c]
  | [], acc, v, h => by simp only [parseUintM, NumEnd.ok.injEq] at h; subst h; rfl
  | x :: l, acc, v, h => by
    simp only [parseUintM, List.cons_append] at h ⊢
    split at h
    · rename_i hd
      rw [if_pos hd]
      split at h
      · cases h
      · rename_i h1
        rw [if_neg h1]
        split at h
        · cases h
        · rename_i h2
          rw [if_neg h2]
          exact parseM_snoc M c l _ v h
    · cases h
theorem parseM_dec (M : Nat) (hM : M ≤ 18446744073709551615) : ∀ (m u : Nat), u < m → u ≤ M → parseUintM M 0 (decDigits u) = .ok u
  | 0, u, h, _ => by omega
  | m + 1, u, h, hu => by
    by_cases hs : u < 10
    · rw [dec_small hs]
      simp only [parseUintM, dig_toNat hs]
      rw [if_pos (by omega), if_neg (by omega), if_neg (by omega)]
      simp
    · have ih := parseM_dec M hM m (u / 10) (by omega) (by omega)
      rw [dec_big hs, parseM_snoc M _ _ _ _ ih]
      simp only [parseUintM, dig_toNat (show u % 10 < 10 by omega)]
      rw [if_pos (by omega), if_neg (by omega), if_neg (by omega)]
      congr 1; omega
theorem parse_dec {u : Nat} (h : u ≤ 18446744073709551615) : parseUintB 64 (decDigits u) = .ok u := by
  unfold parseUintB
  rw [if_neg (dec_ne u)]
  exact parseM_dec _ (by decide) (u + 1) u (by omega) (by have : (2 : Nat) ^ 64 - 1 = 18446744073709551615 := by decide
                                                          omega)
/-- What is told is read. -/
theorem parse_itoa {n : Int} (h : fits n = true) : parseIntB 64 (itoa n) = .ok n := by
  rw [fits_iff] at h
  have p63 : (2 : Nat) ^ (64 - 1) = 9223372036854775808 := by decide
  by_cases hn : n < 0
  · unfold itoa
    rw [if_pos hn]
    unfold parseIntB
    have e : (45 : UInt8).toNat = 45 := rfl
    simp only [e]
    rw [if_pos (by simp), parse_dec (u := n.natAbs) (by omega)]
    simp only [p63]
    rw [if_neg (by simp), if_neg (by omega), if_pos trivial]
    congr 1; omega
  · unfold itoa
    rw [if_neg hn]
    obtain ⟨c, r, hc, h1, h2⟩ := dec_cons n.toNat
    have hp := parse_dec (u := n.toNat) (by omega)
    rw [hc] at hp ⊢
    unfold parseIntB
    simp only
    rw [if_neg (by omega), hp]
    simp only [p63]
    rw [if_neg (by omega), if_neg (by omega), if_neg (by omega)]
    congr 1; omega
theorem itoa_inj {a b : Int} (ha : fits a = true) (hb : fits b = true) (h : itoa a = itoa b) : a = b := by
  have h1 := parse_itoa ha
  rw [h, parse_itoa hb] at h1
  simpa using h1.symm
theorem itoa_cons (n : Int) : ∃ c r, itoa n = c :: r ∧ c ≠ 120 := by
  unfold itoa
  split
  · exact ⟨45, _, rfl, by decide⟩
  · obtain ⟨c, r, hc, h1, h2⟩ := dec_cons n.toNat
    exact ⟨c, r, hc, fun e => by rw [e] at h2; exact absurd h2 (by decide)⟩
/-- What a text says as a number, if it is the one that is told. -/
def numOf (l : List UInt8) : Option Int := match parseIntB 64 l with | .ok n => if itoa n = l then some n else none | _ => none
theorem numOf_itoa {n : Int} (h : fits n = true) : numOf (itoa n) = some n := by unfold numOf; rw [parse_itoa h]; simp
theorem itoa_numOf {l : List UInt8} {n : Int} (h : numOf l = some n) : itoa n = l := by
  unfold numOf at h
  split at h
  · rename_i v _
    split at h
    · rename_i e; simp only [Option.some.injEq] at h; rw [← h]; exact e
    · cases h
  · cases h
theorem numOf_fits {l : List UInt8} {n : Int} (h : numOf l = some n) : fits n = true := by
  unfold numOf at h
  split at h
  · rename_i v hv
    have := parseIntB_bounds hv
    have e : (((2 ^ (64 - 1) : Nat)) : Int) = 9223372036854775808 := by decide
    rw [e] at this
    split at h
    · simp only [Option.some.injEq] at h
      rw [← h, fits_iff]; omega
    · cases h
  · cases h
end Go.Proofs.YtmgkjojifhchkaaDoor.Val
