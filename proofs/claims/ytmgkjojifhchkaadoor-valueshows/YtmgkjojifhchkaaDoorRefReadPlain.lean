/- Plain facts: what the reference takes a text for, held against what that shows. No program. -/
import Derived.Test.YtmgkjojifhchkaaDoorNumPlain
import Derived.Lib.Strings
namespace Go.Proofs.YtmgkjojifhchkaaDoor.Val
open Go Go.RowKit

/-- What part says of a byte. -/
def partOf (c : UInt8) : Nat := (hexOf c).getD 16
/-- The bytes that the digits would tell, whatever they are. -/
def raw : List UInt8 → List UInt8
  | a :: b :: r => UInt8.ofNat (partOf a % 16 * 16 + partOf b % 16) :: raw r
  | _ => []
theorem raw_shex : ∀ l : List UInt8, raw (shex l) = l
  | [] => rfl
  | b :: l => by
    have hb := b.toNat_lt
    simp only [shex, raw, partOf, hexOf_hexd (b.toNat / 16) (by omega), hexOf_hexd (b.toNat % 16) (by omega), Option.getD_some, raw_shex l]
    rw [show b.toNat / 16 % 16 * 16 + b.toNat % 16 % 16 = b.toNat by omega]
    simp
theorem raw_snoc : ∀ (n : Nat) (p : List UInt8) (a b : UInt8), p.length = 2 * n → raw (p ++ [a, b]) = raw p ++ [UInt8.ofNat (partOf a % 16 * 16 + partOf b % 16)]
  | 0, p, a, b, h => by
    obtain rfl : p = [] := List.eq_nil_of_length_eq_zero (by omega)
    rfl
  | n + 1, p, a, b, h => by
    match p, h with
    | x :: y :: r, h => simp only [List.cons_append, raw, raw_snoc n r a b (by simp at h; omega)]
theorem raw_length : ∀ (n : Nat) (p : List UInt8), p.length = 2 * n → (raw p).length = n
  | 0, p, h => by
    obtain rfl : p = [] := List.eq_nil_of_length_eq_zero (by omega)
    rfl
  | n + 1, p, h => by
    match p, h with
    | x :: y :: r, h => simp [raw, raw_length n r (by simp at h; omega)]
theorem raw_odd : ∀ (n : Nat) (p : List UInt8), p.length = 2 * n + 1 → raw (p.take (2 * n)) = raw p
  | 0, p, h => by
    match p, h with
    | [x], _ => rfl
  | n + 1, p, h => by
    match p, h with
    | x :: y :: r, h =>
      rw [show 2 * (n + 1) = 2 * n + 1 + 1 by omega, List.take_succ_cons, List.take_succ_cons]
      simp only [raw, raw_odd n r (by simp at h; omega)]
/-- One digit more. -/
def stepN (n : Int) (c : UInt8) : Int := if 48 ≤ c.toNat ∧ c.toNat ≤ 57 then wrap64 (wrap64 (n * 10) - ((c.toNat : Int) - 48)) else n
def foldN (l : List UInt8) : Int := l.foldl stepN 0
theorem foldN_snoc (l : List UInt8) (c : UInt8) : foldN (l ++ [c]) = stepN (foldN l) c := by unfold foldN; rw [List.foldl_append]; rfl
theorem foldN_dec : ∀ (m u : Nat), u < m → u ≤ 9223372036854775808 → foldN (Lib.decDigits u) = -(u : Int)
  | 0, u, h, _ => by omega
  | m + 1, u, h, hu => by
    by_cases hs : u < 10
    · rw [dec_small hs]
      show stepN 0 _ = _
      unfold stepN
      rw [dig_toNat hs, if_pos (by omega)]
      unfold wrap64
      omega
    · rw [dec_big hs, foldN_snoc, foldN_dec m (u / 10) (by omega) (by omega)]
      unfold stepN
      rw [dig_toNat (show u % 10 < 10 by omega), if_pos (by omega)]
      unfold wrap64
      omega
/-- What the reference takes a numeral for. -/
def refNum (l : List UInt8) : Int := if l.head? = some 45 then foldN l else wrap64 (-foldN l)
theorem foldN_minus (l : List UInt8) : foldN (45 :: l) = foldN l := by
  unfold foldN
  rw [List.foldl_cons]
  have : stepN 0 45 = 0 := by unfold stepN; rw [if_neg (by decide)]
  rw [this]
theorem refNum_itoa {n : Int} (h : fits n = true) : refNum (Lib.itoa n) = n := by
  rw [fits_iff] at h
  unfold refNum Lib.itoa
  split
  · rename_i hn
    rw [if_pos (by simp), foldN_minus, foldN_dec (n.natAbs + 1) _ (by omega) (by omega)]
    omega
  · rename_i hn
    obtain ⟨c, r, hc, h1, h2⟩ := dec_cons n.toNat
    rw [if_neg, foldN_dec (n.toNat + 1) _ (by omega) (by omega)]
    · unfold wrap64; omega
    · rw [hc]
      simp only [List.head?_cons, Option.some.injEq]
      intro e
      rw [e] at h1
      exact absurd h1 (by decide)
theorem refNum_fits (l : List UInt8) : fits (refNum l) = true := by
  have hf : ∀ (l : List UInt8) (a : Int), fits a = true → fits (l.foldl stepN a) = true := by
    intro l
    induction l with
    | nil => intro a h; exact h
    | cons c r ih =>
      intro a h
      rw [List.foldl_cons]
      apply ih
      unfold stepN
      split
      · exact wrap_fits _
      · exact h
  unfold refNum
  split
  · exact hf l 0 (by decide)
  · exact wrap_fits _
/-- The reference's number shows as the text just if the program reads it so. -/
theorem numOf_ref (l : List UInt8) : numOf l = if Lib.itoa (refNum l) = l then some (refNum l) else none := by
  by_cases h : Lib.itoa (refNum l) = l
  · rw [if_pos h]
    conv => lhs; rw [← h]
    exact numOf_itoa (refNum_fits l)
  · rw [if_neg h]
    cases hn : numOf l with
    | none => rfl
    | some n =>
      exfalso
      have hi := itoa_numOf hn
      apply h
      have hfit : fits n = true := numOf_fits hn
      rw [← hi, refNum_itoa hfit]
end Go.Proofs.YtmgkjojifhchkaaDoor.Val
