/- Plain facts on digits of bytes. No program. -/
import Derived.Lib.BufferRead
namespace Go.Proofs.YtmgkjojifhchkaaDoor.Val
open Go.RowKit

/-- What a digit of a byte says. -/
def hexOf (c : UInt8) : Option Nat :=
  if 48 ≤ c.toNat ∧ c.toNat ≤ 57 then some (c.toNat - 48) else if 97 ≤ c.toNat ∧ c.toNat ≤ 102 then some (c.toNat - 87) else none
theorem hexOf_lt {c : UInt8} {n : Nat} (h : hexOf c = some n) : n < 16 := by
  unfold hexOf at h
  split at h
  · simp at h; omega
  · split at h
    · simp at h; omega
    · simp at h
/-- The bytes that so many digits tell. -/
def unhex : List UInt8 → Option (List UInt8)
  | [] => some []
  | [_] => none
  | a :: b :: r => match hexOf a, hexOf b, unhex r with
    | some x, some y, some l => some (UInt8.ofNat (16 * x + y) :: l)
    | _, _, _ => none
theorem unhex_append : ∀ (n : Nat) (p q : List UInt8), p.length = 2 * n → unhex (p ++ q) = (match unhex p, unhex q with | some l, some m => some (l ++ m) | _, _ => none)
  | 0, p, q, h => by
    obtain rfl : p = [] := List.eq_nil_of_length_eq_zero (by omega)
    simp only [List.nil_append, unhex]
    cases unhex q <;> rfl
  | n + 1, p, q, h => by
    match p, h with
    | a :: b :: r, h =>
      have ih := unhex_append n r q (by simp at h; omega)
      simp only [List.cons_append, unhex, ih]
      cases hexOf a <;> cases hexOf b <;> cases unhex r <;> cases unhex q <;> rfl
theorem unhex_length : ∀ (n : Nat) (p : List UInt8) (l : List UInt8), p.length = 2 * n → unhex p = some l → l.length = n
  | 0, p, l, h, hu => by
    obtain rfl : p = [] := List.eq_nil_of_length_eq_zero (by omega)
    simp [unhex] at hu; subst hu; rfl
  | n + 1, p, l, h, hu => by
    match p, h with
    | a :: b :: r, h =>
      simp only [unhex] at hu
      cases ha : hexOf a <;> cases hb : hexOf b <;> cases hr : unhex r <;> simp [ha, hb, hr] at hu
      subst hu
      simp [unhex_length n r _ (by simp at h; omega) hr]
theorem unhex_odd : ∀ (n : Nat) (p : List UInt8), p.length = 2 * n + 1 → unhex p = none
  | 0, p, h => by match p, h with | [_], _ => rfl
  | n + 1, p, h => by
    match p, h with
    | a :: b :: r, h =>
      simp only [unhex, unhex_odd n r (by simp at h; omega)]
      cases hexOf a <;> cases hexOf b <;> rfl
/-- Two more digits. -/
theorem unhex_step (s : List UInt8) (k : Nat) (l : List UInt8) (a b : UInt8) (ha : s[2 * k]? = some a) (hb : s[2 * k + 1]? = some b) (h : unhex (s.take (2 * k)) = some l) :
    unhex (s.take (2 * (k + 1))) = (match hexOf a, hexOf b with | some x, some y => some (l ++ [UInt8.ofNat (16 * x + y)]) | _, _ => none) := by
  obtain ⟨h1, e1⟩ := List.getElem?_eq_some_iff.1 ha
  obtain ⟨h2, e2⟩ := List.getElem?_eq_some_iff.1 hb
  have e : s.take (2 * (k + 1)) = s.take (2 * k) ++ [a, b] := by
    rw [show 2 * (k + 1) = 2 * k + 1 + 1 by omega, List.take_succ_eq_append_getElem h2, List.take_succ_eq_append_getElem h1, e1, e2]
    simp
  rw [e, unhex_append k _ _ (by simp; omega), h]
  simp only [unhex]
  cases hexOf a <;> cases hexOf b <;> rfl
/-- A fault in the beginning is one of the whole. -/
theorem unhex_bad (s : List UInt8) (k : Nat) (hk : 2 * k ≤ s.length) (h : unhex (s.take (2 * k)) = none) : unhex s = none := by
  rw [← List.take_append_drop (2 * k) s, unhex_append k _ _ (by simp; omega), h]

/-- 'string(b)' of a row of one's own. -/
theorem run_string_own {P : Program} {w : World} {base : Nat} {e src dst : TypeId} {v : Value} {l : List UInt8} (h : w.ownsRow base e 1 v l.length (Lib.byteCells l))
    (hs : P.underlying src = some (.slice e)) (he : P.underlying e = some (.int .u8)) (hd : P.underlying dst = some .string) : (convert src dst v).run P w = .ok (.string ⟨l.toArray⟩) w := by
  rcases h.2 with ⟨rfl, hn⟩ | ⟨g, cap, cur, rfl, _, hg, _, _, _, htk⟩
  · obtain rfl : l = [] := List.eq_nil_of_length_eq_zero hn
    exact Lib.run_convert_nil_bytes w src dst e 0 hs he hd
  · exact run_convert_bytes_back w src dst e _ cap l hs he hd (Lib.bytes_of_row hg (by simpa using htk))
theorem byteCells_snoc (l : List UInt8) (c : UInt8) : Lib.byteCells l ++ [.int .u8 (c.toNat : Int)] = Lib.byteCells (l ++ [c]) := by simp [Lib.byteCells]
/-- 'high<<4 | low'. -/
theorem bits_or : ∀ x, x < 16 → ∀ y, y < 16 → bits BinOp.or IntKind.u8 ((x : Nat) * 16 : Int) ((y : Nat) : Int) = ((UInt8.ofNat (16 * x + y)).toNat : Int) := by decide +kernel
/-- 'b & 15', 'b >> 4'. -/
theorem bits_and : ∀ n, n < 256 → bits BinOp.and IntKind.u8 ((n : Nat) : Int) 15 = ((n % 16 : Nat) : Int) := by decide +kernel
/-- The digit of a part of a byte. -/
def hexd (n : Nat) : UInt8 := if n < 10 then UInt8.ofNat (48 + n) else UInt8.ofNat (87 + n)
theorem hexOf_hexd : ∀ n, n < 16 → hexOf (hexd n) = some n := by decide
/-- The digits of bytes. -/
def shex : List UInt8 → List UInt8
  | [] => []
  | b :: r => hexd (b.toNat / 16) :: hexd (b.toNat % 16) :: shex r
theorem shex_append : ∀ (l m : List UInt8), shex (l ++ m) = shex l ++ shex m
  | [], m => rfl
  | b :: l, m => by simp [shex, shex_append l m]
theorem shex_length : ∀ (l : List UInt8), (shex l).length = 2 * l.length
  | [] => rfl
  | b :: l => by simp [shex, shex_length l]; omega
/-- What is told is read. -/
theorem unhex_shex : ∀ (l : List UInt8), unhex (shex l) = some l
  | [] => rfl
  | b :: l => by
    have hb := b.toNat_lt
    simp only [shex, unhex, hexOf_hexd (b.toNat / 16) (by omega), hexOf_hexd (b.toNat % 16) (by omega), unhex_shex l]
    rw [show 16 * (b.toNat / 16) + b.toNat % 16 = b.toNat by omega]
    simp
theorem hexd_hexOf {c : UInt8} {n : Nat} (h : hexOf c = some n) : hexd n = c := by
  have hc := c.toNat_lt
  apply UInt8.toNat_inj.1
  unfold hexOf at h
  split at h
  · simp only [Option.some.injEq] at h
    unfold hexd; rw [if_pos (by omega), UInt8.toNat_ofNat_of_lt' (by show _ < 256; omega)]; omega
  · split at h
    · simp only [Option.some.injEq] at h
      unfold hexd; rw [if_neg (by omega), UInt8.toNat_ofNat_of_lt' (by show _ < 256; omega)]; omega
    · simp at h
/-- What is read is told. -/
theorem shex_unhex : ∀ (n : Nat) (p l : List UInt8), p.length = 2 * n → unhex p = some l → shex l = p
  | 0, p, l, h, hu => by
    obtain rfl : p = [] := List.eq_nil_of_length_eq_zero (by omega)
    simp [unhex] at hu; subst hu; rfl
  | n + 1, p, l, h, hu => by
    match p, h with
    | a :: b :: r, h =>
      simp only [unhex] at hu
      cases ha : hexOf a <;> cases hb : hexOf b <;> cases hr : unhex r <;> simp only [ha, hb, hr, reduceCtorEq, Option.some.injEq] at hu
      subst hu
      rename_i x y m
      have hx := hexOf_lt ha
      have hy := hexOf_lt hb
      have e : (UInt8.ofNat (16 * x + y)).toNat = 16 * x + y := UInt8.toNat_ofNat_of_lt' (by show _ < 256; omega)
      simp only [shex, e]
      rw [show (16 * x + y) / 16 = x by omega, show (16 * x + y) % 16 = y by omega, hexd_hexOf ha, hexd_hexOf hb, shex_unhex n r m (by simp at h; omega) hr]
end Go.Proofs.YtmgkjojifhchkaaDoor.Val
