/- Plain facts on numbers of 64 bits: sums, differences and products that fit. No program. -/
import Derived.RowKit
namespace Go.Proofs.Ytafkpfhhmmnpeaa.Val
open Go.RowKit

/-- Is it a number of 64 bits with a sign? -/
def fits (n : Int) : Bool := decide (-9223372036854775808 ≤ n ∧ n ≤ 9223372036854775807)
/-- The number, or 0 where it is none of 64 bits. -/
def val (n : Int) : Int := if fits n = true then n else 0
theorem fits_iff (n : Int) : fits n = true ↔ -9223372036854775808 ≤ n ∧ n ≤ 9223372036854775807 := by simp [fits]
theorem fits_val (n : Int) : fits (val n) = true := by
  unfold val
  split
  · assumption
  · decide
theorem val_of {n : Int} (h : fits n = true) : val n = n := if_pos h
theorem wrap_of {n : Int} (h : fits n = true) : wrap64 n = n := by rw [fits_iff] at h; unfold wrap64; omega
theorem wrap_fits (n : Int) : fits (wrap64 n) = true := by rw [fits_iff]; unfold wrap64; omega

/-- A sum's signs that cannot be, and a difference's. -/
def over (a b s : Bool) : Bool := (a == b) && (s != a)
def under (a b s : Bool) : Bool := (a != b) && (s != a)
theorem over_fits {a b : Int} (ha : fits a = true) (hb : fits b = true) : over (decide (a < 0)) (decide (b < 0)) (decide (wrap64 (a + b) < 0)) = !fits (a + b) := by
  rw [fits_iff] at ha hb
  by_cases h : fits (a + b) = true
  · rw [h, wrap_of h]
    by_cases h1 : a < 0 <;> by_cases h2 : b < 0 <;> by_cases h3 : a + b < 0 <;> simp [over, h1, h2, h3] <;> omega
  · have h' : fits (a + b) = false := by simpa using h
    rw [h']
    rw [fits_iff] at h
    have hs : (a < 0 ∧ b < 0 ∧ ¬ wrap64 (a + b) < 0) ∨ (¬ a < 0 ∧ ¬ b < 0 ∧ wrap64 (a + b) < 0) := by unfold wrap64; omega
    rcases hs with ⟨h1, h2, h3⟩ | ⟨h1, h2, h3⟩ <;> simp [over, h1, h2, h3]
theorem under_fits {a b : Int} (ha : fits a = true) (hb : fits b = true) : under (decide (a < 0)) (decide (b < 0)) (decide (wrap64 (a - b) < 0)) = !fits (a - b) := by
  rw [fits_iff] at ha hb
  by_cases h : fits (a - b) = true
  · rw [h, wrap_of h]
    by_cases h1 : a < 0 <;> by_cases h2 : b < 0 <;> by_cases h3 : a - b < 0 <;> simp [under, h1, h2, h3] <;> omega
  · have h' : fits (a - b) = false := by simpa using h
    rw [h']
    rw [fits_iff] at h
    have hs : (a < 0 ∧ ¬ b < 0 ∧ ¬ wrap64 (a - b) < 0) ∨ (¬ a < 0 ∧ b < 0 ∧ wrap64 (a - b) < 0) := by unfold wrap64; omega
    rcases hs with ⟨h1, h2, h3⟩ | ⟨h1, h2, h3⟩ <;> simp [under, h1, h2, h3]

/-- What Times asks of the product's quotient and sign. -/
def wrong (qa : Bool) (p a b : Bool) : Bool := !qa || (p != (a != b))
theorem wrong_fits {a b : Int} (ha : fits a = true) (hb : fits b = true) (a0 : a ≠ 0) (b0 : b ≠ 0) :
    wrong (wrap64 ((wrap64 (a * b)).tdiv b) == a) (decide (wrap64 (a * b) < 0)) (decide (a < 0)) (decide (b < 0)) = !fits (a * b) := by
  by_cases h : fits (a * b) = true
  · rw [h, wrap_of h, Int.mul_tdiv_cancel _ b0, wrap_of ha]
    have hs : decide (a * b < 0) = (decide (a < 0) != decide (b < 0)) := by
      by_cases h1 : a < 0 <;> by_cases h2 : b < 0
      · have := Int.mul_pos_of_neg_of_neg h1 h2; simp [h1, h2]; omega
      · have := Int.mul_neg_of_neg_of_pos h1 (show 0 < b by omega); simp [h1, h2]; omega
      · have := Int.mul_neg_of_pos_of_neg (show 0 < a by omega) h2; simp [h1, h2]; omega
      · have := Int.mul_pos (show 0 < a by omega) (show 0 < b by omega); simp [h1, h2]; omega
    simp [wrong, hs]
  · have h' : fits (a * b) = false := by simpa using h
    rw [h']
    by_cases hw : wrong (wrap64 ((wrap64 (a * b)).tdiv b) == a) (decide (wrap64 (a * b) < 0)) (decide (a < 0)) (decide (b < 0)) = true
    · simpa using hw
    · exfalso
      apply h
      have hq : wrap64 ((wrap64 (a * b)).tdiv b) = a ∧ (decide (wrap64 (a * b) < 0) = (decide (a < 0) != decide (b < 0))) := by
        simpa [wrong] using hw
      obtain ⟨hq, hsg⟩ := hq
      have hpf := wrap_fits (a * b)
      have hcong : ∃ k : Int, a * b = wrap64 (a * b) + 18446744073709551616 * k := by
        refine ⟨(a * b + 9223372036854775808) / 18446744073709551616, ?_⟩
        unfold wrap64
        have := Int.emod_add_mul_ediv (a * b + 9223372036854775808) 18446744073709551616
        omega
      generalize wrap64 (a * b) = p at *
      obtain ⟨k, hk⟩ := hcong
      have hdiv := Int.tmod_add_mul_tdiv p b
      have habs : (p.tmod b).natAbs < b.natAbs := by
        rw [Int.natAbs_tmod]; exact Nat.mod_lt _ (by omega)
      rw [fits_iff] at hpf ha hb
      -- the quotient itself
      have hqa : p.tdiv b = a := by
        by_cases hr : fits (p.tdiv b) = true
        · rw [wrap_of hr] at hq; exact hq
        · exfalso
          rw [fits_iff] at hr
          have hle : (p.tdiv b).natAbs ≤ p.natAbs := by rw [Int.natAbs_tdiv]; exact Nat.div_le_self _ _
          have e1 : p = -9223372036854775808 := by omega
          have e2 : p.tdiv b = 9223372036854775808 := by omega
          rw [e2] at hq
          have e3 : a = -9223372036854775808 := by rw [← hq]; decide
          rw [e2] at hdiv
          have e4 : b < 0 := by omega
          subst e1 e3
          simp [e4] at hsg
      rw [hqa, Int.mul_comm] at hdiv
      rw [fits_iff]
      have : a * b = p := by omega
      omega
/-- What the reference asks: the sizes. -/
def size (a : Int) : Int := if a < 0 then -a else a
def most (a b : Int) : Int := if (decide (a < 0) != decide (b < 0)) = true then 9223372036854775808 else 9223372036854775807
theorem size_fits {a b : Int} (b0 : b ≠ 0) : (decide (most a b / size b < size a)) = !fits (a * b) := by
  have hb : 0 < size b := by unfold size; split <;> omega
  have key : most a b / size b < size a ↔ ¬ (size a * size b ≤ most a b) := by
    rw [← Int.le_ediv_iff_mul_le hb]; omega
  have hm : size a * size b ≤ most a b ↔ fits (a * b) = true := by
    rw [fits_iff]
    unfold size most
    by_cases h1 : a < 0 <;> by_cases h2 : b < 0 <;> simp only [h1, h2, if_true, if_false, decide_true, decide_false, bne_self_eq_false, Bool.false_eq_true, Bool.true_bne, Bool.not_false, Bool.false_bne, Int.neg_mul, Int.mul_neg, Int.neg_neg]
    · have := Int.mul_pos_of_neg_of_neg h1 h2; omega
    · have := Int.mul_neg_of_neg_of_pos h1 (show 0 < b by omega); omega
    · have := Int.mul_nonneg (show 0 ≤ a by omega) (show 0 ≤ -b by omega); rw [Int.mul_neg] at this; omega
    · have := Int.mul_nonneg (show 0 ≤ a by omega) (show 0 ≤ b by omega); omega
  rw [Bool.eq_iff_iff]
  simp [key]
  by_cases hf : fits (a * b) = true
  · simp [hf, hm.2 hf]
  · have : ¬ (size a * size b ≤ most a b) := fun h => hf (hm.1 h)
    simp at hf
    simp [hf]; omega
end Go.Proofs.Ytafkpfhhmmnpeaa.Val

