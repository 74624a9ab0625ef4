/- How values stand to one another: plain. No program. -/
import Derived.Laws.Cover1
namespace Go.Proofs.Ytbfoplaccalegaa.Val
open Go

/-- How two numbers, two texts, two values stand to one another. -/
def cmpN (a b : Int) : Int := if (a == b) = true then 0 else if a < b then -1 else 1
def cmpS (a b : List UInt8) : Int := if (a == b) = true then 0 else if Op.bytesLess a b = true then -1 else 1
def cmpV (ta : Bool) (na : Int) (sa : ByteArray) (tb : Bool) (nb : Int) (sb : ByteArray) : Int :=
  match ta, tb with
  | false, false => cmpN na nb
  | true, true => cmpS sa.toList sb.toList
  | false, true => -1
  | true, false => 1
theorem ret_int {k : IntKind} {a b : Int} (h : a = b) : Ending.returned (.int k a) = .returned (.int k b) := by rw [h]
theorem cmpN_lt {a b : Int} (h : (a == b) = false) (k : a < b) : -1 = cmpN a b := by unfold cmpN; rw [if_neg (by simp [h]), if_pos k]
theorem cmpN_gt {a b : Int} (h : (a == b) = false) (k : b ≤ a) : 1 = cmpN a b := by unfold cmpN; rw [if_neg (by simp [h]), if_neg (by omega)]
theorem cmpN_eq {a b : Int} (h : (a == b) = true) : 0 = cmpN a b := by unfold cmpN; rw [if_pos h]
theorem cmpS_lt {a b : List UInt8} (h : (a == b) = false) (k : Op.bytesLess a b = true) : -1 = cmpS a b := by unfold cmpS; rw [if_neg (by simp [h]), if_pos k]
theorem cmpS_gt {a b : List UInt8} (h : (a == b) = false) (k : Op.bytesLess a b = false) : 1 = cmpS a b := by unfold cmpS; rw [if_neg (by simp [h]), if_neg (by simp [k])]
theorem cmpS_eq {a b : List UInt8} (h : (a == b) = true) : 0 = cmpS a b := by unfold cmpS; rw [if_pos h]
end Go.Proofs.Ytbfoplaccalegaa.Val
