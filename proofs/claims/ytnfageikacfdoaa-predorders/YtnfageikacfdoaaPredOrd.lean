/- Plain: what stands below, above and at a value. -/
import Derived.Test.YtnfageikacfdoaaPredIs
import Derived.BigQuiet
namespace Go.Proofs.Ytnfageikacfdoaa.Val
open Go.RowKit

theorem and1023 (n : Int) : ∃ m : Nat, m < 1024 ∧ bits .and .i64 n 1023 = (m : Int) := by
  refine ⟨(BitVec.ofInt 64 n &&& BitVec.ofInt 64 1023).toNat, ?_, ?_⟩
  · rw [BitVec.toNat_and]
    have h : (BitVec.ofInt 64 1023).toNat = 1023 := by decide
    rw [h]
    have := @Nat.and_le_right (BitVec.ofInt 64 n).toNat 1023
    omega
  · have hlt : (BitVec.ofInt 64 n &&& BitVec.ofInt 64 1023).toNat < 1024 := by
      rw [BitVec.toNat_and]
      have h : (BitVec.ofInt 64 1023).toNat = 1023 := by decide
      rw [h]
      have := @Nat.and_le_right (BitVec.ofInt 64 n).toNat 1023
      omega
    show IntKind.i64.wrap ((BitVec.ofInt 64 n &&& BitVec.ofInt 64 1023).toNat : Int) = _
    generalize (BitVec.ofInt 64 n &&& BitVec.ofInt 64 1023).toNat = m at *
    rw [IntKind.wrap_i64]
    omega
def ordB (lt eq gt dd : Bool) (op : Int) : Bool := if op = 1 then true else if op = 2 then false else if op = 3 then eq else if op = 4 then !eq else if op = 5 then lt else if op = 6 then lt || eq else if op = 7 then gt else if op = 8 then gt || eq else if op = 9 then (gt || eq) && dd else false
theorem le_or (c : Int) : decide (c ≤ 0) = (decide (c < 0) || c == 0) := by rw [Bool.eq_iff_iff]; simp; omega
theorem ge_or (c : Int) : decide (0 ≤ c) = (decide (0 < c) || c == 0) := by rw [Bool.eq_iff_iff]; simp; omega
theorem ord_holds (z : Val) (r : List Val) (x : Val) (k : Nat) (hk : k < (z :: r).length) (op : Int) (ho : 1 ≤ op ∧ op ≤ 9) :
    holdsP (z :: r) (isP op k x z) = ordB (decide (cmpX (z :: r)[k] x < 0)) (cmpX (z :: r)[k] x == 0) (decide (0 < cmpX (z :: r)[k] x)) (decide (cmpX (z :: r)[k] z ≤ 0)) op := by
  generalize hc : cmpX (z :: r)[k] x = c
  generalize hd : cmpX (z :: r)[k] z = d
  have hl : leafB (z :: r) op (k : Int) x z = standB op c d := by rw [leaf_at hk, hc, hd]
  rw [isP, holds_mk, hl]
  by_cases h1 : op = 1
  · simp [ordB, h1]
  rw [if_neg h1, if_neg (by omega), if_neg (by omega), if_neg (by omega)]
  have h2 : op = 2 ∨ op = 3 ∨ op = 4 ∨ op = 5 ∨ op = 6 ∨ op = 7 ∨ op = 8 ∨ op = 9 := by omega
  unfold ordB standB
  rcases h2 with rfl | rfl | rfl | rfl | rfl | rfl | rfl | rfl
  all_goals first
    | rfl
    | (rw [← ge_or]; rfl)
    | (rw [← le_or]; rfl)
    | fail
/-- A region that draws its order, whose operations leave the world alone and whose calls leave one of a class: walked once, in the order of the text. -/
theorem region_cls {P : Program} {C : World → Prop} {id : Nat} {Q : Exit → Act → World → Prop} {a : Act} {w : World} {l : List Oper} (hm : P.follows .mixedOrders = true) (hB : Region.lexB .any l.toArray = true) (hC : C { w with drawn := w.drawn + 1 })
    (h : wpQuiet P l.toArray C (fun a' => ∀ w', C w' → Q .normal a' w') l a) : (Code.region id l.toArray true).wp P Q a w := wp_region_quiet hm hB hC (by simpa using h)
end Go.Proofs.Ytnfageikacfdoaa.Val
