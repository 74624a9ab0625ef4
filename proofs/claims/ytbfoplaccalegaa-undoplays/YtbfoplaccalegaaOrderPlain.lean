/- Plain facts: how values stand to one another is an order. No program. -/
import Derived.Test.YtbfoplaccalegaaCmpPlain
namespace Go.Proofs.Ytbfoplaccalegaa.Val
open Go

/-- Three answers as an order asks. -/
structure Goes (x y z : Int) : Prop where
  lo : -1 ≤ x
  hi : x ≤ 1
  lo2 : -1 ≤ y
  hi2 : y ≤ 1
  lo3 : -1 ≤ z
  hi3 : z ≤ 1
  both : x ≤ 0 → y ≤ 0 → z ≤ 0
  zero : x = 0 → y = 0 → z = 0
  less : x ≤ 0 → y ≤ 0 → (x < 0 ∨ y < 0) → z < 0
  more : 0 ≤ x → 0 ≤ y → 0 ≤ z

theorem goesN (a b c : Int) : Goes (cmpN a b) (cmpN b c) (cmpN a c) := by
  have h : ∀ a b : Int, (cmpN a b = 0 ∧ a = b) ∨ (cmpN a b = -1 ∧ a < b) ∨ (cmpN a b = 1 ∧ b < a) := by
    intro a b
    unfold cmpN
    by_cases e : a = b
    · left; simp [e]
    · by_cases l : a < b
      · right; left; simp [e, l]
      · right; right; simp [e, l]; omega
  rcases h a b with ⟨h1, k1⟩ | ⟨h1, k1⟩ | ⟨h1, k1⟩ <;> rcases h b c with ⟨h2, k2⟩ | ⟨h2, k2⟩ | ⟨h2, k2⟩ <;> rcases h a c with ⟨h3, k3⟩ | ⟨h3, k3⟩ | ⟨h3, k3⟩ <;> rw [h1, h2, h3] <;> (constructor <;> omega)
theorem cmpN_turn (a b : Int) : cmpN b a = -cmpN a b := by
  unfold cmpN
  by_cases e : a = b
  · subst e; simp
  · have e' : b ≠ a := fun h => e h.symm
    by_cases l : a < b
    · have : ¬ b < a := by omega
      simp [e, e', l, this]
    · have : b < a := by omega
      simp [e, e', l, this]
theorem cmpN_self (a : Int) : cmpN a a = 0 := by simp [cmpN]

theorem less_irrefl : ∀ a : List UInt8, Op.bytesLess a a = false
  | [] => rfl
  | a :: x => by simp [Op.bytesLess, less_irrefl x, UInt8.lt_irrefl]
theorem less_trans : ∀ a b c : List UInt8, Op.bytesLess a b = true → Op.bytesLess b c = true → Op.bytesLess a c = true
  | _, [], _, h, _ => by simp [Op.bytesLess] at h
  | _, _ :: _, [], _, h => by simp [Op.bytesLess] at h
  | [], _ :: _, _ :: _, _, _ => rfl
  | a :: x, b :: y, c :: z, h1, h2 => by
    simp only [Op.bytesLess, Bool.or_eq_true, Bool.and_eq_true, decide_eq_true_eq, beq_iff_eq] at h1 h2 ⊢
    rcases h1 with h1 | ⟨rfl, h1⟩
    · rcases h2 with h2 | ⟨rfl, _⟩
      · exact Or.inl (UInt8.lt_trans h1 h2)
      · exact Or.inl h1
    · rcases h2 with h2 | ⟨rfl, h2⟩
      · exact Or.inl h2
      · exact Or.inr ⟨rfl, less_trans x y z h1 h2⟩
theorem less_total : ∀ a b : List UInt8, a = b ∨ Op.bytesLess a b = true ∨ Op.bytesLess b a = true
  | [], [] => Or.inl rfl
  | [], _ :: _ => Or.inr (Or.inl rfl)
  | _ :: _, [] => Or.inr (Or.inr rfl)
  | a :: x, b :: y => by
    simp only [Op.bytesLess, Bool.or_eq_true, Bool.and_eq_true, decide_eq_true_eq, beq_iff_eq, List.cons.injEq]
    by_cases e : a = b
    · subst e
      rcases less_total x y with h | h | h
      · exact Or.inl ⟨rfl, h⟩
      · exact Or.inr (Or.inl (Or.inr ⟨rfl, h⟩))
      · exact Or.inr (Or.inr (Or.inr ⟨rfl, h⟩))
    · rcases UInt8.lt_or_lt_of_ne e with h | h
      · exact Or.inr (Or.inl (Or.inl h))
      · exact Or.inr (Or.inr (Or.inl h))
theorem cmpS_cases (a b : List UInt8) : (cmpS a b = 0 ∧ a = b) ∨ (cmpS a b = -1 ∧ Op.bytesLess a b = true) ∨ (cmpS a b = 1 ∧ Op.bytesLess b a = true) := by
  by_cases e : a = b
  · left; subst e; simp [cmpS]
  · rcases less_total a b with h | h | h
    · exact absurd h e
    · right; left; exact ⟨(cmpS_lt (by simpa using e) h).symm, h⟩
    · right; right
      refine ⟨(cmpS_gt (by simpa using e) ?_).symm, h⟩
      cases hl : Op.bytesLess a b
      · rfl
      · have := less_trans _ _ _ hl h
        rw [less_irrefl] at this
        cases this
theorem less_not {a b : List UInt8} (h : Op.bytesLess a b = true) (k : Op.bytesLess b a = true) : False := by
  have := less_trans _ _ _ h k
  rw [less_irrefl] at this
  cases this
theorem goesS (a b c : List UInt8) : Goes (cmpS a b) (cmpS b c) (cmpS a c) := by
  rcases cmpS_cases a b with ⟨h1, k1⟩ | ⟨h1, k1⟩ | ⟨h1, k1⟩ <;> rcases cmpS_cases b c with ⟨h2, k2⟩ | ⟨h2, k2⟩ | ⟨h2, k2⟩ <;> rcases cmpS_cases a c with ⟨h3, k3⟩ | ⟨h3, k3⟩ | ⟨h3, k3⟩ <;> rw [h1, h2, h3] <;> first
    | (constructor <;> omega)
    | (exfalso; subst k1; subst k2; rw [less_irrefl] at k3; cases k3)
    | (exfalso; subst k1; subst k3; rw [less_irrefl] at k2; cases k2)
    | (exfalso; subst k2; subst k3; rw [less_irrefl] at k1; cases k1)
    | (exfalso; subst k1; exact less_not k2 k3)
    | (exfalso; subst k2; exact less_not k1 k3)
    | (exfalso; subst k3; exact less_not k1 k2)
    | (exfalso; exact less_not (less_trans _ _ _ k1 k2) k3)
    | (exfalso; exact less_not (less_trans _ _ _ k2 k1) k3)
theorem cmpS_turn (a b : List UInt8) : cmpS b a = -cmpS a b := by
  rcases cmpS_cases a b with ⟨h1, k1⟩ | ⟨h1, k1⟩ | ⟨h1, k1⟩ <;> rcases cmpS_cases b a with ⟨h2, k2⟩ | ⟨h2, k2⟩ | ⟨h2, k2⟩ <;> rw [h1, h2] <;> first
    | rfl
    | (exfalso; subst k1; rw [less_irrefl] at k2; cases k2)
    | (exfalso; subst k2; rw [less_irrefl] at k1; cases k1)
    | (exfalso; exact less_not k1 k2)
theorem cmpS_self (a : List UInt8) : cmpS a a = 0 := by simp [cmpS]

theorem goesV (ta : Bool) (na : Int) (sa : ByteArray) (tb : Bool) (nb : Int) (sb : ByteArray) (tc : Bool) (nc : Int) (sc : ByteArray) :
    Goes (cmpV ta na sa tb nb sb) (cmpV tb nb sb tc nc sc) (cmpV ta na sa tc nc sc) := by
  have bN := fun a b => goesN a b b
  have bS := fun a b => goesS a b b
  cases ta <;> cases tb <;> cases tc <;> simp only [cmpV] <;> first
    | exact goesN _ _ _
    | exact goesS _ _ _
    | (have h1 := bN na nb; have h2 := h1.lo; have h3 := h1.hi; constructor <;> omega)
    | (have h1 := bN nb nc; have h2 := h1.lo; have h3 := h1.hi; constructor <;> omega)
    | (have h1 := bN na nc; have h2 := h1.lo; have h3 := h1.hi; constructor <;> omega)
    | (have h1 := bS sa.toList sb.toList; have h2 := h1.lo; have h3 := h1.hi; constructor <;> omega)
    | (have h1 := bS sb.toList sc.toList; have h2 := h1.lo; have h3 := h1.hi; constructor <;> omega)
    | (have h1 := bS sa.toList sc.toList; have h2 := h1.lo; have h3 := h1.hi; constructor <;> omega)
theorem cmpV_turn (ta : Bool) (na : Int) (sa : ByteArray) (tb : Bool) (nb : Int) (sb : ByteArray) : cmpV tb nb sb ta na sa = -cmpV ta na sa tb nb sb := by
  cases ta <;> cases tb <;> simp only [cmpV]
  · exact cmpN_turn _ _
  · rfl
  · exact cmpS_turn _ _
theorem cmpV_self (ta : Bool) (na : Int) (sa : ByteArray) : cmpV ta na sa ta na sa = 0 := by
  cases ta <;> simp only [cmpV]
  · exact cmpN_self _
  · exact cmpS_self _
end Go.Proofs.Ytbfoplaccalegaa.Val
