/- Two values held against one another, as structs. -/
import Derived.Test.YtbfoplaccalegaaRowPlain
import Derived.Test.YtbfoplaccalegaaBare
namespace Go.Proofs.Ytbfoplaccalegaa.Val
open Go.RowKit

/-- Are two values the same in all fields? -/
def eqV (x y : Val) : Bool := x.t == y.t && x.n == y.n && x.s.toList == y.s.toList
theorem eqV_iff {x y : Val} : eqV x y = true ↔ x = y := by
  cases x with | mk t n s => cases y with | mk t' n' s' =>
  unfold eqV
  simp only [Bool.and_eq_true, beq_iff_eq, Val.mk.injEq, and_assoc]
  refine and_congr Iff.rfl (and_congr Iff.rfl ⟨fun h => ?_, fun h => by rw [h]⟩)
  rw [ByteArray.toList_eq, ByteArray.toList_eq] at h
  cases s; cases s'; simp_all [Array.toList_inj]
theorem eql_V (x y : Val) (w : World) : (binOp .eql 32 (.agg #[.bool x.t, .int .i64 x.n, .string x.s]) (.agg #[.bool y.t, .int .i64 y.n, .string y.s])).run Try.prog w = .ok (.bool (eqV x y)) w := by
  simp [go_sem, eqV]
  cases h : (x.t == y.t) <;> cases h2 : (x.n == y.n) <;> cases h3 : (x.s.toList == y.s.toList) <;> simp_all [go_sem]
theorem neq_V (x y : Val) (w : World) : (binOp .neq 32 (.agg #[.bool x.t, .int .i64 x.n, .string x.s]) (.agg #[.bool y.t, .int .i64 y.n, .string y.s])).run Try.prog w = .ok (.bool (!eqV x y)) w := by
  rw [run_neq_struct]
  have := eql_V x y w
  rw [run_eql_struct] at this
  revert this
  generalize (Op.equalIn 10000 32 (.agg #[.bool x.t, .int .i64 x.n, .string x.s]) (.agg #[.bool y.t, .int .i64 y.n, .string y.s])).run Try.prog w = r
  intro h
  cases r with
  | ok b w' => simp at h ⊢; exact ⟨by rw [h.1], h.2⟩
  | halt x w' => simp [Result.andThen] at h
end Go.Proofs.Ytbfoplaccalegaa.Val
