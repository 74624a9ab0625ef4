/- What the reference's Right answers, for any value. -/
import Derived.Test.YtmagnpcdnhijlaaU2
namespace Go.Proofs.Ytmagnpcdnhijlaa.Val
open Go.RowKit

set_option maxHeartbeats 400000 in
theorem rright_text (n : Int) (s : ByteArray) (w : World) (hs : s.size ≤ maxLen) (b : Bool) (h : (n == 0) = b) :
    Calls Try.prog 26 #[V true n s] w fun e w' => e = .returned (.bool (b && decide (s.size ≤ 12))) ∧ Below w.heap.size w w' := by
  unfold maxLen at hs
  cases b
  · go_enter Try.func26, Try.ntmps26
    go_wp2
    go_ret
    exact ⟨rfl, (Below.refl _ _).alloc (Nat.le_refl _) _⟩
  · go_enter Try.func26, Try.ntmps26
    go_wp2
    go_ret
    exact ⟨by simp; omega, (Below.refl _ _).alloc (Nat.le_refl _) _⟩
set_option maxHeartbeats 400000 in
theorem rright_number (n : Int) (s : ByteArray) (w : World) :
    Calls Try.prog 26 #[V false n s] w fun e w' => e = .returned (.bool s.toList.isEmpty) ∧ Below w.heap.size w w' := by
  go_enter Try.func26, Try.ntmps26
  go_wp2
  go_ret
  exact ⟨rfl, (Below.refl _ _).alloc (Nat.le_refl _) _⟩
theorem rright_any (t : Bool) (n : Int) (s : ByteArray) (w : World) (hs : s.size ≤ maxLen) :
    Calls Try.prog 26 #[V t n s] w fun e w' => e = .returned (.bool (rightV t n s)) ∧ Below w.heap.size w w' := by
  cases t
  · exact rright_number n s w
  · exact rright_text n s w hs _ rfl
end Go.Proofs.Ytmagnpcdnhijlaa.Val

