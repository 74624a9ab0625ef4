/- A text's byte, as a list's. -/
import Derived.WalkKit
namespace Go.Proofs.Ytnfageikacfdoaa.Val
open Go

theorem byte_at (s : ByteArray) (k : Nat) (h : k < s.size) : s.data.toList[k]? = some s[k] := by
  simp [h]; rfl
end Go.Proofs.Ytnfageikacfdoaa.Val
