/- What Right of package value answers, for any value. -/
import Derived.Test.YtfkhfplibhnceaaDoorRight
namespace Go.Proofs.YtfkhfplibhnceaaDoor.Val
open Go.RowKit

/-- May it be? -/
def rightV (t : Bool) (n : Int) (s : ByteArray) : Bool := if t then n == 0 && decide (s.size ≤ 12) else s.toList.isEmpty
theorem empty_of {s : ByteArray} (h : s.toList.isEmpty = true) : s = ⟨#[]⟩ := by
  rw [ByteArray.toList_eq] at h
  cases s with | mk d => cases d with | mk l => cases l <;> simp_all
theorem right_any (t : Bool) (n : Int) (s : ByteArray) (w : World) (hs : s.size ≤ maxLen) :
    Calls Tryd.prog 71 #[V t n s] w fun e w' => e = .returned (.bool (rightV t n s)) ∧ Below w.heap.size w w' := by
  cases t
  · cases h : s.toList.isEmpty
    · simp only [rightV, h]; exact right_number_no n s w h
    · simp only [rightV, h]; obtain rfl := empty_of h; exact right_number_yes n w
  · cases h : (n == 0)
    · simp only [rightV, h]; exact right_text_no n s w h
    · obtain rfl : n = 0 := by simpa using h
      exact right_text_yes s w hs
end Go.Proofs.YtfkhfplibhnceaaDoor.Val
