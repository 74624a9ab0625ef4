/- Small words on predicates that a law lays. -/
import Derived.Test.YtnfageikacfdoaaPredAwake
namespace Go.Proofs.Ytnfageikacfdoaa.Val
open Go.RowKit

def lf (op : Int) (x : Val) : PT := .mk op 0 x Val.zero (.slice none 0 0) []
theorem in_lf (w : World) (op : Int) (x : Val) (h : x.s.size ≤ maxLen) : In w (lf op x) := in_leaf w _ _ _ _ h (by decide)
theorem two_in {w : World} {a b : PT} (ha : In w a) (hb : In w b) : ∀ p ∈ [a, b], In w p := by
  intro p hp
  simp only [List.mem_cons, List.not_mem_nil, or_false] at hp
  rcases hp with rfl | rfl
  · exact ha
  · exact hb
theorem bare_list (o c : Int) (v u : Val) (lv lv' : Value) (l : List PT) : (PT.mk o c v u lv l).bare = (PT.mk o c v u lv' l).bare := by rw [bare_mk, bare_mk]
theorem size_lf (op : Int) (x : Val) : (lf op x).size = 1 := by simp [lf, size_mk]
end Go.Proofs.Ytnfageikacfdoaa.Val
