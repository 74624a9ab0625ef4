/- What the law NormalMeets calls, for any two spans and a value. -/
import Derived.Test.YtfkhfplibhnceaaDoorNormAwake
namespace Go.Proofs.YtfkhfplibhnceaaDoor.Val
open Go.RowKit

structure MK (a b : Sp) (x : Val) (X Y g : Bool) (m h n k : Sp) : Prop where
  ka : ∀ w1, Calls Tryd.prog 17 #[a.val, V x.t x.n x.s] w1 fun e w' => e = .returned (.bool X) ∧ Below w1.heap.size w1 w'
  kb : ∀ w1, Calls Tryd.prog 17 #[b.val, V x.t x.n x.s] w1 fun e w' => e = .returned (.bool Y) ∧ Below w1.heap.size w1 w'
  km : ∀ w1, Calls Tryd.prog 19 #[a.val, b.val] w1 fun e w' => e = .returned m.val ∧ Below w1.heap.size w1 w'
  kh : ∀ w1, Calls Tryd.prog 21 #[a.val, b.val] w1 fun e w' => e = .returned h.val ∧ Below w1.heap.size w1 w'
  wm : ∀ w1, Calls Tryd.prog 17 #[m.val, V x.t x.n x.s] w1 fun e w' => e = .returned (.bool (X && Y)) ∧ Below w1.heap.size w1 w'
  wh : ∀ w1, Calls Tryd.prog 17 #[h.val, V x.t x.n x.s] w1 fun e w' => e = .returned (.bool g) ∧ Below w1.heap.size w1 w'
  kn : ∀ w1, Calls Tryd.prog 19 #[b.val, a.val] w1 fun e w' => e = .returned n.val ∧ Below w1.heap.size w1 w'
  kk : ∀ w1, Calls Tryd.prog 21 #[b.val, a.val] w1 fun e w' => e = .returned k.val ∧ Below w1.heap.size w1 w'
  wn : ∀ w1, Calls Tryd.prog 17 #[n.val, V x.t x.n x.s] w1 fun e w' => e = .returned (.bool (X && Y)) ∧ Below w1.heap.size w1 w'
  wk : ∀ w1, Calls Tryd.prog 17 #[k.val, V x.t x.n x.s] w1 fun e w' => e = .returned (.bool g) ∧ Below w1.heap.size w1 w'
theorem MK.of (a b : Sp) (x : Val) : MK a b x (withinS a x) (withinS b x) (withinS (hullS a b) x) (meetS a b) (hullS a b) (meetS b a) (hullS b a) :=
  ⟨fun w1 => within_any a x w1, fun w1 => within_any b x w1, fun w1 => meet_any a b w1, fun w1 => hull_any a b w1,
   fun w1 => by have := within_any (meetS a b) x w1; rw [within_meet] at this; exact this,
   fun w1 => within_any (hullS a b) x w1, fun w1 => meet_any b a w1, fun w1 => hull_any b a w1,
   fun w1 => by have := within_any (meetS b a) x w1; rw [within_meet, Bool.and_comm] at this; exact this,
   fun w1 => by have := within_any (hullS b a) x w1; rw [within_hull, hull_turn, ← within_hull] at this; exact this⟩
end Go.Proofs.YtfkhfplibhnceaaDoor.Val
