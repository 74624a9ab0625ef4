/- What the document's Fits and Name of modes answer, for any numbers. -/
import Derived.Test.YtcobgjgabfdmpaaDoorModePlain
namespace Go.Proofs.YtcobgjgabfdmpaaDoor.Val
open Go Go.RowKit

/-- A call that writes nothing old answers v. -/
abbrev Tells (f : FuncId) (args : Array Value) (w : World) (v : Value) : Prop := Calls Tryd.prog f args w fun e w' => e = .returned v ∧ Below w.heap.size w w'
theorem drew_below (w : World) (n : Nat) : Below w.heap.size w (w.drewN n) := have h := Below.refl w.heap.size w; ⟨h.os, h.tape, h.output, h.size, h.block⟩
theorem Reads.tells {f : FuncId} {args : Array Value} {w : World} {v : Value} (h : Reads f args w v) : Tells f args w v :=
  Calls.mono h (by rintro e w' ⟨rfl, m, rfl⟩; exact ⟨rfl, drew_below w m⟩)
end Go.Proofs.YtcobgjgabfdmpaaDoor.Val
