/- A law of regions that draw their order. No program. -/
import Derived.Test.YtfkhfplibhnceaaDoorRowPlain
import Derived.Test.YtfkhfplibhnceaaDoorBare
import Derived.BigQuiet
namespace Go.Proofs.YtfkhfplibhnceaaDoor.Val
open Go.RowKit

/-- A region that draws its order, whose operations leave the world alone and whose calls leave one of a class: walked once, in the order of the text. -/
theorem region_cls {P : Program} {C : World → Prop} {id : Nat} {Q : Exit → Act → World → Prop} {a : Act} {w : World} {l : List Oper} (hm : P.follows .mixedOrders = true) (hB : Region.lexB .any l.toArray = true) (hC : C { w with drawn := w.drawn + 1 })
    (h : wpQuiet P l.toArray C (fun a' => ∀ w', C w' → Q .normal a' w') l a) : (Code.region id l.toArray true).wp P Q a w := wp_region_quiet hm hB hC (by simpa using h)
end Go.Proofs.YtfkhfplibhnceaaDoor.Val
