/- A row's values can be read. -/
import Derived.Test.YtbfoplaccalegaaRowPlain
import Derived.Test.YtbfoplaccalegaaSumsPlain
namespace Go.Proofs.Ytbfoplaccalegaa.Val
open Go Go.RowKit

/-- Memory's facts on a row's values: they can be read. -/
def RowOk (xs : List Val) : Prop := ∀ x ∈ xs, fits x.n = true ∧ x.s.size ≤ maxLen
end Go.Proofs.Ytbfoplaccalegaa.Val
