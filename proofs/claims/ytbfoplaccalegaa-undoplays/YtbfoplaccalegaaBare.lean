/- What bare, below, Right and Compare of package value answer, over this seat's translation. No conditions. -/
import Derived.Test.YtbfoplaccalegaaRows
import Derived.WalkKit
import Derived.WalkSpells
import Derived.WalkLawsBesides
import Derived.Below
import Derived.Deep.RegionWith
import Derived.Outline
namespace Go.Proofs.Ytbfoplaccalegaa.Val
open Go.RowKit

/-- A value as the machine has it. -/
abbrev V (t : Bool) (n : Int) (s : ByteArray) : Value := .agg #[.bool t, .int .i64 n, .string s]


end Go.Proofs.Ytbfoplaccalegaa.Val
