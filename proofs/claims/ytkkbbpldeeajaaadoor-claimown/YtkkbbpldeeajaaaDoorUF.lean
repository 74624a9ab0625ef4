/- What every law of this seat leans on: the table of modes out of what the rows list; a world in which it lies as its initialiser lays it. -/
import Derived.Test.YtkkbbpldeeajaaaDoorCards
import Derived.Test.YtkkbbpldeeajaaaDoorTie
import Derived.Test.YtkkbbpldeeajaaaDoorUM
import Derived.Test.YtkkbbpldeeajaaaDoorUO
import Derived.Deep.DeepHandedRow
import Derived.Lib.LaidTab
import Derived.Lib.SmallJoins
namespace Go.Proofs.YtkkbbpldeeajaaaDoor.Val
open Go.ChangeShapes Go.WideShapes Go.ChangeAt Go.RowKit

theorem gCla : Tryd.prog.globalNamed "ratline/mode.clashes" = some 0 := by kernel_rfl
theorem gClaType : (Tryd.prog.globals[0]?).map (·.type) = some 76 := by kernel_rfl
theorem cellsC7 : Tryd.prog.cellsOf 76 = 7 := by kernel_rfl
theorem cellsC1 : Tryd.prog.cellsOf 5 = 1 := by kernel_rfl
theorem claOf {W : World} {rest : List (String × DataW Unit)} (hm : laidMet Tryd.prog (("ratline/mode.clashes", Lib.tabData .u8 clashT) :: rest) W) : TabC W := by
  have t : Lib.TabIs Tryd.prog W "ratline/mode.clashes" .u8 clashT :=
    Lib.tabIs_of_head gCla gClaType Tryd.underlying76 Tryd.underlying5 cellsC1 cellsC7 hm
  exact fun i hi => t.cell gCla i hi
/-- What the rows list, when a call begins. -/
theorem tabOf {W : World} (h : laidMetH Tryd.prog Rows.claimTurnedRow.laid W) : TabC W := by
  have hm : laidMet Tryd.prog Rows.claimTurnedRow.laid W := h
  exact claOf hm
/-- A block's cells, put in the place of those that it has. -/
def putCells (cs : Array Value) : Obj → Obj
  | .cells _ t frozen => .cells cs t frozen
  | o => o
def dataCells (k : IntKind) (zs : List Int) : Array Value := (zs.map fun z => Value.int k z).toArray
end Go.Proofs.YtkkbbpldeeajaaaDoor.Val

