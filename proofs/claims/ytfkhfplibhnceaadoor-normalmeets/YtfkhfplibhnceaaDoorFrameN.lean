/- What every law of this seat leans on: the table of opposites out of what the rows list; a world in which it lies as its initialiser lays it. -/
import Derived.Test.YtfkhfplibhnceaaDoorCards
import Derived.Test.YtfkhfplibhnceaaDoorTie
import Derived.Test.YtfkhfplibhnceaaDoorOpenBase
import Derived.Test.YtfkhfplibhnceaaDoorNormEach
import Derived.Deep.DeepHandedRow
import Derived.Lib.LaidTab
namespace Go.Proofs.YtfkhfplibhnceaaDoor.Val
open Go.ChangeShapes Go.WideShapes Go.ChangeAt Go.RowKit

theorem gOpp : Tryd.prog.globalNamed "ratline/normal.opposites" = some 0 := by kernel_rfl
theorem gOppType : (Tryd.prog.globals[0]?).map (·.type) = some 71 := by kernel_rfl
theorem cells13 : Tryd.prog.cellsOf 71 = 13 := by kernel_rfl
/-- What the rows list, when a call begins. -/
theorem tabOf {W : World} (h : laidMetH Tryd.prog Rows.normalSelfRow.laid W) : Tab W := by
  have hm : laidMet Tryd.prog Rows.normalSelfRow.laid W := h
  have t : Lib.TabIs Tryd.prog W "ratline/normal.opposites" .i64 oppTab :=
    Lib.tabIs_of_head (rest := []) gOpp gOppType Tryd.underlying71 Tryd.underlying3 cells_int cells13 hm
  intro i hi
  have h := t.cell gOpp i hi
  rw [List.getD_eq_getElem?_getD, List.getElem?_eq_getElem hi] at h
  exact h
/-- A block's cells, put in the place of those that it has. -/
def putCells (cs : Array Value) : Obj → Obj
  | .cells _ t frozen => .cells cs t frozen
  | o => o
def dataCells (k : IntKind) (zs : List Int) : Array Value := (zs.map fun z => Value.int k z).toArray
end Go.Proofs.YtfkhfplibhnceaaDoor.Val
