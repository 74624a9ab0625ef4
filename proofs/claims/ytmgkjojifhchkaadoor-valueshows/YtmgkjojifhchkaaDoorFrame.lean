/- What every law of this seat leans on: the table of digits out of what the rows list; a world in which all that they list lies as its initialisers lay it. -/
import Derived.Test.YtmgkjojifhchkaaDoorCards
import Derived.Test.YtmgkjojifhchkaaDoorTie
import Derived.Test.YtmgkjojifhchkaaDoorDigit
import Derived.WalkKit
import Derived.ProofKit
import Derived.OpenShut
import Derived.Deep.DeepHandedRow
import Derived.Lib.LaidTab
import Derived.Lib.SmallJoins
import Derived.Stop.LaidErr
namespace Go.Proofs.YtmgkjojifhchkaaDoor.Val
open Go.ChangeShapes Go.WideShapes Go.ChangeAt Go.RowKit

theorem own : ownKnob Tryd.prog.godebug = none := by kernel_rfl
theorem gTab : Tryd.prog.globalNamed "ratline/value.digits" = some 0 := by kernel_rfl
theorem gTabType : (Tryd.prog.globals[0]?).map (·.type) = some 53 := by kernel_rfl
theorem cells16 : Tryd.prog.cellsOf 53 = 16 := by kernel_rfl
theorem cellsU8 : Tryd.prog.cellsOf 5 = 1 := by kernel_rfl

/-- What the rows list, when a call begins. -/
theorem met {W : World} (h : laidMetH Tryd.prog Rows.valueSumsRow.laid W) : laidMet Tryd.prog Rows.valueSumsRow.laid W := h
theorem table {W : World} (h : laidMetH Tryd.prog Rows.valueSumsRow.laid W) : HasTab W := by
  have t : Lib.TabIs Tryd.prog W "ratline/value.digits" .u8 hexTab :=
    Lib.tabIs_of_head (rest := []) gTab gTabType Tryd.underlying53 Tryd.underlying5 cellsU8 cells16 (met h).tail.tail.tail.tail.tail
  exact fun i hi => t.cell gTab i hi
theorem HasTab.lt {W : World} (h : HasTab W) : 0 < W.heap.size := World.block_lt_of_cell? W _ (h 0 (by decide))

/-- A block's cells, put in the place of those that it has. -/
def putCells (cs : Array Value) : Obj → Obj
  | .cells _ t frozen => .cells cs t frozen
  | o => o
def dataCells (k : IntKind) (zs : List Int) : Array Value := (zs.map fun z => Value.int k z).toArray
def db32 : List Int := [0, 1, 28, 2, 29, 14, 24, 3, 30, 22, 20, 15, 25, 17, 4, 8, 31, 27, 13, 23, 21, 19, 16, 7, 26, 12, 18, 6, 11, 5, 10, 9]
def db64 : List Int := [0, 1, 56, 2, 57, 49, 28, 3, 61, 58, 42, 50, 38, 29, 17, 4, 62, 47, 59, 36, 45, 43, 51, 22, 53, 39, 33, 30, 24, 18, 12, 5, 63, 55, 48, 27, 60, 41, 37, 16, 46, 35, 44, 21, 52, 32, 23, 11, 54, 26, 40, 15, 34, 20, 31, 10, 25, 14, 19, 9, 13, 8, 7, 6]
def pow10 : List Int := [1, 10, 100, 1000, 10000, 100000, 1000000, 10000000, 100000000, 1000000000, 10000000000, 100000000000, 1000000000000, 10000000000000, 100000000000000, 1000000000000000, 10000000000000000, 100000000000000000, 1000000000000000000, 10000000000000000000]
def synS : ByteArray := { data := #[105, 110, 118, 97, 108, 105, 100, 32, 115, 121, 110, 116, 97, 120] }
def rngS : ByteArray := { data := #[118, 97, 108, 117, 101, 32, 111, 117, 116, 32, 111, 102, 32, 114, 97, 110, 103, 101] }

end Go.Proofs.YtmgkjojifhchkaaDoor.Val
