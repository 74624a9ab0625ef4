/- What the rows list gives what Env asks. -/
import Derived.Test.YtmgkjojifhchkaaDoorFrame
import Derived.Test.YtmgkjojifhchkaaDoorEnv
namespace Go.Proofs.YtmgkjojifhchkaaDoor.Val
open Go.RowKit

theorem gPowType : (Tryd.prog.globals[1]?).map (·.type) = some 69 := by kernel_rfl
theorem gSynType : (Tryd.prog.globals[2]?).map (·.type) = some 50 := by kernel_rfl
theorem gRngType : (Tryd.prog.globals[3]?).map (·.type) = some 50 := by kernel_rfl
theorem cells20 : Tryd.prog.cellsOf 69 = 20 := by kernel_rfl
theorem cellsU64 : Tryd.prog.cellsOf 39 = 1 := by kernel_rfl
theorem cellsEs : Tryd.prog.cellsOf 82 = 1 := by kernel_rfl
theorem cellsStr : Tryd.prog.cellsOf 9 = 1 := by kernel_rfl
theorem star : "*" ++ "errors.errorString" = "*errors.errorString" := by decide
theorem rowEs (u : TypeId) (h : Tryd.prog.typeName? 3 u = some "*errors.errorString") : u = 80 :=
  typeName_ptr_named (nm := "errors.errorString") (by rw [star]; kernel_rfl) (by kernel_rfl) (by decide) u (by rw [star]; exact h)
theorem pow10_eq : pow10 = Lib.pow10Tab := by decide
theorem envOf {W : World} (h : laidMetH Tryd.prog Rows.valueSumsRow.laid W) : Env W := by
  have hm := met h
  have t : Lib.TabIs Tryd.prog W "internal/strconv.uint64pow10" .u64 pow10 :=
    Lib.tabIs_of_head gPow gPowType Tryd.underlying69 Tryd.underlying39 cellsU64 cells20 hm.tail.tail
  obtain ⟨a0, s0, hv0, -, -, -⟩ := laid_sentinel hm.tail.tail.tail gRng gRngType Tryd.underlying50 rowEs Tryd.underlying80 Tryd.underlying82 rfl rfl Tryd.underlying9 cellsEs cellsStr
  obtain ⟨a1, s1, hv1, -, -, -⟩ := laid_sentinel hm.tail.tail.tail.tail gSyn gSynType Tryd.underlying50 rowEs Tryd.underlying80 Tryd.underlying82 rfl rfl Tryd.underlying9 cellsEs cellsStr
  refine ⟨table h, by rw [← pow10_eq]; exact t, ⟨_, _, hv1⟩, ⟨_, _, hv0⟩, ?_⟩
  have c1 := World.var?_cell gPow t 0
  have c2 := World.var?_cell gSyn hv1 0
  have c3 := World.var?_cell gRng hv0 0
  exact ⟨(table h).lt, World.block_lt_of_cell? W _ c1, World.block_lt_of_cell? W _ c2, World.block_lt_of_cell? W _ c3⟩
end Go.Proofs.YtmgkjojifhchkaaDoor.Val
