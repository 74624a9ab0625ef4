/- A value (api.Value) among a law's arguments: opened and shut. -/
import Derived.Test.YtmgkjojifhchkaaDoorFrame
import Derived.Test.YtmgkjojifhchkaaDoorBare
import Derived.Test.YtmgkjojifhchkaaDoorSumsPlain
namespace Go.Proofs.YtmgkjojifhchkaaDoor.Val
open Go.ChangeShapes Go.WideShapes Go.ChangeAt Go.RowKit Go.Joins
open Go.ChangeMaps (open_string shut_string)

theorem fits_of_wf {n : Int} (h : (Lit.int .i64 n).wf = true) : fits n = true := by
  rw [fits_iff]
  have e1 : IntKind.i64.min = -9223372036854775808 := rfl
  have e2 : IntKind.i64.max = 9223372036854775807 := rfl
  simp [Lit.wf, e1, e2] at h
  exact h
theorem cellsV : Tryd.prog.cellsOf 23 = 3 := by kernel_rfl
/-- A value as data. -/
def dataV {H : Type} (t : Bool) (n : Int) (s : ByteArray) : DataW H := .agg [.lit (.bool t), .lit (.int .i64 n), .lit (.string s.data.toList)]
section
variable {H : Type} {enc : TypeId × Value → H} {w : World} {base : Nat} {sp : Nat → Bool} {held : Bool}
theorem open_V {b0 : Nat} {v : Value} {d : DataW H} {p : List MemPlace} (hv : Value.okWide Tryd.prog w .any b0 23 v) (h : DataW.Trod enc Tryd.prog w base sp held 23 v d p) :
    ∃ (t : Bool) (n : Int) (s : ByteArray), v = V t n s ∧ d = dataV t n s ∧ p = [] ∧ (Lit.int .i64 n).wf = true ∧ s.size ≤ maxLen := by
  obtain ⟨c0, c1, c2, y0, y1, y2, m, rfl, rfl, rfl, hy0, hy1, hy2⟩ := open_agg3 Tryd.underlying23 (by kernel_rfl) cellsV hv h
  obtain ⟨t, e0, rfl⟩ := DataW.trod_bool Tryd.underlying4 hy0
  obtain ⟨n, e1, rfl, wn⟩ := DataW.trod_int Tryd.underlying2 hy1
  obtain ⟨s, e2, rfl, ws⟩ := DataW.trod_string Tryd.underlying9 hy2
  simp at e0 e1 e2
  subst e0 e1 e2
  exact ⟨t, n, s, rfl, rfl, rfl, wn, ws⟩
theorem shut_V {t : Bool} {n : Int} {s : ByteArray} (wn : (Lit.int .i64 n).wf = true) (ws : s.size ≤ maxLen) : DataW.Trod enc Tryd.prog w base sp held 23 (V t n s) (dataV t n s) [] :=
  shut_agg3 (y0 := (.lit (.bool t), [])) (y1 := (.lit (.int .i64 n), [])) (y2 := (.lit (.string s.data.toList), [])) Tryd.underlying23 (by kernel_rfl) cellsV ⟨1, by simp [DataW.trod, Tryd.underlying4]⟩ ⟨1, by simp [DataW.trod, Tryd.underlying2, wn]⟩ ⟨1, by simp [DataW.trod, Tryd.underlying9, ws]⟩
end
end Go.Proofs.YtmgkjojifhchkaaDoor.Val
