/- A row's values can be read. -/
import Derived.Test.YtafkpfhhmmnpeaaU1
import Derived.Test.YtafkpfhhmmnpeaaUS
import Derived.Test.YtafkpfhhmmnpeaaRows
import Derived.Deep.Slices
import Derived.Deep.Strs
import Derived.WalkKit
import Derived.ProofKit
import Derived.OpenShut
import Derived.ShutString
import Derived.ChangeOld
import Derived.Lib.SmallJoins
namespace Go.Proofs.Ytafkpfhhmmnpeaa.Val
open Go Go.RowKit

/-- Memory's facts on a row's values: they can be read. -/
def RowOk (xs : List Val) : Prop := ∀ x ∈ xs, fits x.n = true ∧ x.s.size ≤ maxLen
end Go.Proofs.Ytafkpfhhmmnpeaa.Val
/- A law's arguments opened: values, rows, tables, out of what the reader reads. -/
namespace Go.Proofs.Ytafkpfhhmmnpeaa.Val
open Go.ChangeShapes Go.WideShapes Go.ChangeAt Go.RowKit Go.Joins
set_option maxRecDepth 100000

theorem own : ownKnob Try.prog.godebug = none := by kernel_rfl
theorem laidOut : laidOutB Try.prog = true := by kernel_rfl
theorem fits_of_wf {n : Int} (h : (Lit.int .i64 n).wf = true) : fits n = true := by
  rw [fits_iff]
  have e1 : IntKind.i64.min = -9223372036854775808 := rfl
  have e2 : IntKind.i64.max = 9223372036854775807 := rfl
  simp [Lit.wf, e1, e2] at h
  exact h
theorem cells_bool : Try.prog.cellsOf 4 = 1 := by kernel_rfl
theorem cells_i64 : Try.prog.cellsOf 2 = 1 := by kernel_rfl
theorem cells_int : Try.prog.cellsOf 3 = 1 := by kernel_rfl
theorem cells_string : Try.prog.cellsOf 9 = 1 := by kernel_rfl
theorem cells_V : Try.prog.cellsOf 32 = 3 := by kernel_rfl
theorem cells_bools : Try.prog.cellsOf 58 = 1 := by kernel_rfl
section
variable {H : Type} {enc : TypeId × Value → H} {P : Program} {w : World} {base : Nat} {sp : Nat → Bool} {held : Bool}

/-- A slice of plain elements, opened. -/
theorem slice_plain {α : Type} (d : α) {t e : TypeId} {m : Nat} (f : α → List Value) (ok : α → Prop) (hm : P.cellsOf e = m) (hm0 : 0 < m) (hf : ∀ x, (f x).length = m) (ht : P.underlying t = some (.slice e))
    (hopen : ∀ fuel cs x, DataW.trod enc P w base sp held fuel e cs = some x → ∃ a, cs = f a ∧ ok a) {fuel : Nat} {cs : List Value} {x : DataW H × List MemPlace} (h : DataW.trod enc P w base sp held fuel t cs = some x) :
    ∃ (v : Value) (xs : List α), cs = [v] ∧ Lies w v xs.length (xs.flatMap f) ∧ ∀ x ∈ xs, ok x := by
  haveI : Inhabited α := ⟨d⟩
  rcases Deep.open_slice ht h with ⟨rfl, _⟩ | ⟨a, len, cap, mm, n, D, Pl, rfl, hb, hl, hcap, hmm, _, hx⟩
  · exact ⟨_, [], rfl, ⟨none, 0, rfl, Nat.le_refl _, Nat.zero_le _, fun _ => ⟨rfl, rfl⟩, .inl rfl⟩, by simp⟩
  · have hlm : len ≤ mm := by rw [hmm]; split <;> omega
    rw [hm] at hx
    obtain ⟨F, hF⟩ := Deep.choose_lt (α := α) (n := len) (p := fun i y => w.cells? base (a.add (i * m)) m = some (f y) ∧ ok y) (fun i hi => by
      obtain ⟨cs', h1, h2⟩ := hx i (by omega)
      obtain ⟨y, rfl, hy⟩ := hopen _ _ _ h2
      exact ⟨y, h1, hy⟩)
    refine ⟨_, (List.range len).map F, rfl, ?_, ?_⟩
    · refine ⟨some a, cap, by simp, by simpa using hl, hcap, fun h => (by cases h), ?_⟩
      by_cases h0 : len = 0
      · subst h0; exact .inl (by simp)
      · right
        obtain ⟨b, o, spot⟩ := a
        have hc0 : w.cell? ((⟨b, o, spot⟩ : Addr).add 0) = (f (F 0))[0]? := by
          have h1 := (World.cells?_some (hF 0 (by omega)).1).2.2 0 hm0
          simpa [Addr.add_zero'] using h1
        have hs0 : ((f (F 0))[0]?).isSome = true := by simp [hf, hm0]
        obtain ⟨u0, hu0⟩ := Option.isSome_iff_exists.1 hs0
        rw [hu0] at hc0
        have hspot : spot = none := by simpa [Addr.add] using World.cell?_spot hc0
        subst hspot
        refine ⟨b, o, rfl, fun j u hj => ?_⟩
        have hlen : ((List.range len).map F).length = len := by simp
        have hjl : j < len * m := by
          have h1 := (List.getElem?_eq_some_iff.1 hj).1
          rw [flat_length f m hf, hlen] at h1
          exact h1
        have hi : j / m < len := Nat.div_lt_of_lt_mul (by rw [Nat.mul_comm]; exact hjl)
        have hr : j % m < m := Nat.mod_lt _ hm0
        have hdm : j / m * m + j % m = j := by rw [Nat.mul_comm]; exact Nat.div_add_mod j m
        have h2 := (World.cells?_some (hF (j / m) hi).1).2.2 (j % m) hr
        rw [Deep.add_add, hdm, Addr.add_lit] at h2
        rw [h2]
        have h3 := flat_at f m hf ((List.range len).map F) (j / m) (j % m) (by simpa using hi) hr
        rw [hdm, hj] at h3
        simpa using h3.symm
    · intro x hx'
      obtain ⟨i, hi, rfl⟩ := List.mem_map.1 hx'
      exact (hF i (by simpa using hi)).2
theorem cells_of_bool {fuel : Nat} {cs : List Value} {x : DataW H × List MemPlace} (h : DataW.trod enc Try.prog w base sp held fuel 4 cs = some x) : ∃ b : Bool, cs = [.bool b] ∧ True := by
  obtain ⟨b, rfl, _⟩ := DataW.trod_bool Try.underlying4 h
  exact ⟨b, rfl, trivial⟩
theorem cells_of_V {fuel : Nat} {cs : List Value} {x : DataW H × List MemPlace} (h : DataW.trod enc Try.prog w base sp held fuel 32 cs = some x) : ∃ v : Val, cs = v.cells ∧ (fits v.n = true ∧ v.s.size ≤ maxLen) := by
  obtain ⟨y0, y1, y2, n, _, hl, h0, h1, h2⟩ := Deep.trod_struct3 Try.underlying32 h
  rw [cells_V] at hl
  match cs, hl with
  | [c0, c1, c2], _ =>
    simp [cells_bool, cells_i64, cells_string] at h0 h1 h2
    obtain ⟨t, e0, _⟩ := DataW.trod_bool Try.underlying4 h0
    obtain ⟨n, e1, _, wn⟩ := DataW.trod_int Try.underlying2 h1
    obtain ⟨s, e2, _, ws⟩ := DataW.trod_string Try.underlying9 h2
    simp at e0 e1 e2
    subst e0 e1 e2
    exact ⟨⟨t, n, s⟩, rfl, fits_of_wf wn, ws⟩
theorem open_row {v : Value} {d : DataW H} {p : List MemPlace} (h : DataW.Trod enc Try.prog w base sp held 34 v d p) (h1 : v.cells.toList = [v]) : ∃ xs, RowIn w v xs ∧ RowOk xs := by
  obtain ⟨fuel, hf⟩ := h
  rw [h1] at hf
  obtain ⟨v', xs, e, hl, ho⟩ := slice_plain Val.zero Val.cells (fun v => fits v.n = true ∧ v.s.size ≤ maxLen) cells_V (by decide) (fun _ => rfl) Try.underlying34 (fun _ _ _ h => cells_of_V h) hf
  simp at e
  subst e
  exact ⟨xs, hl, ho⟩
theorem flat_bools (xs : List Bool) : xs.flatMap (fun b => [Value.bool b]) = xs.map .bool := by
  induction xs with
  | nil => rfl
  | cons x l ih => simp [ih]
theorem open_table {b0 : Nat} {v : Value} {d : DataW H} {p : List MemPlace} (hv : Value.okWide Try.prog w .any b0 60 v) (h : DataW.Trod enc Try.prog w base sp held 60 v d p) : ∃ vc cols, v = .agg #[vc] ∧ BoolsIn w vc cols := by
  obtain ⟨cs, rfl, hsz⟩ := okWide_struct Try.underlying60 hv
  obtain ⟨fuel, hf⟩ := h
  obtain ⟨y0, n, _, hl, h0⟩ := trod_struct1 Try.underlying60 hf
  have hs1 : cs.size = 1 := hsz.trans (by kernel_rfl)
  obtain ⟨c0, rfl⟩ : ∃ c0, cs = #[c0] := Array.size_eq_one_iff.1 hs1
  simp [Value.cells, cells_bools] at h0
  obtain ⟨v', xs, e, hl', _⟩ := slice_plain false (fun b => [Value.bool b]) (fun _ => True) cells_bool (by decide) (fun _ => rfl) Try.underlying58 (fun _ _ _ h => cells_of_bool h) h0
  simp at e
  subst e
  rw [flat_bools] at hl'
  exact ⟨_, xs, rfl, hl'⟩
theorem open_value {b0 : Nat} {v : Value} {d : DataW H} {p : List MemPlace} (hv : Value.okWide Try.prog w .any b0 32 v) (h : DataW.Trod enc Try.prog w base sp held 32 v d p) : ∃ x : Val, v = V x.t x.n x.s ∧ fits x.n = true ∧ x.s.size ≤ maxLen := by
  obtain ⟨cs, rfl, hsz⟩ := okWide_struct Try.underlying32 hv
  obtain ⟨fuel, hf⟩ := h
  obtain ⟨x, e, hx⟩ := cells_of_V hf
  refine ⟨x, ?_, hx⟩
  have : cs = x.cells.toArray := by rw [← e]; simp [Value.cells]
  rw [this]; rfl
end
end Go.Proofs.Ytafkpfhhmmnpeaa.Val
