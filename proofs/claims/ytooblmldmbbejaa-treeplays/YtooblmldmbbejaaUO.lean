/- A row's values can be read. -/
import Derived.Test.YtooblmldmbbejaaU1
import Derived.Test.YtooblmldmbbejaaUS
import Derived.Test.YtooblmldmbbejaaRows
import Derived.Deep.Slices
import Derived.Deep.Strs
import Derived.WalkKit
import Derived.ProofKit
import Derived.OpenShut
import Derived.ShutString
import Derived.ChangeOld
import Derived.Lib.SmallJoins
namespace Go.Proofs.Ytooblmldmbbejaa.Val
open Go Go.RowKit

/-- Memory's facts on a row's values: they can be read. -/
def RowOk (xs : List Val) : Prop := ∀ x ∈ xs, fits x.n = true ∧ x.s.size ≤ maxLen
end Go.Proofs.Ytooblmldmbbejaa.Val
/- A law's arguments opened: values, rows, tables, out of what the reader reads. -/
namespace Go.Proofs.Ytooblmldmbbejaa.Val
open Go.ChangeShapes Go.WideShapes Go.ChangeAt Go.RowKit Go.Joins

theorem own : ownKnob Try.prog.godebug = none := by kernel_rfl
theorem laidOut : laidOutB Try.prog = true := by kernel_rfl
theorem fits_of_wf {n : Int} (h : (Lit.int .i64 n).wf = true) : fits n = true := by
  rw [fits_iff]
  have e1 : IntKind.i64.min = -9223372036854775808 := rfl
  have e2 : IntKind.i64.max = 9223372036854775807 := rfl
  simp [Lit.wf, e1, e2] at h
  exact h
theorem cells_bool : Try.prog.cellsOf 4 = 1 := by kernel_rfl
theorem cells_i64 : Try.prog.cellsOf 2 = 1 := by kernel_rfl
theorem cells_int : Try.prog.cellsOf 3 = 1 := by kernel_rfl
theorem cells_string : Try.prog.cellsOf 9 = 1 := by kernel_rfl
theorem cells_V : Try.prog.cellsOf 30 = 3 := by kernel_rfl
section
variable {H : Type} {enc : TypeId × Value → H} {P : Program} {w : World} {base : Nat} {sp : Nat → Bool} {held : Bool}

/-- A slice of plain elements, opened. -/
theorem slice_plain {α : Type} (d : α) {t e : TypeId} {m : Nat} (f : α → List Value) (ok : α → Prop) (hm : P.cellsOf e = m) (hm0 : 0 < m) (hf : ∀ x, (f x).length = m) (ht : P.underlying t = some (.slice e))
    (hopen : ∀ fuel cs x, DataW.trod enc P w base sp held fuel e cs = some x → ∃ a, cs = f a ∧ ok a) {fuel : Nat} {cs : List Value} {x : DataW H × List MemPlace} (h : DataW.trod enc P w base sp held fuel t cs = some x) :
    ∃ (v : Value) (xs : List α), cs = [v] ∧ Lies w v xs.length (xs.flatMap f) ∧ ∀ x ∈ xs, ok x := by
  haveI : Inhabited α := ⟨d⟩
  rcases Deep.open_slice ht h with ⟨rfl, _⟩ | ⟨a, len, cap, mm, n, D, Pl, rfl, hb, hl, hcap, hmm, _, hx⟩
  · exact ⟨_, [], rfl, ⟨none, 0, rfl, Nat.le_refl _, Nat.zero_le _, fun _ => ⟨rfl, rfl⟩, .inl rfl⟩, by simp⟩
  · have hlm : len ≤ mm := by rw [hmm]; split <;> omega
    rw [hm] at hx
    obtain ⟨F, hF⟩ := Deep.choose_lt (α := α) (n := len) (p := fun i y => w.cells? base (a.add (i * m)) m = some (f y) ∧ ok y) (fun i hi => by
      obtain ⟨cs', h1, h2⟩ := hx i (by omega)
      obtain ⟨y, rfl, hy⟩ := hopen _ _ _ h2
      exact ⟨y, h1, hy⟩)
    refine ⟨_, (List.range len).map F, rfl, ?_, ?_⟩
    · refine ⟨some a, cap, by simp, by simpa using hl, hcap, fun h => (by cases h), ?_⟩
      by_cases h0 : len = 0
      · subst h0; exact .inl (by simp)
      · right
        obtain ⟨b, o, spot⟩ := a
        have hc0 : w.cell? ((⟨b, o, spot⟩ : Addr).add 0) = (f (F 0))[0]? := by
          have h1 := (World.cells?_some (hF 0 (by omega)).1).2.2 0 hm0
          simpa [Addr.add_zero'] using h1
        have hs0 : ((f (F 0))[0]?).isSome = true := by simp [hf, hm0]
        obtain ⟨u0, hu0⟩ := Option.isSome_iff_exists.1 hs0
        rw [hu0] at hc0
        have hspot : spot = none := by simpa [Addr.add] using World.cell?_spot hc0
        subst hspot
        refine ⟨b, o, rfl, fun j u hj => ?_⟩
        have hlen : ((List.range len).map F).length = len := by simp
        have hjl : j < len * m := by
          have h1 := (List.getElem?_eq_some_iff.1 hj).1
          rw [flat_length f m hf, hlen] at h1
          exact h1
        have hi : j / m < len := Nat.div_lt_of_lt_mul (by rw [Nat.mul_comm]; exact hjl)
        have hr : j % m < m := Nat.mod_lt _ hm0
        have hdm : j / m * m + j % m = j := by rw [Nat.mul_comm]; exact Nat.div_add_mod j m
        have h2 := (World.cells?_some (hF (j / m) hi).1).2.2 (j % m) hr
        rw [Deep.add_add, hdm, Addr.add_lit] at h2
        rw [h2]
        have h3 := flat_at f m hf ((List.range len).map F) (j / m) (j % m) (by simpa using hi) hr
        rw [hdm, hj] at h3
        simpa using h3.symm
    · intro x hx'
      obtain ⟨i, hi, rfl⟩ := List.mem_map.1 hx'
      exact (hF i (by simpa using hi)).2
theorem cells_of_bool {fuel : Nat} {cs : List Value} {x : DataW H × List MemPlace} (h : DataW.trod enc Try.prog w base sp held fuel 4 cs = some x) : ∃ b : Bool, cs = [.bool b] ∧ True := by
  obtain ⟨b, rfl, _⟩ := DataW.trod_bool Try.underlying4 h
  exact ⟨b, rfl, trivial⟩
theorem cells_of_V {fuel : Nat} {cs : List Value} {x : DataW H × List MemPlace} (h : DataW.trod enc Try.prog w base sp held fuel 30 cs = some x) : ∃ v : Val, cs = v.cells ∧ (fits v.n = true ∧ v.s.size ≤ maxLen) := by
  obtain ⟨y0, y1, y2, n, _, hl, h0, h1, h2⟩ := Deep.trod_struct3 Try.underlying30 h
  rw [cells_V] at hl
  match cs, hl with
  | [c0, c1, c2], _ =>
    simp [cells_bool, cells_i64, cells_string] at h0 h1 h2
    obtain ⟨t, e0, _⟩ := DataW.trod_bool Try.underlying4 h0
    obtain ⟨n, e1, _, wn⟩ := DataW.trod_int Try.underlying2 h1
    obtain ⟨s, e2, _, ws⟩ := DataW.trod_string Try.underlying9 h2
    simp at e0 e1 e2
    subst e0 e1 e2
    exact ⟨⟨t, n, s⟩, rfl, fits_of_wf wn, ws⟩
theorem flat_bools (xs : List Bool) : xs.flatMap (fun b => [Value.bool b]) = xs.map .bool := by
  induction xs with
  | nil => rfl
  | cons x l ih => simp [ih]
theorem open_value {b0 : Nat} {v : Value} {d : DataW H} {p : List MemPlace} (hv : Value.okWide Try.prog w .any b0 30 v) (h : DataW.Trod enc Try.prog w base sp held 30 v d p) : ∃ x : Val, v = V x.t x.n x.s ∧ fits x.n = true ∧ x.s.size ≤ maxLen := by
  obtain ⟨cs, rfl, hsz⟩ := okWide_struct Try.underlying30 hv
  obtain ⟨fuel, hf⟩ := h
  obtain ⟨x, e, hx⟩ := cells_of_V hf
  refine ⟨x, ?_, hx⟩
  have : cs = x.cells.toArray := by rw [← e]; simp [Value.cells]
  rw [this]; rfl
end
end Go.Proofs.Ytooblmldmbbejaa.Val
/- A law's arguments opened: acts, and rows of acts, out of what the reader reads. -/
namespace Go.Proofs.Ytooblmldmbbejaa.Val
open Go.ChangeShapes Go.WideShapes Go.ChangeAt Go.RowKit Go.Joins

/-- An act, as plain data. -/
structure AcP where
  del : Bool
  k : Val
  v : Int
def AcP.zero : AcP := ⟨false, Val.zero, 0⟩
def AcP.cells (a : AcP) : List Value := [.bool a.del, .bool a.k.t, .int .i64 a.k.n, .string a.k.s, .int .i64 a.v]
def AcP.val (a : AcP) : Value := .agg #[.bool a.del, .bool a.k.t, .int .i64 a.k.n, .string a.k.s, .int .i64 a.v]
def ActsIn (w : World) (v : Value) (xs : List AcP) : Prop := Lies w v xs.length (xs.flatMap AcP.cells)
theorem ActsIn.below {w w' : World} {v : Value} {xs : List AcP} (h : ActsIn w v xs) (hb : Below w.heap.size w w') : ActsIn w' v xs := Lies.below h hb
theorem ActsIn.at {w : World} {ao : Option Addr} {c n : Nat} {xs : List AcP} (h : ActsIn w (.slice ao n c) xs) (k : Nat) (hk : k < xs.length) :
    ∃ b o, ao = some ⟨b, o, none⟩ ∧ w.cell? ⟨b, o + k * 5, none⟩ = some (.bool xs[k].del) ∧ w.cell? ⟨b, o + k * 5 + 1, none⟩ = some (.bool xs[k].k.t) ∧ w.cell? ⟨b, o + k * 5 + 2, none⟩ = some (.int .i64 xs[k].k.n) ∧ w.cell? ⟨b, o + k * 5 + 3, none⟩ = some (.string xs[k].k.s) ∧ w.cell? ⟨b, o + k * 5 + 4, none⟩ = some (.int .i64 xs[k].v) := by
  obtain ⟨ao', c', e, h1, h2, h0, h3⟩ := h
  cases e
  have hf : ∀ x : AcP, x.cells.length = 5 := fun x => rfl
  rcases h3 with h3 | ⟨b, o, rfl, h3⟩
  · have := flat_length AcP.cells 5 hf xs; rw [h3] at this; simp at this; omega
  · refine ⟨b, o, rfl, ?_, ?_, ?_, ?_, ?_⟩
    · exact h3 (k * 5) _ (by rw [show k * 5 = k * 5 + 0 by omega, flat_at _ 5 hf xs k 0 hk (by omega)]; rfl)
    · exact h3 (k * 5 + 1) _ (by rw [flat_at _ 5 hf xs k 1 hk (by omega)]; rfl)
    · exact h3 (k * 5 + 2) _ (by rw [flat_at _ 5 hf xs k 2 hk (by omega)]; rfl)
    · exact h3 (k * 5 + 3) _ (by rw [flat_at _ 5 hf xs k 3 hk (by omega)]; rfl)
    · exact h3 (k * 5 + 4) _ (by rw [flat_at _ 5 hf xs k 4 hk (by omega)]; rfl)
theorem cells_A : Try.prog.cellsOf 32 = 5 := by kernel_rfl
section
variable {H : Type} {enc : TypeId × Value → H} {w : World} {base : Nat} {sp : Nat → Bool} {held : Bool}
theorem cells_of_A {fuel : Nat} {cs : List Value} {x : DataW H × List MemPlace} (h : DataW.trod enc Try.prog w base sp held fuel 32 cs = some x) : ∃ a : AcP, cs = a.cells ∧ a.k.s.size ≤ maxLen := by
  obtain ⟨xs, n, _, _, hl, hlen, hf⟩ := DataW.trod_struct Try.underlying32 h
  rw [cells_A] at hl
  match cs, hl, xs, hlen with
  | [c0, c1, c2, c3, c4], _, [y0, y1, y2], _ =>
    have g0 := hf 0 _ rfl
    have g1 := hf 1 _ rfl
    have g2 := hf 2 _ rfl
    simp [cells_int, cells_V, cells_bool] at g0 g1 g2
    obtain ⟨b, e0, _⟩ := DataW.trod_bool Try.underlying4 g0
    obtain ⟨v, e1, hv⟩ := cells_of_V g1
    obtain ⟨n2, e2, _, _⟩ := DataW.trod_int Try.underlying3 g2
    simp [Val.cells] at e0 e1 e2
    obtain ⟨e1, e3, e4⟩ := e1
    subst e0 e1 e2 e3 e4
    exact ⟨⟨b, v, n2⟩, rfl, hv.2⟩
theorem open_acts {v : Value} {d : DataW H} {p : List MemPlace} (h : DataW.Trod enc Try.prog w base sp held 22 v d p) (h1 : v.cells.toList = [v]) : ∃ xs, ActsIn w v xs ∧ ∀ a ∈ xs, a.k.s.size ≤ maxLen := by
  obtain ⟨fuel, hf⟩ := h
  rw [h1] at hf
  obtain ⟨v', xs, e, hl, ho⟩ := slice_plain AcP.zero AcP.cells (fun a => a.k.s.size ≤ maxLen) cells_A (by decide) (fun _ => rfl) Try.underlying22 (fun _ _ _ h => cells_of_A h) hf
  simp at e
  subst e
  exact ⟨xs, hl, ho⟩
theorem open_act {b0 : Nat} {v : Value} {d : DataW H} {p : List MemPlace} (hv : Value.okWide Try.prog w .any b0 32 v) (h : DataW.Trod enc Try.prog w base sp held 32 v d p) : ∃ a : AcP, v = a.val ∧ a.k.s.size ≤ maxLen := by
  obtain ⟨cs, rfl, hsz⟩ := okWide_struct Try.underlying32 hv
  obtain ⟨fuel, hf⟩ := h
  obtain ⟨x, e, hx⟩ := cells_of_A hf
  refine ⟨x, ?_, hx⟩
  have : cs = x.cells.toArray := by rw [← e]; simp [Value.cells]
  rw [this]; rfl
end
end Go.Proofs.Ytooblmldmbbejaa.Val
