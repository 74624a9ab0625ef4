/- A law's argument opened: a span, out of what the reader reads. -/
import Derived.Test.YtooblmldmbbejaaUO
import Derived.Test.YtooblmldmbbejaaU1
namespace Go.Proofs.Ytooblmldmbbejaa.Val
open Go.ChangeShapes Go.WideShapes Go.ChangeAt Go.RowKit Go.Joins

theorem cells_S : Try.prog.cellsOf 40 = 11 := by kernel_rfl
section
variable {H : Type} {enc : TypeId × Value → H} {w : World} {base : Nat} {sp : Nat → Bool} {held : Bool}
def Sp.cells (s : Sp) : List Value := [.bool s.no, .bool s.hl, .bool s.ol, .bool s.lo.t, .int .i64 s.lo.n, .string s.lo.s, .bool s.hh, .bool s.oh, .bool s.hi.t, .int .i64 s.hi.n, .string s.hi.s]
theorem cells_of_S {fuel : Nat} {cs : List Value} {x : DataW H × List MemPlace} (h : DataW.trod enc Try.prog w base sp held fuel 40 cs = some x) : ∃ s : Sp, cs = s.cells ∧ s.ok := by
  obtain ⟨xs, n, _, hxe, hl, hlen, hf⟩ := DataW.trod_struct Try.underlying40 h
  rw [cells_S] at hl
  match cs, hl, xs, hlen with
  | [c0, c1, c2, c3, c4, c5, c6, c7, c8, c9, c10], _, [y0, y1, y2, y3, y4, y5, y6], _ =>
    have g0 := hf 0 _ rfl
    have g1 := hf 1 _ rfl
    have g2 := hf 2 _ rfl
    have g3 := hf 3 _ rfl
    have g4 := hf 4 _ rfl
    have g5 := hf 5 _ rfl
    have g6 := hf 6 _ rfl
    simp [cells_bool, cells_V] at g0 g1 g2 g3 g4 g5 g6
    obtain ⟨n0, e0, _⟩ := DataW.trod_bool Try.underlying4 g0
    obtain ⟨n1, e1, _⟩ := DataW.trod_bool Try.underlying4 g1
    obtain ⟨n2, e2, _⟩ := DataW.trod_bool Try.underlying4 g2
    obtain ⟨v, e3, hv⟩ := cells_of_V g3
    obtain ⟨n4, e4, _⟩ := DataW.trod_bool Try.underlying4 g4
    obtain ⟨n5, e5, _⟩ := DataW.trod_bool Try.underlying4 g5
    obtain ⟨u, e6, hu⟩ := cells_of_V g6
    simp [Val.cells] at e0 e1 e2 e3 e4 e5 e6
    obtain ⟨e3, e3', e3''⟩ := e3
    obtain ⟨e6, e6', e6''⟩ := e6
    subst e0 e1 e2 e3 e3' e3'' e4 e5 e6 e6' e6''
    exact ⟨⟨n0, n1, n2, v, n4, n5, u⟩, rfl, hv.2, hu.2⟩
theorem open_span {b0 : Nat} {v : Value} {d : DataW H} {p : List MemPlace} (hv : Value.okWide Try.prog w .any b0 40 v) (h : DataW.Trod enc Try.prog w base sp held 40 v d p) : ∃ x : Sp, v = x.val ∧ x.ok := by
  obtain ⟨cs, rfl, hsz⟩ := okWide_struct Try.underlying40 hv
  obtain ⟨fuel, hf⟩ := h
  obtain ⟨x, e, hx⟩ := cells_of_S hf
  refine ⟨x, ?_, hx⟩
  have : cs = x.cells.toArray := by rw [← e]; simp [Value.cells]
  rw [this]; rfl
end
end Go.Proofs.Ytooblmldmbbejaa.Val
/- A law's argument opened: a row of values, out of what the reader reads. -/
namespace Go.Proofs.Ytooblmldmbbejaa.Val
open Go.ChangeShapes Go.WideShapes Go.ChangeAt Go.RowKit Go.Joins

section
variable {H : Type} {enc : TypeId × Value → H} {w : World} {base : Nat} {sp : Nat → Bool} {held : Bool}
theorem open_values {v : Value} {d : DataW H} {p : List MemPlace} (h : DataW.Trod enc Try.prog w base sp held 51 v d p) (h1 : v.cells.toList = [v]) : ∃ xs, RowIn w v xs ∧ RowOk xs := by
  obtain ⟨fuel, hf⟩ := h
  rw [h1] at hf
  obtain ⟨v', xs, e, hl, ho⟩ := slice_plain Val.zero Val.cells (fun v => fits v.n = true ∧ v.s.size ≤ maxLen) cells_V (by decide) (fun _ => rfl) Try.underlying51 (fun _ _ _ h => cells_of_V h) hf
  simp at e
  subst e
  exact ⟨xs, hl, ho⟩
end
end Go.Proofs.Ytooblmldmbbejaa.Val
