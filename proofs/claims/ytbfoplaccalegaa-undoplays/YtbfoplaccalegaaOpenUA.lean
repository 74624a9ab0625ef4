/- A law's argument opened: acts on a log. -/
import Derived.Test.YtbfoplaccalegaaOpenEnt
import Derived.Test.YtbfoplaccalegaaLawUDone
namespace Go.Proofs.Ytbfoplaccalegaa.Val
open Go.ChangeShapes Go.WideShapes Go.ChangeAt Go.RowKit Go.Joins

def UA.cells (a : UA) : List Value := [.int .i64 a.kind, .int .i64 a.n, .int .i64 a.e.t, .bool a.e.k.t, .int .i64 a.e.k.n, .string a.e.k.s, a.e.r]
theorem cells_UA : Try.prog.cellsOf 38 = 7 := by kernel_rfl
theorem uacts_at {w : World} {ao : Option Addr} {n c : Nat} {l : List UA} (h : Lies w (.slice ao n c) l.length (l.flatMap UA.cells)) (k : Nat) (hk : k < l.length) :
    ∃ b o, ao = some ⟨b, o, none⟩ ∧ w.cell? ⟨b, o + k * 7, none⟩ = some (.int .i64 l[k].kind) ∧ w.cell? ⟨b, o + k * 7 + 1, none⟩ = some (.int .i64 l[k].n) ∧ w.cell? ⟨b, o + k * 7 + 2, none⟩ = some (.int .i64 l[k].e.t) ∧ w.cell? ⟨b, o + k * 7 + 3, none⟩ = some (.bool l[k].e.k.t) ∧
      w.cell? ⟨b, o + k * 7 + 4, none⟩ = some (.int .i64 l[k].e.k.n) ∧ w.cell? ⟨b, o + k * 7 + 5, none⟩ = some (.string l[k].e.k.s) ∧ w.cell? ⟨b, o + k * 7 + 6, none⟩ = some l[k].e.r := by
  obtain ⟨ao', c', e, h1, h2, h0, h3⟩ := h
  cases e
  have hf : ∀ x : UA, x.cells.length = 7 := fun _ => rfl
  rcases h3 with h3 | ⟨b, o, rfl, h3⟩
  · have := flat_length UA.cells 7 hf l; rw [h3] at this; simp at this; omega
  · have at' : ∀ j u, j < 7 → l[k].cells[j]? = some u → w.cell? ⟨b, o + (k * 7 + j), none⟩ = some u := fun j u hj hu =>
      h3 (k * 7 + j) u (by rw [flat_at UA.cells 7 hf l k j hk hj]; exact hu)
    exact ⟨b, o, rfl, at' 0 _ (by omega) rfl, at' 1 _ (by omega) rfl, at' 2 _ (by omega) rfl, at' 3 _ (by omega) rfl, at' 4 _ (by omega) rfl, at' 5 _ (by omega) rfl, at' 6 _ (by omega) rfl⟩
section
variable {H : Type} {enc : TypeId × Value → H} {w : World} {base : Nat} {sp : Nat → Bool} {held : Bool}
theorem cells_of_UA {fuel : Nat} {cs : List Value} {x : DataW H × List MemPlace} (hw : ∀ n ∈ x.1.weights Try.prog 38, n ≤ reachBytes) (h : DataW.trod enc Try.prog w base sp held fuel 38 cs = some x) : ∃ a : UA, cs = a.cells ∧ GoodE w a.e := by
  obtain ⟨xs, n, _, hxe, hl, hlen, hf⟩ := DataW.trod_struct Try.underlying38 h
  rw [cells_UA] at hl
  match cs, hl, xs, hlen with
  | [c0, c1, c2, c3, c4, c5, c6], _, [y0, y1, y2], _ =>
    have g0 := hf 0 _ rfl
    have g1 := hf 1 _ rfl
    have g2 := hf 2 _ rfl
    simp [cells_int, cells_E] at g0 g1 g2
    obtain ⟨n0, e0, _, _⟩ := DataW.trod_int Try.underlying3 g0
    obtain ⟨n1, e1, _, _⟩ := DataW.trod_int Try.underlying3 g1
    have hw2 : ∀ n ∈ y2.1.weights Try.prog 36, n ≤ reachBytes := fun n hn => hw n (by
      rw [hxe]
      simp only [DataW.weights, Try.underlying38]
      exact DataW.weights_mem_each (j := 2) (t := 36) (d := y2.1) rfl rfl n hn)
    obtain ⟨e, e2, ge⟩ := cells_of_E hw2 g2
    simp [En.cells] at e0 e1 e2
    obtain ⟨e2, e3, e4, e5, e6⟩ := e2
    subst e0 e1 e2 e3 e4 e5 e6
    exact ⟨⟨n0, n1, e⟩, rfl, ge⟩
theorem open_uacts {v : Value} {d : DataW H} {p : List MemPlace} (h : DataW.Trod enc Try.prog w base sp held 22 v d p) (h1 : v.cells.toList = [v]) (hw : ∀ n ∈ d.weights Try.prog 22, n ≤ reachBytes) : ∃ l : List UA, Lies w v l.length (l.flatMap UA.cells) ∧ ∀ a ∈ l, GoodE w a.e := by
  obtain ⟨fuel, hf⟩ := h
  rw [h1] at hf
  obtain ⟨v', xs, e, hl, ho, _⟩ := slice_w (⟨0, 0, ⟨0, Val.zero, [], .slice none 0 0⟩⟩ : UA) UA.cells (fun a => GoodE w a.e) cells_UA (by decide) (fun _ => rfl) Try.underlying22 hw (fun _ _ _ hy h => cells_of_UA hy h) hf
  simp at e
  subst e
  exact ⟨xs, hl, ho⟩
end
end Go.Proofs.Ytbfoplaccalegaa.Val
