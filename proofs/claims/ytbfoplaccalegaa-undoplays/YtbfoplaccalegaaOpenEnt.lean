/- A law's arguments opened: entries, and rows of entries, out of what the reader reads; no row of them is longer than the form reaches. -/
import Derived.Test.YtbfoplaccalegaaOpenBase
import Derived.Test.YtbfoplaccalegaaUndoPlain
import Derived.SizedLaws
namespace Go.Proofs.Ytbfoplaccalegaa.Val
open Go.ChangeShapes Go.WideShapes Go.ChangeAt Go.RowKit Go.Joins

theorem weights_all {H : Type} {P : Program} {e : TypeId} {l : List (DataW H)} {d : DataW H} (h : d ∈ l) : ∀ n ∈ d.weights P e, n ∈ DataW.weightsAll P e l := by
  induction l with
  | nil => simp at h
  | cons x l ih =>
    intro n hn
    simp only [DataW.weightsAll, List.mem_append]
    rcases List.mem_cons.1 h with rfl | h
    · exact .inl hn
    · exact .inr (ih h n hn)
theorem cells_E : Try.prog.cellsOf 36 = 5 := by kernel_rfl
theorem cells_Row : Try.prog.cellsOf 34 = 1 := by kernel_rfl
theorem bytes_V : Try.prog.bytesOf 32 = 32 := by kernel_rfl
section
variable {H : Type} {enc : TypeId × Value → H} {P : Program} {w : World} {base : Nat} {sp : Nat → Bool} {held : Bool}

/-- A slice opened, where what it reads as is of the form's own reach. -/
theorem slice_w {α : Type} (d : α) {t e : TypeId} {m : Nat} (f : α → List Value) (ok : α → Prop) (hm : P.cellsOf e = m) (hm0 : 0 < m) (hf : ∀ x, (f x).length = m) (ht : P.underlying t = some (.slice e))
    {fuel : Nat} {cs : List Value} {x : DataW H × List MemPlace} (hw : ∀ n ∈ x.1.weights P t, n ≤ reachBytes) (hopen : ∀ fuel cs y, (∀ n ∈ y.1.weights P e, n ≤ reachBytes) → DataW.trod enc P w base sp held fuel e cs = some y → ∃ a, cs = f a ∧ ok a) (h : DataW.trod enc P w base sp held fuel t cs = some x) :
    ∃ (v : Value) (xs : List α), cs = [v] ∧ Lies w v xs.length (xs.flatMap f) ∧ (∀ x ∈ xs, ok x) ∧ xs.length * P.bytesOf e ≤ reachBytes := by
  haveI : Inhabited α := ⟨d⟩
  rcases Deep.open_slice ht h with ⟨rfl, _⟩ | ⟨a, len, cap, mm, n, D, Pl, rfl, hb, hl, hcap, hmm, hxe, hx⟩
  · exact ⟨_, [], rfl, ⟨none, 0, rfl, Nat.le_refl _, Nat.zero_le _, fun _ => ⟨rfl, rfl⟩, .inl rfl⟩, by simp, by simp⟩
  · have hlm : len ≤ mm := by rw [hmm]; split <;> omega
    rw [hm] at hx
    obtain ⟨F, hF⟩ := Deep.choose_lt (α := α) (n := len) (p := fun i y => w.cells? base (a.add (i * m)) m = some (f y) ∧ ok y) (fun i hi => by
      obtain ⟨cs', h1, h2⟩ := hx i (by omega)
      have hlt : ∀ n ∈ (D i).weights P e, n ≤ reachBytes := fun n hn => hw n (by
        rw [hxe]
        simp only [DataW.weights, ht, List.mem_cons, List.mem_append]
        exact .inr (.inl (weights_all (List.mem_map.2 ⟨i, List.mem_range.2 hi, rfl⟩) n hn)))
      obtain ⟨y, rfl, hy⟩ := hopen _ _ (D i, Pl i) hlt h2
      exact ⟨y, h1, hy⟩)
    refine ⟨_, (List.range len).map F, rfl, ?_, ?_, ?_⟩
    · refine ⟨some a, cap, by simp, by simpa using hl, hcap, fun h => (by cases h), ?_⟩
      by_cases h0 : len = 0
      · subst h0; exact .inl (by simp)
      · right
        obtain ⟨b, o, spot⟩ := a
        have hc0 : w.cell? ((⟨b, o, spot⟩ : Addr).add 0) = (f (F 0))[0]? := by
          have h1 := (World.cells?_some (hF 0 (by omega)).1).2.2 0 hm0
          simpa [Addr.add_zero'] using h1
        have hs0 : ((f (F 0))[0]?).isSome = true := by simp [hf, hm0]
        obtain ⟨u0, hu0⟩ := Option.isSome_iff_exists.1 hs0
        rw [hu0] at hc0
        have hspot : spot = none := by simpa [Addr.add] using World.cell?_spot hc0
        subst hspot
        refine ⟨b, o, rfl, fun j u hj => ?_⟩
        have hlen : ((List.range len).map F).length = len := by simp
        have hjl : j < len * m := by
          have h1 := (List.getElem?_eq_some_iff.1 hj).1
          rw [flat_length f m hf, hlen] at h1
          exact h1
        have hi : j / m < len := Nat.div_lt_of_lt_mul (by rw [Nat.mul_comm]; exact hjl)
        have hr : j % m < m := Nat.mod_lt _ hm0
        have hdm : j / m * m + j % m = j := by rw [Nat.mul_comm]; exact Nat.div_add_mod j m
        have h2 := (World.cells?_some (hF (j / m) hi).1).2.2 (j % m) hr
        rw [Deep.add_add, hdm, Addr.add_lit] at h2
        rw [h2]
        have h3 := flat_at f m hf ((List.range len).map F) (j / m) (j % m) (by simpa using hi) hr
        rw [hdm, hj] at h3
        simpa using h3.symm
    · intro x hx'
      obtain ⟨i, hi, rfl⟩ := List.mem_map.1 hx'
      exact (hF i (by simpa using hi)).2
    · have h1 := hw _ (by rw [hxe]; simp only [DataW.weights, ht]; exact List.mem_cons_self)
      simp only [List.length_map, List.length_range] at h1 ⊢
      exact Nat.le_trans (Nat.mul_le_mul_right _ (by omega)) h1
/-- An entry that was handed in. -/
def GoodE (w : World) (e : En) : Prop := okS (e.t, e.k) ∧ RowIn w e.r e.xs ∧ e.xs.length * 32 ≤ 140737488355328
theorem cells_of_E {fuel : Nat} {cs : List Value} {x : DataW H × List MemPlace} (hw : ∀ n ∈ x.1.weights Try.prog 36, n ≤ reachBytes) (h : DataW.trod enc Try.prog w base sp held fuel 36 cs = some x) : ∃ e : En, cs = e.cells ∧ GoodE w e := by
  obtain ⟨xs, n, _, hxe, hl, hlen, hf⟩ := DataW.trod_struct Try.underlying36 h
  rw [cells_E] at hl
  match cs, hl, xs, hlen with
  | [c0, c1, c2, c3, c4], _, [y0, y1, y2], _ =>
    have g0 := hf 0 _ rfl
    have g1 := hf 1 _ rfl
    have g2 := hf 2 _ rfl
    simp [cells_int, cells_V, cells_Row] at g0 g1 g2
    obtain ⟨n0, e0, _, wn⟩ := DataW.trod_int Try.underlying3 g0
    obtain ⟨v, e1, hv⟩ := cells_of_V g1
    have hw2 : ∀ n ∈ y2.1.weights Try.prog 34, n ≤ reachBytes := fun n hn => hw n (by
      rw [hxe]
      simp only [DataW.weights, Try.underlying36]
      exact DataW.weights_mem_each (j := 2) (t := 34) (d := y2.1) rfl rfl n hn)
    obtain ⟨rv, l, e2, hlies, _, hlb⟩ := slice_w Val.zero Val.cells (fun _ => True) cells_V (by decide) (fun _ => rfl) Try.underlying34 hw2 (fun fuel cs y _ h => by obtain ⟨a, ha, _⟩ := cells_of_V h; exact ⟨a, ha, trivial⟩) g2
    rw [bytes_V] at hlb
    simp [Val.cells] at e0 e1 e2
    obtain ⟨e1, e3, e4⟩ := e1
    subst e0 e1 e2 e3 e4
    exact ⟨⟨n0, v, l, c4⟩, rfl, ⟨fits_of_wf wn, hv⟩, hlies, by show l.length * 32 ≤ 140737488355328; have := reachBytes_lt; omega⟩
theorem open_ent {b0 : Nat} {v : Value} {d : DataW H} {p : List MemPlace} (hv : Value.okWide Try.prog w .any b0 36 v) (h : DataW.Trod enc Try.prog w base sp held 36 v d p) (hw : ∀ n ∈ d.weights Try.prog 36, n ≤ reachBytes) : ∃ e : En, v = e.val ∧ GoodE w e := by
  obtain ⟨cs, rfl, hsz⟩ := okWide_struct Try.underlying36 hv
  obtain ⟨fuel, hf⟩ := h
  obtain ⟨x, e, hx⟩ := cells_of_E hw hf
  refine ⟨x, ?_, hx⟩
  have : cs = x.cells.toArray := by rw [← e]; simp [Value.cells]
  rw [this]; rfl
theorem open_ents {v : Value} {d : DataW H} {p : List MemPlace} (h : DataW.Trod enc Try.prog w base sp held 26 v d p) (h1 : v.cells.toList = [v]) (hw : ∀ n ∈ d.weights Try.prog 26, n ≤ reachBytes) : ∃ l : List En, Lies w v l.length (ecells l) ∧ ∀ e ∈ l, GoodE w e := by
  obtain ⟨fuel, hf⟩ := h
  rw [h1] at hf
  obtain ⟨v', xs, e, hl, ho, _⟩ := slice_w (⟨0, Val.zero, [], .slice none 0 0⟩ : En) En.cells (GoodE w) cells_E (by decide) (fun _ => rfl) Try.underlying26 hw (fun _ _ _ hy h => cells_of_E hy h) hf
  simp at e
  subst e
  exact ⟨xs, hl, ho⟩
end
end Go.Proofs.Ytbfoplaccalegaa.Val
