/- A law's arguments opened: values, rows, tables, out of what the reader reads. -/
import Derived.Test.YtkkbbpldeeajaaaDoorRows
import Derived.Test.YtkkbbpldeeajaaaDoorU1
import Derived.Deep.Slices
import Derived.Deep.Strs
import Derived.WalkKit
import Derived.ProofKit
import Derived.OpenShut
import Derived.ShutString
import Derived.ChangeOld
import Derived.Lib.SmallJoins
namespace Go.Proofs.YtkkbbpldeeajaaaDoor.Val
open Go.ChangeShapes Go.WideShapes Go.ChangeAt Go.RowKit Go.Joins

theorem own : ownKnob Tryd.prog.godebug = none := by kernel_rfl
theorem laidOut : laidOutB Tryd.prog = true := by kernel_rfl
theorem fits_of_wf {n : Int} (h : (Lit.int .i64 n).wf = true) : fits n = true := by
  rw [fits_iff]
  have e1 : IntKind.i64.min = -9223372036854775808 := rfl
  have e2 : IntKind.i64.max = 9223372036854775807 := rfl
  simp [Lit.wf, e1, e2] at h
  exact h
theorem cells_bool : Tryd.prog.cellsOf 4 = 1 := by kernel_rfl
theorem cells_i64 : Tryd.prog.cellsOf 2 = 1 := by kernel_rfl
theorem cells_int : Tryd.prog.cellsOf 3 = 1 := by kernel_rfl
theorem cells_string : Tryd.prog.cellsOf 9 = 1 := by kernel_rfl
theorem cells_V : Tryd.prog.cellsOf 25 = 3 := by kernel_rfl
theorem cells_bools : Tryd.prog.cellsOf 48 = 1 := by kernel_rfl
section
variable {H : Type} {enc : TypeId × Value → H} {P : Program} {w : World} {base : Nat} {sp : Nat → Bool} {held : Bool}

/-- A slice of plain elements, opened. -/
theorem slice_plain {α : Type} (d : α) {t e : TypeId} {m : Nat} (f : α → List Value) (ok : α → Prop) (hm : P.cellsOf e = m) (hm0 : 0 < m) (hf : ∀ x, (f x).length = m) (ht : P.underlying t = some (.slice e))
    (hopen : ∀ fuel cs x, DataW.trod enc P w base sp held fuel e cs = some x → ∃ a, cs = f a ∧ ok a) {fuel : Nat} {cs : List Value} {x : DataW H × List MemPlace} (h : DataW.trod enc P w base sp held fuel t cs = some x) :
    ∃ (v : Value) (xs : List α), cs = [v] ∧ Lies w v xs.length (xs.flatMap f) ∧ ∀ x ∈ xs, ok x := by
  haveI : Inhabited α := ⟨d⟩
  rcases Deep.open_slice ht h with ⟨rfl, _⟩ | ⟨a, len, cap, mm, n, D, Pl, rfl, hb, hl, hcap, hmm, _, hx⟩
  · exact ⟨_, [], rfl, ⟨none, 0, rfl, Nat.le_refl _, Nat.zero_le _, fun _ => ⟨rfl, rfl⟩, .inl rfl⟩, by simp⟩
  · have hlm : len ≤ mm := by rw [hmm]; split <;> omega
    rw [hm] at hx
    obtain ⟨F, hF⟩ := Deep.choose_lt (α := α) (n := len) (p := fun i y => w.cells? base (a.add (i * m)) m = some (f y) ∧ ok y) (fun i hi => by
      obtain ⟨cs', h1, h2⟩ := hx i (by omega)
      obtain ⟨y, rfl, hy⟩ := hopen _ _ _ h2
      exact ⟨y, h1, hy⟩)
    refine ⟨_, (List.range len).map F, rfl, ?_, ?_⟩
    · refine ⟨some a, cap, by simp, by simpa using hl, hcap, fun h => (by cases h), ?_⟩
      by_cases h0 : len = 0
      · subst h0; exact .inl (by simp)
      · right
        obtain ⟨b, o, spot⟩ := a
        have hc0 : w.cell? ((⟨b, o, spot⟩ : Addr).add 0) = (f (F 0))[0]? := by
          have h1 := (World.cells?_some (hF 0 (by omega)).1).2.2 0 hm0
          simpa [Addr.add_zero'] using h1
        have hs0 : ((f (F 0))[0]?).isSome = true := by simp [hf, hm0]
        obtain ⟨u0, hu0⟩ := Option.isSome_iff_exists.1 hs0
        rw [hu0] at hc0
        have hspot : spot = none := by simpa [Addr.add] using World.cell?_spot hc0
        subst hspot
        refine ⟨b, o, rfl, fun j u hj => ?_⟩
        have hlen : ((List.range len).map F).length = len := by simp
        have hjl : j < len * m := by
          have h1 := (List.getElem?_eq_some_iff.1 hj).1
          rw [flat_length f m hf, hlen] at h1
          exact h1
        have hi : j / m < len := Nat.div_lt_of_lt_mul (by rw [Nat.mul_comm]; exact hjl)
        have hr : j % m < m := Nat.mod_lt _ hm0
        have hdm : j / m * m + j % m = j := by rw [Nat.mul_comm]; exact Nat.div_add_mod j m
        have h2 := (World.cells?_some (hF (j / m) hi).1).2.2 (j % m) hr
        rw [Deep.add_add, hdm, Addr.add_lit] at h2
        rw [h2]
        have h3 := flat_at f m hf ((List.range len).map F) (j / m) (j % m) (by simpa using hi) hr
        rw [hdm, hj] at h3
        simpa using h3.symm
    · intro x hx'
      obtain ⟨i, hi, rfl⟩ := List.mem_map.1 hx'
      exact (hF i (by simpa using hi)).2
theorem cells_of_bool {fuel : Nat} {cs : List Value} {x : DataW H × List MemPlace} (h : DataW.trod enc Tryd.prog w base sp held fuel 4 cs = some x) : ∃ b : Bool, cs = [.bool b] ∧ True := by
  obtain ⟨b, rfl, _⟩ := DataW.trod_bool Tryd.underlying4 h
  exact ⟨b, rfl, trivial⟩
theorem cells_of_V {fuel : Nat} {cs : List Value} {x : DataW H × List MemPlace} (h : DataW.trod enc Tryd.prog w base sp held fuel 25 cs = some x) : ∃ v : Val, cs = v.cells ∧ (fits v.n = true ∧ v.s.size ≤ maxLen) := by
  obtain ⟨y0, y1, y2, n, _, hl, h0, h1, h2⟩ := Deep.trod_struct3 Tryd.underlying25 h
  rw [cells_V] at hl
  match cs, hl with
  | [c0, c1, c2], _ =>
    simp [cells_bool, cells_i64, cells_string] at h0 h1 h2
    obtain ⟨t, e0, _⟩ := DataW.trod_bool Tryd.underlying4 h0
    obtain ⟨n, e1, _, wn⟩ := DataW.trod_int Tryd.underlying2 h1
    obtain ⟨s, e2, _, ws⟩ := DataW.trod_string Tryd.underlying9 h2
    simp at e0 e1 e2
    subst e0 e1 e2
    exact ⟨⟨t, n, s⟩, rfl, fits_of_wf wn, ws⟩
theorem open_row {v : Value} {d : DataW H} {p : List MemPlace} (h : DataW.Trod enc Tryd.prog w base sp held 43 v d p) (h1 : v.cells.toList = [v]) : ∃ xs, RowIn w v xs ∧ RowOk xs := by
  obtain ⟨fuel, hf⟩ := h
  rw [h1] at hf
  obtain ⟨v', xs, e, hl, ho⟩ := slice_plain Val.zero Val.cells (fun v => fits v.n = true ∧ v.s.size ≤ maxLen) cells_V (by decide) (fun _ => rfl) Tryd.underlying43 (fun _ _ _ h => cells_of_V h) hf
  simp at e
  subst e
  exact ⟨xs, hl, ho⟩
theorem flat_bools (xs : List Bool) : xs.flatMap (fun b => [Value.bool b]) = xs.map .bool := by
  induction xs with
  | nil => rfl
  | cons x l ih => simp [ih]
theorem open_table {b0 : Nat} {v : Value} {d : DataW H} {p : List MemPlace} (hv : Value.okWide Tryd.prog w .any b0 50 v) (h : DataW.Trod enc Tryd.prog w base sp held 50 v d p) : ∃ vc cols, v = .agg #[vc] ∧ BoolsIn w vc cols := by
  obtain ⟨cs, rfl, hsz⟩ := okWide_struct Tryd.underlying50 hv
  obtain ⟨fuel, hf⟩ := h
  obtain ⟨y0, n, _, hl, h0⟩ := trod_struct1 Tryd.underlying50 hf
  have hs1 : cs.size = 1 := hsz.trans (by kernel_rfl)
  obtain ⟨c0, rfl⟩ : ∃ c0, cs = #[c0] := Array.size_eq_one_iff.1 hs1
  simp [Value.cells, cells_bools] at h0
  obtain ⟨v', xs, e, hl', _⟩ := slice_plain false (fun b => [Value.bool b]) (fun _ => True) cells_bool (by decide) (fun _ => rfl) Tryd.underlying48 (fun _ _ _ h => cells_of_bool h) h0
  simp at e
  subst e
  rw [flat_bools] at hl'
  exact ⟨_, xs, rfl, hl'⟩
theorem open_value {b0 : Nat} {v : Value} {d : DataW H} {p : List MemPlace} (hv : Value.okWide Tryd.prog w .any b0 25 v) (h : DataW.Trod enc Tryd.prog w base sp held 25 v d p) : ∃ x : Val, v = V x.t x.n x.s ∧ fits x.n = true ∧ x.s.size ≤ maxLen := by
  obtain ⟨cs, rfl, hsz⟩ := okWide_struct Tryd.underlying25 hv
  obtain ⟨fuel, hf⟩ := h
  obtain ⟨x, e, hx⟩ := cells_of_V hf
  refine ⟨x, ?_, hx⟩
  have : cs = x.cells.toArray := by rw [← e]; simp [Value.cells]
  rw [this]; rfl
end
end Go.Proofs.YtkkbbpldeeajaaaDoor.Val
/- A law's argument opened: a predicate, out of what the reader reads. -/
namespace Go.Proofs.YtkkbbpldeeajaaaDoor.Val
open Go.ChangeShapes Go.WideShapes Go.ChangeAt Go.RowKit Go.Joins

theorem cells_P : Tryd.prog.cellsOf 29 = 9 := by kernel_rfl
theorem cells_Ps : Tryd.prog.cellsOf 27 = 1 := by kernel_rfl
section
variable {H : Type} {enc : TypeId × Value → H} {P : Program} {w : World} {base : Nat} {sp : Nat → Bool} {held : Bool}

/-- A slice opened, where an element is told by what it reads as. -/
theorem slice_in {α : Type} (d : α) {t e : TypeId} {m : Nat} (f : α → List Value) (ok : α → Prop) (hm : P.cellsOf e = m) (hm0 : 0 < m) (hf : ∀ x, (f x).length = m) (ht : P.underlying t = some (.slice e))
    {fuel : Nat} {cs : List Value} {x : DataW H × List MemPlace} (hopen : ∀ fuel cs y, SizeOf.sizeOf y.1 < SizeOf.sizeOf x.1 → DataW.trod enc P w base sp held fuel e cs = some y → ∃ a, cs = f a ∧ ok a) (h : DataW.trod enc P w base sp held fuel t cs = some x) :
    ∃ (v : Value) (xs : List α), cs = [v] ∧ Lies w v xs.length (xs.flatMap f) ∧ ∀ x ∈ xs, ok x := by
  haveI : Inhabited α := ⟨d⟩
  rcases Deep.open_slice ht h with ⟨rfl, _⟩ | ⟨a, len, cap, mm, n, D, Pl, rfl, hb, hl, hcap, hmm, hxe, hx⟩
  · exact ⟨_, [], rfl, ⟨none, 0, rfl, Nat.le_refl _, Nat.zero_le _, fun _ => ⟨rfl, rfl⟩, .inl rfl⟩, by simp⟩
  · have hlm : len ≤ mm := by rw [hmm]; split <;> omega
    rw [hm] at hx
    obtain ⟨F, hF⟩ := Deep.choose_lt (α := α) (n := len) (p := fun i y => w.cells? base (a.add (i * m)) m = some (f y) ∧ ok y) (fun i hi => by
      obtain ⟨cs', h1, h2⟩ := hx i (by omega)
      have hlt : SizeOf.sizeOf (D i) < SizeOf.sizeOf x.1 := by
        have h3 : D i ∈ (List.range len).map D := List.mem_map.2 ⟨i, List.mem_range.2 hi, rfl⟩
        have h4 := List.sizeOf_lt_of_mem h3
        rw [hxe]
        simp only [DataW.slice.sizeOf_spec]
        omega
      obtain ⟨y, rfl, hy⟩ := hopen _ _ (D i, Pl i) hlt h2
      exact ⟨y, h1, hy⟩)
    refine ⟨_, (List.range len).map F, rfl, ?_, ?_⟩
    · refine ⟨some a, cap, by simp, by simpa using hl, hcap, fun h => (by cases h), ?_⟩
      by_cases h0 : len = 0
      · subst h0; exact .inl (by simp)
      · right
        obtain ⟨b, o, spot⟩ := a
        have hc0 : w.cell? ((⟨b, o, spot⟩ : Addr).add 0) = (f (F 0))[0]? := by
          have h1 := (World.cells?_some (hF 0 (by omega)).1).2.2 0 hm0
          simpa [Addr.add_zero'] using h1
        have hs0 : ((f (F 0))[0]?).isSome = true := by simp [hf, hm0]
        obtain ⟨u0, hu0⟩ := Option.isSome_iff_exists.1 hs0
        rw [hu0] at hc0
        have hspot : spot = none := by simpa [Addr.add] using World.cell?_spot hc0
        subst hspot
        refine ⟨b, o, rfl, fun j u hj => ?_⟩
        have hlen : ((List.range len).map F).length = len := by simp
        have hjl : j < len * m := by
          have h1 := (List.getElem?_eq_some_iff.1 hj).1
          rw [flat_length f m hf, hlen] at h1
          exact h1
        have hi : j / m < len := Nat.div_lt_of_lt_mul (by rw [Nat.mul_comm]; exact hjl)
        have hr : j % m < m := Nat.mod_lt _ hm0
        have hdm : j / m * m + j % m = j := by rw [Nat.mul_comm]; exact Nat.div_add_mod j m
        have h2 := (World.cells?_some (hF (j / m) hi).1).2.2 (j % m) hr
        rw [Deep.add_add, hdm, Addr.add_lit] at h2
        rw [h2]
        have h3 := flat_at f m hf ((List.range len).map F) (j / m) (j % m) (by simpa using hi) hr
        rw [hdm, hj] at h3
        simpa using h3.symm
    · intro x hx'
      obtain ⟨i, hi, rfl⟩ := List.mem_map.1 hx'
      exact (hF i (by simpa using hi)).2
theorem cells_of_P : ∀ (N fuel : Nat) (cs : List Value) (x : DataW H × List MemPlace), SizeOf.sizeOf x.1 < N → DataW.trod enc Tryd.prog w base sp held fuel 29 cs = some x → ∃ p : PT, cs = p.cells ∧ In w p := by
  intro N
  induction N with
  | zero => intro fuel cs x hx; omega
  | succ N ih =>
    intro fuel cs x hN h
    obtain ⟨xs, n, _, hxe, hl, hlen, hf⟩ := DataW.trod_struct Tryd.underlying29 h
    rw [cells_P] at hl
    match cs, hl, xs, hlen with
    | [c0, c1, c2, c3, c4, c5, c6, c7, c8], _, [y0, y1, y2, y3, y4], _ =>
      have g0 := hf 0 _ rfl
      have g1 := hf 1 _ rfl
      have g2 := hf 2 _ rfl
      have g3 := hf 3 _ rfl
      have g4 := hf 4 _ rfl
      simp [cells_int, cells_V, cells_Ps] at g0 g1 g2 g3 g4
      obtain ⟨n0, e0, _, _⟩ := DataW.trod_int Tryd.underlying3 g0
      obtain ⟨n1, e1, _, _⟩ := DataW.trod_int Tryd.underlying3 g1
      obtain ⟨v, e2, hv⟩ := cells_of_V g2
      obtain ⟨u, e3, hu⟩ := cells_of_V g3
      have hlt : SizeOf.sizeOf y4.1 < N := by
        rw [hxe] at hN
        simp only [DataW.agg.sizeOf_spec, List.map_cons, List.map_nil, List.cons.sizeOf_spec] at hN
        omega
      obtain ⟨lv, l, e4, hlies, hok⟩ := slice_in PT.zero PT.cells (fun p => In w p) cells_P (by decide) (fun _ => rfl) Tryd.underlying27 (fun fuel cs y hy h => ih fuel cs y (by omega) h) g4
      simp [Val.cells] at e0 e1 e2 e3 e4
      obtain ⟨e2, e2', e2''⟩ := e2
      obtain ⟨e3, e3', e3''⟩ := e3
      subst e0 e1 e2 e2' e2'' e3 e3' e3'' e4
      exact ⟨⟨n0, n1, v, u, c8, l⟩, rfl, .mk hv.2 hu.2 hlies hok⟩
theorem open_pred {b0 : Nat} {v : Value} {d : DataW H} {p : List MemPlace} (hv : Value.okWide Tryd.prog w .any b0 29 v) (h : DataW.Trod enc Tryd.prog w base sp held 29 v d p) : ∃ x : PT, v = x.val ∧ In w x := by
  obtain ⟨cs, rfl, hsz⟩ := okWide_struct Tryd.underlying29 hv
  obtain ⟨fuel, hf⟩ := h
  obtain ⟨x, e, hx⟩ := cells_of_P _ fuel _ _ (Nat.lt_succ_self _) hf
  refine ⟨x, ?_, hx⟩
  have : cs = x.cells.toArray := by rw [← e]; simp [Value.cells]
  rw [this]; rfl
end
end Go.Proofs.YtkkbbpldeeajaaaDoor.Val
