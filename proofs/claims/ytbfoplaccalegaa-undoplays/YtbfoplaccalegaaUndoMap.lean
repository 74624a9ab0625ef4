/- The map of the spots that were met: what a look at it tells, what a new key makes of it. -/
import Derived.Test.YtbfoplaccalegaaUndoPlain
import Derived.Test.YtbfoplaccalegaaEqV
import Derived.Deep.RegionLaw
namespace Go.Proofs.Ytbfoplaccalegaa.Val
open Go Go.RowKit

theorem keyed : Maps.Keyed Try.prog TSp := Maps.Keyed.of_law (deep_law (m := 3) (by decide) (by kernel_rfl) (by kernel_rfl) (by kernel_rfl))
theorem ckey : Try.prog.cellsOf 75 = 4 := by kernel_rfl
theorem ckeyV : Try.prog.cellsOf 32 = 3 := by kernel_rfl
theorem ckeyI : Try.prog.cellsOf 3 = 1 := by kernel_rfl
theorem ckeyL : Try.prog.cellsOf 2 = 1 := by kernel_rfl
theorem ckeyB : Try.prog.cellsOf 4 = 1 := by kernel_rfl
theorem ckeyS : Try.prog.cellsOf 9 = 1 := by kernel_rfl
theorem tkey : Try.prog.keyType 75 = true := by kernel_rfl
theorem nkey : ∃ m, Try.prog.types.size + 1 = m + 3 := ⟨Try.prog.types.size - 2, by kernel_rfl⟩
theorem wf_of_fits {n : Int} (h : fits n = true) : (Lit.int .i64 n).wf = true := by
  rw [fits_iff] at h
  have e1 : IntKind.i64.min = -9223372036854775808 := rfl
  have e2 : IntKind.i64.max = 9223372036854775807 := rfl
  simp [Lit.wf, e1, e2]
  exact h
theorem lit_int (m : Nat) (n : Int) (h : (Lit.int .i64 n).wf = true) : Try.prog.keyLits (m + 1) 3 [.int .i64 n] = some [.int .i64 n] := by
  simp only [Program.keyLits, Try.underlying3, h, and_self, if_true]
theorem lit_i64 (m : Nat) (n : Int) (h : (Lit.int .i64 n).wf = true) : Try.prog.keyLits (m + 1) 2 [.int .i64 n] = some [.int .i64 n] := by
  simp only [Program.keyLits, Try.underlying2, h, and_self, if_true]
theorem lit_bool (m : Nat) (b : Bool) : Try.prog.keyLits (m + 1) 4 [.bool b] = some [.bool b] := by
  simp only [Program.keyLits, Try.underlying4]
theorem lit_str (m : Nat) (b : ByteArray) (h : b.size ≤ maxLen) : Try.prog.keyLits (m + 1) 9 [.string b] = some [.string b.data.toList] := by
  simp only [Program.keyLits, Try.underlying9, h, if_true]
theorem lit_V (m : Nat) (x : Val) (h : (Lit.int .i64 x.n).wf = true) (hs : x.s.size ≤ maxLen) : Try.prog.keyLits (m + 2) 32 [.bool x.t, .int .i64 x.n, .string x.s] = some [.bool x.t, .int .i64 x.n, .string x.s.data.toList] := by
  unfold Program.keyLits
  rw [Try.underlying32]
  simp only [List.length_cons, List.length_nil, ckeyV, ckeyL, ckeyB, ckeyS, List.mapM_cons, List.mapM_nil, List.drop_zero, List.drop_succ_cons, List.take_succ_cons, List.take_zero, lit_bool, lit_i64 m x.n h, lit_str m x.s hs, Option.pure_def, Option.bind_eq_bind, Option.bind_some, Option.map_some, List.flatten_cons, List.flatten_nil, List.append_nil, List.cons_append, List.nil_append]
  exact if_pos ⟨trivial, by kernel_rfl⟩
theorem lit_spot (m : Nat) (s : Spot) (h1 : (Lit.int .i64 s.1).wf = true) (h : (Lit.int .i64 s.2.n).wf = true) (hs : s.2.s.size ≤ maxLen) : Try.prog.keyLits (m + 3) 75 [.int .i64 s.1, .bool s.2.t, .int .i64 s.2.n, .string s.2.s] = some [.int .i64 s.1, .bool s.2.t, .int .i64 s.2.n, .string s.2.s.data.toList] := by
  unfold Program.keyLits
  rw [Try.underlying75]
  simp only [List.length_cons, List.length_nil, ckey, ckeyV, ckeyI, List.mapM_cons, List.mapM_nil, List.drop_zero, List.drop_succ_cons, List.take_succ_cons, List.take_zero, lit_int (m + 1) s.1 h1, lit_V m s.2 h hs, Option.pure_def, Option.bind_eq_bind, Option.bind_some, Option.map_some, List.flatten_cons, List.flatten_nil, List.append_nil, List.cons_append, List.nil_append]
  exact if_pos ⟨trivial, by kernel_rfl⟩
theorem form_spot (s : Spot) : (spotV s).formed Try.prog 75 = true := by
  simp [Value.formed, Try.underlying75, ckey]
theorem key_spot (s : Spot) (h : okS s) : ∃ l, keyOf Try.prog TSp (spotV s) = some l := by
  obtain ⟨h1, h2, h3⟩ := h
  obtain ⟨m, hm⟩ := nkey
  have hl := lit_spot m s (wf_of_fits h1) (wf_of_fits h2) h3
  rw [← hm] at hl
  unfold keyOf
  rw [Try.underlying75]
  have hc : (spotV s).cells.toList = [.int .i64 s.1, .bool s.2.t, .int .i64 s.2.n, .string s.2.s] := rfl
  simp only [tkey, form_spot, Bool.and_self, if_true, hc, hl]
  exact ⟨_, rfl⟩
/-- Was it met? -/
def inMet (l : List Spot) (s : Spot) : Bool := l.any fun x => x.1 == s.1 && eqV x.2 s.2
theorem inMet_iff {l : List Spot} {s : Spot} : inMet l s = true ↔ s ∈ l := by
  simp only [inMet, List.any_eq_true, Bool.and_eq_true, beq_iff_eq, eqV_iff]
  exact ⟨fun ⟨x, h, e1, e2⟩ => by have : x = s := Prod.ext e1 e2; rwa [← this], fun h => ⟨s, h, rfl, rfl⟩⟩
theorem spotV_inj {s u : Spot} (h : spotV s = spotV u) : s = u := by
  obtain ⟨a, ⟨b, c, d⟩⟩ := s
  obtain ⟨a', ⟨b', c', d'⟩⟩ := u
  simp at h
  obtain ⟨rfl, rfl, rfl, rfl⟩ := h
  rfl
section
variable {w : World} {h : Hl} {L : Lg}
theorem LG.find (g : LG w h L) (s : Spot) (hs : okS s) {es : Array MapEntry} (hm : es.toList.map (·.key) = L.met.map spotV) (hv : ∀ e ∈ es.toList, e.val = .agg #[]) :
    ((Instr.findKey TSp (spotV s) es.toList).run Try.prog w = .ok none w ∧ inMet L.met s = false) ∨ ∃ j, (Instr.findKey TSp (spotV s) es.toList).run Try.prog w = .ok (some (j, .agg #[])) w ∧ inMet L.met s = true := by
  obtain ⟨l, hl⟩ := key_spot s hs
  have hk : ∀ e ∈ es.toList, ∃ u ∈ L.met, e.key = spotV u := fun e he => by
    have : e.key ∈ L.met.map spotV := by rw [← hm]; exact List.mem_map.2 ⟨e, he, rfl⟩
    obtain ⟨u, hu, e1⟩ := List.mem_map.1 this
    exact ⟨u, hu, e1.symm⟩
  rcases keyed.find w hl es.toList (fun e he => by obtain ⟨u, hu, e1⟩ := hk e he; rw [e1]; exact key_spot u (g.okm u hu)) with ⟨h1, h2⟩ | ⟨j, e0, h1, h2, h3⟩
  · refine .inl ⟨h1, ?_⟩
    cases hc : inMet L.met s
    · rfl
    · have hin := inMet_iff.1 hc
      have : spotV s ∈ es.toList.map (·.key) := by rw [hm]; exact List.mem_map.2 ⟨s, hin, rfl⟩
      obtain ⟨e, he, e1⟩ := List.mem_map.1 this
      exact absurd e1 (h2 e he)
  · have hm0 : e0 ∈ es.toList := List.mem_of_getElem? h2
    rw [hv e0 hm0] at h1
    refine .inr ⟨j, h1, inMet_iff.2 ?_⟩
    obtain ⟨u, hu, e1⟩ := hk e0 hm0
    rw [h3] at e1
    rw [spotV_inj e1]; exact hu
/-- A look at the map. -/
theorem LG.look (g : LG w h L) (s : Spot) (hs : okS s) : (Instr.lookup TMp (.map (some h.mb)) (spotV s) true).run Try.prog w = .ok (.tuple #[.agg #[], .bool (inMet L.met s)]) w := by
  obtain ⟨l, hl⟩ := key_spot s hs
  obtain ⟨es, cl, hb, hm, hv⟩ := g.map
  rcases g.find s hs hm hv with ⟨h1, h2⟩ | ⟨j, h1, h2⟩
  · rw [h2]
    simp [Instr.lookup, run_underlying Try.underlying55, MapKept.run_getObj_map hb, keyed.check w _ hl, h1, Try.zeroValue76, Result.andThen]
  · rw [h2]
    simp [Instr.lookup, run_underlying Try.underlying55, MapKept.run_getObj_map hb, keyed.check w _ hl, h1, Result.andThen]
/-- A new key. -/
theorem LG.put (g : LG w h L) (s : Spot) (hs : okS s) (hn : inMet L.met s = false) : ∃ es' cl', (Instr.mapUpdate TMp (.map (some h.mb)) (spotV s) (.agg #[])).run Try.prog w = .ok () (ChangeMaps.setBlock w h.mb (.map es' cl')) ∧
    es'.toList.map (·.key) = (L.met ++ [s]).map spotV ∧ ∀ e ∈ es'.toList, e.val = .agg #[] := by
  obtain ⟨l, hl⟩ := key_spot s hs
  obtain ⟨es, cl, hb, hm, hv⟩ := g.map
  rcases g.find s hs hm hv with ⟨h1, h2⟩ | ⟨j, h1, h2⟩
  · refine ⟨es.push ⟨spotV s, .agg #[], cl⟩, cl + 1, ?_, ?_, ?_⟩
    · simp [Instr.mapUpdate, run_underlying Try.underlying55, MapKept.run_getObj_map hb, keyed.check w false hl, h1, MapKept.run_setObj_map _ hb, Result.andThen, ChangeMaps.setBlock]
    · simp [hm]
    · intro e he
      simp only [Array.toList_push, List.mem_append, List.mem_singleton] at he
      rcases he with he | rfl
      · exact hv e he
      · rfl
  · rw [hn] at h2; cases h2
end
section
variable {P : Program} {ops : Array Oper} {o : Oper} {a : Act} {w : World} {K : Act → World → Prop} {Q : Exit → Act → World → Prop} {E : Prop}
theorem step_lookup_known (hgd : o.guard = none) (m x : Operand) (t : TypeId) (ho : o.op = .lookup t m x true) (vm vx : Value) (hm : a.eval m = vm) (hx : a.eval x = vx)
    (v' : Value) (w' : World) (hr : (Instr.lookup t vm vx true).run P w = .ok v' w') (h : K (a.put o.dst v') w') : if Region.wanted o (yielded ops a.tmps) = true then Oper.wp P o a w K Q else E := by
  rw [if_pos (by simp [Region.wanted, hgd])]
  unfold Oper.wp
  simp [execOp, ho, hm, hx, hr, Result.andThen]
  exact h
theorem step_mapUpdate_known (hgd : o.guard = none) (m x y : Operand) (t : TypeId) (ho : o.op = .mapUpdate t m x y) (vm vx vy : Value) (hm : a.eval m = vm) (hx : a.eval x = vx) (hy : a.eval y = vy)
    (w' : World) (hr : (Instr.mapUpdate t vm vx vy).run P w = .ok () w') (h : K (a.put o.dst undef) w') : if Region.wanted o (yielded ops a.tmps) = true then Oper.wp P o a w K Q else E := by
  rw [if_pos (by simp [Region.wanted, hgd])]
  unfold Oper.wp
  simp [execOp, ho, hm, hx, hy, hr, Result.andThen]
  exact h
end
end Go.Proofs.Ytbfoplaccalegaa.Val
