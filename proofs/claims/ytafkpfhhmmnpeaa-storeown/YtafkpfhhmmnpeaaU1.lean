/- Plain facts on worlds: what two boxed arguments hold behind calls that keep what lies below. No program. -/
import Derived.WalkKit
import Derived.WalkSpells
import Derived.WalkLawsBesides
import Derived.Below
import Derived.OwnWalk
import Derived.Laws.OwnMore
import Derived.Test.YtafkpfhhmmnpeaaRows
import Derived.Deep.RegionWith
import Derived.Outline
import Derived.Laws.Cover1
namespace Go.Proofs.Ytafkpfhhmmnpeaa.Val
open Go.RowKit

theorem bcell {W w1 : World} (hb : Below W.heap.size W w1) : (∀ b o, b < W.heap.size → w1.cell? ⟨b, o, none⟩ = W.cell? ⟨b, o, none⟩) ∧ (∀ b o, b < W.heap.size → w1.frozen? ⟨b, o, none⟩ = W.frozen? ⟨b, o, none⟩) :=
  ⟨fun b o h => hb.cell (p := ⟨b, o, none⟩) h, fun b o h => hb.frozen (p := ⟨b, o, none⟩) h⟩

theorem bchain {w0 w1 w2 : World} {o1 o2 : Obj} (h1 : Below ((w0.alloc o1).alloc o2).drew.heap.size ((w0.alloc o1).alloc o2).drew w1) (h2 : Below w1.heap.size w1 w2) : Below w0.heap.size w0 w2 := by
  have k := h1.size
  simp at k
  exact (((((Below.refl _ _).alloc (Nat.le_refl _) _).alloc (by simp) _).drew).trans (h1.mono (by simp; omega))).trans (h2.mono (by omega))

theorem kept2 {w0 w1 w2 : World} {x0 x1 x2 y0 y1 y2 : Value} {T : TypeId} (h1 : Below ((w0.alloc (.cells #[x0, x1, x2] T)).alloc (.cells #[y0, y1, y2] T)).drew.heap.size ((w0.alloc (.cells #[x0, x1, x2] T)).alloc (.cells #[y0, y1, y2] T)).drew w1) (h2 : Below w1.heap.size w1 w2) :
    (w2.cell? ⟨w0.heap.size, 0, none⟩ = some x0 ∧ w2.cell? ⟨w0.heap.size, 1, none⟩ = some x1 ∧ w2.cell? ⟨w0.heap.size, 2, none⟩ = some x2) ∧
    (w2.cell? ⟨w0.heap.size + 1, 0, none⟩ = some y0 ∧ w2.cell? ⟨w0.heap.size + 1, 1, none⟩ = some y1 ∧ w2.cell? ⟨w0.heap.size + 1, 2, none⟩ = some y2) := by
  have k := h1.size
  simp at k
  refine ⟨⟨?_, ?_, ?_⟩, ?_, ?_, ?_⟩ <;> rw [h2.cell (by simp only; omega), h1.cell (by simp; try omega)] <;> simp

theorem kept2a {w0 w1 : World} {x0 x1 x2 y0 y1 y2 : Value} {T : TypeId} (h1 : Below ((w0.alloc (.cells #[x0, x1, x2] T)).alloc (.cells #[y0, y1, y2] T)).drew.heap.size ((w0.alloc (.cells #[x0, x1, x2] T)).alloc (.cells #[y0, y1, y2] T)).drew w1) :
    (w1.cell? ⟨w0.heap.size, 0, none⟩ = some x0 ∧ w1.cell? ⟨w0.heap.size, 1, none⟩ = some x1 ∧ w1.cell? ⟨w0.heap.size, 2, none⟩ = some x2 ∧
    w1.cell? ⟨w0.heap.size + 1, 0, none⟩ = some y0 ∧ w1.cell? ⟨w0.heap.size + 1, 1, none⟩ = some y1 ∧ w1.cell? ⟨w0.heap.size + 1, 2, none⟩ = some y2) ∧ w0.heap.size + 1 < w1.heap.size ∧ Below w0.heap.size w0 w1 := by
  have k := h1.size
  simp at k
  refine ⟨?_, by omega, ((((Below.refl _ _).alloc (Nat.le_refl _) _).alloc (by simp) _).drew).trans (h1.mono (by simp; omega))⟩
  refine ⟨?_, ?_, ?_, ?_, ?_, ?_⟩ <;> rw [h1.cell (by simp; try omega)] <;> simp
theorem kept2b {B : Nat} {w1 w2 : World} {x0 x1 x2 y0 y1 y2 : Value} (hB : B + 1 < w1.heap.size) (h1 : w1.cell? ⟨B, 0, none⟩ = some x0 ∧ w1.cell? ⟨B, 1, none⟩ = some x1 ∧ w1.cell? ⟨B, 2, none⟩ = some x2 ∧
    w1.cell? ⟨B + 1, 0, none⟩ = some y0 ∧ w1.cell? ⟨B + 1, 1, none⟩ = some y1 ∧ w1.cell? ⟨B + 1, 2, none⟩ = some y2) (h2 : Below w1.heap.size w1 w2) :
    w2.cell? ⟨B, 0, none⟩ = some x0 ∧ w2.cell? ⟨B, 1, none⟩ = some x1 ∧ w2.cell? ⟨B, 2, none⟩ = some x2 ∧
    w2.cell? ⟨B + 1, 0, none⟩ = some y0 ∧ w2.cell? ⟨B + 1, 1, none⟩ = some y1 ∧ w2.cell? ⟨B + 1, 2, none⟩ = some y2 := by
  obtain ⟨a0, a1, a2, b0, b1, b2⟩ := h1
  refine ⟨?_, ?_, ?_, ?_, ?_, ?_⟩ <;> rw [h2.cell (by simp only; omega)] <;> assumption
/-- A block of three cells that the call has laid, behind what keeps it. -/
theorem kept1 {w wr : World} {x0 x1 x2 : Value} {T : TypeId} (h : Below (w.heap.size + 1) (w.alloc (.cells #[x0, x1, x2] T)) wr) :
    (wr.cell? ⟨w.heap.size, 0, none⟩ = some x0 ∧ wr.cell? ⟨w.heap.size, 1, none⟩ = some x1 ∧ wr.cell? ⟨w.heap.size, 2, none⟩ = some x2) ∧
    (wr.frozen? ⟨w.heap.size, 0, none⟩ = false ∧ wr.frozen? ⟨w.heap.size, 1, none⟩ = false ∧ wr.frozen? ⟨w.heap.size, 2, none⟩ = false) ∧ w.heap.size < wr.heap.size := by
  have k := h.size
  simp at k
  refine ⟨⟨?_, ?_, ?_⟩, ⟨?_, ?_, ?_⟩, by omega⟩
  · rw [h.cell (by simp)]; simp
  · rw [h.cell (by simp)]; simp
  · rw [h.cell (by simp)]; simp
  · rw [h.frozen (by simp)]; simp
  · rw [h.frozen (by simp)]; simp
  · rw [h.frozen (by simp)]; simp
theorem kept1d {w wr : World} {x0 x1 x2 : Value} {T : TypeId} (h : Below (w.alloc (.cells #[x0, x1, x2] T)).drew.heap.size (w.alloc (.cells #[x0, x1, x2] T)).drew wr) :
    (wr.cell? ⟨w.heap.size, 0, none⟩ = some x0 ∧ wr.cell? ⟨w.heap.size, 1, none⟩ = some x1 ∧ wr.cell? ⟨w.heap.size, 2, none⟩ = some x2) ∧ w.heap.size < wr.heap.size ∧ Below w.heap.size w wr := by
  have k := h.size
  simp at k
  refine ⟨⟨?_, ?_, ?_⟩, by omega, ((Below.refl _ _).alloc (Nat.le_refl _) _).drew.trans (h.mono (by simp))⟩
  · rw [h.cell (by simp)]; simp
  · rw [h.cell (by simp)]; simp
  · rw [h.cell (by simp)]; simp
end Go.Proofs.Ytafkpfhhmmnpeaa.Val
/- Plain facts on slices of structs in memory: values, sets and bools, as lists. No program. -/
namespace Go.Proofs.Ytafkpfhhmmnpeaa.Val
open Go Go.RowKit

/-- A value, as plain data. -/
structure Val where
  t : Bool
  n : Int
  s : ByteArray
/-- A set, as plain data. -/
structure SetP where
  col : Int
  op : Int
  src : Int
  other : Int
  v : Val
/-- No value, and no set. -/
def Val.zero : Val := ⟨false, 0, ⟨#[]⟩⟩
def SetP.zero : SetP := ⟨0, 0, 0, 0, Val.zero⟩
def Val.cells (x : Val) : List Value := [.bool x.t, .int .i64 x.n, .string x.s]
def SetP.cells (x : SetP) : List Value := [.int .i64 x.col, .int .i64 x.op, .int .i64 x.src, .int .i64 x.other, .bool x.v.t, .int .i64 x.v.n, .string x.v.s]

/-- A slice's cells lie in memory, one behind the other. -/
def Lies (w : World) (v : Value) (n : Nat) (xs : List Value) : Prop :=
  ∃ ao c, v = .slice ao n c ∧ n ≤ c ∧ c ≤ maxLen ∧ (ao = none → n = 0 ∧ c = 0) ∧ (xs = [] ∨ ∃ b o, ao = some ⟨b, o, none⟩ ∧ ∀ j u, xs[j]? = some u → w.cell? ⟨b, o + j, none⟩ = some u)
def RowIn (w : World) (v : Value) (xs : List Val) : Prop := Lies w v xs.length (xs.flatMap Val.cells)
def SetsIn (w : World) (v : Value) (xs : List SetP) : Prop := Lies w v xs.length (xs.flatMap SetP.cells)
def BoolsIn (w : World) (v : Value) (xs : List Bool) : Prop := Lies w v xs.length (xs.map .bool)

theorem flat_at {α : Type} (f : α → List Value) (m : Nat) (hf : ∀ x, (f x).length = m) (xs : List α) (k r : Nat) (hk : k < xs.length) (hr : r < m) :
    (xs.flatMap f)[k * m + r]? = (f xs[k])[r]? := by
  induction xs generalizing k with
  | nil => simp at hk
  | cons x l ih =>
    cases k with
    | zero => simp [List.getElem?_append_left (show r < (f x).length by rw [hf]; exact hr)]
    | succ k =>
      have e : (k + 1) * m + r = (f x).length + (k * m + r) := by rw [hf, Nat.succ_mul]; omega
      rw [List.flatMap_cons, e, List.getElem?_append_right (by omega), Nat.add_sub_cancel_left]
      simpa using ih k (by simpa using hk)
theorem flat_length {α : Type} (f : α → List Value) (m : Nat) (hf : ∀ x, (f x).length = m) (xs : List α) : (xs.flatMap f).length = xs.length * m := by
  induction xs with
  | nil => simp
  | cons x l ih => rw [List.flatMap_cons, List.length_append, ih, hf, List.length_cons, Nat.succ_mul]; omega

theorem Lies.below {w w' : World} {v : Value} {n : Nat} {xs : List Value} (h : Lies w v n xs) (hb : Below w.heap.size w w') : Lies w' v n xs := by
  obtain ⟨ao, c, rfl, h1, h2, h0, h3⟩ := h
  refine ⟨ao, c, rfl, h1, h2, h0, ?_⟩
  rcases h3 with h3 | ⟨b, o, e, h3⟩
  · exact .inl h3
  · refine .inr ⟨b, o, e, fun j u hj => ?_⟩
    have := h3 j u hj
    rw [hb.cell (World.block_lt_of_cell? w _ this)]; exact this
theorem Lies.alloc {w : World} {v : Value} {n : Nat} {xs : List Value} (h : Lies w v n xs) (o : Obj) : Lies (w.alloc o) v n xs := h.below ((Below.refl _ _).alloc (Nat.le_refl _) _)
theorem Lies.drew {w : World} {v : Value} {n : Nat} {xs : List Value} (h : Lies w v n xs) : Lies w.drew v n xs := h.below (Below.refl _ _).drew
theorem RowIn.below {w w' : World} {v : Value} {xs : List Val} (h : RowIn w v xs) (hb : Below w.heap.size w w') : RowIn w' v xs := Lies.below h hb
theorem SetsIn.below {w w' : World} {v : Value} {xs : List SetP} (h : SetsIn w v xs) (hb : Below w.heap.size w w') : SetsIn w' v xs := Lies.below h hb
theorem BoolsIn.below {w w' : World} {v : Value} {xs : List Bool} (h : BoolsIn w v xs) (hb : Below w.heap.size w w') : BoolsIn w' v xs := Lies.below h hb
/-- The slice's value, and a bound on its length. -/
theorem Lies.slice {w : World} {v : Value} {n : Nat} {xs : List Value} (h : Lies w v n xs) : ∃ ao c, v = .slice ao n c ∧ n ≤ 9223372036854775807 := by
  obtain ⟨ao, c, rfl, h1, h2, h0, h3⟩ := h
  exact ⟨ao, c, rfl, by simp only [maxLen] at h2; omega⟩

theorem RowIn.at {w : World} {ao : Option Addr} {c n : Nat} {xs : List Val} (h : RowIn w (.slice ao n c) xs) (k : Nat) (hk : k < xs.length) :
    ∃ b o, ao = some ⟨b, o, none⟩ ∧ w.cell? ⟨b, o + k * 3, none⟩ = some (.bool xs[k].t) ∧ w.cell? ⟨b, o + k * 3 + 1, none⟩ = some (.int .i64 xs[k].n) ∧ w.cell? ⟨b, o + k * 3 + 2, none⟩ = some (.string xs[k].s) := by
  obtain ⟨ao', c', e, h1, h2, h0, h3⟩ := h
  cases e
  have hf : ∀ x : Val, x.cells.length = 3 := fun x => rfl
  rcases h3 with h3 | ⟨b, o, rfl, h3⟩
  · have := flat_length Val.cells 3 hf xs; rw [h3] at this; simp at this; omega
  · refine ⟨b, o, rfl, ?_, ?_, ?_⟩
    · exact h3 (k * 3) _ (by rw [show k * 3 = k * 3 + 0 by omega, flat_at _ 3 hf xs k 0 hk (by omega)]; rfl)
    · exact h3 (k * 3 + 1) _ (by rw [flat_at _ 3 hf xs k 1 hk (by omega)]; rfl)
    · exact h3 (k * 3 + 2) _ (by rw [flat_at _ 3 hf xs k 2 hk (by omega)]; rfl)
theorem SetsIn.at {w : World} {ao : Option Addr} {c n : Nat} {xs : List SetP} (h : SetsIn w (.slice ao n c) xs) (k : Nat) (hk : k < xs.length) :
    ∃ b o, ao = some ⟨b, o, none⟩ ∧ w.cell? ⟨b, o + k * 7, none⟩ = some (.int .i64 xs[k].col) ∧ w.cell? ⟨b, o + k * 7 + 1, none⟩ = some (.int .i64 xs[k].op) ∧ w.cell? ⟨b, o + k * 7 + 2, none⟩ = some (.int .i64 xs[k].src) ∧ w.cell? ⟨b, o + k * 7 + 3, none⟩ = some (.int .i64 xs[k].other)
     ∧ w.cell? ⟨b, o + k * 7 + 4, none⟩ = some (.bool xs[k].v.t) ∧ w.cell? ⟨b, o + k * 7 + 5, none⟩ = some (.int .i64 xs[k].v.n) ∧ w.cell? ⟨b, o + k * 7 + 6, none⟩ = some (.string xs[k].v.s) := by
  obtain ⟨ao', c', e, h1, h2, h0, h3⟩ := h
  cases e
  have hf : ∀ x : SetP, x.cells.length = 7 := fun x => rfl
  rcases h3 with h3 | ⟨b, o, rfl, h3⟩
  · have := flat_length SetP.cells 7 hf xs; rw [h3] at this; simp at this; omega
  · refine ⟨b, o, rfl, ?_, ?_, ?_, ?_, ?_, ?_, ?_⟩
    · exact h3 (k * 7) _ (by rw [show k * 7 = k * 7 + 0 by omega, flat_at _ 7 hf xs k 0 hk (by omega)]; rfl)
    · exact h3 (k * 7 + 1) _ (by rw [flat_at _ 7 hf xs k 1 hk (by omega)]; rfl)
    · exact h3 (k * 7 + 2) _ (by rw [flat_at _ 7 hf xs k 2 hk (by omega)]; rfl)
    · exact h3 (k * 7 + 3) _ (by rw [flat_at _ 7 hf xs k 3 hk (by omega)]; rfl)
    · exact h3 (k * 7 + 4) _ (by rw [flat_at _ 7 hf xs k 4 hk (by omega)]; rfl)
    · exact h3 (k * 7 + 5) _ (by rw [flat_at _ 7 hf xs k 5 hk (by omega)]; rfl)
    · exact h3 (k * 7 + 6) _ (by rw [flat_at _ 7 hf xs k 6 hk (by omega)]; rfl)
theorem BoolsIn.at {w : World} {ao : Option Addr} {c n : Nat} {xs : List Bool} (h : BoolsIn w (.slice ao n c) xs) (k : Nat) (hk : k < xs.length) :
    ∃ b o, ao = some ⟨b, o, none⟩ ∧ w.cell? ⟨b, o + k, none⟩ = some (.bool xs[k]) := by
  obtain ⟨ao', c', e, h1, h2, h0, h3⟩ := h
  cases e
  rcases h3 with h3 | ⟨b, o, rfl, h3⟩
  · have : xs = [] := by simpa using h3
    subst this; simp at hk
  · exact ⟨b, o, rfl, h3 k _ (by simp [hk])⟩
end Go.Proofs.Ytafkpfhhmmnpeaa.Val
/- What bare, below, Right and Compare of package value answer, over this seat's translation. No conditions. -/
namespace Go.Proofs.Ytafkpfhhmmnpeaa.Val
open Go.RowKit

/-- A value as the machine has it. -/
abbrev V (t : Bool) (n : Int) (s : ByteArray) : Value := .agg #[.bool t, .int .i64 n, .string s]

theorem bare_text (n : Int) (s : ByteArray) (w : World) :
    Calls Try.prog 68 #[V true n s] w fun e w' => e = .returned (V true 0 s) ∧ Below w.heap.size w w' := by
  go_enter Try.func68, Try.ntmps68
  go_wp2
  exact bodyPost_ret (v := V true 0 s) (by simp [results, Try.results68, go_sem]) rfl ⟨rfl, ((Below.refl _ _).alloc (Nat.le_refl _) _).alloc (by simp) _⟩

theorem bare_number (n : Int) (s : ByteArray) (w : World) :
    Calls Try.prog 68 #[V false n s] w fun e w' => e = .returned (V false n ⟨#[]⟩) ∧ Below w.heap.size w w' := by
  go_enter Try.func68, Try.ntmps68
  go_wp2
  exact bodyPost_ret (v := V false n ⟨#[]⟩) (by simp [results, Try.results68, go_sem]) rfl ⟨rfl, ((Below.refl _ _).alloc (Nat.le_refl _) _).alloc (by simp) _⟩

end Go.Proofs.Ytafkpfhhmmnpeaa.Val
/- Two values held against one another, as structs. -/
namespace Go.Proofs.Ytafkpfhhmmnpeaa.Val
open Go.RowKit

/-- Are two values the same in all fields? -/
def eqV (x y : Val) : Bool := x.t == y.t && x.n == y.n && x.s.toList == y.s.toList
theorem eqV_iff {x y : Val} : eqV x y = true ↔ x = y := by
  cases x with | mk t n s => cases y with | mk t' n' s' =>
  unfold eqV
  simp only [Bool.and_eq_true, beq_iff_eq, Val.mk.injEq, and_assoc]
  refine and_congr Iff.rfl (and_congr Iff.rfl ⟨fun h => ?_, fun h => by rw [h]⟩)
  rw [ByteArray.toList_eq, ByteArray.toList_eq] at h
  cases s; cases s'; simp_all [Array.toList_inj]
theorem eql_V (x y : Val) (w : World) : (binOp .eql 32 (.agg #[.bool x.t, .int .i64 x.n, .string x.s]) (.agg #[.bool y.t, .int .i64 y.n, .string y.s])).run Try.prog w = .ok (.bool (eqV x y)) w := by
  simp [go_sem, eqV]
  cases h : (x.t == y.t) <;> cases h2 : (x.n == y.n) <;> cases h3 : (x.s.toList == y.s.toList) <;> simp_all [go_sem]
theorem neq_V (x y : Val) (w : World) : (binOp .neq 32 (.agg #[.bool x.t, .int .i64 x.n, .string x.s]) (.agg #[.bool y.t, .int .i64 y.n, .string y.s])).run Try.prog w = .ok (.bool (!eqV x y)) w := by
  rw [run_neq_struct]
  have := eql_V x y w
  rw [run_eql_struct] at this
  revert this
  generalize (Op.equalIn 10000 32 (.agg #[.bool x.t, .int .i64 x.n, .string x.s]) (.agg #[.bool y.t, .int .i64 y.n, .string y.s])).run Try.prog w = r
  intro h
  cases r with
  | ok b w' => simp at h ⊢; exact ⟨by rw [h.1], h.2⟩
  | halt x w' => simp [Result.andThen] at h
end Go.Proofs.Ytafkpfhhmmnpeaa.Val
/- How values stand to one another: plain. No program. -/
namespace Go.Proofs.Ytafkpfhhmmnpeaa.Val
open Go

/-- How two numbers, two texts, two values stand to one another. -/
def cmpN (a b : Int) : Int := if (a == b) = true then 0 else if a < b then -1 else 1
def cmpS (a b : List UInt8) : Int := if (a == b) = true then 0 else if Op.bytesLess a b = true then -1 else 1
def cmpV (ta : Bool) (na : Int) (sa : ByteArray) (tb : Bool) (nb : Int) (sb : ByteArray) : Int :=
  match ta, tb with
  | false, false => cmpN na nb
  | true, true => cmpS sa.toList sb.toList
  | false, true => -1
  | true, false => 1
theorem ret_int {k : IntKind} {a b : Int} (h : a = b) : Ending.returned (.int k a) = .returned (.int k b) := by rw [h]
theorem cmpN_lt {a b : Int} (h : (a == b) = false) (k : a < b) : -1 = cmpN a b := by unfold cmpN; rw [if_neg (by simp [h]), if_pos k]
theorem cmpN_gt {a b : Int} (h : (a == b) = false) (k : b ≤ a) : 1 = cmpN a b := by unfold cmpN; rw [if_neg (by simp [h]), if_neg (by omega)]
theorem cmpN_eq {a b : Int} (h : (a == b) = true) : 0 = cmpN a b := by unfold cmpN; rw [if_pos h]
theorem cmpS_lt {a b : List UInt8} (h : (a == b) = false) (k : Op.bytesLess a b = true) : -1 = cmpS a b := by unfold cmpS; rw [if_neg (by simp [h]), if_pos k]
theorem cmpS_gt {a b : List UInt8} (h : (a == b) = false) (k : Op.bytesLess a b = false) : 1 = cmpS a b := by unfold cmpS; rw [if_neg (by simp [h]), if_neg (by simp [k])]
theorem cmpS_eq {a b : List UInt8} (h : (a == b) = true) : 0 = cmpS a b := by unfold cmpS; rw [if_pos h]
end Go.Proofs.Ytafkpfhhmmnpeaa.Val
/- Plain facts: how values stand to one another is an order. No program. -/
namespace Go.Proofs.Ytafkpfhhmmnpeaa.Val
open Go

/-- Three answers as an order asks. -/
structure Goes (x y z : Int) : Prop where
  lo : -1 ≤ x
  hi : x ≤ 1
  lo2 : -1 ≤ y
  hi2 : y ≤ 1
  lo3 : -1 ≤ z
  hi3 : z ≤ 1
  both : x ≤ 0 → y ≤ 0 → z ≤ 0
  zero : x = 0 → y = 0 → z = 0
  less : x ≤ 0 → y ≤ 0 → (x < 0 ∨ y < 0) → z < 0
  more : 0 ≤ x → 0 ≤ y → 0 ≤ z

theorem goesN (a b c : Int) : Goes (cmpN a b) (cmpN b c) (cmpN a c) := by
  have h : ∀ a b : Int, (cmpN a b = 0 ∧ a = b) ∨ (cmpN a b = -1 ∧ a < b) ∨ (cmpN a b = 1 ∧ b < a) := by
    intro a b
    unfold cmpN
    by_cases e : a = b
    · left; simp [e]
    · by_cases l : a < b
      · right; left; simp [e, l]
      · right; right; simp [e, l]; omega
  rcases h a b with ⟨h1, k1⟩ | ⟨h1, k1⟩ | ⟨h1, k1⟩ <;> rcases h b c with ⟨h2, k2⟩ | ⟨h2, k2⟩ | ⟨h2, k2⟩ <;> rcases h a c with ⟨h3, k3⟩ | ⟨h3, k3⟩ | ⟨h3, k3⟩ <;> rw [h1, h2, h3] <;> (constructor <;> omega)
theorem cmpN_turn (a b : Int) : cmpN b a = -cmpN a b := by
  unfold cmpN
  by_cases e : a = b
  · subst e; simp
  · have e' : b ≠ a := fun h => e h.symm
    by_cases l : a < b
    · have : ¬ b < a := by omega
      simp [e, e', l, this]
    · have : b < a := by omega
      simp [e, e', l, this]
theorem cmpN_self (a : Int) : cmpN a a = 0 := by simp [cmpN]

theorem less_irrefl : ∀ a : List UInt8, Op.bytesLess a a = false
  | [] => rfl
  | a :: x => by simp [Op.bytesLess, less_irrefl x, UInt8.lt_irrefl]
theorem less_trans : ∀ a b c : List UInt8, Op.bytesLess a b = true → Op.bytesLess b c = true → Op.bytesLess a c = true
  | _, [], _, h, _ => by simp [Op.bytesLess] at h
  | _, _ :: _, [], _, h => by simp [Op.bytesLess] at h
  | [], _ :: _, _ :: _, _, _ => rfl
  | a :: x, b :: y, c :: z, h1, h2 => by
    simp only [Op.bytesLess, Bool.or_eq_true, Bool.and_eq_true, decide_eq_true_eq, beq_iff_eq] at h1 h2 ⊢
    rcases h1 with h1 | ⟨rfl, h1⟩
    · rcases h2 with h2 | ⟨rfl, _⟩
      · exact Or.inl (UInt8.lt_trans h1 h2)
      · exact Or.inl h1
    · rcases h2 with h2 | ⟨rfl, h2⟩
      · exact Or.inl h2
      · exact Or.inr ⟨rfl, less_trans x y z h1 h2⟩
theorem less_total : ∀ a b : List UInt8, a = b ∨ Op.bytesLess a b = true ∨ Op.bytesLess b a = true
  | [], [] => Or.inl rfl
  | [], _ :: _ => Or.inr (Or.inl rfl)
  | _ :: _, [] => Or.inr (Or.inr rfl)
  | a :: x, b :: y => by
    simp only [Op.bytesLess, Bool.or_eq_true, Bool.and_eq_true, decide_eq_true_eq, beq_iff_eq, List.cons.injEq]
    by_cases e : a = b
    · subst e
      rcases less_total x y with h | h | h
      · exact Or.inl ⟨rfl, h⟩
      · exact Or.inr (Or.inl (Or.inr ⟨rfl, h⟩))
      · exact Or.inr (Or.inr (Or.inr ⟨rfl, h⟩))
    · rcases UInt8.lt_or_lt_of_ne e with h | h
      · exact Or.inr (Or.inl (Or.inl h))
      · exact Or.inr (Or.inr (Or.inl h))
theorem cmpS_cases (a b : List UInt8) : (cmpS a b = 0 ∧ a = b) ∨ (cmpS a b = -1 ∧ Op.bytesLess a b = true) ∨ (cmpS a b = 1 ∧ Op.bytesLess b a = true) := by
  by_cases e : a = b
  · left; subst e; simp [cmpS]
  · rcases less_total a b with h | h | h
    · exact absurd h e
    · right; left; exact ⟨(cmpS_lt (by simpa using e) h).symm, h⟩
    · right; right
      refine ⟨(cmpS_gt (by simpa using e) ?_).symm, h⟩
      cases hl : Op.bytesLess a b
      · rfl
      · have := less_trans _ _ _ hl h
        rw [less_irrefl] at this
        cases this
theorem less_not {a b : List UInt8} (h : Op.bytesLess a b = true) (k : Op.bytesLess b a = true) : False := by
  have := less_trans _ _ _ h k
  rw [less_irrefl] at this
  cases this
theorem goesS (a b c : List UInt8) : Goes (cmpS a b) (cmpS b c) (cmpS a c) := by
  rcases cmpS_cases a b with ⟨h1, k1⟩ | ⟨h1, k1⟩ | ⟨h1, k1⟩ <;> rcases cmpS_cases b c with ⟨h2, k2⟩ | ⟨h2, k2⟩ | ⟨h2, k2⟩ <;> rcases cmpS_cases a c with ⟨h3, k3⟩ | ⟨h3, k3⟩ | ⟨h3, k3⟩ <;> rw [h1, h2, h3] <;> first
    | (constructor <;> omega)
    | (exfalso; subst k1; subst k2; rw [less_irrefl] at k3; cases k3)
    | (exfalso; subst k1; subst k3; rw [less_irrefl] at k2; cases k2)
    | (exfalso; subst k2; subst k3; rw [less_irrefl] at k1; cases k1)
    | (exfalso; subst k1; exact less_not k2 k3)
    | (exfalso; subst k2; exact less_not k1 k3)
    | (exfalso; subst k3; exact less_not k1 k2)
    | (exfalso; exact less_not (less_trans _ _ _ k1 k2) k3)
    | (exfalso; exact less_not (less_trans _ _ _ k2 k1) k3)
theorem cmpS_turn (a b : List UInt8) : cmpS b a = -cmpS a b := by
  rcases cmpS_cases a b with ⟨h1, k1⟩ | ⟨h1, k1⟩ | ⟨h1, k1⟩ <;> rcases cmpS_cases b a with ⟨h2, k2⟩ | ⟨h2, k2⟩ | ⟨h2, k2⟩ <;> rw [h1, h2] <;> first
    | rfl
    | (exfalso; subst k1; rw [less_irrefl] at k2; cases k2)
    | (exfalso; subst k2; rw [less_irrefl] at k1; cases k1)
    | (exfalso; exact less_not k1 k2)
theorem cmpS_self (a : List UInt8) : cmpS a a = 0 := by simp [cmpS]

theorem goesV (ta : Bool) (na : Int) (sa : ByteArray) (tb : Bool) (nb : Int) (sb : ByteArray) (tc : Bool) (nc : Int) (sc : ByteArray) :
    Goes (cmpV ta na sa tb nb sb) (cmpV tb nb sb tc nc sc) (cmpV ta na sa tc nc sc) := by
  have bN := fun a b => goesN a b b
  have bS := fun a b => goesS a b b
  cases ta <;> cases tb <;> cases tc <;> simp only [cmpV] <;> first
    | exact goesN _ _ _
    | exact goesS _ _ _
    | (have h1 := bN na nb; have h2 := h1.lo; have h3 := h1.hi; constructor <;> omega)
    | (have h1 := bN nb nc; have h2 := h1.lo; have h3 := h1.hi; constructor <;> omega)
    | (have h1 := bN na nc; have h2 := h1.lo; have h3 := h1.hi; constructor <;> omega)
    | (have h1 := bS sa.toList sb.toList; have h2 := h1.lo; have h3 := h1.hi; constructor <;> omega)
    | (have h1 := bS sb.toList sc.toList; have h2 := h1.lo; have h3 := h1.hi; constructor <;> omega)
    | (have h1 := bS sa.toList sc.toList; have h2 := h1.lo; have h3 := h1.hi; constructor <;> omega)
theorem cmpV_turn (ta : Bool) (na : Int) (sa : ByteArray) (tb : Bool) (nb : Int) (sb : ByteArray) : cmpV tb nb sb ta na sa = -cmpV ta na sa tb nb sb := by
  cases ta <;> cases tb <;> simp only [cmpV]
  · exact cmpN_turn _ _
  · rfl
  · exact cmpS_turn _ _
theorem cmpV_self (ta : Bool) (na : Int) (sa : ByteArray) : cmpV ta na sa ta na sa = 0 := by
  cases ta <;> simp only [cmpV]
  · exact cmpN_self _
  · exact cmpS_self _
end Go.Proofs.Ytafkpfhhmmnpeaa.Val
/- Plain facts on predicates in memory: trees of parts. No program. -/
namespace Go.Proofs.Ytafkpfhhmmnpeaa.Val
open Go Go.RowKit

/-- A predicate as plain data, with the slice in which its parts lie. -/
structure PT where
  op : Int
  col : Int
  v : Val
  w : Val
  lv : Value
  l : List PT
def PT.zero : PT := .mk 0 0 Val.zero Val.zero (.slice none 0 0) []
/-- A predicate as the machine has it. -/
abbrev PV (o c : Int) (t : Bool) (n : Int) (s : ByteArray) (t' : Bool) (n' : Int) (s' : ByteArray) (lv : Value) : Value := .agg #[.int .i64 o, .int .i64 c, .bool t, .int .i64 n, .string s, .bool t', .int .i64 n', .string s', lv]
def PT.val (p : PT) : Value := PV p.op p.col p.v.t p.v.n p.v.s p.w.t p.w.n p.w.s p.lv
def PT.cells (p : PT) : List Value := [.int .i64 p.op, .int .i64 p.col, .bool p.v.t, .int .i64 p.v.n, .string p.v.s, .bool p.w.t, .int .i64 p.w.n, .string p.w.s, p.lv]

/-- Its parts, at all depths, lie in memory. -/
def InN (w : World) : Nat → PT → Prop
  | 0, _ => False
  | n + 1, p => p.v.s.size ≤ maxLen ∧ p.w.s.size ≤ maxLen ∧ Lies w p.lv p.l.length (p.l.flatMap PT.cells) ∧ ∀ q ∈ p.l, InN w n q
def In (w : World) (p : PT) : Prop := ∃ n, InN w n p
theorem InN.mono {w : World} {n m : Nat} {p : PT} (h : InN w n p) (hm : n ≤ m) : InN w m p := by
  induction n generalizing m p with
  | zero => exact h.elim
  | succ n ih =>
    cases m with
    | zero => omega
    | succ m => exact ⟨h.1, h.2.1, h.2.2.1, fun q hq => ih (h.2.2.2 q hq) (by omega)⟩
theorem all_some {α : Type} {f : Nat → α → Prop} (hm : ∀ n m x, f n x → n ≤ m → f m x) (l : List α) (h : ∀ q ∈ l, ∃ n, f n q) : ∃ n, ∀ q ∈ l, f n q := by
  induction l with
  | nil => exact ⟨0, by simp⟩
  | cons x l ih =>
    obtain ⟨n, hn⟩ := ih fun q hq => h q (List.mem_cons_of_mem _ hq)
    obtain ⟨m, hx⟩ := h x (List.mem_cons_self ..)
    refine ⟨n + m, fun q hq => ?_⟩
    rcases List.mem_cons.1 hq with rfl | hq
    · exact hm _ _ _ hx (by omega)
    · exact hm _ _ _ (hn q hq) (by omega)
theorem In.mk {w : World} {o c : Int} {v u : Val} {lv : Value} {l : List PT} (h1 : v.s.size ≤ maxLen) (h2 : u.s.size ≤ maxLen) (h3 : Lies w lv l.length (l.flatMap PT.cells)) (h4 : ∀ p ∈ l, In w p) : In w (.mk o c v u lv l) := by
  obtain ⟨n, hn⟩ := all_some (f := InN w) (fun n m x hx hm => InN.mono hx hm) l h4
  exact ⟨n + 1, h1, h2, h3, hn⟩
theorem In.all {w : World} {p : PT} (h : In w p) : p.v.s.size ≤ maxLen ∧ p.w.s.size ≤ maxLen ∧ Lies w p.lv p.l.length (p.l.flatMap PT.cells) ∧ ∀ q ∈ p.l, In w q := by
  obtain ⟨n, h⟩ := h
  cases n with
  | zero => exact h.elim
  | succ n => exact ⟨h.1, h.2.1, h.2.2.1, fun q hq => ⟨n, h.2.2.2 q hq⟩⟩
theorem In.sv {w : World} {p : PT} (h : In w p) : p.v.s.size ≤ maxLen := h.all.1
theorem In.sw {w : World} {p : PT} (h : In w p) : p.w.s.size ≤ maxLen := h.all.2.1
theorem In.lies {w : World} {p : PT} (h : In w p) : Lies w p.lv p.l.length (p.l.flatMap PT.cells) := h.all.2.2.1
theorem In.part {w : World} {p : PT} (h : In w p) : ∀ q ∈ p.l, In w q := h.all.2.2.2
theorem In.keep {w w' : World} {p : PT} (h : In w p) (hb : Below w.heap.size w w') : In w' p := by
  obtain ⟨n, h⟩ := h
  refine ⟨n, ?_⟩
  induction n generalizing p with
  | zero => exact h.elim
  | succ n ih => exact ⟨h.1, h.2.1, h.2.2.1.below hb, fun q hq => ih (h.2.2.2 q hq)⟩

/-- A list of predicates lies in memory, with all their parts. -/
def InL (w : World) (lv : Value) (l : List PT) : Prop := Lies w lv l.length (l.flatMap PT.cells) ∧ ∀ p ∈ l, In w p
theorem InL.below {w w' : World} {lv : Value} {l : List PT} (h : InL w lv l) (hb : Below w.heap.size w w') : InL w' lv l := ⟨h.1.below hb, fun p hp => (h.2 p hp).keep hb⟩
theorem In.list {w : World} {p : PT} (h : In w p) : InL w p.lv p.l := ⟨h.lies, h.part⟩
/-- The cells of one of a list. -/
structure At (w : World) (b o : Nat) (p : PT) : Prop where
  c0 : w.cell? ⟨b, o, none⟩ = some (.int .i64 p.op)
  c1 : w.cell? ⟨b, o + 1, none⟩ = some (.int .i64 p.col)
  c2 : w.cell? ⟨b, o + 2, none⟩ = some (.bool p.v.t)
  c3 : w.cell? ⟨b, o + 3, none⟩ = some (.int .i64 p.v.n)
  c4 : w.cell? ⟨b, o + 4, none⟩ = some (.string p.v.s)
  c5 : w.cell? ⟨b, o + 5, none⟩ = some (.bool p.w.t)
  c6 : w.cell? ⟨b, o + 6, none⟩ = some (.int .i64 p.w.n)
  c7 : w.cell? ⟨b, o + 7, none⟩ = some (.string p.w.s)
  c8 : w.cell? ⟨b, o + 8, none⟩ = some p.lv
theorem At.below {w w' : World} {b o : Nat} {p : PT} (h : At w b o p) (hb : Below w.heap.size w w') : At w' b o p := by
  have hlt : b < w.heap.size := World.block_lt_of_cell? w _ h.c0
  obtain ⟨c0, c1, c2, c3, c4, c5, c6, c7, c8⟩ := h
  constructor <;> rw [hb.cell hlt] <;> assumption
theorem lies_at {w : World} {ao : Option Addr} {c n : Nat} {l : List PT} (h : Lies w (.slice ao n c) l.length (l.flatMap PT.cells)) (k : Nat) (hk : k < l.length) :
    ∃ b o, ao = some ⟨b, o, none⟩ ∧ At w b (o + k * 9) l[k] := by
  obtain ⟨ao', c', e, h1, h2, h0, h3⟩ := h
  cases e
  have hf : ∀ x : PT, x.cells.length = 9 := fun x => rfl
  rcases h3 with h3 | ⟨b, o, rfl, h3⟩
  · have := flat_length PT.cells 9 hf l; rw [h3] at this; simp at this; omega
  · refine ⟨b, o, rfl, ?_⟩
    have g : ∀ r u, r < 9 → l[k].cells[r]? = some u → w.cell? ⟨b, o + k * 9 + r, none⟩ = some u := by
      intro r u hr hu
      rw [Nat.add_assoc]
      exact h3 (k * 9 + r) u (by rw [flat_at _ 9 hf l k r hk hr]; exact hu)
    exact ⟨g 0 _ (by omega) rfl, g 1 _ (by omega) rfl, g 2 _ (by omega) rfl, g 3 _ (by omega) rfl, g 4 _ (by omega) rfl, g 5 _ (by omega) rfl, g 6 _ (by omega) rfl, g 7 _ (by omega) rfl, g 8 _ (by omega) rfl⟩

/-- How many parts it has. -/
def PT.size : PT → Nat
  | .mk _ _ _ _ _ l => 1 + (l.map PT.size).sum
theorem size_mk (o c : Int) (v w : Val) (lv : Value) (l : List PT) : (PT.mk o c v w lv l).size = 1 + (l.map PT.size).sum := by rw [PT.size]
theorem size_pos (p : PT) : 1 ≤ p.size := by cases p; rw [size_mk]; omega
theorem size_part {p q : PT} (h : q ∈ p.l) : q.size < p.size := by
  cases p with | mk o c v w lv l =>
  rw [size_mk]
  have h' : q ∈ l := h
  clear h
  induction l with
  | nil => simp at h'
  | cons x l ih =>
    simp only [List.map_cons, List.sum_cons]
    rcases List.mem_cons.1 h' with rfl | h'
    · omega
    · have := ih h'; omega
/-- Over the parts. -/
theorem PT.ind {motive : PT → Prop} (h : ∀ p : PT, (∀ q ∈ p.l, motive q) → motive p) (p : PT) : motive p := by
  have : ∀ n, ∀ p : PT, p.size ≤ n → motive p := by
    intro n
    induction n with
    | zero => intro p hp; have := size_pos p; omega
    | succ n ih => intro p hp; exact h p fun q hq => ih q (by have := size_part hq; omega)
  exact this p.size p (Nat.le_refl _)

/-- How the value of a column stands. -/
def standB (op c d : Int) : Bool :=
  if op = 3 then c == 0 else if op = 4 then c != 0 else if op = 5 then decide (c < 0) else if op = 6 then decide (c ≤ 0) else if op = 7 then decide (0 < c) else if op = 8 then decide (0 ≤ c) else if op = 9 then decide (0 ≤ c) && decide (d ≤ 0) else false
def cmpX (x y : Val) : Int := cmpV x.t x.n x.s y.t y.n y.s
def leafB (r : List Val) (op col : Int) (v w : Val) : Bool :=
  if col < 0 then false else match r[col.toNat]? with
    | none => false
    | some x => standB op (cmpX x v) (cmpX x w)
/-- Does it hold of a row? -/
def holdsP (r : List Val) : PT → Bool
  | .mk op col v w _ l =>
    if op = 1 then true else if op = 10 then !(((l.map (holdsP r)).head?).getD false) else if op = 11 then (l.map (holdsP r)).all id else if op = 12 then (l.map (holdsP r)).any id else leafB r op col v w
theorem holds_mk (r : List Val) (op col : Int) (v w : Val) (lv : Value) (l : List PT) : holdsP r (.mk op col v w lv l) =
    if op = 1 then true else if op = 10 then !(((l.map (holdsP r)).head?).getD false) else if op = 11 then (l.map (holdsP r)).all id else if op = 12 then (l.map (holdsP r)).any id else leafB r op col v w := by rw [holdsP]
theorem holds_1 {r : List Val} {p : PT} (h : p.op = 1) : holdsP r p = true := by cases p with | mk o c v u lv l => obtain rfl : o = 1 := h; simp [holds_mk]
theorem holds_10 {r : List Val} {p : PT} (h : p.op = 10) : holdsP r p = !(((p.l.map (holdsP r)).head?).getD false) := by cases p with | mk o c v u lv l => obtain rfl : o = 10 := h; rw [holds_mk, if_neg (by decide), if_pos rfl]
theorem holds_11 {r : List Val} {p : PT} (h : p.op = 11) : holdsP r p = (p.l.map (holdsP r)).all id := by cases p with | mk o c v u lv l => obtain rfl : o = 11 := h; rw [holds_mk, if_neg (by decide), if_neg (by decide), if_pos rfl]
theorem holds_12 {r : List Val} {p : PT} (h : p.op = 12) : holdsP r p = (p.l.map (holdsP r)).any id := by cases p with | mk o c v u lv l => obtain rfl : o = 12 := h; rw [holds_mk, if_neg (by decide), if_neg (by decide), if_neg (by decide), if_pos rfl]
theorem holds_leaf {r : List Val} {p : PT} (h1 : p.op ≠ 1) (h2 : p.op ≠ 10) (h3 : p.op ≠ 11) (h4 : p.op ≠ 12) : holdsP r p = leafB r p.op p.col p.v p.w := by
  cases p with | mk o c v u lv l => 
    have e1 : o ≠ 1 := h1
    have e2 : o ≠ 10 := h2
    have e3 : o ≠ 11 := h3
    have e4 : o ≠ 12 := h4
    rw [holds_mk, if_neg e1, if_neg e2, if_neg e3, if_neg e4]
theorem leaf_low {r : List Val} {op col : Int} {v w : Val} (h : col < 0) : leafB r op col v w = false := by unfold leafB; rw [if_pos h]
theorem leaf_high {r : List Val} {op col : Int} {v w : Val} (h0 : 0 ≤ col) (h : (r.length : Int) ≤ col) : leafB r op col v w = false := by
  unfold leafB; rw [if_neg (by omega), List.getElem?_eq_none (by omega)]
theorem leaf_at {r : List Val} {op : Int} {k : Nat} {v w : Val} (h : k < r.length) : leafB r op (k : Int) v w = standB op (cmpX r[k] v) (cmpX r[k] w) := by
  unfold leafB; rw [if_neg (by omega)]; simp [h]
/-- It, without the places of its parts. -/
def PT.bare : PT → PT
  | .mk o c v w _ l => .mk o c v w (.slice none 0 0) (l.map PT.bare)
theorem bare_mk (o c : Int) (v w : Val) (lv : Value) (l : List PT) : (PT.mk o c v w lv l).bare = .mk o c v w (.slice none 0 0) (l.map PT.bare) := by rw [PT.bare]
theorem map_bare {α : Type} (f : PT → α) (l : List PT) (h : ∀ q ∈ l, f q.bare = f q) : (l.map PT.bare).map f = l.map f := by
  rw [List.map_map]; exact List.map_congr_left h
theorem size_bare (p : PT) : p.bare.size = p.size := by
  induction p using PT.ind with
  | h p ih => cases p with | mk o c v w lv l => rw [bare_mk, size_mk, size_mk, map_bare PT.size l ih]
theorem holds_bare (r : List Val) (p : PT) : holdsP r p.bare = holdsP r p := by
  induction p using PT.ind with
  | h p ih => cases p with | mk o c v w lv l => rw [bare_mk, holds_mk, holds_mk, map_bare (holdsP r) l ih]
theorem size_of_bare {p q : PT} (h : p.bare = q.bare) : p.size = q.size := by rw [← size_bare p, h, size_bare]
theorem holds_of_bare {p q : PT} (h : p.bare = q.bare) (r : List Val) : holdsP r p = holdsP r q := by rw [← holds_bare r p, h, holds_bare]

/-- All blocks but some are as they were. -/
structure Sv (X : Nat → Prop) (w w' : World) : Prop where
  os : w'.os = w.os
  tape : w'.tape = w.tape
  output : w'.output = w.output
  size : w.heap.size ≤ w'.heap.size
  block : ∀ k, k < w.heap.size → ¬ X k → w'.heap[k]? = w.heap[k]?
theorem Sv.refl (X : Nat → Prop) (w : World) : Sv X w w := ⟨rfl, rfl, rfl, Nat.le_refl _, fun _ _ _ => rfl⟩
theorem Sv.trans {X : Nat → Prop} {a b c : World} (h : Sv X a b) (k : Sv X b c) : Sv X a c :=
  ⟨k.os.trans h.os, k.tape.trans h.tape, k.output.trans h.output, Nat.le_trans h.size k.size, fun i hi hx => (k.block i (Nat.lt_of_lt_of_le hi h.size) hx).trans (h.block i hi hx)⟩
theorem Sv.of {X : Nat → Prop} {w w' : World} (h : Below w.heap.size w w') : Sv X w w' := ⟨h.os, h.tape, h.output, h.size, fun k hk _ => h.block k hk⟩
theorem Sv.alloc (X : Nat → Prop) (w : World) (o : Obj) : Sv X w (w.alloc o) := Sv.of ((Below.refl _ _).alloc (Nat.le_refl _) _)
theorem Sv.below {X : Nat → Prop} {w w' : World} (h : Sv X w w') {B : Nat} (hB : B ≤ w.heap.size) (hX : ∀ k, k < B → ¬ X k) : Below B w w' := ⟨h.os, h.tape, h.output, h.size, fun k hk => h.block k (Nat.lt_of_lt_of_le hk hB) (hX k hk)⟩
theorem Sv.cell {X : Nat → Prop} {w w' : World} (h : Sv X w w') {p : Addr} (hp : p.block < w.heap.size) (hx : ¬ X p.block) : w'.cell? p = w.cell? p := World.cell?_of_block (w := w) (h.block p.block hp hx)
theorem Sv.frozen {X : Nat → Prop} {w w' : World} (h : Sv X w w') {p : Addr} (hp : p.block < w.heap.size) (hx : ¬ X p.block) : w'.frozen? p = w.frozen? p := World.frozen?_of_block (w := w) (h.block p.block hp hx)
theorem Sv.set {X : Nat → Prop} {w w' : World} (h : Sv X w w') {a : Addr} (ha : X a.block) (u : Value) : Sv X w (w'.setCell a u) :=
  h.trans ⟨rfl, rfl, rfl, by simp [World.setCell], fun k _ hx => Below.heap_setCell _ _ _ _ fun e => hx (by rw [e]; exact ha)⟩
def Nothing : Nat → Prop := fun _ => False
theorem Sv.pure {w w' : World} (h : Sv Nothing w w') : Below w.heap.size w w' := h.below (Nat.le_refl _) fun _ _ h => h
end Go.Proofs.Ytafkpfhhmmnpeaa.Val
/- Plain: spans of values and their ends. No program. -/
namespace Go.Proofs.Ytafkpfhhmmnpeaa.Val
open Go Go.RowKit

/-- One end of a span. -/
structure En where
  has : Bool
  op : Bool
  x : Val
/-- A span. -/
structure Sp where
  no : Bool
  hl : Bool
  ol : Bool
  lo : Val
  hh : Bool
  oh : Bool
  hi : Val
def En.zero : En := ⟨false, false, Val.zero⟩
def Sp.all : Sp := ⟨false, false, false, Val.zero, false, false, Val.zero⟩
def Sp.none : Sp := ⟨true, false, false, Val.zero, false, false, Val.zero⟩
abbrev EV (h o t : Bool) (n : Int) (s : ByteArray) : Value := .agg #[.bool h, .bool o, .bool t, .int .i64 n, .string s]
abbrev SV (o h l t : Bool) (n : Int) (s : ByteArray) (h' l' t' : Bool) (n' : Int) (s' : ByteArray) : Value := .agg #[.bool o, .bool h, .bool l, .bool t, .int .i64 n, .string s, .bool h', .bool l', .bool t', .int .i64 n', .string s']
def En.val (e : En) : Value := EV e.has e.op e.x.t e.x.n e.x.s
def Sp.val (s : Sp) : Value := SV s.no s.hl s.ol s.lo.t s.lo.n s.lo.s s.hh s.oh s.hi.t s.hi.n s.hi.s
def eqE (a b : En) : Bool := a.has == b.has && (a.op == b.op && eqV a.x b.x)
theorem eqE_iff {a b : En} : eqE a b = true ↔ a = b := by
  cases a; cases b
  simp [eqE, eqV_iff]
def eqS (a b : Sp) : Bool := a.no == b.no && (a.hl == b.hl && (a.ol == b.ol && (eqV a.lo b.lo && (a.hh == b.hh && (a.oh == b.oh && eqV a.hi b.hi)))))
theorem eqS_iff {a b : Sp} : eqS a b = true ↔ a = b := by
  cases a; cases b
  simp [eqS, eqV_iff]
/-- There is no end. -/
def isZ (e : En) : Bool := eqE e En.zero
theorem isZ_iff {e : En} : isZ e = true ↔ e = En.zero := eqE_iff
def lowE (s : Sp) : En := if s.hl then ⟨true, s.ol, s.lo⟩ else En.zero
def uppE (s : Sp) : En := if s.hh then ⟨true, s.oh, s.hi⟩ else En.zero
def closedE (v : Val) : En := ⟨true, false, v⟩
def openE (v : Val) : En := ⟨true, true, v⟩
def sideB (c : Int) (o : Bool) : Bool := decide (0 < c) || (c == 0 && o)
def apartE (lo hi : En) : Bool := !(isZ lo || isZ hi) && sideB (cmpX lo.x hi.x) (lo.op || hi.op)
def btw (lo hi : En) : Sp := if apartE lo hi then Sp.none else ⟨false, lo.has, lo.op, lo.x, hi.has, hi.op, hi.x⟩
def cleanS (s : Sp) : Sp := if s.no then Sp.none else btw (lowE s) (uppE s)
def withinS (s : Sp) (v : Val) : Bool := !s.no && (!apartE (lowE s) (closedE v) && !apartE (closedE v) (uppE s))
def chosenE (a b : En) (side : Int) (o : Bool) : En := if cmpX a.x b.x = side then a else if cmpX a.x b.x = -side then b else ⟨a.has, o, a.x⟩
def innerE (a b : En) (side : Int) : En := if isZ a then b else if isZ b then a else chosenE a b side (a.op || b.op)
def outerE (a b : En) (side : Int) : En := if isZ a || isZ b then En.zero else chosenE a b side (a.op && b.op)
def meetC (a b : Sp) : Sp := if a.no || b.no then Sp.none else btw (innerE (lowE a) (lowE b) 1) (innerE (uppE a) (uppE b) (-1))
def hullC (a b : Sp) : Sp := if a.no then b else if b.no then a else btw (outerE (lowE a) (lowE b) (-1)) (outerE (uppE a) (uppE b) 1)
def meetS (a b : Sp) : Sp := meetC (cleanS a) (cleanS b)
def hullS (a b : Sp) : Sp := hullC (cleanS a) (cleanS b)
/-- Its texts are as long as texts can be. -/
def En.ok (e : En) : Prop := e.x.s.size ≤ maxLen
def Sp.ok (s : Sp) : Prop := s.lo.s.size ≤ maxLen ∧ s.hi.s.size ≤ maxLen

/-- An end in a block of its own. -/
structure EBox (w : World) (b : Nat) (e : En) : Prop where
  c0 : w.cell? ⟨b, 0, none⟩ = some (.bool e.has)
  c1 : w.cell? ⟨b, 1, none⟩ = some (.bool e.op)
  c2 : w.cell? ⟨b, 2, none⟩ = some (.bool e.x.t)
  c3 : w.cell? ⟨b, 3, none⟩ = some (.int .i64 e.x.n)
  c4 : w.cell? ⟨b, 4, none⟩ = some (.string e.x.s)
abbrev eobj (e : En) (T : TypeId) : Obj := .cells #[.bool e.has, .bool e.op, .bool e.x.t, .int .i64 e.x.n, .string e.x.s] T
theorem EBox.lt {w : World} {b : Nat} {e : En} (h : EBox w b e) : b < w.heap.size := World.block_lt_of_cell? w _ h.c0
theorem EBox.below {w w' : World} {b : Nat} {e : En} (h : EBox w b e) (hb : Below w.heap.size w w') : EBox w' b e := by
  have hlt := h.lt
  obtain ⟨c0, c1, c2, c3, c4⟩ := h
  constructor <;> rw [hb.cell hlt] <;> assumption
theorem EBox.new (w : World) (e : En) (T : TypeId) : EBox (w.alloc (eobj e T)) w.heap.size e := by constructor <;> simp [go_sem]
theorem EBox.alloc {w : World} {b : Nat} {e : En} (h : EBox w b e) (o : Obj) : EBox (w.alloc o) b e := h.below ((Below.refl _ _).alloc (Nat.le_refl _) _)
/-- A span in a block of its own. -/
structure SBox (w : World) (b : Nat) (s : Sp) : Prop where
  c0 : w.cell? ⟨b, 0, none⟩ = some (.bool s.no)
  c1 : w.cell? ⟨b, 1, none⟩ = some (.bool s.hl)
  c2 : w.cell? ⟨b, 2, none⟩ = some (.bool s.ol)
  c3 : w.cell? ⟨b, 3, none⟩ = some (.bool s.lo.t)
  c4 : w.cell? ⟨b, 4, none⟩ = some (.int .i64 s.lo.n)
  c5 : w.cell? ⟨b, 5, none⟩ = some (.string s.lo.s)
  c6 : w.cell? ⟨b, 6, none⟩ = some (.bool s.hh)
  c7 : w.cell? ⟨b, 7, none⟩ = some (.bool s.oh)
  c8 : w.cell? ⟨b, 8, none⟩ = some (.bool s.hi.t)
  c9 : w.cell? ⟨b, 9, none⟩ = some (.int .i64 s.hi.n)
  c10 : w.cell? ⟨b, 10, none⟩ = some (.string s.hi.s)
abbrev sobj (s : Sp) (T : TypeId) : Obj := .cells #[.bool s.no, .bool s.hl, .bool s.ol, .bool s.lo.t, .int .i64 s.lo.n, .string s.lo.s, .bool s.hh, .bool s.oh, .bool s.hi.t, .int .i64 s.hi.n, .string s.hi.s] T
theorem SBox.lt {w : World} {b : Nat} {s : Sp} (h : SBox w b s) : b < w.heap.size := World.block_lt_of_cell? w _ h.c0
theorem SBox.below {w w' : World} {b : Nat} {s : Sp} (h : SBox w b s) (hb : Below w.heap.size w w') : SBox w' b s := by
  have hlt := h.lt
  obtain ⟨c0, c1, c2, c3, c4, c5, c6, c7, c8, c9, c10⟩ := h
  constructor <;> rw [hb.cell hlt] <;> assumption
theorem SBox.new (w : World) (s : Sp) (T : TypeId) : SBox (w.alloc (sobj s T)) w.heap.size s := by constructor <;> simp [go_sem]
theorem SBox.alloc {w : World} {b : Nat} {s : Sp} (h : SBox w b s) (o : Obj) : SBox (w.alloc o) b s := h.below ((Below.refl _ _).alloc (Nat.le_refl _) _)
/-- A block that may be written. -/
def Fr (w : World) (b : Nat) : Prop := b < w.heap.size ∧ ∀ j, w.frozen? ⟨b, j, none⟩ = false
theorem Fr.below {w w' : World} {b : Nat} (h : Fr w b) (hb : Below w.heap.size w w') : Fr w' b := ⟨Nat.lt_of_lt_of_le h.1 hb.size, fun j => by rw [hb.frozen h.1]; exact h.2 j⟩
theorem Fr.new (w : World) (cs : Array Value) (T : TypeId) : Fr (w.alloc (.cells cs T)) w.heap.size := ⟨by simp, fun j => by simp [go_sem]⟩
theorem Fr.alloc {w : World} {b : Nat} (h : Fr w b) (o : Obj) : Fr (w.alloc o) b := h.below ((Below.refl _ _).alloc (Nat.le_refl _) _)
end Go.Proofs.Ytafkpfhhmmnpeaa.Val
/- Plain: what a call that begins with a new block keeps. -/
namespace Go.Proofs.Ytafkpfhhmmnpeaa.Val
open Go.RowKit

theorem back1 {w w1 : World} {o1 : Obj} (h : Below (w.alloc o1).heap.size (w.alloc o1) w1) : Below w.heap.size w w1 :=
  ((Below.refl _ _).alloc (Nat.le_refl _) _).trans (h.mono (by simp))
theorem in1 {w w1 : World} {v : Value} {T : TypeId} (h : Below (w.alloc (.cells #[v] T)).heap.size (w.alloc (.cells #[v] T)) w1) : w1.cell? ⟨w.heap.size, 0, none⟩ = some v := by
  rw [h.cell (by simp)]; simp
theorem next1 {B : Nat} {w wr w2 : World} {o : Obj} (h : Below B w wr) (hB : B ≤ wr.heap.size) (h2 : Below (wr.alloc o).heap.size (wr.alloc o) w2) : Below B w w2 :=
  (h.alloc hB _).trans (h2.mono (by simp; omega))

end Go.Proofs.Ytafkpfhhmmnpeaa.Val
/- Plain facts on a boxed predicate and a boxed value. No program. -/
namespace Go.Proofs.Ytafkpfhhmmnpeaa.Val
open Go Go.RowKit

/-- A predicate in a block of its own. -/
structure Box (w : World) (b : Nat) (p : PT) : Prop where
  c0 : w.cell? ⟨b, 0, none⟩ = some (.int .i64 p.op)
  c1 : w.cell? ⟨b, 1, none⟩ = some (.int .i64 p.col)
  c2 : w.cell? ⟨b, 2, none⟩ = some (.bool p.v.t)
  c3 : w.cell? ⟨b, 3, none⟩ = some (.int .i64 p.v.n)
  c4 : w.cell? ⟨b, 4, none⟩ = some (.string p.v.s)
  c5 : w.cell? ⟨b, 5, none⟩ = some (.bool p.w.t)
  c6 : w.cell? ⟨b, 6, none⟩ = some (.int .i64 p.w.n)
  c7 : w.cell? ⟨b, 7, none⟩ = some (.string p.w.s)
  c8 : w.cell? ⟨b, 8, none⟩ = some p.lv
abbrev pobj (p : PT) (T : TypeId) : Obj := .cells #[.int .i64 p.op, .int .i64 p.col, .bool p.v.t, .int .i64 p.v.n, .string p.v.s, .bool p.w.t, .int .i64 p.w.n, .string p.w.s, p.lv] T
theorem Box.lt {w : World} {b : Nat} {p : PT} (h : Box w b p) : b < w.heap.size := World.block_lt_of_cell? w _ h.c0
theorem Box.below {w w' : World} {b : Nat} {p : PT} (h : Box w b p) (hb : Below w.heap.size w w') : Box w' b p := by
  have hlt := h.lt
  obtain ⟨c0, c1, c2, c3, c4, c5, c6, c7, c8⟩ := h
  constructor <;> rw [hb.cell hlt] <;> assumption
theorem Box.sv {X : Nat → Prop} {w w' : World} {b : Nat} {p : PT} (h : Box w b p) (hb : Sv X w w') (hx : ¬ X b) : Box w' b p := by
  have hlt := h.lt
  obtain ⟨c0, c1, c2, c3, c4, c5, c6, c7, c8⟩ := h
  constructor <;> rw [hb.cell hlt hx] <;> assumption
theorem Box.new (w : World) (p : PT) (T : TypeId) : Box (w.alloc (pobj p T)) w.heap.size p := by constructor <;> simp [go_sem]
theorem Box.alloc {w : World} {b : Nat} {p : PT} (h : Box w b p) (o : Obj) : Box (w.alloc o) b p := h.below ((Below.refl _ _).alloc (Nat.le_refl _) _)
/-- A value in a block of its own. -/
structure VBox (w : World) (b : Nat) (x : Val) : Prop where
  c0 : w.cell? ⟨b, 0, none⟩ = some (.bool x.t)
  c1 : w.cell? ⟨b, 1, none⟩ = some (.int .i64 x.n)
  c2 : w.cell? ⟨b, 2, none⟩ = some (.string x.s)
abbrev vobj (x : Val) (T : TypeId) : Obj := .cells #[.bool x.t, .int .i64 x.n, .string x.s] T
theorem VBox.lt {w : World} {b : Nat} {x : Val} (h : VBox w b x) : b < w.heap.size := World.block_lt_of_cell? w _ h.c0
theorem VBox.below {w w' : World} {b : Nat} {x : Val} (h : VBox w b x) (hb : Below w.heap.size w w') : VBox w' b x := by
  have hlt := h.lt
  obtain ⟨c0, c1, c2⟩ := h
  constructor <;> rw [hb.cell hlt] <;> assumption
theorem VBox.new (w : World) (x : Val) (T : TypeId) : VBox (w.alloc (vobj x T)) w.heap.size x := by constructor <;> simp [go_sem]
theorem VBox.alloc {w : World} {b : Nat} {x : Val} (h : VBox w b x) (o : Obj) : VBox (w.alloc o) b x := h.below ((Below.refl _ _).alloc (Nat.le_refl _) _)
/-- A cell in a block of its own. -/
theorem cell_below {w w' : World} {b o : Nat} {u : Value} (h : w.cell? ⟨b, o, none⟩ = some u) (hb : Below w.heap.size w w') : w'.cell? ⟨b, o, none⟩ = some u := by rw [hb.cell (World.block_lt_of_cell? w _ h)]; exact h
theorem cell_alloc {w : World} {b o : Nat} {u : Value} (h : w.cell? ⟨b, o, none⟩ = some u) (ob : Obj) : (w.alloc ob).cell? ⟨b, o, none⟩ = some u := cell_below h ((Below.refl _ _).alloc (Nat.le_refl _) _)
theorem cell_new (w : World) (u : Value) (T : TypeId) : (w.alloc (.cells #[u] T)).cell? ⟨w.heap.size, 0, none⟩ = some u := by simp [go_sem]
theorem alloc1 (w : World) (o : Obj) : Below w.heap.size w (w.alloc o) := (Below.refl _ _).alloc (Nat.le_refl _) _
/-- What a call that begins with new blocks keeps. -/
theorem back2 {w w1 : World} {o1 o2 : Obj} (h : Below ((w.alloc o1).alloc o2).heap.size ((w.alloc o1).alloc o2) w1) : Below w.heap.size w w1 := back1 (back1 h)
theorem back3 {w w1 : World} {o1 o2 o3 : Obj} (h : Below (((w.alloc o1).alloc o2).alloc o3).heap.size (((w.alloc o1).alloc o2).alloc o3) w1) : Below w.heap.size w w1 := back1 (back2 h)
theorem on {w w1 w2 : World} (h : Below w.heap.size w w1) (hb : Below w1.heap.size w1 w2) : Below w.heap.size w w2 := h.trans (hb.mono h.size)
end Go.Proofs.Ytafkpfhhmmnpeaa.Val
/- Function values, and functions that are entered where they are called. -/
namespace Go.Proofs.Ytafkpfhhmmnpeaa.Val
open Go.RowKit

/-- A function value. -/
abbrev FV (f : FuncId) (first cap : Array Value) : Value := .func (.func f) first cap
/-- A function of the program's that is entered where it is called. -/
def Enters (f : FuncId) : Prop := ∀ args w, (callFunc f args).run Try.prog w = .ok (.enter f args) w
theorem enters_of {f : FuncId} {fn : Func} {c : Code} (hf : Try.prog.funcs[f]? = some fn) (hname : (fn.name == "runtime.NumGoroutine") = false) (hb : fn.body = some c) : Enters f := fun args w => by
  have h1 : fn.name ≠ "runtime.NumGoroutine" := by simpa using hname
  simp [callFunc, hf, h1, hb]
end Go.Proofs.Ytafkpfhhmmnpeaa.Val
