/- Plain facts on slices of structs in memory: values, sets and bools, as lists. No program. -/
import Derived.Test.YtbfoplaccalegaaKept
import Derived.OwnWalk
import Derived.Laws.OwnMore
namespace Go.Proofs.Ytbfoplaccalegaa.Val
open Go Go.RowKit

/-- A value, as plain data. -/
structure Val where
  t : Bool
  n : Int
  s : ByteArray
/-- A set, as plain data. -/
structure SetP where
  col : Int
  op : Int
  src : Int
  other : Int
  v : Val
/-- No value, and no set. -/
def Val.zero : Val := ⟨false, 0, ⟨#[]⟩⟩
def SetP.zero : SetP := ⟨0, 0, 0, 0, Val.zero⟩
def Val.cells (x : Val) : List Value := [.bool x.t, .int .i64 x.n, .string x.s]
def SetP.cells (x : SetP) : List Value := [.int .i64 x.col, .int .i64 x.op, .int .i64 x.src, .int .i64 x.other, .bool x.v.t, .int .i64 x.v.n, .string x.v.s]

/-- A slice's cells lie in memory, one behind the other. -/
def Lies (w : World) (v : Value) (n : Nat) (xs : List Value) : Prop :=
  ∃ ao c, v = .slice ao n c ∧ n ≤ c ∧ c ≤ maxLen ∧ (ao = none → n = 0 ∧ c = 0) ∧ (xs = [] ∨ ∃ b o, ao = some ⟨b, o, none⟩ ∧ ∀ j u, xs[j]? = some u → w.cell? ⟨b, o + j, none⟩ = some u)
def RowIn (w : World) (v : Value) (xs : List Val) : Prop := Lies w v xs.length (xs.flatMap Val.cells)
def SetsIn (w : World) (v : Value) (xs : List SetP) : Prop := Lies w v xs.length (xs.flatMap SetP.cells)
def BoolsIn (w : World) (v : Value) (xs : List Bool) : Prop := Lies w v xs.length (xs.map .bool)

theorem flat_at {α : Type} (f : α → List Value) (m : Nat) (hf : ∀ x, (f x).length = m) (xs : List α) (k r : Nat) (hk : k < xs.length) (hr : r < m) :
    (xs.flatMap f)[k * m + r]? = (f xs[k])[r]? := by
  induction xs generalizing k with
  | nil => simp at hk
  | cons x l ih =>
    cases k with
    | zero => simp [List.getElem?_append_left (show r < (f x).length by rw [hf]; exact hr)]
    | succ k =>
      have e : (k + 1) * m + r = (f x).length + (k * m + r) := by rw [hf, Nat.succ_mul]; omega
      rw [List.flatMap_cons, e, List.getElem?_append_right (by omega), Nat.add_sub_cancel_left]
      simpa using ih k (by simpa using hk)
theorem flat_length {α : Type} (f : α → List Value) (m : Nat) (hf : ∀ x, (f x).length = m) (xs : List α) : (xs.flatMap f).length = xs.length * m := by
  induction xs with
  | nil => simp
  | cons x l ih => rw [List.flatMap_cons, List.length_append, ih, hf, List.length_cons, Nat.succ_mul]; omega

theorem Lies.below {w w' : World} {v : Value} {n : Nat} {xs : List Value} (h : Lies w v n xs) (hb : Below w.heap.size w w') : Lies w' v n xs := by
  obtain ⟨ao, c, rfl, h1, h2, h0, h3⟩ := h
  refine ⟨ao, c, rfl, h1, h2, h0, ?_⟩
  rcases h3 with h3 | ⟨b, o, e, h3⟩
  · exact .inl h3
  · refine .inr ⟨b, o, e, fun j u hj => ?_⟩
    have := h3 j u hj
    rw [hb.cell (World.block_lt_of_cell? w _ this)]; exact this
theorem Lies.alloc {w : World} {v : Value} {n : Nat} {xs : List Value} (h : Lies w v n xs) (o : Obj) : Lies (w.alloc o) v n xs := h.below ((Below.refl _ _).alloc (Nat.le_refl _) _)
theorem Lies.drew {w : World} {v : Value} {n : Nat} {xs : List Value} (h : Lies w v n xs) : Lies w.drew v n xs := h.below (Below.refl _ _).drew
theorem RowIn.below {w w' : World} {v : Value} {xs : List Val} (h : RowIn w v xs) (hb : Below w.heap.size w w') : RowIn w' v xs := Lies.below h hb
theorem SetsIn.below {w w' : World} {v : Value} {xs : List SetP} (h : SetsIn w v xs) (hb : Below w.heap.size w w') : SetsIn w' v xs := Lies.below h hb
theorem BoolsIn.below {w w' : World} {v : Value} {xs : List Bool} (h : BoolsIn w v xs) (hb : Below w.heap.size w w') : BoolsIn w' v xs := Lies.below h hb
/-- The slice's value, and a bound on its length. -/
theorem Lies.slice {w : World} {v : Value} {n : Nat} {xs : List Value} (h : Lies w v n xs) : ∃ ao c, v = .slice ao n c ∧ n ≤ 9223372036854775807 := by
  obtain ⟨ao, c, rfl, h1, h2, h0, h3⟩ := h
  exact ⟨ao, c, rfl, by simp only [maxLen] at h2; omega⟩

theorem RowIn.at {w : World} {ao : Option Addr} {c n : Nat} {xs : List Val} (h : RowIn w (.slice ao n c) xs) (k : Nat) (hk : k < xs.length) :
    ∃ b o, ao = some ⟨b, o, none⟩ ∧ w.cell? ⟨b, o + k * 3, none⟩ = some (.bool xs[k].t) ∧ w.cell? ⟨b, o + k * 3 + 1, none⟩ = some (.int .i64 xs[k].n) ∧ w.cell? ⟨b, o + k * 3 + 2, none⟩ = some (.string xs[k].s) := by
  obtain ⟨ao', c', e, h1, h2, h0, h3⟩ := h
  cases e
  have hf : ∀ x : Val, x.cells.length = 3 := fun x => rfl
  rcases h3 with h3 | ⟨b, o, rfl, h3⟩
  · have := flat_length Val.cells 3 hf xs; rw [h3] at this; simp at this; omega
  · refine ⟨b, o, rfl, ?_, ?_, ?_⟩
    · exact h3 (k * 3) _ (by rw [show k * 3 = k * 3 + 0 by omega, flat_at _ 3 hf xs k 0 hk (by omega)]; rfl)
    · exact h3 (k * 3 + 1) _ (by rw [flat_at _ 3 hf xs k 1 hk (by omega)]; rfl)
    · exact h3 (k * 3 + 2) _ (by rw [flat_at _ 3 hf xs k 2 hk (by omega)]; rfl)
theorem SetsIn.at {w : World} {ao : Option Addr} {c n : Nat} {xs : List SetP} (h : SetsIn w (.slice ao n c) xs) (k : Nat) (hk : k < xs.length) :
    ∃ b o, ao = some ⟨b, o, none⟩ ∧ w.cell? ⟨b, o + k * 7, none⟩ = some (.int .i64 xs[k].col) ∧ w.cell? ⟨b, o + k * 7 + 1, none⟩ = some (.int .i64 xs[k].op) ∧ w.cell? ⟨b, o + k * 7 + 2, none⟩ = some (.int .i64 xs[k].src) ∧ w.cell? ⟨b, o + k * 7 + 3, none⟩ = some (.int .i64 xs[k].other)
     ∧ w.cell? ⟨b, o + k * 7 + 4, none⟩ = some (.bool xs[k].v.t) ∧ w.cell? ⟨b, o + k * 7 + 5, none⟩ = some (.int .i64 xs[k].v.n) ∧ w.cell? ⟨b, o + k * 7 + 6, none⟩ = some (.string xs[k].v.s) := by
  obtain ⟨ao', c', e, h1, h2, h0, h3⟩ := h
  cases e
  have hf : ∀ x : SetP, x.cells.length = 7 := fun x => rfl
  rcases h3 with h3 | ⟨b, o, rfl, h3⟩
  · have := flat_length SetP.cells 7 hf xs; rw [h3] at this; simp at this; omega
  · refine ⟨b, o, rfl, ?_, ?_, ?_, ?_, ?_, ?_, ?_⟩
    · exact h3 (k * 7) _ (by rw [show k * 7 = k * 7 + 0 by omega, flat_at _ 7 hf xs k 0 hk (by omega)]; rfl)
    · exact h3 (k * 7 + 1) _ (by rw [flat_at _ 7 hf xs k 1 hk (by omega)]; rfl)
    · exact h3 (k * 7 + 2) _ (by rw [flat_at _ 7 hf xs k 2 hk (by omega)]; rfl)
    · exact h3 (k * 7 + 3) _ (by rw [flat_at _ 7 hf xs k 3 hk (by omega)]; rfl)
    · exact h3 (k * 7 + 4) _ (by rw [flat_at _ 7 hf xs k 4 hk (by omega)]; rfl)
    · exact h3 (k * 7 + 5) _ (by rw [flat_at _ 7 hf xs k 5 hk (by omega)]; rfl)
    · exact h3 (k * 7 + 6) _ (by rw [flat_at _ 7 hf xs k 6 hk (by omega)]; rfl)
theorem BoolsIn.at {w : World} {ao : Option Addr} {c n : Nat} {xs : List Bool} (h : BoolsIn w (.slice ao n c) xs) (k : Nat) (hk : k < xs.length) :
    ∃ b o, ao = some ⟨b, o, none⟩ ∧ w.cell? ⟨b, o + k, none⟩ = some (.bool xs[k]) := by
  obtain ⟨ao', c', e, h1, h2, h0, h3⟩ := h
  cases e
  rcases h3 with h3 | ⟨b, o, rfl, h3⟩
  · have : xs = [] := by simpa using h3
    subst this; simp at hk
  · exact ⟨b, o, rfl, h3 k _ (by simp [hk])⟩
end Go.Proofs.Ytbfoplaccalegaa.Val
