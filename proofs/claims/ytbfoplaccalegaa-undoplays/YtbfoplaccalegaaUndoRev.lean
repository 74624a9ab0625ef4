/- What slices.Reverse does to entries: they stand turned, all else is as it was. -/
import Derived.Test.YtbfoplaccalegaaUndoPush
import Derived.Test.YtbfoplaccalegaaUndoShelf
namespace Go.Proofs.Ytbfoplaccalegaa.Val
open Go Go.RowKit Go.Sort Go.Shelf

abbrev noEn : Inhabited En := ⟨⟨0, Val.zero, [], .slice none 0 0⟩⟩
def fixR : Value → Value
  | .slice a n c => .slice a n c
  | _ => .slice none 0 0
/-- An entry's cells, whatever it holds for a row. -/
def encR (e : En) : List Value := [.int .i64 e.t, .bool e.k.t, .int .i64 e.k.n, .string e.k.s, fixR e.r]
theorem encR_one (e : En) : ∀ v ∈ encR e, v.oneCell' = true := by
  intro v hv
  simp only [encR, List.mem_cons, List.not_mem_nil, or_false] at hv
  rcases hv with rfl | rfl | rfl | rfl | rfl
  · rfl
  · rfl
  · rfl
  · rfl
  · cases e.r <;> rfl
theorem encR_eq {e : En} (h : ∃ ao n c, e.r = .slice ao n c) : encR e = e.cells := by
  obtain ⟨ao, n, c, h⟩ := h
  simp [encR, En.cells, h, fixR]
theorem ecells_R {l : List En} (h1 : ∀ x ∈ l, ∃ ao n c, x.r = .slice ao n c) : ecells l = l.flatMap encR := by
  induction l with
  | nil => rfl
  | cons x l ih =>
    rw [ecells, List.flatMap_cons, List.flatMap_cons, encR_eq (h1 x (by simp))]
    congr 1
    exact ih fun y hy => h1 y (by simp [hy])
theorem ecells_at [Inhabited En] {l : List En} (h1 : ∀ x ∈ l, ∃ ao n c, x.r = .slice ao n c) (j : Nat) (hj : j < l.length * 5) : (ecells l)[j]? = some ((flatK encR 5 l.toArray)[j]!) := by
  rw [get_flatK encR 5 l.toArray j (by simpa using hj), ecells_R h1]
  have hi : j / 5 < l.length := by omega
  have h := flat_at encR 5 (fun _ => rfl) l (j / 5) (j % 5) hi (by omega)
  rw [show j / 5 * 5 + j % 5 = j by omega] at h
  rw [h]
  have e1 : l.toArray[j / 5]! = l[j / 5] := by simp [hi]
  rw [e1, List.getElem?_eq_getElem (by show j % 5 < 5; omega), getElem!_pos]
/-- What it leaves as it was. -/
structure Turn (w w' : World) (q off n : Nat) : Prop where
  os : w'.os = w.os
  tape : w'.tape = w.tape
  output : w'.output = w.output
  size : w'.heap.size = w.heap.size
  block : ∀ k, k ≠ q → w'.heap[k]? = w.heap[k]?
  cell : ∀ b o, b ≠ q ∨ o < off ∨ off + n * 5 ≤ o → w'.cell? ⟨b, o, none⟩ = w.cell? ⟨b, o, none⟩
  own : ∀ cur T fr, w.heap[q]? = some (.cells cur T fr) → ∃ cur', w'.heap[q]? = some (.cells cur' T fr) ∧ cur'.size = cur.size
theorem rev_any (w : World) (q off cap : Nat) (l : List En) (hl : ∀ j u, (ecells l)[j]? = some u → w.cell? ⟨q, off + j, none⟩ = some u) (hf : ∀ j, w.frozen? ⟨q, j, none⟩ = false) (h1 : ∀ x ∈ l, ∃ ao n c, x.r = .slice ao n c) (hm : l.length ≤ 1000) :
    Calls Try.prog 30 #[.slice (some ⟨q, off, none⟩) l.length cap] w fun e w' => e = .returned (.tuple #[]) ∧ Turn w w' q off l.length ∧ (∀ j u, (ecells l.reverse)[j]? = some u → w'.cell? ⟨q, off + j, none⟩ = some u) := by
  haveI : Inhabited En := noEn
  have hH : HoldsK encR 5 w q off l.toArray := fun j hj => by
    rw [size_flatK] at hj
    refine ⟨?_, hf _⟩
    have hj' : j < l.length * 5 := by simpa using hj
    exact hl j _ (ecells_at h1 j hj')
  have hc := AnyQ.slices_Reverse reverse_laid 5 Try.isAgg36 Try.sizeOf36 encR (fun _ => rfl) encR_one q off cap l.toArray w hH (by simp; omega)
  refine Calls.mono hc ?_
  rintro e w' ⟨rfl, n, rfl⟩
  have hsz : (flatK encR 5 l.toArray.reverse).size = l.length * 5 := by simp
  refine ⟨rfl, ⟨rfl, rfl, rfl, by simp [putRowK, putRow, mapBlock, Sort.ahead], fun k hk => ?_, fun b o h => ?_, fun cur T fr hb => ?_⟩, fun j u hj => ?_⟩
  · simp [putRowK, putRow, mapBlock, Sort.ahead, Array.getElem?_modify, Ne.symm hk]
  · refine (cell?_putRow_other id (Sort.ahead w n) q off _ ⟨b, o, none⟩ ?_).trans rfl
    rw [hsz]; exact h
  · refine ⟨putCells id off (flatK encR 5 l.toArray.reverse) cur, ?_, by simp [putCells]⟩
    simp [putRowK, putRow, mapBlock, Sort.ahead, Array.getElem?_modify, hb, onCells]
  · have hlen : j < l.length * 5 := by
      have := (List.getElem?_eq_some_iff.1 hj).1
      rw [ecells_length, List.length_reverse] at this; exact this
    have h2 : ∀ x ∈ l.reverse, ∃ ao n c, x.r = .slice ao n c := fun x hx => h1 x (List.mem_reverse.1 hx)
    have e1 := ecells_at h2 j (by rw [List.length_reverse]; exact hlen)
    rw [hj] at e1
    injection e1 with e1
    have := cell?_putRow id (Sort.ahead w n) q off (flatK encR 5 l.toArray) (flatK encR 5 l.toArray.reverse) hH (by simp) j (by rw [hsz]; exact hlen)
    rw [show l.toArray.reverse = l.reverse.toArray by simp] at this ⊢
    rw [e1]; exact this
end Go.Proofs.Ytbfoplaccalegaa.Val
