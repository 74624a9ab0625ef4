/- Entries pushed one behind the other; entries that were handed in, one by one. -/
import Derived.Test.YtbfoplaccalegaaLawUSaves
namespace Go.Proofs.Ytbfoplaccalegaa.Val
open Go Go.RowKit

def pushAll (L : Lg) (l : List En) : Lg := l.foldl Lg.push L
theorem pushAll_next (L : Lg) (l : List En) (k : Nat) (hk : k < l.length) : pushAll L (l.take (k + 1)) = (pushAll L (l.take k)).push l[k] := by
  rw [← List.take_append_getElem hk, pushAll, List.foldl_append]; rfl
theorem pushAll_facts (L : Lg) (l : List En) (h : L.es.length + l.length ≤ L.room) :
    (pushAll L l).es = L.es ++ l ∧ (pushAll L l).room = L.room ∧ (∀ n, (pushAll L l).get n = L.get n) ∧ (pushAll L l).met.length ≤ L.met.length + l.length := by
  induction l generalizing L with
  | nil => exact ⟨by simp [pushAll], rfl, fun _ => rfl, by simp [pushAll]⟩
  | cons e l ih =>
    simp only [List.length_cons] at h
    obtain ⟨a, b, c⟩ := push_facts L e (by omega)
    have hm := push_met L e
    obtain ⟨a1, b1, c1, d1⟩ := ih (L.push e) (by rw [a, b]; simp; omega)
    refine ⟨?_, b1.trans b, fun n => (c1 n).trans (c n), ?_⟩
    · show (pushAll (L.push e) l).es = _
      rw [a1, a, List.append_assoc]; rfl
    · show (pushAll (L.push e) l).met.length ≤ _
      simp only [List.length_cons]; omega
theorem newr_get (r : Nat) (n : Int) : (newL r).get n = none := by
  unfold Lg.get newL
  split
  · rfl
  · split <;> rfl
/-- Entries that lie there, one by one. -/
theorem ents_at {w : World} {ao : Option Addr} {n c : Nat} {l : List En} (h : Lies w (.slice ao n c) l.length (ecells l)) (k : Nat) (hk : k < l.length) :
    ∃ b o, ao = some ⟨b, o, none⟩ ∧ w.cell? ⟨b, o + k * 5, none⟩ = some (.int .i64 l[k].t) ∧ w.cell? ⟨b, o + k * 5 + 1, none⟩ = some (.bool l[k].k.t) ∧ w.cell? ⟨b, o + k * 5 + 2, none⟩ = some (.int .i64 l[k].k.n) ∧
      w.cell? ⟨b, o + k * 5 + 3, none⟩ = some (.string l[k].k.s) ∧ w.cell? ⟨b, o + k * 5 + 4, none⟩ = some l[k].r := by
  obtain ⟨ao', c', e, h1, h2, h0, h3⟩ := h
  cases e
  rcases h3 with h3 | ⟨b, o, rfl, h3⟩
  · have := ecells_length l; rw [h3] at this; simp at this; omega
  · have at' : ∀ j u, j < 5 → l[k].cells[j]? = some u → w.cell? ⟨b, o + (k * 5 + j), none⟩ = some u := fun j u hj hu =>
      h3 (k * 5 + j) u (by rw [flat_at En.cells 5 En.cells_length l k j hk hj]; exact hu)
    exact ⟨b, o, rfl, at' 0 _ (by omega) rfl, at' 1 _ (by omega) rfl, at' 2 _ (by omega) rfl, at' 3 _ (by omega) rfl, at' 4 _ (by omega) rfl⟩
theorem GoodE.below {w w' : World} {e : En} (g : GoodE w e) (hb : Below w.heap.size w w') : GoodE w' e := ⟨g.1, g.2.1.below hb, g.2.2⟩
end Go.Proofs.Ytbfoplaccalegaa.Val
