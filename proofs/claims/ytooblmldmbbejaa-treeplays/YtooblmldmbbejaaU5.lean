/- An item of a node's row written. Plain facts; no function of the program. -/
import Derived.Test.YtooblmldmbbejaaU4
namespace Go.Proofs.Ytooblmldmbbejaa.Val
open Go Go.RowKit

theorem arr_item (cur : List Value) (o : Nat) (a b c d e : Value) (h : o + 5 ≤ cur.length) :
    ((((cur.toArray.setIfInBounds o a).setIfInBounds (o + 1) b).setIfInBounds (o + 2) c).setIfInBounds (o + 3) d).setIfInBounds (o + 4) e = (splice cur o [a, b, c, d, e]).toArray := by
  apply Array.toList_inj.1
  simp only [Array.toList_setIfInBounds]
  apply List.ext_getElem?
  intro j
  rw [splice_get _ _ _ (by simpa using h)]
  simp only [List.getElem?_set, List.length_set]
  have hl : ([a, b, c, d, e] : List Value).length = 5 := rfl
  by_cases c0 : o ≤ j ∧ j < o + 5
  · obtain ⟨q, rfl⟩ : ∃ q, j = o + q := ⟨j - o, by omega⟩
    have hq : q < 5 := by omega
    match q, hq with
    | 0, _ => simp [show o < cur.length by omega]
    | 1, _ => simp [show o + 1 < cur.length by omega]
    | 2, _ => simp [show o + 2 < cur.length by omega]
    | 3, _ => simp [show o + 3 < cur.length by omega]
    | 4, _ => simp [show o + 4 < cur.length by omega]
  · rw [if_neg (by omega), if_neg (by omega), if_neg (by omega), if_neg (by omega), if_neg (by omega), if_neg (by omega)]
theorem store_item (w : World) (g o : Nat) (cur : List Value) (hg : w.heap[g]? = some (.cells cur.toArray TI (0, 0))) (a b c d e : Value) (h : o + 5 ≤ cur.length) :
    ((((w.setCell ⟨g, o, none⟩ a).setCell ⟨g, o + 1, none⟩ b).setCell ⟨g, o + 2, none⟩ c).setCell ⟨g, o + 3, none⟩ d).setCell ⟨g, o + 4, none⟩ e = w.setRow g (splice cur o [a, b, c, d, e]).toArray := by
  have h1 := setCell_eq_setRow w g o cur.toArray TI (0, 0) a hg
  rw [h1]
  have g1 := setRow_heap w g _ (cur.toArray.setIfInBounds o a) TI (0, 0) hg
  rw [setCell_eq_setRow _ g (o + 1) _ TI (0, 0) b g1, setRow_setRow]
  have g2 := setRow_heap w g _ ((cur.toArray.setIfInBounds o a).setIfInBounds (o + 1) b) TI (0, 0) hg
  rw [setCell_eq_setRow _ g (o + 2) _ TI (0, 0) c g2, setRow_setRow]
  have g3 := setRow_heap w g _ (((cur.toArray.setIfInBounds o a).setIfInBounds (o + 1) b).setIfInBounds (o + 2) c) TI (0, 0) hg
  rw [setCell_eq_setRow _ g (o + 3) _ TI (0, 0) d g3, setRow_setRow]
  have g4 := setRow_heap w g _ ((((cur.toArray.setIfInBounds o a).setIfInBounds (o + 1) b).setIfInBounds (o + 2) c).setIfInBounds (o + 3) d) TI (0, 0) hg
  rw [setCell_eq_setRow _ g (o + 4) _ TI (0, 0) e g4, setRow_setRow]
  rw [arr_item cur o a b c d e h]
theorem store_val (w : World) (g o : Nat) (cur : List Value) (hg : w.heap[g]? = some (.cells cur.toArray TI (0, 0))) (a : Value) (h : o + 1 ≤ cur.length) :
    w.setCell ⟨g, o, none⟩ a = w.setRow g (splice cur o [a]).toArray := by
  rw [setCell_eq_setRow w g o cur.toArray TI (0, 0) a hg]
  congr 1
  apply Array.toList_inj.1
  simp only [Array.toList_setIfInBounds]
  apply List.ext_getElem?
  intro j
  rw [splice_get _ _ _ (by simpa using h)]
  simp only [List.getElem?_set]
  have hl : ([a] : List Value).length = 1 := rfl
  by_cases c0 : o = j
  · subst c0
    rw [if_pos rfl, if_pos (by omega), if_pos (by omega)]; simp
  · rw [if_neg c0, if_neg (by omega)]
theorem set_parts (r : List It) (p : Nat) (x : It) (hp : p < r.length) : r.set p x = r.take p ++ ([x] ++ r.drop (p + 1)) := by
  rw [List.set_eq_take_append_cons_drop, if_pos hp]; rfl
theorem row_parts (r : List It) (p : Nat) (hp : p < r.length) : r = r.take p ++ ([r[p]] ++ r.drop (p + 1)) := by
  conv => lhs; rw [← List.take_append_drop p r, List.drop_eq_getElem_cons hp]
  rfl
section
variable {w : World} {h : Hd} {R : Nat → List It} {F : Nat → Nat} {m : Nat} {fr : List Nat} {root dep cnt : Nat}
theorem TMx.putItem (t : TM w h R F m fr root dep cnt) (g cap : Nat) (hav : h.av = .slice (some ⟨g, 0, none⟩) (m * 5) cap) (a p : Nat) (ha : a < m) (hp : p < (R a).length) (x : It) :
    TM (((((w.setCell ⟨g, a * 25 + p * 5, none⟩ (.bool x.k.t)).setCell ⟨g, a * 25 + p * 5 + 1, none⟩ (.int .i64 x.k.n)).setCell ⟨g, a * 25 + p * 5 + 2, none⟩ (.string x.k.s)).setCell ⟨g, a * 25 + p * 5 + 3, none⟩ (.int .i64 x.v)).setCell ⟨g, a * 25 + p * 5 + 4, none⟩ (.int .i64 x.d)) h (upd R a ((R a).set p x)) F m fr root dep cnt ∧
    Mv w h (((((w.setCell ⟨g, a * 25 + p * 5, none⟩ (.bool x.k.t)).setCell ⟨g, a * 25 + p * 5 + 1, none⟩ (.int .i64 x.k.n)).setCell ⟨g, a * 25 + p * 5 + 2, none⟩ (.string x.k.s)).setCell ⟨g, a * 25 + p * 5 + 3, none⟩ (.int .i64 x.v)).setCell ⟨g, a * 25 + p * 5 + 4, none⟩ (.int .i64 x.d)) h := by
  obtain ⟨g', cap', cur, e', hg, hc1, hc2, hc3, hr⟩ := t.arenaAt (by omega)
  rw [e'] at hav
  cases hav
  have h5 := (hr a ha).1
  have hseg := (hr a ha).2
  rw [row_parts (R a) p hp, icells_append, icells_append] at hseg
  have l1 := icells_length ((R a).take p)
  have l3 := icells_length ((R a).drop (p + 1))
  have e1 : ((R a).take p).length = p := by simp; omega
  have e3 : ((R a).drop (p + 1)).length = (R a).length - (p + 1) := by simp
  rw [e1] at l1
  rw [e3] at l3
  have hcur : a * 25 + 25 ≤ cur.length := by omega
  have hx : x.cells.length = 5 := rfl
  rw [store_item w g (a * 25 + p * 5) cur hg _ _ _ _ _ (by omega)]
  have s1 := hseg.left
  have s3 := hseg.right.right
  rw [l1, show (icells [(R a)[p]]).length = 5 from rfl] at s3
  have fit : a * 25 + p * 5 + x.cells.length ≤ cur.length := by omega
  have := t.node g cap cur (splice cur (a * 25 + p * 5) x.cells) e' hg a (Node.put fit (by omega) (by omega)) ((R a).set p x) (by simpa using h5) (by
    rw [set_parts _ _ _ hp, icells_append, icells_append]
    refine (s1.far fit (by omega)).app ?_
    rw [l1]
    refine Seg.app ?_ ?_
    · simpa [icells] using Seg.put cur (a * 25 + p * 5) x.cells fit
    · rw [show (icells [x]).length = 5 from rfl]
      exact s3.far fit (.inr (by omega)))
  exact ⟨this.1, this.2.2⟩
theorem TMx.putVal (t : TM w h R F m fr root dep cnt) (g cap : Nat) (hav : h.av = .slice (some ⟨g, 0, none⟩) (m * 5) cap) (a p : Nat) (ha : a < m) (hp : p < (R a).length) (v : Int) :
    TM (w.setCell ⟨g, a * 25 + p * 5 + 3, none⟩ (.int .i64 v)) h (upd R a ((R a).set p ⟨(R a)[p].k, v, (R a)[p].d⟩)) F m fr root dep cnt ∧ Mv w h (w.setCell ⟨g, a * 25 + p * 5 + 3, none⟩ (.int .i64 v)) h := by
  obtain ⟨g', cap', cur, e', hg, hc1, hc2, hc3, hr⟩ := t.arenaAt (by omega)
  rw [e'] at hav
  cases hav
  have h5 := (hr a ha).1
  have hseg := (hr a ha).2
  rw [row_parts (R a) p hp, icells_append, icells_append] at hseg
  have l1 := icells_length ((R a).take p)
  have l3 := icells_length ((R a).drop (p + 1))
  have e1 : ((R a).take p).length = p := by simp; omega
  have e3 : ((R a).drop (p + 1)).length = (R a).length - (p + 1) := by simp
  rw [e1] at l1
  rw [e3] at l3
  have hcur : a * 25 + 25 ≤ cur.length := by omega
  rw [store_val w g (a * 25 + p * 5 + 3) cur hg _ (by omega)]
  have s1 := hseg.left
  have s2 := hseg.right.left
  have s3 := hseg.right.right
  rw [l1, show (icells [(R a)[p]]).length = 5 from rfl] at s3
  rw [l1] at s2
  have fit : a * 25 + p * 5 + 3 + ([Value.int .i64 v] : List Value).length ≤ cur.length := by show _ + 1 ≤ _; omega
  have := t.node g cap cur (splice cur (a * 25 + p * 5 + 3) [.int .i64 v]) e' hg a (Node.put fit (by omega) (by show _ + 1 ≤ _; omega)) ((R a).set p ⟨(R a)[p].k, v, (R a)[p].d⟩) (by simpa using h5) (by
    rw [set_parts _ _ _ hp, icells_append, icells_append]
    refine (s1.far fit (.inl (by omega))).app ?_
    rw [l1]
    refine Seg.app (fun j u hj => ?_) ?_
    · rw [splice_get _ _ _ fit]
      have hj5 : j < 5 := (List.getElem?_eq_some_iff.1 hj).1
      by_cases c : j = 3
      · subst c
        rw [if_pos ⟨by omega, by show _ < _ + 1; omega⟩]
        simpa [icells, It.cells] using hj
      · rw [if_neg (by intro hc; have := hc.2; simp at this; omega)]
        refine s2 j u ?_
        match j, hj5, c with
        | 0, _, _ => exact hj
        | 1, _, _ => exact hj
        | 2, _, _ => exact hj
        | 4, _, _ => exact hj
    · rw [show (icells [(⟨(R a)[p].k, v, (R a)[p].d⟩ : It)]).length = 5 from rfl]
      exact s3.far fit (.inr (by show _ + 1 ≤ _; omega)))
  exact ⟨this.1, this.2.2⟩
end
end Go.Proofs.Ytooblmldmbbejaa.Val

