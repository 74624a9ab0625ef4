/- An item of a node's row written. Plain facts; no function of the program. -/
import Derived.Test.YtafkpfhhmmnpeaaU4
import Derived.Laws.IdiomCopy
namespace Go.Proofs.Ytafkpfhhmmnpeaa.Val
open Go Go.RowKit
set_option maxRecDepth 100000

theorem splice_cons (cur : List Value) (o : Nat) (c : Value) (cs : List Value) (h : o + (c :: cs).length ≤ cur.length) : splice (splice cur o [c]) (o + 1) cs = splice cur o (c :: cs) := by
  simp only [List.length_cons] at h
  have l1 : (splice cur o [c]).length = cur.length := length_splice _ _ _ (by simp; omega)
  apply List.ext_getElem?
  intro j
  rw [splice_get _ _ _ (by rw [l1]; omega), splice_get _ _ _ (by simp; omega), splice_get _ _ _ (by simp; omega)]
  simp only [List.length_cons, List.length_nil]
  by_cases c1 : o + 1 ≤ j ∧ j < o + 1 + cs.length
  · rw [if_pos c1, if_pos (by omega)]
    obtain ⟨q, rfl⟩ : ∃ q, j = o + 1 + q := ⟨j - (o + 1), by omega⟩
    rw [show o + 1 + q - (o + 1) = q by omega, show o + 1 + q - o = q + 1 by omega, List.getElem?_cons_succ]
  · rw [if_neg c1]
    by_cases c2 : o = j
    · subst c2
      rw [if_pos (by omega), if_pos (by omega)]; simp
    · rw [if_neg (by omega), if_neg (by omega)]
theorem store_val (w : World) (g o : Nat) (cur : List Value) (hg : w.heap[g]? = some (.cells cur.toArray TI (0, 0))) (a : Value) (h : o + 1 ≤ cur.length) :
    w.setCell ⟨g, o, none⟩ a = w.setRow g (splice cur o [a]).toArray := by
  rw [setCell_eq_setRow w g o cur.toArray TI (0, 0) a hg]
  congr 1
  apply Array.toList_inj.1
  simp only [Array.toList_setIfInBounds]
  apply List.ext_getElem?
  intro j
  rw [splice_get _ _ _ (by simpa using h)]
  simp only [List.getElem?_set]
  have hl : ([a] : List Value).length = 1 := rfl
  by_cases c0 : o = j
  · subst c0
    rw [if_pos rfl, if_pos (by omega), if_pos (by omega)]; simp
  · rw [if_neg c0, if_neg (by omega)]
theorem store_cells (g : Nat) : ∀ (cs : List Value) (w : World) (o : Nat) (cur : List Value), w.heap[g]? = some (.cells cur.toArray TI (0, 0)) → o + cs.length ≤ cur.length → w.setCells g o cs = w.setRow g (splice cur o cs).toArray := by
  intro cs
  induction cs with
  | nil =>
    intro w o cur hg _
    have e : splice cur o [] = cur := by simp [splice]
    rw [e, setRow_self w g _ _ _ hg]; rfl
  | cons c cs ih =>
    intro w o cur hg h
    simp only [List.length_cons] at h
    show (w.setCell ⟨g, o, none⟩ c).setCells g (o + 1) cs = _
    rw [store_val w g o cur hg c (by omega)]
    have l1 : (splice cur o [c]).length = cur.length := length_splice _ _ _ (by simp; omega)
    have g1 := setRow_heap w g _ (splice cur o [c]).toArray TI (0, 0) hg
    rw [ih _ (o + 1) _ g1 (by rw [l1]; omega), setRow_setRow, splice_cons _ _ _ _ (by simp; omega)]
theorem set_parts (r : List It) (p : Nat) (x : It) (hp : p < r.length) : r.set p x = r.take p ++ ([x] ++ r.drop (p + 1)) := by
  rw [List.set_eq_take_append_cons_drop, if_pos hp]; rfl
theorem row_parts (r : List It) (p : Nat) (hp : p < r.length) : r = r.take p ++ ([r[p]] ++ r.drop (p + 1)) := by
  conv => lhs; rw [← List.take_append_drop p r, List.drop_eq_getElem_cons hp]
  rfl
section
variable {w : World} {h : Hd} {R : Nat → List It} {F : Nat → Nat} {m : Nat} {fr : List Nat} {root dep cnt : Nat}
theorem TMx.putItem (t : TM w h R F m fr root dep cnt) (g cap : Nat) (hav : h.av = .slice (some ⟨g, 0, none⟩) (m * 5) cap) (a p : Nat) (ha : a < m) (hp : p < (R a).length) (x : It) :
    TM (w.setCells g (a * 90 + p * 18) x.cells) h (upd R a ((R a).set p x)) F m fr root dep cnt ∧
    Mv w h (w.setCells g (a * 90 + p * 18) x.cells) h := by
  obtain ⟨g', cap', cur, e', hg, hc1, hc2, hc3, hr⟩ := t.arenaAt (by omega)
  rw [e'] at hav
  cases hav
  have h5 := (hr a ha).1
  have hseg := (hr a ha).2
  rw [row_parts (R a) p hp, icells_append, icells_append] at hseg
  have l1 := icells_length ((R a).take p)
  have l3 := icells_length ((R a).drop (p + 1))
  have e1 : ((R a).take p).length = p := by simp; omega
  have e3 : ((R a).drop (p + 1)).length = (R a).length - (p + 1) := by simp
  rw [e1] at l1
  rw [e3] at l3
  have hcur : a * 90 + 90 ≤ cur.length := by omega
  have hx : x.cells.length = 18 := rfl
  have hst := store_cells g x.cells w (a * 90 + p * 18) cur hg (by omega)
  show TM (w.setCells g (a * 90 + p * 18) x.cells) _ _ _ _ _ _ _ _ ∧ Mv w h (w.setCells g (a * 90 + p * 18) x.cells) h
  rw [hst]
  have s1 := hseg.left
  have s3 := hseg.right.right
  rw [l1, show (icells [(R a)[p]]).length = 18 from rfl] at s3
  have fit : a * 90 + p * 18 + x.cells.length ≤ cur.length := by omega
  have := t.node g cap cur (splice cur (a * 90 + p * 18) x.cells) e' hg a (Node.put fit (by omega) (by omega)) ((R a).set p x) (by simpa using h5) (by
    rw [set_parts _ _ _ hp, icells_append, icells_append]
    refine (s1.far fit (by omega)).app ?_
    rw [l1]
    refine Seg.app ?_ ?_
    · simpa [icells] using Seg.put cur (a * 90 + p * 18) x.cells fit
    · rw [show (icells [x]).length = 18 from rfl]
      exact s3.far fit (.inr (by omega)))
  exact ⟨this.1, this.2.2⟩
/-- The cells of a key, and of a value. -/
def kcells (k : Val) : List Value := [.bool k.t, .int .i64 k.n, .string k.s]
def vcells (v : Pl) : List Value := [.bool v.a.t, .int .i64 v.a.n, .string v.a.s, .bool v.b.t, .int .i64 v.b.n, .string v.b.s, .bool v.c.t, .int .i64 v.c.n, .string v.c.s, .bool v.d.t, .int .i64 v.d.n, .string v.d.s, .int .i64 v.w, .int .i64 v.m]
theorem TMx.putVal (t : TM w h R F m fr root dep cnt) (g cap : Nat) (hav : h.av = .slice (some ⟨g, 0, none⟩) (m * 5) cap) (a p : Nat) (ha : a < m) (hp : p < (R a).length) (v : Pl) :
    TM (w.setCells g (a * 90 + p * 18 + 3) (vcells v)) h (upd R a ((R a).set p ⟨(R a)[p].k, v, (R a)[p].d⟩)) F m fr root dep cnt ∧ Mv w h (w.setCells g (a * 90 + p * 18 + 3) (vcells v)) h := by
  obtain ⟨g', cap', cur, e', hg, hc1, hc2, hc3, hr⟩ := t.arenaAt (by omega)
  rw [e'] at hav
  cases hav
  have h5 := (hr a ha).1
  have hseg := (hr a ha).2
  rw [row_parts (R a) p hp, icells_append, icells_append] at hseg
  have l1 := icells_length ((R a).take p)
  have l3 := icells_length ((R a).drop (p + 1))
  have e1 : ((R a).take p).length = p := by simp; omega
  have e3 : ((R a).drop (p + 1)).length = (R a).length - (p + 1) := by simp
  rw [e1] at l1
  rw [e3] at l3
  have hcur : a * 90 + 90 ≤ cur.length := by omega
  have hvl : (vcells v).length = 14 := rfl
  have hkl : (kcells (R a)[p].k).length = 3 := rfl
  have fit : a * 90 + p * 18 + 3 + (vcells v).length ≤ cur.length := by omega
  have hst := store_cells g (vcells v) w (a * 90 + p * 18 + 3) cur hg fit
  show TM (w.setCells g (a * 90 + p * 18 + 3) (vcells v)) _ _ _ _ _ _ _ _ ∧ Mv w h (w.setCells g (a * 90 + p * 18 + 3) (vcells v)) h
  rw [hst]
  have s1 := hseg.left
  have s2 := hseg.right.left
  have s3 := hseg.right.right
  rw [l1, show (icells [(R a)[p]]).length = 18 from rfl] at s3
  rw [l1] at s2
  have s2' : Seg cur (a * 90 + p * 18) (kcells (R a)[p].k ++ (vcells (R a)[p].v ++ [.int .i64 (R a)[p].d])) := s2
  have q1 := s2'.left
  have q3 := s2'.right.right
  rw [hkl, show (vcells (R a)[p].v).length = 14 from rfl] at q3
  have := t.node g cap cur (splice cur (a * 90 + p * 18 + 3) (vcells v)) e' hg a (Node.put fit (by omega) (by omega)) ((R a).set p ⟨(R a)[p].k, v, (R a)[p].d⟩) (by simpa using h5) (by
    rw [set_parts _ _ _ hp, icells_append, icells_append]
    refine (s1.far fit (.inl (by omega))).app ?_
    rw [l1]
    refine Seg.app ?_ ?_
    · show Seg _ _ (kcells (R a)[p].k ++ (vcells v ++ [.int .i64 (R a)[p].d]))
      refine (q1.far fit (.inl (by omega))).app ?_
      rw [hkl]
      refine (Seg.put _ _ _ fit).app ?_
      rw [hvl]
      exact q3.far fit (.inr (by omega))
    · rw [show (icells [(⟨(R a)[p].k, v, (R a)[p].d⟩ : It)]).length = 18 from rfl]
      exact s3.far fit (.inr (by omega)))
  exact ⟨this.1, this.2.2⟩
end
end Go.Proofs.Ytafkpfhhmmnpeaa.Val

