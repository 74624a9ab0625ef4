/- What stands in the list of keys that were met. Plain facts. -/
import Derived.Test.YtbfoplaccalegaaUndoPushes
namespace Go.Proofs.Ytbfoplaccalegaa.Val
open Go Go.RowKit

def En.sp (e : En) : Spot := (e.t, e.k)
def meets (m : List Spot) (e : En) : List Spot := if inMet m e.sp then m else m ++ [e.sp]
def mets (l : List En) : List Spot := l.foldl meets []
def anyS (l : List En) (s : Spot) : Bool := l.any fun e => e.t == s.1 && eqV e.k s.2
theorem mets_next (l : List En) (k : Nat) (hk : k < l.length) : mets (l.take (k + 1)) = meets (mets (l.take k)) l[k] := by
  rw [← List.take_append_getElem hk, mets, List.foldl_append]; rfl
theorem meets_mem (m : List Spot) (e : En) (s : Spot) : s ∈ meets m e ↔ s ∈ m ∨ s = e.sp := by
  unfold meets
  split
  · rename_i h
    exact ⟨.inl, fun h1 => h1.elim id fun h2 => h2 ▸ inMet_iff.1 h⟩
  · simp
theorem mets_from (m : List Spot) (l : List En) (s : Spot) : s ∈ l.foldl meets m ↔ s ∈ m ∨ ∃ e ∈ l, e.sp = s := by
  induction l generalizing m with
  | nil => simp
  | cons e l ih =>
    rw [List.foldl_cons, ih, meets_mem]
    constructor
    · rintro ((h | h) | ⟨x, hx, h⟩)
      · exact .inl h
      · exact .inr ⟨e, by simp, h.symm⟩
      · exact .inr ⟨x, by simp [hx], h⟩
    · rintro (h | ⟨x, hx, h⟩)
      · exact .inl (.inl h)
      · rcases List.mem_cons.1 hx with rfl | hx
        · exact .inl (.inr h.symm)
        · exact .inr ⟨x, hx, h⟩
theorem anyS_iff (l : List En) (s : Spot) : anyS l s = true ↔ s ∈ mets l := by
  rw [mets, mets_from]
  simp only [anyS, List.any_eq_true, Bool.and_eq_true, beq_iff_eq, eqV_iff, List.not_mem_nil, false_or]
  constructor
  · rintro ⟨e, he, h1, h2⟩
    exact ⟨e, he, Prod.ext h1 h2⟩
  · rintro ⟨e, he, rfl⟩
    exact ⟨e, he, rfl, rfl⟩
theorem inMet_any (l : List En) (s : Spot) : inMet (mets l) s = anyS l s := by
  rw [Bool.eq_iff_iff, inMet_iff, anyS_iff]
theorem anyS_next (l : List En) (s : Spot) (q : Nat) (hq : q < l.length) : anyS (l.take (q + 1)) s = (anyS (l.take q) s || (l[q].t == s.1 && eqV l[q].k s.2)) := by
  rw [← List.take_append_getElem hq, anyS, anyS, List.any_append]; simp
theorem foldl_pre (m : List Spot) (l : List En) : m <+: l.foldl meets m := by
  induction l generalizing m with
  | nil => exact List.prefix_refl _
  | cons e l ih =>
    refine List.IsPrefix.trans ?_ (ih _)
    unfold meets
    split
    · exact List.prefix_refl _
    · exact List.prefix_append _ _
theorem mets_pre (l : List En) (k : Nat) : mets (l.take k) <+: mets l := by
  have h : l.foldl meets [] = (l.drop k).foldl meets ((l.take k).foldl meets []) := by rw [← List.foldl_append, List.take_append_drop]
  show (l.take k).foldl meets [] <+: l.foldl meets []
  rw [h]; exact foldl_pre _ _
/-- A key that is new stands at its place. -/
theorem mets_at (l : List En) (k : Nat) (hk : k < l.length) (h : anyS (l.take k) l[k].sp = false) : ∃ hl : (mets (l.take k)).length < (mets l).length, (mets l)[(mets (l.take k)).length] = l[k].sp ∧ (mets (l.take (k + 1))).length = (mets (l.take k)).length + 1 := by
  have h1 : mets (l.take (k + 1)) = mets (l.take k) ++ [l[k].sp] := by rw [mets_next l k hk, meets, inMet_any, h]; rfl
  obtain ⟨t, ht⟩ := mets_pre l (k + 1)
  have h2 : mets l = mets (l.take k) ++ ([l[k].sp] ++ t) := by rw [← ht, h1, List.append_assoc]
  refine ⟨by rw [h2]; simp, ?_, by rw [h1]; simp⟩
  simp only [h2]
  rw [List.getElem_append_right (Nat.le_refl _)]
  simp
theorem mets_old (l : List En) (k : Nat) (hk : k < l.length) (h : anyS (l.take k) l[k].sp = true) : mets (l.take (k + 1)) = mets (l.take k) := by
  rw [mets_next l k hk, meets, inMet_any, h]; rfl
/-- The log behind so many entries. -/
def mtS (L : Lg) (k : Nat) (e : En) : Lg := if k % 4 = 3 then (L.push e).back 0 else L.push e
def mt (l : List En) (n : Int) : Nat → Lg
  | 0 => (newL 60).put n (some 0)
  | k + 1 => match l[k]? with | some e => mtS (mt l n k) k e | none => mt l n k
theorem mt_next (l : List En) (n : Int) (k : Nat) (hk : k < l.length) : mt l n (k + 1) = mtS (mt l n k) k l[k] := by
  rw [mt, List.getElem?_eq_getElem hk]
theorem push_met_eq (L : Lg) (e : En) (h : L.es.length < L.room) : (L.push e).met = meets L.met e := by
  rw [Lg.push, if_pos h]
  show (L.meet (e.t, e.k)).met = _
  unfold Lg.meet meets
  split
  · rename_i h1; rw [if_pos (show inMet L.met e.sp = true from h1)]
  · rename_i h1; rw [if_neg (show ¬ inMet L.met e.sp = true from h1)]; rfl
theorem mt_facts (l : List En) (n : Int) (hn : okn n = true) (hl : l.length ≤ 60) (k : Nat) (hk : k ≤ l.length) :
    (mt l n k).get n = some 0 ∧ (mt l n k).es.length ≤ k ∧ (mt l n k).room = 60 ∧ (mt l n k).met = mets (l.take k) := by
  induction k with
  | zero =>
    obtain ⟨p1, p2, p3⟩ := Lg.put_es (newL 60) n (some 0)
    exact ⟨get_put _ n hn _, by rw [mt, p1]; simp [newL], by rw [mt, p3]; rfl, by rw [mt, p2]; rfl⟩
  | succ k ih =>
    obtain ⟨a, b, c, d⟩ := ih (by omega)
    obtain ⟨p1, p2, p3⟩ := push_facts (mt l n k) l[k] (by omega)
    have pm := push_met_eq (mt l n k) l[k] (by omega)
    rw [mt_next l n k hk, mtS]
    have hm : ((mt l n k).push l[k]).met = mets (l.take (k + 1)) := by rw [pm, d, mets_next l k hk]
    split
    · exact ⟨(get_back _ _ _).trans (by rw [p3, a]; rfl), by simp [Lg.back], p2.trans c, hm⟩
    · exact ⟨(p3 n).trans a, by rw [p1]; simp; omega, p2.trans c, hm⟩
theorem mets_len (l : List En) : (mets l).length ≤ l.length := by
  have : ∀ (m : List Spot) (l : List En), (l.foldl meets m).length ≤ m.length + l.length := by
    intro m l
    induction l generalizing m with
    | nil => simp
    | cons e l ih =>
      rw [List.foldl_cons]
      refine Nat.le_trans (ih _) ?_
      unfold meets
      split
      · simp
      · simp; omega
  have := this [] l
  show (l.foldl meets []).length ≤ _
  simpa using this
end Go.Proofs.Ytbfoplaccalegaa.Val
