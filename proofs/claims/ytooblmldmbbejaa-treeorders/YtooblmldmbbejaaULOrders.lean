/- Two trees of the call's own, and a row of pairs beside them. -/
import Derived.Test.YtooblmldmbbejaaU23
import Derived.Test.YtooblmldmbbejaaU20
import Derived.Test.YtooblmldmbbejaaUO
import Derived.Test.YtooblmldmbbejaaUO2
namespace Go.Proofs.Ytooblmldmbbejaa.Val
open Go Go.RowKit

def Q2 (w0 : World) (pb : Nat) (la lb : List Pr) (lv : Value) (l2 : List Pr) (w1 : World) : Prop := ∃ ha hb, (Tr w1 ha la ∧ ha.p = w0.heap.size ∧ ∀ k, ha.has k → w0.heap.size ≤ k) ∧ (Tr w1 hb lb ∧ hb.p = pb ∧ ∀ k, hb.has k → w0.heap.size ≤ k) ∧ Below w0.heap.size w0 w1 ∧ (∀ k, ha.has k → ¬ hb.has k) ∧ PairsIn w1 lv l2 ∧ (l2 = [] ∨ ∀ g, lv.ownBlock = some g → g < w1.heap.size ∧ ¬ ha.has g ∧ ¬ hb.has g)
section
variable {w0 w1 w2 : World} {pb : Nat} {la lb l2 : List Pr} {lv : Value}
theorem Q2.blw (q : Q2 w0 pb la lb lv l2 w1) : Below w0.heap.size w0 w1 := by
  obtain ⟨ha, hb, _, _, h, _⟩ := q
  exact h
theorem Q2.pairs (q : Q2 w0 pb la lb lv l2 w1) : PairsIn w1 lv l2 := by
  obtain ⟨ha, hb, _, _, _, _, h, _⟩ := q
  exact h
theorem Q2.risesA (q : Q2 w0 pb la lb lv l2 w1) : Rises la ∧ Rights la := by
  obtain ⟨ha, hb, h, _⟩ := q
  exact h.1.rises
theorem Q2.risesB (q : Q2 w0 pb la lb lv l2 w1) : Rises lb ∧ Rights lb := by
  obtain ⟨ha, hb, _, h, _⟩ := q
  exact h.1.rises
theorem Q2.below (q : Q2 w0 pb la lb lv l2 w1) (hw : Below w1.heap.size w1 w2) : Q2 w0 pb la lb lv l2 w2 := by
  obtain ⟨ha, hb, ⟨a1, a2, a3⟩, ⟨b1, b2, b3⟩, hB, hx, hp, hq⟩ := q
  exact ⟨ha, hb, ⟨a1.below hw, a2, a3⟩, ⟨b1.below hw, b2, b3⟩, on hB hw, hx, hp.below hw, hq.imp id fun hq g hg => ⟨Nat.lt_of_lt_of_le (hq g hg).1 hw.size, (hq g hg).2⟩⟩
theorem Q2.turn {lv' : Value} {l3 : List Pr} (q : Q2 w0 pb la lb lv l2 w1) (hw : Below w1.heap.size w1 w2) (hl : PairsIn w2 lv' l3) (hn : ∀ g, lv'.ownBlock = some g → w1.heap.size ≤ g) : Q2 w0 pb la lb lv' l3 w2 := by
  obtain ⟨ha, hb, ⟨a1, a2, a3⟩, ⟨b1, b2, b3⟩, hB, hx, _, _⟩ := q
  refine ⟨ha, hb, ⟨a1.below hw, a2, a3⟩, ⟨b1.below hw, b2, b3⟩, on hB hw, hx, hl, ?_⟩
  by_cases h0 : l3 = []
  · exact .inl h0
  · exact .inr fun g hg => ⟨hl.lt (List.length_pos_iff.2 h0) g hg, fun hh => by have := a1.lt g hh; have := hn g hg; omega, fun hh => by have := b1.lt g hh; have := hn g hg; omega⟩
theorem nil_pairs {w w' : World} {v : Value} (h : PairsIn w v []) : PairsIn w' v [] := by
  obtain ⟨ao, c, rfl, h1, h2, h0, h3⟩ := h
  exact ⟨ao, c, rfl, h1, h2, h0, .inl rfl⟩
theorem q2_puta (q : Q2 w0 pb la lb lv l2 w1) (hl : la.length ≤ 340) (k : Val) (v : Int) (hs : k.s.size ≤ maxLen) : Calls Try.prog 16 #[.pointer (some ⟨w0.heap.size, 0, none⟩), V k.t k.n k.s, .int .i64 v] w1 fun e w' => (∃ b, e = .returned (.bool b)) ∧ Q2 w0 pb (insK k v la) lb lv l2 w' := by
  obtain ⟨ha, hb, ⟨a1, a2, a3⟩, ⟨b1, b2, b3⟩, hB, hx, hp, hq⟩ := q
  have := tr_put a1 hl k v hs
  rw [a2] at this
  refine this.mono fun e w' ⟨he, h', t', vv⟩ => ⟨⟨_, he⟩, h', hb, ⟨t', vv.p.trans a2, fun k hk => (vv.own k hk).elim (a3 k) fun hs => Nat.le_trans hB.size hs⟩, ⟨b1.sv vv.sv fun k hk hh => hx k hh hk, b2, b3⟩, hB.trans (vv.below hB.size a3), fun k hk hh => ?_, ?_, ?_⟩
  · exact vv.apart (P := hb.has) b1.lt (fun k hk hh => hx k hh hk) k hh hk
  · rcases hq with rfl | hq
    · exact nil_pairs hp
    · exact hp.sv vv.sv fun g hg => (hq g hg).2.1
  · refine hq.imp id fun hq g hg => ⟨Nat.lt_of_lt_of_le (hq g hg).1 vv.sv.size, ?_, (hq g hg).2.2⟩
    exact vv.apart (P := fun k => k = g) (fun k hk => by subst hk; exact (hq k hg).1) (fun k hk => by subst hk; exact (hq k hg).2.1) g rfl
theorem Q2.movedB {w' : World} {ha hb h' : Hd} {l' : List Pr} (a : Tr w1 ha la ∧ ha.p = w0.heap.size ∧ ∀ k, ha.has k → w0.heap.size ≤ k) (b2 : hb.p = pb) (b3 : ∀ k, hb.has k → w0.heap.size ≤ k) (hB : Below w0.heap.size w0 w1) (hx : ∀ k, ha.has k → ¬ hb.has k) (hp : PairsIn w1 lv l2) (hq : l2 = [] ∨ ∀ g, lv.ownBlock = some g → g < w1.heap.size ∧ ¬ ha.has g ∧ ¬ hb.has g) (t' : Tr w' h' l') (vv : Mv w1 hb w' h') : Q2 w0 pb la l' lv l2 w' := by
  refine ⟨ha, h', ⟨a.1.sv vv.sv fun k hk hh => hx k hk hh, a.2.1, a.2.2⟩, ⟨t', vv.p.trans b2, fun k hk => (vv.own k hk).elim (b3 k) fun hs => Nat.le_trans hB.size hs⟩, hB.trans (vv.below hB.size b3), vv.apart (P := ha.has) a.1.lt hx, ?_, ?_⟩
  · rcases hq with rfl | hq
    · exact nil_pairs hp
    · exact hp.sv vv.sv fun g hg => (hq g hg).2.2
  · refine hq.imp id fun hq g hg => ⟨Nat.lt_of_lt_of_le (hq g hg).1 vv.sv.size, (hq g hg).2.1, ?_⟩
    exact vv.apart (P := fun k => k = g) (fun k hk => by subst hk; exact (hq k hg).1) (fun k hk => by subst hk; exact (hq k hg).2.2) g rfl
theorem q2_putb (q : Q2 w0 pb la lb lv l2 w1) (hl : lb.length ≤ 340) (k : Val) (v : Int) (hs : k.s.size ≤ maxLen) : Calls Try.prog 16 #[.pointer (some ⟨pb, 0, none⟩), V k.t k.n k.s, .int .i64 v] w1 fun e w' => (∃ b, e = .returned (.bool b)) ∧ Q2 w0 pb la (insK k v lb) lv l2 w' := by
  obtain ⟨ha, hb, a, ⟨b1, b2, b3⟩, hB, hx, hp, hq⟩ := q
  have := tr_put b1 hl k v hs
  rw [b2] at this
  exact this.mono fun e w' ⟨he, h', t', vv⟩ => ⟨⟨_, he⟩, Q2.movedB a b2 b3 hB hx hp hq t' vv⟩
theorem q2_delb (q : Q2 w0 pb la lb lv l2 w1) (hl : lb.length ≤ 400) (k : Val) (hs : k.s.size ≤ maxLen) : Calls Try.prog 18 #[.pointer (some ⟨pb, 0, none⟩), V k.t k.n k.s] w1 fun e w' => (∃ b, e = .returned (.bool b)) ∧ Q2 w0 pb la (delP k lb) lv l2 w' := by
  obtain ⟨ha, hb, a, ⟨b1, b2, b3⟩, hB, hx, hp, hq⟩ := q
  have := tr_del b1 hl k hs
  rw [b2] at this
  exact this.mono fun e w' ⟨he, h', t', vv⟩ => ⟨⟨_, he⟩, Q2.movedB a b2 b3 hB hx hp hq t' vv⟩
theorem q2_lena (q : Q2 w0 pb la lb lv l2 w1) : Calls Try.prog 12 #[.pointer (some ⟨w0.heap.size, 0, none⟩)] w1 fun e w' => e = .returned (.int .i64 la.length) ∧ Q2 w0 pb la lb lv l2 w' := by
  obtain ⟨ha, hb, ⟨a1, a2, a3⟩, b, hB, hx, hp, hq⟩ := q
  have := tr_len a1
  rw [a2] at this
  exact this.mono fun e w' ⟨he, hb'⟩ => ⟨he, Q2.below ⟨ha, hb, ⟨a1, a2, a3⟩, b, hB, hx, hp, hq⟩ hb'⟩
theorem q2_lenb (q : Q2 w0 pb la lb lv l2 w1) : Calls Try.prog 12 #[.pointer (some ⟨pb, 0, none⟩)] w1 fun e w' => e = .returned (.int .i64 lb.length) ∧ Q2 w0 pb la lb lv l2 w' := by
  obtain ⟨ha, hb, a, ⟨b1, b2, b3⟩, hB, hx, hp, hq⟩ := q
  have := tr_len b1
  rw [b2] at this
  exact this.mono fun e w' ⟨he, hb'⟩ => ⟨he, Q2.below ⟨ha, hb, a, ⟨b1, b2, b3⟩, hB, hx, hp, hq⟩ hb'⟩
theorem owns_new {w : World} {B n : Nat} {v : Value} {xs : List Value} (h : w.ownsRow B TPr 4 v n xs) : ∀ g, v.ownBlock = some g → B ≤ g := fun g hg => (h.lt g hg).1
theorem q2_pairsa (q : Q2 w0 pb la lb lv l2 w1) (hl : la.length ≤ 400) : Calls Try.prog 14 #[.pointer (some ⟨w0.heap.size, 0, none⟩), Sp.all.val] w1 fun e w' => ∃ v, e = .returned v ∧ Q2 w0 pb la lb v la w' := by
  have q0 := q
  obtain ⟨ha, hb, ⟨a1, a2, a3⟩, b, hB, hx, hp, hq⟩ := q
  have := tr_pairs a1 hl Sp.all
  rw [a2, range_all] at this
  exact this.mono fun e w' ⟨v, he, ho, hb'⟩ => ⟨v, he, q0.turn hb' (own_pairs ho) (owns_new ho)⟩
theorem q2_pairsb (q : Q2 w0 pb la lb lv l2 w1) (hl : lb.length ≤ 400) : Calls Try.prog 14 #[.pointer (some ⟨pb, 0, none⟩), Sp.all.val] w1 fun e w' => ∃ v, e = .returned v ∧ PairsIn w' v lb ∧ Q2 w0 pb la lb lv l2 w' := by
  obtain ⟨ha, hb, a, ⟨b1, b2, b3⟩, hB, hx, hp, hq⟩ := q
  have := tr_pairs b1 hl Sp.all
  rw [b2, range_all] at this
  exact this.mono fun e w' ⟨v, he, ho, hb'⟩ => ⟨v, he, own_pairs ho, Q2.below ⟨ha, hb, a, ⟨b1, b2, b3⟩, hB, hx, hp, hq⟩ hb'⟩
theorem new_has {w : World} : ∀ k, Hd.has ⟨w.heap.size, .slice none 0 0, .slice none 0 0, .slice none 0 0⟩ k → k = w.heap.size := fun k h => by
  rcases h with h | h | h | h
  · exact h
  all_goals cases h
theorem q2_new (T1 : Tr w1 ⟨w0.heap.size, .slice none 0 0, .slice none 0 0, .slice none 0 0⟩ []) (h1 : Below w0.heap.size w0 w1) (T2 : Tr w2 ⟨w1.heap.size, .slice none 0 0, .slice none 0 0, .slice none 0 0⟩ []) (h2 : Below w1.heap.size w1 w2) : Q2 w0 w1.heap.size [] [] (.slice none 0 0) [] w2 :=
  ⟨_, _, ⟨T1.below h2, rfl, new_mine w0⟩, ⟨T2, rfl, fun k hk => Nat.le_trans h1.size (new_mine w1 k hk)⟩, on h1 h2, fun k hk hk' => by
    have e1 := T1.lt k hk
    have e2 := new_has k hk'
    omega, ⟨none, 0, rfl, Nat.le_refl _, Nat.zero_le _, fun _ => ⟨rfl, rfl⟩, .inl rfl⟩, .inl rfl⟩
end
end Go.Proofs.Ytooblmldmbbejaa.Val
/- Plain: rows told by what they hold: keys that were put with 1, and others with 2 that come and go. No program. -/
namespace Go.Proofs.Ytooblmldmbbejaa.Val
open Go Go.RowKit

/-- The row holds the keys of S that may be, each with 1. -/
def Sets (S : Val → Prop) (l : List Pr) : Prop := Rises l ∧ Rights l ∧ ∀ y, y ∈ l ↔ y.v = 1 ∧ rightX y.k = true ∧ S y.k
theorem Sets.nil : Sets (fun _ => False) [] := ⟨List.Pairwise.nil, fun x hx => by simp at hx, fun y => by simp⟩
theorem Sets.congr {S T : Val → Prop} {l : List Pr} (h : Sets S l) (he : ∀ x, S x ↔ T x) : Sets T l := ⟨h.1, h.2.1, fun y => by rw [h.2.2 y, he]⟩
theorem insK_rights {l : List Pr} {k : Val} {v : Int} (h : Rights l) : Rights (insK k v l) := by
  unfold insK
  cases hk : rightX k
  · exact h
  · exact ins_rights hk h
theorem mem_insK {l : List Pr} {k : Val} {v : Int} {y : Pr} (hr : Rises l) (hg : Rights l) : y ∈ insK k v l ↔ (rightX k = true ∧ y = ⟨k, v⟩) ∨ (y ∈ l ∧ y.k ≠ k) := by
  unfold insK
  cases hk : rightX k
  · simp only [Bool.false_eq_true, if_false, false_and, false_or]
    exact ⟨fun h => ⟨h, fun e => by have := hg y h; rw [e, hk] at this; cases this⟩, fun h => h.1⟩
  · simp only [if_true, true_and]
    rw [mem_ins_iff hr]
    refine or_congr Iff.rfl (and_congr_right fun h => not_congr ⟨fun e => cmp_eq (hg y h) hk e, fun e => by rw [e]; exact selfX k⟩)
theorem Sets.put {S : Val → Prop} {l : List Pr} (h : Sets S l) (k : Val) : Sets (fun x => S x ∨ x = k) (insK k 1 l) := by
  refine ⟨insK_rises h.1, insK_rights h.2.1, fun y => ?_⟩
  rw [mem_insK h.1 h.2.1, h.2.2 y]
  constructor
  · rintro (⟨h1, rfl⟩ | ⟨⟨h1, h2, h3⟩, _⟩)
    · exact ⟨rfl, h1, .inr rfl⟩
    · exact ⟨h1, h2, .inl h3⟩
  · rintro ⟨h1, h2, h3⟩
    by_cases hk : y.k = k
    · left
      exact ⟨by rw [← hk]; exact h2, by cases y; simp_all⟩
    · exact .inr ⟨⟨h1, h2, h3.resolve_right hk⟩, hk⟩
theorem Sets.eq {S T : Val → Prop} {l m : List Pr} (h : Sets S l) (h' : Sets T m) (he : ∀ x, S x ↔ T x) : l = m := rises_ext h.1 h'.1 fun y => by rw [h.2.2, h'.2.2, he]
/-- The row holds what la holds, and the keys of S that may be, each with 2. -/
def More (la : List Pr) (S : Val → Prop) (l : List Pr) : Prop := Rises l ∧ Rights l ∧ ∀ y, y ∈ l ↔ y ∈ la ∨ (y.v = 2 ∧ rightX y.k = true ∧ S y.k)
theorem More.congr {la : List Pr} {S T : Val → Prop} {l : List Pr} (h : More la S l) (he : ∀ x, S x ↔ T x) : More la T l := ⟨h.1, h.2.1, fun y => by rw [h.2.2 y, he]⟩
theorem More.start {la : List Pr} (h1 : Rises la) (h2 : Rights la) : More la (fun _ => False) la := ⟨h1, h2, fun y => by simp⟩
theorem More.put {la : List Pr} {S : Val → Prop} {l : List Pr} (h : More la S l) (k : Val) (hk : ∀ y ∈ la, y.k ≠ k) : More la (fun x => S x ∨ x = k) (insK k 2 l) := by
  refine ⟨insK_rises h.1, insK_rights h.2.1, fun y => ?_⟩
  rw [mem_insK h.1 h.2.1, h.2.2 y]
  constructor
  · rintro (⟨h1, rfl⟩ | ⟨h1 | ⟨h1, h2, h3⟩, _⟩)
    · exact .inr ⟨rfl, h1, .inr rfl⟩
    · exact .inl h1
    · exact .inr ⟨h1, h2, .inl h3⟩
  · rintro (h1 | ⟨h1, h2, h3⟩)
    · exact .inr ⟨.inl h1, hk y h1⟩
    · by_cases hk : y.k = k
      · left
        exact ⟨by rw [← hk]; exact h2, by cases y; simp_all⟩
      · exact .inr ⟨.inr ⟨h1, h2, h3.resolve_right hk⟩, hk⟩
theorem More.del {la : List Pr} {S : Val → Prop} {l : List Pr} (h : More la S l) (k : Val) (hk : ∀ y ∈ la, y.k ≠ k) : More la (fun x => S x ∧ x ≠ k) (delP k l) := by
  refine ⟨del_rises h.1, del_rights h.2.1, fun y => ?_⟩
  rw [mem_del_iff, h.2.2 y]
  constructor
  · rintro ⟨h1 | ⟨h1, h2, h3⟩, h4⟩
    · exact .inl h1
    · exact .inr ⟨h1, h2, h3, h4⟩
  · rintro (h1 | ⟨h1, h2, h3, h4⟩)
    · exact ⟨.inl h1, hk y h1⟩
    · exact ⟨.inr ⟨h1, h2, h3⟩, h4⟩
theorem More.eq {la : List Pr} {S : Val → Prop} {l : List Pr} (h : More la S l) (hr : Rises la) (h0 : ∀ x, ¬ S x) : l = la := rises_ext h.1 hr fun y => by
  rw [h.2.2]
  exact ⟨fun h => h.resolve_right fun h' => h0 _ h'.2.2, .inl⟩
section
variable {xs ms : List Val} {la l : List Pr} {j : Nat}
theorem mem_take_succ {x : Val} (h : j < xs.length) : x ∈ xs.take (j + 1) ↔ x ∈ xs.take j ∨ x = xs[j] := by
  rw [List.take_succ_eq_append_getElem h, List.mem_append, List.mem_singleton]
/-- From the front. -/
def FrontOf (xs : List Val) (j : Nat) (x : Val) : Prop := x ∈ xs.take j
/-- From the back. -/
def BackOf (xs : List Val) (j : Nat) (x : Val) : Prop := x ∈ xs.reverse.take j
theorem Sets.front (h : Sets (FrontOf xs j) l) (hj : j < xs.length) : Sets (FrontOf xs (j + 1)) (insK xs[j] 1 l) := (h.put _).congr fun _ => (mem_take_succ hj).symm
theorem Sets.back (h : Sets (BackOf xs j) l) (hj : j < xs.length) (hj' : xs.length - 1 - j < xs.length) : Sets (BackOf xs (j + 1)) (insK xs[xs.length - 1 - j] 1 l) := by
  refine (h.put _).congr fun x => ?_
  unfold BackOf
  rw [mem_take_succ (by simpa using hj), List.getElem_reverse]
theorem Sets.both {m : List Pr} (h : Sets (FrontOf xs xs.length) l) (h' : Sets (BackOf xs xs.length) m) : l = m := h.eq h' fun x => by
  unfold FrontOf BackOf
  rw [List.take_length, ← List.length_reverse, List.take_length, List.mem_reverse]
/-- Those to come in, and those that are not yet gone. -/
def NewOf (xs ms : List Val) (j : Nat) (x : Val) : Prop := x ∈ ms.take j ∧ ¬ x ∈ xs
def OldOf (xs ms : List Val) (j : Nat) (x : Val) : Prop := x ∈ ms ∧ ¬ x ∈ xs ∧ ¬ x ∈ ms.take j
theorem key_of (h : Sets (FrontOf xs xs.length) la) {k : Val} (hk : ¬ k ∈ xs) : ∀ y ∈ la, y.k ≠ k := fun y hy e => by
  have := ((h.2.2 y).1 hy).2.2
  unfold FrontOf at this
  rw [List.take_length, e] at this
  exact hk this
theorem More.newYes (h : More la (NewOf xs ms j) l) (hj : j < ms.length) (hx : ms[j] ∈ xs) : More la (NewOf xs ms (j + 1)) l := h.congr fun x => by
  unfold NewOf
  rw [mem_take_succ hj]
  exact ⟨fun h => ⟨.inl h.1, h.2⟩, fun h => ⟨h.1.resolve_right fun e => h.2 (e ▸ hx), h.2⟩⟩
theorem More.newNo (h : More la (NewOf xs ms j) l) (hj : j < ms.length) (hx : ¬ ms[j] ∈ xs) (hs : Sets (FrontOf xs xs.length) la) : More la (NewOf xs ms (j + 1)) (insK ms[j] 2 l) := (h.put _ (key_of hs hx)).congr fun x => by
  unfold NewOf
  rw [mem_take_succ hj]
  constructor
  · rintro (h | rfl)
    · exact ⟨.inl h.1, h.2⟩
    · exact ⟨.inr rfl, hx⟩
  · rintro ⟨h | rfl, h2⟩
    · exact .inl ⟨h, h2⟩
    · exact .inr rfl
theorem More.begin (h : Sets (FrontOf xs xs.length) la) : More la (NewOf xs ms 0) la := (More.start h.1 h.2.1).congr fun x => by simp [NewOf]
theorem More.turn (h : More la (NewOf xs ms ms.length) l) : More la (OldOf xs ms 0) l := h.congr fun x => by
  unfold NewOf OldOf
  rw [List.take_length]; simp
theorem More.oldYes (h : More la (OldOf xs ms j) l) (hj : j < ms.length) (hx : ms[j] ∈ xs) : More la (OldOf xs ms (j + 1)) l := h.congr fun x => by
  unfold OldOf
  rw [mem_take_succ hj]
  constructor
  · rintro ⟨h1, h2, h3⟩
    exact ⟨h1, h2, fun h => h.elim h3 fun e => h2 (e ▸ hx)⟩
  · rintro ⟨h1, h2, h3⟩
    exact ⟨h1, h2, fun h => h3 (.inl h)⟩
theorem More.oldNo (h : More la (OldOf xs ms j) l) (hj : j < ms.length) (hx : ¬ ms[j] ∈ xs) (hs : Sets (FrontOf xs xs.length) la) : More la (OldOf xs ms (j + 1)) (delP ms[j] l) := (h.del _ (key_of hs hx)).congr fun x => by
  unfold OldOf
  rw [mem_take_succ hj]
  constructor
  · rintro ⟨⟨h1, h2, h3⟩, h4⟩
    exact ⟨h1, h2, fun h => h.elim h3 h4⟩
  · rintro ⟨h1, h2, h3⟩
    exact ⟨⟨h1, h2, fun h => h3 (.inl h)⟩, fun h => h3 (.inr h)⟩
theorem More.over (h : More la (OldOf xs ms ms.length) l) (hr : Rises la) : l = la := h.eq hr fun x hx => by
  unfold OldOf at hx
  rw [List.take_length] at hx
  exact hx.2.2 hx.1
/-- Is a value among the first so many? -/
def hasX (xs : List Val) (k : Nat) (x : Val) : Bool := (xs.take k).any fun y => eqV y x
theorem hasX_zero (x : Val) : hasX xs 0 x = false := by simp [hasX]
theorem hasX_succ {k : Nat} (h : k < xs.length) (x : Val) : hasX xs (k + 1) x = (hasX xs k x || eqV xs[k] x) := by
  unfold hasX
  rw [List.take_succ_eq_append_getElem h, List.any_append]; simp
theorem hasX_all {x : Val} : hasX xs xs.length x = true ↔ x ∈ xs := by
  unfold hasX
  rw [List.take_length, List.any_eq_true]
  exact ⟨fun ⟨y, hy, e⟩ => by rw [eqV_iff] at e; exact e ▸ hy, fun h => ⟨x, h, eqV_iff.2 rfl⟩⟩
end
end Go.Proofs.Ytooblmldmbbejaa.Val
/- TreeOrders: the walk. -/
namespace Go.Proofs.Ytooblmldmbbejaa.Val
open Go Go.RowKit

set_option maxRecDepth 100000 in
set_option maxHeartbeats 32000000 in
theorem torders_walk (v u : Value) (xs ms : List Val) (w : World) (hx : RowIn w v xs) (hm : RowIn w u ms) (ox : RowOk xs) (om : RowOk ms) : Calls Try.prog 6 #[v, u] w fun e w' => e = .returned (.bool true) ∧ Below w.heap.size w w' := by
  obtain ⟨ax, cx, rfl, hmx⟩ := Lies.slice hx
  obtain ⟨am, cm, rfl, hmm⟩ := Lies.slice hm
  have HA : Hid (∀ w1, Calls Try.prog 7 #[] w1 fun e w' => e = .returned (.bool true) ∧ Below w1.heap.size w1 w') := awake_any
  have HN : Hid (∀ w1, Calls Try.prog 8 #[] w1 fun e w' => e = .returned (.pointer (some ⟨w1.heap.size, 0, none⟩)) ∧ Tr w' ⟨w1.heap.size, .slice none 0 0, .slice none 0 0, .slice none 0 0⟩ [] ∧ Below w1.heap.size w1 w') := tr_new
  have HIN : Hid (RowIn w (.slice ax xs.length cx) xs ∧ RowIn w (.slice am ms.length cm) ms ∧ RowOk xs ∧ RowOk ms) := ⟨hx, hm, ox, om⟩
  clear hx hm ox om
  go_enter Try.func6, Try.ntmps6
  go_wp2_with fail
  refine Calls.mono (HA.out _) ?_
  rintro e w0 ⟨rfl, hb⟩
  have HB0 : Hid (Below w.heap.size w w0) := hb
  clear hb HA
  by_cases h1 : 100 < xs.length
  · have i1 : (100 : Int) < (xs.length : Int) := by omega
    go_wp2_with fail
    go_ret
    exact ⟨rfl, HB0.out⟩
  · have i1 : (xs.length : Int) ≤ 100 := by omega
    by_cases h2 : 100 < ms.length
    · have i2 : (100 : Int) < (ms.length : Int) := by omega
      go_wp2_with fail
      go_ret
      exact ⟨rfl, HB0.out⟩
    · have i2 : (ms.length : Int) ≤ 100 := by omega
      have HML : Hid (xs.length ≤ 100 ∧ ms.length ≤ 100) := ⟨by omega, by omega⟩
      have x9 : xs.length ≤ 100 := by omega
      have m9 : ms.length ≤ 100 := by omega
      clear h1 h2
      go_wp2_with fail
      refine Calls.mono (HN.out _) ?_
      rintro e w1 ⟨rfl, T1, hb1⟩
      have HT1 : Hid (Tr w1 ⟨w0.heap.size, .slice none 0 0, .slice none 0 0, .slice none 0 0⟩ [] ∧ Below w0.heap.size w0 w1) := ⟨T1, hb1⟩
      clear T1 hb1
      go_wp2_with fail
      refine Calls.mono (HN.out _) ?_
      rintro e w2 ⟨rfl, T2, hb2⟩
      have HO1 : Hid (∃ la lb, Q2 w0 w1.heap.size la lb (.slice none 0 0) [] w2 ∧ Sets (FrontOf xs 0) la ∧ Sets (BackOf xs 0) lb ∧ la.length ≤ 0 ∧ lb.length ≤ 0) := ⟨[], [], q2_new HT1.out.1 HT1.out.2 T2 hb2, Sets.nil.congr fun x => by simp [FrontOf], Sets.nil.congr fun x => by simp [BackOf], by simp, by simp⟩
      clear T2 hb2 HN HT1
      go_wp2_with fail
      go_loopw [8] (fun ai wr => ∃ j : Nat, j ≤ xs.length ∧ ai = .int .i64 j ∧ Hid (∃ la lb, Q2 w0 w1.heap.size la lb (.slice none 0 0) [] wr ∧ Sets (FrontOf xs j) la ∧ Sets (BackOf xs j) lb ∧ la.length ≤ j ∧ lb.length ≤ j)) (fun ai _ => xs.length - (intOf ai).toNat)
      case atStart => exact ⟨0, Nat.zero_le _, rfl, HO1.out⟩
      case round =>
        obtain ⟨j, hj, rfl, HO⟩ := hrel
        clear HO1
        by_cases h1 : j < xs.length
        · obtain ⟨la, lb, q, ha, hb, hla, hlb⟩ := HO.out
          obtain ⟨r, hr⟩ : ∃ r, xs.length - 1 - j = r := ⟨_, rfl⟩
          have hr1 : r < xs.length := by omega
          have hsa := (HIN.out.2.2.1 _ (List.getElem_mem h1)).2
          have hsb := (HIN.out.2.2.1 _ (List.getElem_mem hr1)).2
          have hb' : Sets (BackOf xs (j + 1)) (insK xs[r] 1 lb) := by subst hr; exact hb.back h1 hr1
          have HN : Hid (Sets (FrontOf xs (j + 1)) (insK xs[j] 1 la) ∧ Sets (BackOf xs (j + 1)) (insK xs[r] 1 lb) ∧ (insK xs[j] 1 la).length ≤ j + 1 ∧ (insK xs[r] 1 lb).length ≤ j + 1) := ⟨ha.front h1, hb', by rw [len_insK q.risesA.1 q.risesA.2]; split <;> omega, by rw [len_insK q.risesB.1 q.risesB.2]; split <;> omega⟩
          have CA : Hid (∀ W, Q2 w0 w1.heap.size la lb (.slice none 0 0) [] W → Calls Try.prog 16 #[.pointer (some ⟨w0.heap.size, 0, none⟩), V xs[j].t xs[j].n xs[j].s, .int .i64 1] W fun e w' => (∃ b, e = .returned (.bool b)) ∧ Q2 w0 w1.heap.size (insK xs[j] 1 la) lb (.slice none 0 0) [] w') := fun W q => q2_puta q (by omega) xs[j] 1 hsa
          have CB : Hid (∀ W, Q2 w0 w1.heap.size (insK xs[j] 1 la) lb (.slice none 0 0) [] W → Calls Try.prog 16 #[.pointer (some ⟨w1.heap.size, 0, none⟩), V xs[r].t xs[r].n xs[r].s, .int .i64 1] W fun e w' => (∃ b, e = .returned (.bool b)) ∧ Q2 w0 w1.heap.size (insK xs[j] 1 la) (insK xs[r] 1 lb) (.slice none 0 0) [] w') := fun W q => q2_putb q (by omega) xs[r] 1 hsb
          have HQ : Hid (Q2 w0 w1.heap.size la lb (.slice none 0 0) [] wr) := q
          obtain ⟨b, o, rfl, c0, c1, c2⟩ := (HIN.out.1.below (on HB0.out q.blw)).at j h1
          have HCC : Hid (∀ W, Below w0.heap.size w0 W → W.cell? ⟨b, o + r * 3, none⟩ = some (.bool xs[r].t) ∧ W.cell? ⟨b, o + r * 3 + 1, none⟩ = some (.int .i64 xs[r].n) ∧ W.cell? ⟨b, o + r * 3 + 2, none⟩ = some (.string xs[r].s)) := fun W hb => by
            obtain ⟨b1, o1, e1, q0, q1, q2⟩ := (HIN.out.1.below (on HB0.out hb)).at r hr1
            cases e1
            exact ⟨q0, q1, q2⟩
          have e1 : IntKind.i64.wrap ((xs.length : Int) - 1) = (xs.length : Int) - 1 := by rw [IntKind.wrap_i64]; omega
          have e2 : IntKind.i64.wrap ((xs.length : Int) - 1 - (j : Int)) = (r : Int) := by rw [IntKind.wrap_i64]; omega
          have i0 : (0 : Int) ≤ (j : Int) := by omega
          have i1 : (j : Int) < (xs.length : Int) := by omega
          have i2 : (0 : Int) ≤ (r : Int) := by omega
          have i3 : (r : Int) < (xs.length : Int) := by omega
          have i4 : j ≤ 100 := by omega
          have HJ : Hid (j + 1 ≤ xs.length) := h1
          clear q ha hb hb' hla hlb hsa hsb HO
          generalize xs[j] = x at *
          generalize xs[r] = y at *
          clear hr hr1 h1 hj
          go_wp2_with fail
          refine Calls.mono (CA.out _ HQ.out) ?_
          rintro e w3 ⟨⟨b3, rfl⟩, q3⟩
          have HQ3 : Hid (Q2 w0 w1.heap.size (insK x 1 la) lb (.slice none 0 0) [] w3) := q3
          clear q3 HQ CA c0 c1 c2
          obtain ⟨c0, c1, c2⟩ := HCC.out _ HQ3.out.blw
          go_wp2_with fail
          refine Calls.mono (CB.out _ HQ3.out) ?_
          rintro e w4 ⟨⟨b4, rfl⟩, q4⟩
          have HQ4 : Hid (Q2 w0 w1.heap.size (insK x 1 la) (insK y 1 lb) (.slice none 0 0) [] w4) := q4
          clear q4 HQ3 CB c0 c1 c2 HCC e1 e2
          go_wp2_with fail
          go_roundw
          case rel => exact ⟨j + 1, HJ.out, by go_num, _, _, HQ4.out, HN.out⟩
          case measure => have := HJ.out; simp [intOf]; omega
        · obtain rfl : j = xs.length := by omega
          obtain ⟨la, lb, q, ha, hb, hla, hlb⟩ := HO.out
          obtain rfl : la = lb := ha.both hb
          have HSA : Hid (Sets (FrontOf xs xs.length) la) := ha
          have HLA : Hid (la.length ≤ 100) := by have := HML.out.1; exact Nat.le_trans hla this
          have HQ : Hid (Q2 w0 w1.heap.size la la (.slice none 0 0) [] wr) := q
          have CP : Hid (∀ W, Q2 w0 w1.heap.size la la (.slice none 0 0) [] W → Calls Try.prog 14 #[.pointer (some ⟨w0.heap.size, 0, none⟩), .agg #[.bool false, .bool false, .bool false, .bool false, .int .i64 0, .string ⟨#[]⟩, .bool false, .bool false, .bool false, .int .i64 0, .string ⟨#[]⟩]] W fun e w' => ∃ v, e = .returned v ∧ Q2 w0 w1.heap.size la la v la w') := fun W q => q2_pairsa q (by have := HLA.out; omega)
          have hxl : xs.length ≤ 100 := HML.out.1
          clear q ha hb hla hlb HO h1 hj
          go_wp2_with fail
          refine Calls.mono (CP.out _ HQ.out) ?_
          rintro e w2 ⟨lv, rfl, q2⟩
          have HO2 : Hid (∃ lb, Q2 w0 w1.heap.size la lb lv la w2 ∧ More la (NewOf xs ms 0) lb ∧ lb.length ≤ 100 + 0) := ⟨la, q2, More.begin HSA.out, HLA.out⟩
          clear q2 CP HQ
          go_wp2_with fail
          go_loopw [10] (fun ai wr => ∃ j : Nat, j ≤ ms.length ∧ ai = .int .i64 j ∧ Hid (∃ lb, Q2 w0 w1.heap.size la lb lv la wr ∧ More la (NewOf xs ms j) lb ∧ lb.length ≤ 100 + j)) (fun ai _ => ms.length - (intOf ai).toNat)
          case atStart => exact ⟨0, Nat.zero_le _, rfl, HO2.out⟩
          case round =>
            obtain ⟨j, hj, rfl, HO⟩ := hrel
            clear HO2
            obtain ⟨wo, hwo⟩ : ∃ wo, wo = wr := ⟨_, rfl⟩
            subst hwo
            by_cases h1 : j < ms.length
            · obtain ⟨lb, q, hm, hl⟩ := HO.out
              have hs := (HIN.out.2.2.2 _ (List.getElem_mem h1)).2
              have HQ : Hid (Q2 w0 w1.heap.size la lb lv la wo) := q
              have HOP : Hid (∀ W, Q2 w0 w1.heap.size la lb lv la W → Calls Try.prog 16 #[.pointer (some ⟨w1.heap.size, 0, none⟩), V ms[j].t ms[j].n ms[j].s, .int .i64 2] W fun e w' => (∃ b, e = .returned (.bool b)) ∧ Q2 w0 w1.heap.size la (insK ms[j] 2 lb) lv la w') := fun W q => q2_putb q (by omega) ms[j] 2 hs
              have HYES : Hid (ms[j] ∈ xs → More la (NewOf xs ms (j + 1)) lb) := fun h => hm.newYes h1 h
              have HNO : Hid (¬ ms[j] ∈ xs → More la (NewOf xs ms (j + 1)) (insK ms[j] 2 lb) ∧ (insK ms[j] 2 lb).length ≤ 100 + (j + 1)) := fun h => ⟨hm.newNo h1 h HSA.out, by rw [len_insK q.risesB.1 q.risesB.2]; split <;> omega⟩
              have HLB : Hid (lb.length ≤ 100 + j) := hl
              obtain ⟨bm, om, rfl, m0, m1, m2⟩ := (HIN.out.2.1.below (on HB0.out q.blw)).at j h1
              have HMC : Hid (∀ W, Below w0.heap.size w0 W → W.cell? ⟨bm, om + j * 3, none⟩ = some (.bool ms[j].t) ∧ W.cell? ⟨bm, om + j * 3 + 1, none⟩ = some (.int .i64 ms[j].n) ∧ W.cell? ⟨bm, om + j * 3 + 2, none⟩ = some (.string ms[j].s)) := fun W hb => by
                obtain ⟨b1, o1, e1, q0, q1, q2⟩ := (HIN.out.2.1.below (on HB0.out hb)).at j h1
                cases e1
                exact ⟨q0, q1, q2⟩
              have HXC : Hid (∀ W k (hk : k < xs.length), Below w0.heap.size w0 W → ∃ b o, ax = some ⟨b, o, none⟩ ∧ W.cell? ⟨b, o + k * 3, none⟩ = some (.bool xs[k].t) ∧ W.cell? ⟨b, o + k * 3 + 1, none⟩ = some (.int .i64 xs[k].n) ∧ W.cell? ⟨b, o + k * 3 + 2, none⟩ = some (.string xs[k].s)) := fun W k hk hb => (HIN.out.1.below (on HB0.out hb)).at k hk
              have i0 : (0 : Int) ≤ (j : Int) := by omega
              have i1 : (j : Int) < (ms.length : Int) := by omega
              have i2 : j ≤ 100 := by omega
              have HJ : Hid (j + 1 ≤ ms.length) := h1
              clear q hm hl hs HO m0 m1 m2
              generalize ms[j] = x at *
              clear h1 hj
              go_wp2_with fail
              go_loopw [11, 12] (fun th ak wi => ∃ k : Nat, k ≤ xs.length ∧ ak = .int .i64 k ∧ th = .bool (hasX xs k x) ∧ Hid (Q2 w0 w1.heap.size la lb lv la wi)) (fun _ ak _ => xs.length - (intOf ak).toNat)
              case atStart => exact ⟨0, Nat.zero_le _, rfl, by rw [hasX_zero], HQ.out⟩
              case round =>
                obtain ⟨k, hk, rfl, rfl, HI⟩ := hrel
                clear HQ
                by_cases h2 : k < xs.length
                · have hsu := hasX_succ h2 x
                  obtain ⟨bx, ox, ex, d0, d1, d2⟩ := HXC.out _ k h2 HI.out.blw
                  subst ex
                  obtain ⟨m0, m1, m2⟩ := HMC.out _ HI.out.blw
                  have EQ := fun w => eql_V xs[k] x w
                  have k0 : (0 : Int) ≤ (k : Int) := by omega
                  have k1 : (k : Int) < (xs.length : Int) := by omega
                  have HK : Hid (k + 1 ≤ xs.length) := h2
                  have k2 : k ≤ 100 := by omega
                  have HSU : Hid (hasX xs (k + 1) x = (hasX xs k x || eqV xs[k] x)) := hsu
                  clear hsu
                  generalize xs[k] = y at *
                  generalize hasX xs k x = bb at *
                  clear h2 hk
                  cases bb
                  · have HS2 : Hid (hasX xs (k + 1) x = eqV y x) := HSU.out.trans (by simp)
                    clear HSU
                    go_wp2_with fail
                    go_quiet (fail)
                    clear d0 d1 d2 m0 m1 m2 EQ
                    go_wp2_with fail
                    go_roundw
                    case rel => exact ⟨k + 1, HK.out, by go_num, by rw [HS2.out], HI.out.below (below_drewN (Below.refl _ _) _)⟩
                    case measure => have := HK.out; simp [intOf]; omega
                  · have HS2 : Hid (hasX xs (k + 1) x = true) := HSU.out.trans (by simp)
                    clear HSU
                    go_wp2_with fail
                    go_quiet (fail)
                    clear d0 d1 d2 m0 m1 m2 EQ
                    go_wp2_with fail
                    go_roundw
                    case rel => exact ⟨k + 1, HK.out, by go_num, by rw [HS2.out], HI.out.below (below_drewN (Below.refl _ _) _)⟩
                    case measure => have := HK.out; simp [intOf]; omega
                · obtain rfl : k = xs.length := by omega
                  have hall := hasX_all (xs := xs) (x := x)
                  have HB2 : Hid (hasX xs xs.length x = true ↔ x ∈ xs) := hall
                  clear hall h2 hk
                  obtain ⟨bb, hbb⟩ : ∃ bb, hasX xs xs.length x = bb := ⟨_, rfl⟩
                  rw [hbb] at HB2
                  cases bb
                  · have HN2 : Hid (More la (NewOf xs ms (j + 1)) (insK x 2 lb) ∧ (insK x 2 lb).length ≤ 100 + (j + 1)) := HNO.out fun h => by have := HB2.out.2 h; cases this
                    clear HB2 HNO HYES
                    obtain ⟨m0, m1, m2⟩ := HMC.out _ HI.out.blw
                    rw [hbb]
                    go_wp2_with fail
                    refine Calls.mono (HOP.out _ HI.out) ?_
                    rintro e w5 ⟨⟨b5, rfl⟩, q5⟩
                    have HQ5 : Hid (Q2 w0 w1.heap.size la (insK x 2 lb) lv la w5) := q5
                    clear q5 HI HOP m0 m1 m2 HMC HXC hbb
                    go_wp2_with fail
                    go_roundw
                    case rel => exact ⟨j + 1, HJ.out, by go_num, _, HQ5.out, HN2.out⟩
                    case measure => have := HJ.out; simp [intOf]; omega
                  · have HY2 : Hid (More la (NewOf xs ms (j + 1)) lb) := HYES.out (HB2.out.1 rfl)
                    clear HB2 HNO HYES HOP HMC HXC
                    rw [hbb]
                    go_wp2_with fail
                    go_roundw
                    case rel => exact ⟨j + 1, HJ.out, by go_num, lb, HI.out, HY2.out, by have := HLB.out; omega⟩
                    case measure => have := HJ.out; simp [intOf]; omega
            · obtain rfl : j = ms.length := by omega
              have hms : ms.length ≤ 100 := HML.out.2
              clear h1 hj
              have HO3 : Hid (∃ lb, Q2 w0 w1.heap.size la lb lv la wo ∧ More la (OldOf xs ms 0) lb ∧ lb.length ≤ 200) := by
                obtain ⟨lb, q, hm, hl⟩ := HO.out
                exact ⟨lb, q, hm.turn, by omega⟩
              clear HO
              go_wp2_with fail
              go_loopw [13] (fun ai wr => ∃ j : Nat, j ≤ ms.length ∧ ai = .int .i64 j ∧ Hid (∃ lb, Q2 w0 w1.heap.size la lb lv la wr ∧ More la (OldOf xs ms j) lb ∧ lb.length ≤ 200)) (fun ai _ => ms.length - (intOf ai).toNat)
              case atStart => exact ⟨0, Nat.zero_le _, rfl, HO3.out⟩
              case round =>
                obtain ⟨j, hj, rfl, HO⟩ := hrel
                clear HO3
                obtain ⟨wo, hwo⟩ : ∃ wo, wo = wr := ⟨_, rfl⟩
                subst hwo
                by_cases h1 : j < ms.length
                · obtain ⟨lb, q, hm, hl⟩ := HO.out
                  have hs := (HIN.out.2.2.2 _ (List.getElem_mem h1)).2
                  have HQ : Hid (Q2 w0 w1.heap.size la lb lv la wo) := q
                  have HOP : Hid (∀ W, Q2 w0 w1.heap.size la lb lv la W → Calls Try.prog 18 #[.pointer (some ⟨w1.heap.size, 0, none⟩), V ms[j].t ms[j].n ms[j].s] W fun e w' => (∃ b, e = .returned (.bool b)) ∧ Q2 w0 w1.heap.size la (delP ms[j] lb) lv la w') := fun W q => q2_delb q (by omega) ms[j] hs
                  have HYES : Hid (ms[j] ∈ xs → More la (OldOf xs ms (j + 1)) lb) := fun h => hm.oldYes h1 h
                  have HNO : Hid (¬ ms[j] ∈ xs → More la (OldOf xs ms (j + 1)) (delP ms[j] lb) ∧ (delP ms[j] lb).length ≤ 200) := fun h => ⟨hm.oldNo h1 h HSA.out, by exact Nat.le_trans (List.length_filter_le ..) hl⟩
                  have HLB : Hid (lb.length ≤ 200) := hl
                  obtain ⟨bm, om, rfl, m0, m1, m2⟩ := (HIN.out.2.1.below (on HB0.out q.blw)).at j h1
                  have HMC : Hid (∀ W, Below w0.heap.size w0 W → W.cell? ⟨bm, om + j * 3, none⟩ = some (.bool ms[j].t) ∧ W.cell? ⟨bm, om + j * 3 + 1, none⟩ = some (.int .i64 ms[j].n) ∧ W.cell? ⟨bm, om + j * 3 + 2, none⟩ = some (.string ms[j].s)) := fun W hb => by
                    obtain ⟨b1, o1, e1, q0, q1, q2⟩ := (HIN.out.2.1.below (on HB0.out hb)).at j h1
                    cases e1
                    exact ⟨q0, q1, q2⟩
                  have HXC : Hid (∀ W k (hk : k < xs.length), Below w0.heap.size w0 W → ∃ b o, ax = some ⟨b, o, none⟩ ∧ W.cell? ⟨b, o + k * 3, none⟩ = some (.bool xs[k].t) ∧ W.cell? ⟨b, o + k * 3 + 1, none⟩ = some (.int .i64 xs[k].n) ∧ W.cell? ⟨b, o + k * 3 + 2, none⟩ = some (.string xs[k].s)) := fun W k hk hb => (HIN.out.1.below (on HB0.out hb)).at k hk
                  have i0 : (0 : Int) ≤ (j : Int) := by omega
                  have i1 : (j : Int) < (ms.length : Int) := by omega
                  have i2 : j ≤ 100 := by omega
                  have HJ : Hid (j + 1 ≤ ms.length) := h1
                  clear q hm hl hs HO m0 m1 m2
                  generalize ms[j] = x at *
                  clear h1 hj
                  go_wp2_with fail
                  go_loopw [14, 15] (fun th ak wi => ∃ k : Nat, k ≤ xs.length ∧ ak = .int .i64 k ∧ th = .bool (hasX xs k x) ∧ Hid (Q2 w0 w1.heap.size la lb lv la wi)) (fun _ ak _ => xs.length - (intOf ak).toNat)
                  case atStart => exact ⟨0, Nat.zero_le _, rfl, by rw [hasX_zero], HQ.out⟩
                  case round =>
                    obtain ⟨k, hk, rfl, rfl, HI⟩ := hrel
                    clear HQ
                    by_cases h2 : k < xs.length
                    · have hsu := hasX_succ h2 x
                      obtain ⟨bx, ox, ex, d0, d1, d2⟩ := HXC.out _ k h2 HI.out.blw
                      subst ex
                      obtain ⟨m0, m1, m2⟩ := HMC.out _ HI.out.blw
                      have EQ := fun w => eql_V xs[k] x w
                      have k0 : (0 : Int) ≤ (k : Int) := by omega
                      have k1 : (k : Int) < (xs.length : Int) := by omega
                      have HK : Hid (k + 1 ≤ xs.length) := h2
                      have k2 : k ≤ 100 := by omega
                      have HSU : Hid (hasX xs (k + 1) x = (hasX xs k x || eqV xs[k] x)) := hsu
                      clear hsu
                      generalize xs[k] = y at *
                      generalize hasX xs k x = bb at *
                      clear h2 hk
                      cases bb
                      · have HS2 : Hid (hasX xs (k + 1) x = eqV y x) := HSU.out.trans (by simp)
                        clear HSU
                        go_wp2_with fail
                        go_quiet (fail)
                        clear d0 d1 d2 m0 m1 m2 EQ
                        go_wp2_with fail
                        go_roundw
                        case rel => exact ⟨k + 1, HK.out, by go_num, by rw [HS2.out], HI.out.below (below_drewN (Below.refl _ _) _)⟩
                        case measure => have := HK.out; simp [intOf]; omega
                      · have HS2 : Hid (hasX xs (k + 1) x = true) := HSU.out.trans (by simp)
                        clear HSU
                        go_wp2_with fail
                        go_quiet (fail)
                        clear d0 d1 d2 m0 m1 m2 EQ
                        go_wp2_with fail
                        go_roundw
                        case rel => exact ⟨k + 1, HK.out, by go_num, by rw [HS2.out], HI.out.below (below_drewN (Below.refl _ _) _)⟩
                        case measure => have := HK.out; simp [intOf]; omega
                    · obtain rfl : k = xs.length := by omega
                      have hall := hasX_all (xs := xs) (x := x)
                      have HB2 : Hid (hasX xs xs.length x = true ↔ x ∈ xs) := hall
                      clear hall h2 hk
                      obtain ⟨bb, hbb⟩ : ∃ bb, hasX xs xs.length x = bb := ⟨_, rfl⟩
                      rw [hbb] at HB2
                      cases bb
                      · have HN2 : Hid (More la (OldOf xs ms (j + 1)) (delP x lb) ∧ (delP x lb).length ≤ 200) := HNO.out fun h => by have := HB2.out.2 h; cases this
                        clear HB2 HNO HYES
                        obtain ⟨m0, m1, m2⟩ := HMC.out _ HI.out.blw
                        rw [hbb]
                        go_wp2_with fail
                        refine Calls.mono (HOP.out _ HI.out) ?_
                        rintro e w5 ⟨⟨b5, rfl⟩, q5⟩
                        have HQ5 : Hid (Q2 w0 w1.heap.size la (delP x lb) lv la w5) := q5
                        clear q5 HI HOP m0 m1 m2 HMC HXC hbb
                        go_wp2_with fail
                        go_roundw
                        case rel => exact ⟨j + 1, HJ.out, by go_num, _, HQ5.out, HN2.out⟩
                        case measure => have := HJ.out; simp [intOf]; omega
                      · have HY2 : Hid (More la (OldOf xs ms (j + 1)) lb) := HYES.out (HB2.out.1 rfl)
                        clear HB2 HNO HYES HOP HMC HXC
                        rw [hbb]
                        go_wp2_with fail
                        go_roundw
                        case rel => exact ⟨j + 1, HJ.out, by go_num, lb, HI.out, HY2.out, by have := HLB.out; omega⟩
                        case measure => have := HJ.out; simp [intOf]; omega
                · obtain rfl : j = ms.length := by omega
                  have hms : ms.length ≤ 100 := HML.out.2
                  clear h1 hj
                  obtain ⟨lb, q, hm, hl⟩ := HO.out
                  have e : la = lb := (hm.over HSA.out.1).symm
                  subst e
                  have HQ3 : Hid (Q2 w0 w1.heap.size la la lv la wo) := q
                  clear q hm hl HO
                  obtain ⟨va, vc, rfl, _⟩ := HQ3.out.pairs.slice
                  go_wp2_with fail
                  go_loopw [16] (fun ai wr => ∃ j : Nat, 1 ≤ j ∧ (j ≤ la.length ∨ j = 1) ∧ ai = .int .i64 j ∧ Hid (Q2 w0 w1.heap.size la la (.slice va la.length vc) la wr)) (fun ai _ => la.length - (intOf ai).toNat)
                  case atStart => exact ⟨1, by omega, .inr rfl, rfl, HQ3.out⟩
                  case round =>
                    obtain ⟨j, hj1, hj2, rfl, HO⟩ := hrel
                    clear HQ3
                    have hla := HLA.out
                    by_cases h1 : j < la.length
                    · obtain ⟨r, hr⟩ : ∃ r, j = r + 1 := ⟨j - 1, by omega⟩
                      have hr1 : r < la.length := by omega
                      have hlt : cmpX la[r].k la[j].k = -1 := by
                        have h2 := List.pairwise_iff_getElem.1 HO.out.risesA.1 r j hr1 h1 (by omega)
                        rcases cmpX_three la[r].k la[j].k with h | h | h <;> omega
                      have HC : Hid (∀ W, Calls Try.prog 19 #[V la[r].k.t la[r].k.n la[r].k.s, V la[j].k.t la[j].k.n la[j].k.s] W fun e w' => e = .returned (.int .i64 (-1)) ∧ Below W.heap.size W w') := fun W => by
                        have := rcmpX_any la[r].k la[j].k W (rights_size HO.out.risesA.2 _ (List.getElem_mem hr1)) (rights_size HO.out.risesA.2 _ (List.getElem_mem h1))
                        rwa [hlt] at this
                      obtain ⟨b, o, rfl, c0, c1, c2, c3⟩ := HO.out.pairs.at r hr1
                      have HCC : Hid (∀ W, PairsIn W (.slice (some ⟨b, o, none⟩) la.length vc) la → (W.cell? ⟨b, o + r * 4, none⟩ = some (.bool la[r].k.t) ∧ W.cell? ⟨b, o + r * 4 + 1, none⟩ = some (.int .i64 la[r].k.n) ∧ W.cell? ⟨b, o + r * 4 + 2, none⟩ = some (.string la[r].k.s)) ∧ W.cell? ⟨b, o + j * 4, none⟩ = some (.bool la[j].k.t) ∧ W.cell? ⟨b, o + j * 4 + 1, none⟩ = some (.int .i64 la[j].k.n) ∧ W.cell? ⟨b, o + j * 4 + 2, none⟩ = some (.string la[j].k.s)) := fun W hp => by
                        obtain ⟨b1, o1, e1, q0, q1, q2, _⟩ := hp.at r hr1
                        obtain ⟨b2, o2, e2, p0, p1, p2, _⟩ := hp.at j h1
                        cases e1; cases e2
                        exact ⟨⟨q0, q1, q2⟩, p0, p1, p2⟩
                      clear c0 c1 c2 c3 hlt
                      have ew : IntKind.i64.wrap ((j : Int) - 1) = (r : Int) := by rw [IntKind.wrap_i64]; omega
                      have i0 : (0 : Int) ≤ (r : Int) := by omega
                      have i1 : (r : Int) < (la.length : Int) := by omega
                      have i2 : (0 : Int) ≤ (j : Int) := by omega
                      have i3 : (j : Int) < (la.length : Int) := by omega
                      have i4 : j ≤ 100 := by omega
                      have HJ : Hid (j + 1 ≤ la.length ∧ 1 ≤ j) := ⟨h1, hj1⟩
                      generalize la[r] = y at *
                      generalize la[j] = x at *
                      clear hr hj1 hj2 h1 hr1 hla
                      go_wp2_with fail
                      refine wp_region_held_drew (S := fun w' => (w'.cell? ⟨b, o + r * 4, none⟩ = some (.bool y.k.t) ∧ w'.cell? ⟨b, o + r * 4 + 1, none⟩ = some (.int .i64 y.k.n) ∧ w'.cell? ⟨b, o + r * 4 + 2, none⟩ = some (.string y.k.s)) ∧ w'.cell? ⟨b, o + j * 4, none⟩ = some (.bool x.k.t) ∧ w'.cell? ⟨b, o + j * 4 + 1, none⟩ = some (.int .i64 x.k.n) ∧ w'.cell? ⟨b, o + j * 4 + 2, none⟩ = some (.string x.k.s)) (by kernel_rfl) ?_ (fun hHeld => ?_)
                      · exact HCC.out _ (HO.out.below (Below.refl _ _).drew).pairs
                      (try clear hK K)
                      refine wpAnyH_take (i := 0) (v := ?_) rfl (by kernel_rfl) (by kernel_rfl) (by kernel_rfl) (fun _ _ _ h => h) (Or.inl ⟨by rfl, ?_⟩) (by assumption) ?_
                      rotate_left
                      · intro w hSw; (try dsimp only at hSw); go_simp; (try with_reducible rfl)
                      (try simp only [Act.put, List.getElem_toArray, List.getElem_cons_zero, List.setIfInBounds_toArray, List.set_cons_zero, List.set_cons_succ])
                      refine wpAnyH_take (i := 1) (v := ?_) rfl (by kernel_rfl) (by kernel_rfl) (by kernel_rfl) (fun _ _ _ h => h) (Or.inl ⟨by rfl, ?_⟩) (by assumption) ?_
                      rotate_left
                      · intro w hSw; (try dsimp only at hSw); go_simp; (try with_reducible rfl)
                      (try simp only [Act.put, List.getElem_toArray, List.getElem_cons_succ, List.getElem_cons_zero, List.setIfInBounds_toArray, List.set_cons_zero, List.set_cons_succ])
                      refine wpAnyH_take (i := 2) (v := ?_) rfl (by kernel_rfl) (by kernel_rfl) (by kernel_rfl) (fun _ _ _ h => h) (Or.inl ⟨by rfl, ?_⟩) (by assumption) ?_
                      rotate_left
                      · intro w hSw; (try dsimp only at hSw); go_simp; (try with_reducible rfl)
                      (try simp only [Act.put, List.getElem_toArray, List.getElem_cons_succ, List.getElem_cons_zero, List.setIfInBounds_toArray, List.set_cons_zero, List.set_cons_succ])
                      refine wpAnyH_take (i := 3) (v := ?_) rfl (by kernel_rfl) (by kernel_rfl) (by kernel_rfl) (fun _ _ _ h => h) (Or.inl ⟨by rfl, ?_⟩) (by assumption) ?_
                      rotate_left
                      · intro w hSw; (try dsimp only at hSw); go_simp; (try with_reducible rfl)
                      (try simp only [Act.put, List.getElem_toArray, List.getElem_cons_succ, List.getElem_cons_zero, List.setIfInBounds_toArray, List.set_cons_zero, List.set_cons_succ])
                      refine wpAnyH_take (i := 4) (v := ?_) rfl (by kernel_rfl) (by kernel_rfl) (by kernel_rfl) (fun _ _ _ h => h) (Or.inl ⟨by rfl, ?_⟩) (by assumption) ?_
                      rotate_left
                      · intro w hSw; (try dsimp only at hSw); go_simp; (try with_reducible rfl)
                      (try simp only [Act.put, List.getElem_toArray, List.getElem_cons_succ, List.getElem_cons_zero, List.setIfInBounds_toArray, List.set_cons_zero, List.set_cons_succ])
                      refine wpAnyH_take (i := 5) (v := ?_) rfl (by kernel_rfl) (by kernel_rfl) (by kernel_rfl) (fun _ _ _ h => h) (Or.inl ⟨by rfl, ?_⟩) (by assumption) ?_
                      rotate_left
                      · intro w hSw; (try dsimp only at hSw); go_simp; (try with_reducible rfl)
                      (try simp only [Act.put, List.getElem_toArray, List.getElem_cons_succ, List.getElem_cons_zero, List.setIfInBounds_toArray, List.set_cons_zero, List.set_cons_succ])
                      refine wpAnyH_take (i := 6) (v := ?_) rfl (by kernel_rfl) (by kernel_rfl) (by kernel_rfl) (fun _ _ _ h => h) (Or.inl ⟨by rfl, ?_⟩) (by assumption) ?_
                      rotate_left
                      · intro w hSw; (try dsimp only at hSw); go_simp; (try with_reducible rfl)
                      (try simp only [Act.put, List.getElem_toArray, List.getElem_cons_succ, List.getElem_cons_zero, List.setIfInBounds_toArray, List.set_cons_zero, List.set_cons_succ])
                      refine wpAnyH_take (i := 7) (v := ?_) rfl (by kernel_rfl) (by kernel_rfl) (by kernel_rfl) (fun _ _ _ h => h) (Or.inl ⟨by rfl, ?_⟩) (by assumption) ?_
                      rotate_left
                      · intro w hSw; (try dsimp only at hSw); go_simp; (try with_reducible rfl)
                      (try simp only [Act.put, List.getElem_toArray, List.getElem_cons_succ, List.getElem_cons_zero, List.setIfInBounds_toArray, List.set_cons_zero, List.set_cons_succ])
                      refine wpAnyH_take (i := 8) (v := ?_) rfl (by kernel_rfl) (by kernel_rfl) (by kernel_rfl) (fun _ _ _ h => h) (Or.inl ⟨by rfl, ?_⟩) (by assumption) ?_
                      rotate_left
                      · intro w hSw; (try dsimp only at hSw); go_simp; (try with_reducible rfl)
                      (try simp only [Act.put, List.getElem_toArray, List.getElem_cons_succ, List.getElem_cons_zero, List.setIfInBounds_toArray, List.set_cons_zero, List.set_cons_succ])
                      refine wpAnyH_take (i := 9) (v := ?_) rfl (by kernel_rfl) (by kernel_rfl) (by kernel_rfl) (fun _ _ _ h => h) (Or.inl ⟨by rfl, ?_⟩) (by assumption) ?_
                      rotate_left
                      · intro w hSw; (try dsimp only at hSw); go_simp; (try with_reducible rfl)
                      (try simp only [Act.put, List.getElem_toArray, List.getElem_cons_succ, List.getElem_cons_zero, List.setIfInBounds_toArray, List.set_cons_zero, List.set_cons_succ])
                      refine wpAnyH_take (i := 10) (v := ?_) rfl (by kernel_rfl) (by kernel_rfl) (by kernel_rfl) (fun _ _ _ h => h) (Or.inl ⟨by rfl, ?_⟩) (by assumption) ?_
                      rotate_left
                      · intro w hSw; (try dsimp only at hSw); go_simp; (try with_reducible rfl)
                      (try simp only [Act.put, List.getElem_toArray, List.getElem_cons_succ, List.getElem_cons_zero, List.setIfInBounds_toArray, List.set_cons_zero, List.set_cons_succ])
                      (try clear hK K)
                      refine wpAnyH_ready (rs := [11]) (by kernel_rfl) (by simp) ?_
                      refine AllReadyH.cons rfl (fun K hK => ?_) AllReadyH.nil
                      go_simp
                      (refine Calls.mono (HC.out _) ?_; rintro e w3 ⟨rfl, hb3⟩)
                      refine hK.out _ _ ?_ (fun hHeld => ?_)
                      · exact HCC.out _ (HO.out.below (on (Below.refl _ _).drew hb3)).pairs
                      (try clear hK K)
                      refine wpAnyH_take (i := 12) (v := ?_) rfl (by kernel_rfl) (by kernel_rfl) (by kernel_rfl) (fun _ _ _ h => h) (Or.inl ⟨by rfl, ?_⟩) (by assumption) ?_
                      rotate_left
                      · intro w hSw; (try dsimp only at hSw); go_simp; (try with_reducible rfl)
                      (try simp only [Act.put, List.getElem_toArray, List.getElem_cons_succ, List.getElem_cons_zero, List.setIfInBounds_toArray, List.set_cons_zero, List.set_cons_succ])
                      (try clear hK K)
                      refine wpAnyH_done (by kernel_rfl) ?_ _
                      have HO2 : Hid (Q2 w0 w1.heap.size la la (.slice (some ⟨b, o, none⟩) la.length vc) la w3) := HO.out.below (on (Below.refl _ _).drew hb3)
                      clear hb3 HO HC HCC ew
                      go_wp2_with fail
                      go_roundw
                      case rel => exact ⟨j + 1, by omega, .inl HJ.out.1, by go_num, HO2.out⟩
                      case measure => have := HJ.out.1; simp [intOf]; omega
                    · have i1 : (la.length : Int) ≤ (j : Int) := by omega
                      have i1' : la.length ≤ j := by omega
                      have HQ4 : Hid (Q2 w0 w1.heap.size la la (.slice va la.length vc) la wr) := HO.out
                      have j9 : j ≤ 100 := by omega
                      clear HO hj2 h1 hla
                      have n0 : (0 : Int) ≤ (la.length : Int) := by omega
                      have CP : Hid (∀ W, Q2 w0 w1.heap.size la la (.slice va la.length vc) la W → Calls Try.prog 14 #[.pointer (some ⟨w1.heap.size, 0, none⟩), .agg #[.bool false, .bool false, .bool false, .bool false, .int .i64 0, .string ⟨#[]⟩, .bool false, .bool false, .bool false, .int .i64 0, .string ⟨#[]⟩]] W fun e w' => ∃ v, e = .returned v ∧ PairsIn w' v la ∧ Q2 w0 w1.heap.size la la (.slice va la.length vc) la w') := fun W q => q2_pairsb q (by have := HLA.out; omega)
                      have CS : Hid (∀ W v, PairsIn W v la → Q2 w0 w1.heap.size la la (.slice va la.length vc) la W → Calls Try.prog 13 #[.slice va la.length vc, v] W fun e w' => e = .returned (.bool true) ∧ Q2 w0 w1.heap.size la la (.slice va la.length vc) la w') := fun W v hp q => (psame_any _ v la W q.pairs hp).mono fun e w' ⟨he, hb⟩ => ⟨he, q.below hb⟩
                      have CA : Hid (∀ W, Q2 w0 w1.heap.size la la (.slice va la.length vc) la W → Calls Try.prog 12 #[.pointer (some ⟨w0.heap.size, 0, none⟩)] W fun e w' => e = .returned (.int .i64 la.length) ∧ Q2 w0 w1.heap.size la la (.slice va la.length vc) la w') := fun W q => q2_lena q
                      have CB : Hid (∀ W, Q2 w0 w1.heap.size la la (.slice va la.length vc) la W → Calls Try.prog 12 #[.pointer (some ⟨w1.heap.size, 0, none⟩)] W fun e w' => e = .returned (.int .i64 la.length) ∧ Q2 w0 w1.heap.size la la (.slice va la.length vc) la w') := fun W q => q2_lenb q
                      go_wp2_with fail
                      refine Calls.mono (CP.out _ HQ4.out) ?_
                      rintro e x1 ⟨pv, rfl, hp, q⟩
                      have HQ5 : Hid (PairsIn x1 pv la ∧ Q2 w0 w1.heap.size la la (.slice va la.length vc) la x1) := ⟨hp, q⟩
                      clear hp q HQ4 CP
                      go_wp2_with fail
                      refine Calls.mono (CS.out _ _ HQ5.out.1 HQ5.out.2) ?_
                      rintro e x2 ⟨rfl, q⟩
                      have HQ6 : Hid (Q2 w0 w1.heap.size la la (.slice va la.length vc) la x2) := q
                      clear q HQ5 CS
                      go_wp2_with fail
                      refine Calls.mono (CA.out _ HQ6.out) ?_
                      rintro e x3 ⟨rfl, q⟩
                      have HQ7 : Hid (Q2 w0 w1.heap.size la la (.slice va la.length vc) la x3) := q
                      clear q HQ6
                      go_wp2_with fail
                      refine Calls.mono (CB.out _ HQ7.out) ?_
                      rintro e x4 ⟨rfl, q⟩
                      have HQ8 : Hid (Q2 w0 w1.heap.size la la (.slice va la.length vc) la x4) := q
                      clear q HQ7
                      go_wp2_with fail
                      refine Calls.mono (CA.out _ HQ8.out) ?_
                      rintro e x5 ⟨rfl, q⟩
                      have HE : Hid (Below w.heap.size w x5) := on HB0.out q.blw
                      clear q HQ8
                      go_wp2_with fail
                      go_ret
                      exact ⟨rfl, HE.out⟩
end Go.Proofs.Ytooblmldmbbejaa.Val
/- The statement of TreeOrders (P5.1, P5.2): in whatever order keys are put, the tree tells the same; what is put and deleted again leaves no trace. No conditions. -/
namespace Go.Proofs.Ytooblmldmbbejaa.Val
open Go.ChangeShapes Go.WideShapes Go.ChangeAt Go.RowKit
open Go.ChangeMaps (open_string)

set_option maxRecDepth 100000 in
theorem torders_lifted (os : Os) (started : os.Started) (H : Type) (enc : TypeId × Value → H) :
    ReturnsInHanded {} Try.checked os 6 .any (Rows.treeOrdersSpec.pre6 enc Try.prog Try.f6 Rows.treeOrdersRow.domain false) (Rows.treeOrdersSpec.post enc Try.prog Try.f6 false true false false) := by
  refine returnsInHanded_of_change (C := Try.checked) own started (by kernel_rfl) Try.func6
    (ChangeSpec.witness6 (enc := enc) (C := Try.checked) false ⟨#[], #[.slice none 0 0, .slice none 0 0], []⟩ 8 (by kernel_rfl) (by kernel_rfl) (by kernel_rfl) (by kernel_rfl)) ?_
  intro W base args ds gs before hval0 hW _ _
  have hval : ∀ (j : Nat) t v, Try.f6.params[j]? = some t → args[j]? = some v → Value.okWide Try.prog W .any base t v := hval0
  have hW' := hW
  obtain ⟨p, q, hA0, hV, rfl, hfz, hnd⟩ := hW
  have hA : DataW.TrodAll enc Try.prog W 0 (fun _ => true) true Try.f6.params.toList args.toList ds p := hA0
  rw [Try.params6] at hA hval
  obtain ⟨v0, vs0, d0, ds0, p0, q0, hargs, rfl, rfl, h0, r0⟩ := trodAll_cons hA
  obtain ⟨v1, vs1, d1, ds1, p1, q1, rfl, rfl, rfl, h1, r1⟩ := trodAll_cons r0
  obtain ⟨rfl, rfl, rfl⟩ := trodAll_nil r1
  obtain rfl : args = #[v0, v1] := by cases args; simp_all
  obtain ⟨rfl, rfl⟩ := trodVars_none hV
  have k0 := h0
  have lt0 : ∀ x ∈ p0, x.block < W.heap.size := by obtain ⟨m, hm⟩ := k0; exact DataW.trod_lt m _ _ _ hm
  obtain ⟨a0, len0, cap0, rfl⟩ := okWide_slice Try.underlying51 (hval 0 51 v0 rfl rfl)
  obtain ⟨l0, w0, o0⟩ := open_values h0 rfl
  have k1 := h1
  have lt1 : ∀ x ∈ p1, x.block < W.heap.size := by obtain ⟨m, hm⟩ := k1; exact DataW.trod_lt m _ _ _ hm
  obtain ⟨a1, len1, cap1, rfl⟩ := okWide_slice Try.underlying51 (hval 1 51 v1 rfl rfl)
  obtain ⟨l1, w1, o1⟩ := open_values h1 rfl
  clear hA0 hval0
  refine (torders_walk _ _ l0 l1 W w0 w1 o0 o1).mono fun e W' ⟨he, bel⟩ => ?_
  subst he
  exact ⟨_, rfl, _, _, _, [], _, [], hW', trodAll_mk1 (shut_bool Try.underlying4 _), (trodAll_cons_mk (Below.trod laidOut (by kernel_rfl) (of_decide_eq_true (by kernel_rfl)) k0 bel lt0) (trodAll_cons_mk (Below.trod laidOut (by kernel_rfl) (of_decide_eq_true (by kernel_rfl)) k1 bel lt1) trodAll_mk0)), rfl, bel.frame _, fun h => by cases h⟩

/-- The statement. -/
theorem torders_said : Rows.TreeOrdersSaid :=
  OpenClaim.holds_of_wide 6 Try.f6 rfl rfl rfl rfl rfl rfl rfl ⟨rfl, rfl, rfl, rfl, rfl⟩ rfl rfl rfl rfl rfl (by kernel_rfl) Try.func6 (by kernel_rfl)
    (of_decide_eq_true (by kernel_rfl)) (by unfold Func.isWrapper; first | (rw [if_pos (by decide +kernel)]; kernel_rfl) | (rw [if_neg (by decide +kernel)]; exact ⟨rfl, rfl⟩))
    (fun os started H enc _ => torders_lifted os started H enc)
end Go.Proofs.Ytooblmldmbbejaa.Val
