/- What the tree's settle does, in whatever way: the node's row is as it should be. -/
import Derived.Test.YtafkpfhhmmnpeaaU7
import Derived.Test.YtafkpfhhmmnpeaaU9
import Derived.Test.YtafkpfhhmmnpeaaU10
import Derived.Test.YtafkpfhhmmnpeaaU11
import Derived.Test.YtafkpfhhmmnpeaaU8
namespace Go.Proofs.Ytafkpfhhmmnpeaa.Val
open Go Go.RowKit
set_option maxRecDepth 100000

theorem relR_len (R : Nat → List It) (a p c : Nat) : (relR R a p c a).length = (R a).length := by unfold relR; rw [upd_same, List.length_set]
theorem splitR_len (R : Nat → List It) (a p c n : Nat) (k : Val) (hp : p + 1 ≤ (R a).length) : (splitR R a p c n k a).length = (R a).length + 1 := by
  unfold splitR; rw [upd_same, insR_length _ _ _ hp]; rfl
theorem joinR_len (R : Nat → List It) (a p c d : Nat) (had : a ≠ d) (hp : p + 2 ≤ (R a).length) : (joinR R a p c d a).length = (R a).length - 1 := by
  unfold joinR; rw [upd_other _ _ had, upd_same, delR_length _ _ _ (by omega) hp]; omega
/-- How many items, nodes and free ones there are behind it. -/
structure Lens (l c l' m m' : Nat) (fr fr' : List Nat) : Prop where
  five : c = 5 → l' = l + 1 ∧ m' = tkM m fr ∧ fr' = fr.dropLast
  some : 2 ≤ c → c ≤ 4 → l' = l ∧ m' = m ∧ fr' = fr
  one : c = 1 → l' ≤ l ∧ l ≤ l' + 1 ∧ m' = m
section
variable {w : World} {h : Hd} {R : Nat → List It} {m hh n : Nat} {fr X : List Nat} {A B : List It} {x : It} {root dep cnt : Nat}
theorem Mid.left (M : Mid R m fr hh n X A x B) {A0 : List It} {x1 : It} (e : A = A0 ++ [x1]) : Mid2 R m fr hh n X A0 x1 x B ∧ 2 ≤ (R x1.d).length ∧ (R x1.d).length ≤ 4 := by
  subst e
  obtain ⟨a1, a2⟩ := okL_append.1 M.okA
  obtain ⟨k1, k2, _, k4⟩ := okI_up.1 (okL_one.1 a2)
  refine ⟨⟨by rw [M.row]; simp, a1, M.okB, k4, M.okc, M.once.of fun z => ?_, M.free⟩, k1, k2⟩
  rw [nds_append, nds_up]
  simp only [List.count_cons, List.count_append]; omega
theorem Mid.right (M : Mid R m fr hh n X A x B) {B0 : List It} {y1 : It} (e : B = y1 :: B0) : Mid2 R m fr hh n X A x y1 B0 ∧ 2 ≤ (R y1.d).length ∧ (R y1.d).length ≤ 4 := by
  subst e
  obtain ⟨a1, a2⟩ := okL_cons.1 M.okB
  obtain ⟨k1, k2, _, k4⟩ := okI_up.1 a1
  refine ⟨⟨M.row, M.okA, a2, M.okc, k4, M.once.of fun z => ?_, M.free⟩, k1, k2⟩
  rw [nds_cons R (hh + 1) y1 B0, nds_up]
  simp only [List.count_cons, List.count_append]; omega
theorem cons_of_drop {l : List It} (h : l.length = 5) : ∃ y ys, l.drop 2 = y :: ys := by
  cases e : l.drop 2 with
  | nil =>
    have := congrArg List.length e
    simp at this
    omega
  | cons y ys => exact ⟨y, ys, rfl⟩
theorem settle_mid2 {y : It} (t : TL w h R m fr root dep cnt) (M : Mid2 R m fr hh n X A x y B) (hm : m ≤ 1000000) (hl4 : (R n).length ≤ 4) (p : Nat) (x0 : It) (hx0 : (R n)[p]? = some x0) (h1 : (R x0.d).length < 2) (hpq : p = A.length + 1 ∨ (p = 0 ∧ A.length = 0)) (hx00 : x0 = x ∨ x0 = y)
    (s2 : 3 ≤ (R x.d).length + (R y.d).length) (s5 : (R x.d).length + (R y.d).length ≤ 5) (hx1 : 0 < (R x.d).length) (hy1 : 0 < (R y.d).length) :
    Calls Try.prog 74 #[.pointer (some ⟨h.p, 0, none⟩), .int .i64 n, .int .i64 p] w fun e w' => e = .returned (.tuple #[]) ∧ ∃ R' m' fr' h', TL w' h' R' m' fr' root dep cnt ∧ Mv w h w' h' ∧ Fin R hh n X (prs R (hh + 1) A ++ ((prs R hh (R x.d) ++ prs R hh (R y.d)) ++ prs R (hh + 1) B)) R' m' fr' ∧ (R' n).length ≤ (R n).length ∧ (R n).length ≤ (R' n).length + 1 ∧ m' = m := by
  have nd := M.once.nodup
  simp only [List.nodup_cons, List.nodup_append, List.mem_append, List.mem_cons, not_or] at nd
  have hn : n < m := M.once.lt (by simp)
  have hxm : x.d < m := M.once.lt (by simp)
  have hym : y.d < m := M.once.lt (by simp)
  have hfl : fr.length ≤ 1000000 := by
    have := M.once.length
    simp at this; omega
  have hrx : (R n)[A.length]? = some x := by rw [M.row]; simp
  have hry : (R n)[A.length + 1]? = some y := by rw [M.row, List.getElem?_append_right (by omega)]; simp
  have hpl : A.length + 2 ≤ (R n).length := by rw [M.row]; simp
  have hx0m : x0.d < m := by rcases hx00 with rfl | rfl <;> assumption
  by_cases h5 : (R x.d).length + (R y.d).length = 5
  · obtain ⟨z0, zs, hz⟩ := cons_of_drop (l := R x.d ++ R y.d) (by simpa using h5)
    refine Calls.mono (settle_both t n p x0.d A.length x.d y.d hn x0 hx0 rfl hx0m h1 hpq x y hrx rfl hry rfl hxm hym nd.1.2.1 nd.1.2.2.2.1 nd.2.2.1.1.2.1 hy1 hfl h5 hm (fun z hz => ⟨M.once.lt (by simp [hz]), M.free z hz⟩) (fun hz => nd.1.2.2.2.2.2.2.2 hz) (fun hz => nd.2.2.1.1.2.2.2.2.2 hz) z0 zs hz) ?_
    rintro e w' ⟨rfl, h', T, V⟩
    have hj := joinR_len R n A.length x.d y.d nd.1.2.2.2.1 hpl
    have hs := splitR_len (joinR R n A.length x.d y.d) n A.length x.d y.d z0.k (by omega)
    have hr := relR_len (splitR (joinR R n A.length x.d y.d) n A.length x.d y.d z0.k) n A.length x.d
    exact ⟨rfl, _, _, _, h', T, V, fin_both M h5 hz, by omega, by omega, rfl⟩
  · refine Calls.mono (settle_join t n p x0.d A.length x.d y.d hn x0 hx0 rfl hx0m h1 hpq x y hrx rfl hry rfl hxm hym nd.1.2.1 nd.1.2.2.2.1 nd.2.2.1.1.2.1 hx1 hy1 hfl (by omega)) ?_
    rintro e w' ⟨rfl, h', T, V⟩
    have hj := joinR_len R n A.length x.d y.d nd.1.2.2.2.1 hpl
    have hr := relR_len (joinR R n A.length x.d y.d) n A.length x.d
    exact ⟨rfl, _, _, _, h', T, V, fin_join M (by omega) (by omega), by omega, by omega, rfl⟩
theorem settle_any (t : TL w h R m fr root dep cnt) (M : Mid R m fr hh n X A x B) (hm : m ≤ 1000000) (c1 : 1 ≤ (R x.d).length) (c5 : (R x.d).length ≤ 5) (hl2 : 2 ≤ (R n).length) (hl4 : (R n).length ≤ 4) :
    Calls Try.prog 74 #[.pointer (some ⟨h.p, 0, none⟩), .int .i64 n, .int .i64 A.length] w fun e w' => e = .returned (.tuple #[]) ∧ ∃ R' m' fr' h', TL w' h' R' m' fr' root dep cnt ∧ Mv w h w' h' ∧ Fin R hh n X (prs R (hh + 1) A ++ (prs R hh (R x.d) ++ prs R (hh + 1) B)) R' m' fr' ∧ Lens (R n).length (R x.d).length (R' n).length m m' fr fr' := by
  have nd := M.once.nodup
  simp only [List.nodup_cons, List.nodup_append, List.mem_append, List.mem_cons, not_or] at nd
  have hn : n < m := M.once.lt (by simp)
  have hxm : x.d < m := M.once.lt (by simp)
  have hrx : (R n)[A.length]? = some x := by rw [M.row]; simp
  have hpl : A.length + 1 ≤ (R n).length := by rw [M.row]; simp
  rcases (by omega : (R x.d).length = 1 ∨ (2 ≤ (R x.d).length ∧ (R x.d).length ≤ 4) ∨ (R x.d).length = 5) with h1 | ⟨h2, h4⟩ | h5
  · rcases List.eq_nil_or_concat A with e | ⟨A0, x1, e⟩
    · cases hB : B with
      | nil => rw [M.row, e, hB] at hl2; simp at hl2
      | cons y1 B0 =>
        obtain ⟨M2, k1, k2⟩ := M.right hB
        refine Calls.mono (settle_mid2 t M2 hm hl4 A.length x hrx (by omega) (.inr (by simp [e])) (.inl rfl) (by omega) (by omega) (by omega) (by omega)) ?_
        rintro e' w' ⟨rfl, R', m', fr', h', T, V, Fi, l1, l2, l3⟩
        refine ⟨rfl, R', m', fr', h', T, V, ?_, ⟨by omega, by omega, fun _ => ⟨l1, l2, l3⟩⟩⟩
        rw [prs_cons R (hh + 1) y1 B0, prs_up]
        simpa only [List.append_assoc] using Fi
    · have e' : A = A0 ++ [x1] := by rw [e]; simp
      obtain ⟨M2, k1, k2⟩ := M.left e'
      refine Calls.mono (settle_mid2 t M2 hm hl4 A.length x hrx (by omega) (.inl (by rw [e']; simp)) (.inr rfl) (by omega) (by omega) (by omega) (by omega)) ?_
      rintro e'' w' ⟨rfl, R', m', fr', h', T, V, Fi, l1, l2, l3⟩
      refine ⟨rfl, R', m', fr', h', T, V, ?_, ⟨by omega, by omega, fun _ => ⟨l1, l2, l3⟩⟩⟩
      rw [e', prs_append, prs_up]
      simpa only [List.append_assoc] using Fi
  · refine Calls.mono (settle_keep t n A.length x.d hn x hrx rfl hxm h2 h4) ?_
    rintro e w' ⟨rfl, T, V⟩
    exact ⟨rfl, _, _, _, h, T, V, fin_keep M h2 h4, ⟨by omega, fun _ _ => ⟨relR_len _ _ _ _, rfl, rfl⟩, by omega⟩⟩
  · obtain ⟨y, ys, hy⟩ := cons_of_drop h5
    refine Calls.mono (settle_split t hm (fun z hz => ⟨M.once.lt (by simp [hz]), M.free z hz⟩) n A.length x.d hn x hrx rfl hxm nd.1.2.1 (fun hz => nd.1.2.2.2.2.2 hz) (fun hz => nd.2.2.1.1.2.2.2 hz) hl4 y ys hy (by omega)) ?_
    rintro e w' ⟨rfl, h', T, V⟩
    exact ⟨rfl, _, _, _, h', T, V, fin_split M h5 hy, ⟨fun _ => ⟨by rw [relR_len, splitR_len _ _ _ _ _ _ hpl], rfl, rfl⟩, by omega, by omega⟩⟩
end
end Go.Proofs.Ytafkpfhhmmnpeaa.Val
/- What the tree's change does: something is done in the leaf of a key, and all nodes on the way are settled. -/
namespace Go.Proofs.Ytafkpfhhmmnpeaa.Val
open Go Go.RowKit
set_option maxRecDepth 100000

/-- What a change comes to. -/
structure Out (R : Nat → List It) (m : Nat) (fr : List Nat) (hh n : Nat) (X : List Nat) (grow : Bool) (aP : List Pr → List Pr) (R' : Nat → List It) (m' : Nat) (fr' : List Nat) : Prop where
  nd : Nd R' m' fr' hh n X
  ps : prs R' hh (R' n) = aP (prs R hh (R n))
  frame : ∀ z ∈ X, R' z = R z
  more : grow = true → (R n).length ≤ (R' n).length ∧ (R' n).length ≤ (R n).length + 1 ∧ (m' = m ∨ fr' = []) ∧ m' ≤ m + hh
  emp : grow = true → fr = [] → fr' = []
  mono : grow = true → m ≤ m'
  less : grow = false → (R' n).length ≤ (R n).length ∧ (R n).length ≤ (R' n).length + 1 ∧ m' = m
section
variable {R : Nat → List It} {m hh n : Nat} {fr X : List Nat} {A B : List It} {x : It}
theorem Nd.child (N : Nd R m fr (hh + 1) n X) (e : R n = A ++ x :: B) : Nd R m fr hh x.d (n :: (nds R (hh + 1) A ++ (nds R (hh + 1) B ++ X))) ∧ okL R (hh + 1) A ∧ okI R (hh + 1) x ∧ okL R (hh + 1) B := by
  have ho := N.ok
  rw [e, okL_append, okL_cons] at ho
  refine ⟨⟨(okI_up.1 ho.2.1).2.2.2, N.once.of fun z => ?_, N.free⟩, ho.1, ho.2.1, ho.2.2⟩
  rw [e, nds_append, nds_cons R (hh + 1) x B, nds_up]
  simp only [List.count_cons, List.count_append]; omega
theorem Nd.leaf (N : Nd R m fr 0 n X) (r : List It) : Nd (upd R n r) m fr 0 n X := by
  have hn : n ∉ fr := fun h => by
    have := N.once.nodup
    simp only [List.nodup_cons, List.mem_append, not_or] at this
    exact this.1.2.2 h
  exact ⟨fun _ _ => trivial, N.once, fun z hz => by rw [upd_other _ _ fun e => hn (by rw [← e]; exact hz)]; exact N.free z hz⟩
theorem Nd.notX (N : Nd R m fr hh n X) : ∀ z ∈ X, z ≠ n := fun z hz e => by
  have := N.once.nodup
  simp only [List.nodup_cons, List.mem_append, not_or] at this
  exact this.1.2.1 (e ▸ hz)
/-- Behind the change below, ahead of settling. -/
theorem Out.mid {grow : Bool} {aP : List Pr → List Pr} {R1 : Nat → List It} {m1 : Nat} {fr1 : List Nat} (e : R n = A ++ x :: B) (okA : okL R (hh + 1) A) (okB : okL R (hh + 1) B)
    (O : Out R m fr hh x.d (n :: (nds R (hh + 1) A ++ (nds R (hh + 1) B ++ X))) grow aP R1 m1 fr1) : Mid R1 m1 fr1 hh n X A x B ∧ prs R1 (hh + 1) A = prs R (hh + 1) A ∧ prs R1 (hh + 1) B = prs R (hh + 1) B ∧ R1 n = R n ∧ (∀ z ∈ X, R1 z = R z) := by
  obtain ⟨a1, a2, a3⟩ := same_all (R' := R1) (hh + 1) A fun z hz => O.frame z (by simp [hz])
  obtain ⟨b1, b2, b3⟩ := same_all (R' := R1) (hh + 1) B fun z hz => O.frame z (by simp [hz])
  have en : R1 n = R n := O.frame n (by simp)
  refine ⟨⟨en.trans e, a3 okA, b3 okB, O.nd.ok, O.nd.once.of fun z => ?_, O.nd.free⟩, a1, b1, en, fun z hz => O.frame z (by simp [hz])⟩
  rw [a2, b2]
  simp only [List.count_cons, List.count_append]; omega
theorem tkM_ge (m : Nat) (fr : List Nat) : m ≤ tkM m fr := by unfold tkM; split <;> omega
theorem tk_more {m1 m' : Nat} {fr1 fr' : List Nat} (h : m1 = m ∨ fr1 = []) (hm : m1 ≤ m + hh) (e1 : m' = tkM m1 fr1) (e2 : fr' = fr1.dropLast) : (m' = m ∨ fr' = []) ∧ m' ≤ m + (hh + 1) := by
  rcases tkN_cases m1 fr1 with ⟨k1, _, k3⟩ | ⟨k1, k2⟩
  · subst k1
    exact ⟨.inr (by rw [e2]; rfl), by omega⟩
  · rcases h with h | h
    · exact ⟨.inl (by rw [e1, k2, h]), by omega⟩
    · rw [h] at k1; simp at k1
/-- One level up. -/
theorem out_up {k : Val} {grow : Bool} {aR : List It → List It} {aP : List Pr → List Pr} {ans : List Pr → Bool} (D : Deed k grow aR aP ans) {R1 R' : Nat → List It} {m1 m' : Nat} {fr1 fr' : List Nat} (e : R n = A ++ x :: B) (okA : okL R (hh + 1) A) (okB : okL R (hh + 1) B) (okx : okI R (hh + 1) x)
    (hA : ∀ y ∈ prs R (hh + 1) A, cmpX y.k k < 0) (hB : ∀ y ∈ prs R (hh + 1) B, 0 < cmpX y.k k)
    (O : Out R m fr hh x.d (n :: (nds R (hh + 1) A ++ (nds R (hh + 1) B ++ X))) grow aP R1 m1 fr1)
    (F : Fin R1 hh n X (prs R1 (hh + 1) A ++ (prs R1 hh (R1 x.d) ++ prs R1 (hh + 1) B)) R' m' fr') (L : Lens (R1 n).length (R1 x.d).length (R' n).length m1 m' fr1 fr') :
    Out R m fr (hh + 1) n X grow aP R' m' fr' ∧ ans (prs R (hh + 1) (R n)) = ans (prs R hh (R x.d)) := by
  obtain ⟨M, a1, b1, en, fX⟩ := O.mid e okA okB
  obtain ⟨x2, x4, _, _⟩ := okI_up.1 okx
  have ep : prs R (hh + 1) (R n) = prs R (hh + 1) A ++ (prs R hh (R x.d) ++ prs R (hh + 1) B) := by rw [e, prs_append, prs_cons R (hh + 1) x B, prs_up]
  obtain ⟨m1', m2'⟩ := D.mid _ (prs R hh (R x.d)) _ hA hB
  refine ⟨⟨F.nd, by rw [F.prs, ep, m1', a1, b1, O.ps], fun z hz => (F.frame z hz).trans (fX z hz), fun hg => ?_, fun hg h0 => ?_, fun hg => ?_, fun hg => ?_⟩, by rw [ep, m2']⟩
  · obtain ⟨l1, l2, l3, l4⟩ := O.more hg
    rw [← en]
    rcases (by omega : (R1 x.d).length = 5 ∨ (2 ≤ (R1 x.d).length ∧ (R1 x.d).length ≤ 4)) with h5 | ⟨h2, h4⟩
    · obtain ⟨k1, k2, k3⟩ := L.five h5
      obtain ⟨k4, k5⟩ := tk_more l3 l4 k2 k3
      exact ⟨by omega, by omega, k4, k5⟩
    · obtain ⟨k1, k2, k3⟩ := L.some h2 h4
      exact ⟨by omega, by omega, by rw [k2, k3]; exact l3, by omega⟩
  · obtain ⟨l1, l2, l3, l4⟩ := O.more hg
    have h1 := O.emp hg h0
    rcases (by omega : (R1 x.d).length = 5 ∨ (2 ≤ (R1 x.d).length ∧ (R1 x.d).length ≤ 4)) with h5 | ⟨h2, h4⟩
    · rw [(L.five h5).2.2, h1]; rfl
    · rw [(L.some h2 h4).2.2, h1]
  · obtain ⟨l1, l2, l3, l4⟩ := O.more hg
    have h1 := O.mono hg
    rcases (by omega : (R1 x.d).length = 5 ∨ (2 ≤ (R1 x.d).length ∧ (R1 x.d).length ≤ 4)) with h5 | ⟨h2, h4⟩
    · have h3 := (L.five h5).2.1
      have := tkM_ge m1 fr1
      omega
    · have h3 := (L.some h2 h4).2.1
      omega
  · obtain ⟨l1, l2, l3⟩ := O.less hg
    rw [← en]
    rcases (by omega : (R1 x.d).length = 1 ∨ (2 ≤ (R1 x.d).length ∧ (R1 x.d).length ≤ 4)) with h5 | ⟨h2, h4⟩
    · obtain ⟨k1, k2, k3⟩ := L.one h5
      exact ⟨k1, k2, by omega⟩
    · obtain ⟨k1, k2, k3⟩ := L.some h2 h4
      exact ⟨by omega, by omega, by omega⟩
end
/-- What a function that is handed down does in a leaf. -/
def DoOk (f : FuncId) (cap : Array Value) (k : Val) (aR : List It → List It) (ans : List Pr → Bool) (I : World → Hd → Prop) : Prop :=
  ∀ {w : World} {h : Hd} {R : Nat → List It} {m : Nat} {fr : List Nat} {root dep cnt : Nat} (n : Nat), TL w h R m fr root dep cnt → I w h → n < m → (R n).length ≤ 4 → RisesI (R n) → RightsI (R n) →
    Calls Try.prog f (#[.int .i64 n, .int .i64 (place k (R n)), .bool (there k (R n))] ++ cap) w fun e w' => e = .returned (.bool (ans ((R n).map toP))) ∧ TL w' h (upd R n (aR (R n))) m fr root dep cnt ∧ Mv w h w' h
section
variable {w : World} {h : Hd} {R : Nat → List It} {m : Nat} {fr : List Nat} {root dep cnt : Nat}
set_option maxHeartbeats 4000000 in
theorem change_leaf {f : FuncId} {cap : Array Value} {k : Val} {grow : Bool} {aR : List It → List It} {aP : List Pr → List Pr} {ans : List Pr → Bool} {I : World → Hd → Prop} (D : Deed k grow aR aP ans) (hE : Enters f) (hI : ∀ w h w' h', I w h → Mv w h w' h' → I w' h') (hD : DoOk f cap k aR ans I)
    (n : Nat) (X : List Nat) (t : TL w h R m fr root dep cnt) (i : I w h) (N : Nd R m fr 0 n X) (hr : Rises (prs R 0 (R n))) (hrt : Rights (prs R 0 (R n))) (h4 : (R n).length ≤ 4) :
    Calls Try.prog 61 #[.pointer (some ⟨h.p, 0, none⟩), .int .i64 n, .int .i64 1, V k.t k.n k.s, FV f #[] cap] w fun e w' =>
      e = .returned (.bool (ans (prs R 0 (R n)))) ∧ ∃ R' m' fr' h', TL w' h' R' m' fr' root dep cnt ∧ Mv w h w' h' ∧ Out R m fr 0 n X grow aP R' m' fr' := by
  have hn : n < m := N.once.lt (by simp)
  have hri : RisesI (R n) := rises_items N.ok hr
  have hrI : RightsI (R n) := fun x hx => hrt (toP x) (List.mem_map.2 ⟨x, hx, rfl⟩)
  have H1 : Hid (∀ w1, Below w.heap.size w w1 → Calls Try.prog 55 #[.pointer (some ⟨h.p, 0, none⟩), .int .i64 n, V k.t k.n k.s] w1 fun e w' => e = .returned (.tuple #[.int .i64 (place k (R n)), .bool (there k (R n))]) ∧ Below w1.heap.size w1 w') := fun w1 hb => find_any (t.below hb) n hn k hri
  have H2 : Hid (∀ w1, Below w.heap.size w w1 → Calls Try.prog f (#[.int .i64 n, .int .i64 (place k (R n)), .bool (there k (R n))] ++ cap) w1 fun e w' => e = .returned (.bool (ans ((R n).map toP))) ∧ TL w' h (upd R n (aR (R n))) m fr root dep cnt ∧ Mv w1 h w' h) := fun w1 hb => hD n (t.below hb) (hI _ _ _ _ i (Mv.of hb)) hn h4 hri hrI
  have HO : Hid (Out R m fr 0 n X grow aP (upd R n (aR (R n))) m fr) := by
    refine ⟨N.leaf _, ?_, fun z hz => upd_other _ _ (N.notX z hz), fun hg => ?_, fun _ h => h, fun _ => Nat.le_refl _, fun hg => ?_⟩
    · rw [prs_zero, prs_zero, upd_same]; exact D.leaf _ hri hrI
    · rw [upd_same]; have := D.more hg (R n); exact ⟨this.1, this.2, .inl rfl, Nat.le_refl _⟩
    · rw [upd_same]; have := D.less hg (R n); exact ⟨this.1, this.2, rfl⟩
  have HE : Hid (Enters f) := hE
  clear t hr hrt N hri hrI i hD hI D h4
  rw [prs_zero]
  generalize place k (R n) = pl at *
  generalize there k (R n) = th at *
  generalize ans ((R n).map toP) = an at *
  generalize upd R n (aR (R n)) = R5 at *
  go_enter Try.func61, Try.ntmps61
  go_wp2_with fail
  refine Calls.mono (H1.out _ (alloc1 _ _)) ?_
  rintro e w1 ⟨rfl, hb⟩
  have HB : Hid (Below w.heap.size w w1) := back1 hb
  have hE : ∀ args w, (callFunc f args).run Try.prog w = .ok (.enter f args) w := HE.out
  clear hb H1
  go_wp2_with fail
  refine Calls.mono (H2.out _ HB.out) ?_
  rintro e w2 ⟨rfl, hT, hM⟩
  have HT : Hid (TL w2 h R5 m fr root dep cnt ∧ Mv w h w2 h) := ⟨hT, (Mv.of HB.out).trans hM⟩
  clear hT hM H2
  go_wp2_with fail
  go_ret
  exact ⟨rfl, R5, m, fr, h, HT.out.1, HT.out.2, HO.out⟩
/-- The contract of a change, so deep. -/
def ChOk (f : FuncId) (cap : Array Value) (k : Val) (grow : Bool) (aP : List Pr → List Pr) (ans : List Pr → Bool) (I : World → Hd → Prop) (hh : Nat) : Prop :=
  ∀ {w : World} {h : Hd} {R : Nat → List It} {m : Nat} {fr : List Nat} {root dep cnt : Nat} (n : Nat) (X : List Nat), TL w h R m fr root dep cnt → I w h → Nd R m fr hh n X → Rises (prs R hh (R n)) → Rights (prs R hh (R n)) → (R n).length ≤ 4 → (hh = 0 ∨ 2 ≤ (R n).length) → m + hh ≤ 1000000 →
    Calls Try.prog 61 #[.pointer (some ⟨h.p, 0, none⟩), .int .i64 n, .int .i64 (hh + 1 : Nat), V k.t k.n k.s, FV f #[] cap] w fun e w' =>
      e = .returned (.bool (ans (prs R hh (R n)))) ∧ ∃ R' m' fr' h', TL w' h' R' m' fr' root dep cnt ∧ Mv w h w' h' ∧ Out R m fr hh n X grow aP R' m' fr'
set_option maxHeartbeats 8000000 in
theorem change_up {f : FuncId} {cap : Array Value} {k : Val} {grow : Bool} {aR : List It → List It} {aP : List Pr → List Pr} {ans : List Pr → Bool} {I : World → Hd → Prop} (D : Deed k grow aR aP ans) (hI : ∀ w h w' h', I w h → Mv w h w' h' → I w' h') {hh : Nat} (IH : ChOk f cap k grow aP ans I hh) : ChOk f cap k grow aP ans I (hh + 1) := by
  intro w h R m fr root dep cnt n X t i N hr hrt h4 h2 hm
  have hl2 : 2 ≤ (R n).length := by rcases h2 with h2 | h2; exact absurd h2 (by omega); exact h2
  have hn : n < m := N.once.lt (by simp)
  obtain ⟨A, x, B, e, hw, hA, hB⟩ := way_parts (k := k) (r := R n) (R := R) (hh := hh + 1) (by intro e; rw [e] at hl2; simp at hl2) N.ok hr
  obtain ⟨Nc, okA, okx, okB⟩ := N.child e
  obtain ⟨x2, x4, _, _⟩ := okI_up.1 okx
  have hri : RisesI (R n) := rises_items N.ok hr
  have ep : prs R (hh + 1) (R n) = prs R (hh + 1) A ++ (prs R hh (R x.d) ++ prs R (hh + 1) B) := by rw [e, prs_append, prs_cons R (hh + 1) x B, prs_up]
  have hrc : Rises (prs R hh (R x.d)) := by
    rw [ep] at hr
    exact (List.pairwise_append.1 (List.pairwise_append.1 hr).2.1).1
  have hrtc : Rights (prs R hh (R x.d)) := fun y hy => hrt y (by rw [ep]; simp [hy])
  have hxn : (R n)[A.length]? = some x := by rw [e]; simp
  have hpl : A.length < (R n).length := by rw [e]; simp
  obtain ⟨g, gf, cf, hrow, hcell⟩ := child_facts t n A.length x.d hn x hxn rfl (N.once.lt (by rw [e, nds_append, nds_cons R (hh + 1) x B, nds_up]; simp))
  have H1 : Hid (∀ w1, Below w.heap.size w w1 → Calls Try.prog 54 #[.pointer (some ⟨h.p, 0, none⟩), .int .i64 n, V k.t k.n k.s] w1 fun e w' => e = .returned (.int .i64 A.length) ∧ Below w1.heap.size w1 w') := fun w1 hb => by
    have := way_any (t.below hb) n hn k hri
    rwa [hw] at this
  have H2 : Hid _ := hrow
  have HQ : Hid (∀ w2, Below w.heap.size w w2 → w2.cell? ⟨g, n * 90 + A.length * 18 + 17, none⟩ = some (.int .i64 x.d)) := fun w2 hb => (hcell w2 hb).2.1
  have H3 : Hid (∀ w1, Below w.heap.size w w1 → Calls Try.prog 61 #[.pointer (some ⟨h.p, 0, none⟩), .int .i64 x.d, .int .i64 ((hh + 1 : Nat) : Int), V k.t k.n k.s, FV f #[] cap] w1 fun e w' =>
      e = .returned (.bool (ans (prs R hh (R x.d)))) ∧ ∃ R' m' fr' h', TL w' h' R' m' fr' root dep cnt ∧ Mv w1 h w' h' ∧ Out R m fr hh x.d (n :: (nds R (hh + 1) A ++ (nds R (hh + 1) B ++ X))) grow aP R' m' fr') := fun w1 hb =>
    IH x.d _ (t.below hb) (hI _ _ _ _ i (Mv.of hb)) Nc hrc hrtc x4 (.inr x2) (by omega)
  have H4 : Hid (∀ w1 h1 R1 m1 fr1, TL w1 h1 R1 m1 fr1 root dep cnt → h1.p = h.p → Out R m fr hh x.d (n :: (nds R (hh + 1) A ++ (nds R (hh + 1) B ++ X))) grow aP R1 m1 fr1 → Calls Try.prog 74 #[.pointer (some ⟨h.p, 0, none⟩), .int .i64 n, .int .i64 A.length] w1 fun e w' => e = .returned (.tuple #[]) ∧ ∃ R' m' fr' h', TL w' h' R' m' fr' root dep cnt ∧ Mv w1 h1 w' h' ∧ Out R m fr (hh + 1) n X grow aP R' m' fr') := fun w1 h1 R1 m1 fr1 T1 hp O => by
    obtain ⟨M, a1, b1, en, fX⟩ := O.mid e okA okB
    have hmm : m1 ≤ 1000000 ∧ 1 ≤ (R1 x.d).length ∧ (R1 x.d).length ≤ 5 := by
      cases grow
      · have := O.less rfl; omega
      · have := O.more rfl; omega
    have := settle_any T1 M hmm.1 hmm.2.1 hmm.2.2 (by rw [en]; exact hl2) (by rw [en]; exact h4)
    rw [hp] at this
    refine Calls.mono this ?_
    rintro e' w' ⟨rfl, R', m', fr', h', T, V, F, L⟩
    exact ⟨rfl, R', m', fr', h', T, V, (out_up D e okA okB okx hA hB O F L).1⟩
  have HA : Hid (ans (prs R (hh + 1) (R n)) = ans (prs R hh (R x.d))) := by rw [ep]; exact (D.mid _ _ _ hA hB).2
  have HL : Hid (∀ b, h.has b → b < w.heap.size) := t.lt
  rw [HA.out]
  clear t i N hr hrt h2 Nc okA okx okB x2 x4 hri ep hrc hrtc hxn hrow hcell IH hI D hA hB hw e HA hl2
  obtain ⟨La, hLa⟩ : ∃ La, (R n).length = La := ⟨_, rfl⟩
  rw [hLa] at hpl H2 h4
  clear hLa
  generalize hp : A.length = p at *
  clear hp
  generalize x.d = c at *
  generalize ans (prs R hh (R c)) = an at *
  obtain ⟨dp, hdp⟩ : ∃ dp : Nat, hh + 1 + 1 = dp := ⟨_, rfl⟩
  have hd2 : ((hh + 1 : Nat) : Int) = (dp : Int) - 1 := by omega
  rw [hd2] at H3
  rw [hdp]
  have d1 : ((dp : Int) == 1) = false := by simp; omega
  have d2 : dp ≤ 2000000 := by omega
  have d4 : IntKind.i64.wrap ((dp : Int) - 1) = (dp : Int) - 1 := by rw [IntKind.wrap_i64]; omega
  have p0 : (0 : Int) ≤ (p : Int) := by omega
  have p1 : (p : Int) < (La : Int) := by omega
  clear hdp hd2
  go_enter Try.func61, Try.ntmps61
  go_wp2_with fail
  refine Calls.mono (H1.out _ (alloc1 _ _)) ?_
  rintro e w1 ⟨rfl, hb⟩
  have HB : Hid (Below w.heap.size w w1) := back1 hb
  have HV : Hid (VBox w1 w.heap.size k) := (VBox.new w k 32).below hb
  have HN : Hid (¬ h.has w.heap.size) := fun hh => by have := HL.out _ hh; omega
  clear hb H1 HL
  go_wp2_with fail
  refine wp_region_held_drew (S := fun w' => w'.cell? ⟨w.heap.size, 0, none⟩ = some (.bool k.t) ∧ w'.cell? ⟨w.heap.size, 1, none⟩ = some (.int .i64 k.n) ∧ w'.cell? ⟨w.heap.size, 2, none⟩ = some (.string k.s)) (by kernel_rfl) ?_ (fun hHeld => ?_)
  · obtain ⟨v0, v1, v2⟩ := HV.out
    exact ⟨v0, v1, v2⟩
  (try clear hK K)
  refine wpAnyH_take (i := 0) (v := ?_) rfl (by kernel_rfl) (by kernel_rfl) (by kernel_rfl) (fun _ _ _ h => h) (Or.inl ⟨by rfl, ?_⟩) (by assumption) ?_
  rotate_left
  · intro w hSw; (try dsimp only at hSw); go_simp; (try with_reducible rfl)
  (try simp only [Act.put, List.getElem_toArray, List.getElem_cons_zero, List.setIfInBounds_toArray, List.set_cons_zero, List.set_cons_succ])
  refine wpAnyH_take (i := 1) (v := ?_) rfl (by kernel_rfl) (by kernel_rfl) (by kernel_rfl) (fun _ _ _ h => h) (Or.inl ⟨by rfl, ?_⟩) (by assumption) ?_
  rotate_left
  · intro w hSw; (try dsimp only at hSw); go_simp; (try with_reducible rfl)
  (try simp only [Act.put, List.getElem_toArray, List.getElem_cons_succ, List.getElem_cons_zero, List.setIfInBounds_toArray, List.set_cons_zero, List.set_cons_succ])
  refine wpAnyH_take (i := 2) (v := ?_) rfl (by kernel_rfl) (by kernel_rfl) (by kernel_rfl) (fun _ _ _ h => h) (Or.inl ⟨by rfl, ?_⟩) (by assumption) ?_
  rotate_left
  · intro w hSw; (try dsimp only at hSw); go_simp; (try with_reducible rfl)
  (try simp only [Act.put, List.getElem_toArray, List.getElem_cons_succ, List.getElem_cons_zero, List.setIfInBounds_toArray, List.set_cons_zero, List.set_cons_succ])
  refine wpAnyH_take (i := 4) (v := ?_) rfl (by kernel_rfl) (by kernel_rfl) (by kernel_rfl) (fun _ _ _ h => h) (Or.inl ⟨by rfl, ?_⟩) (by assumption) ?_
  rotate_left
  · intro w hSw; (try dsimp only at hSw); go_simp; (try with_reducible rfl)
  (try simp only [Act.put, List.getElem_toArray, List.getElem_cons_succ, List.getElem_cons_zero, List.setIfInBounds_toArray, List.set_cons_zero, List.set_cons_succ])
  refine wpAnyH_take (i := 8) (v := ?_) rfl (by kernel_rfl) (by kernel_rfl) (by kernel_rfl) (fun _ _ _ h => h) (Or.inl ⟨by rfl, ?_⟩) (by assumption) ?_
  rotate_left
  · intro w hSw; (try dsimp only at hSw); go_simp; (try with_reducible rfl)
  (try simp only [Act.put, List.getElem_toArray, List.getElem_cons_succ, List.getElem_cons_zero, List.setIfInBounds_toArray, List.set_cons_zero, List.set_cons_succ])
  refine wpAnyH_take (i := 9) (v := ?_) rfl (by kernel_rfl) (by kernel_rfl) (by kernel_rfl) (fun _ _ _ h => h) (Or.inl ⟨by rfl, ?_⟩) (by assumption) ?_
  rotate_left
  · intro w hSw; (try dsimp only at hSw); go_simp; (try with_reducible rfl)
  (try simp only [Act.put, List.getElem_toArray, List.getElem_cons_succ, List.getElem_cons_zero, List.setIfInBounds_toArray, List.set_cons_zero, List.set_cons_succ])
  refine wpAnyH_take (i := 10) (v := ?_) rfl (by kernel_rfl) (by kernel_rfl) (by kernel_rfl) (fun _ _ _ h => h) (Or.inl ⟨by rfl, ?_⟩) (by assumption) ?_
  rotate_left
  · intro w hSw; (try dsimp only at hSw); go_simp; (try with_reducible rfl)
  (try simp only [Act.put, List.getElem_toArray, List.getElem_cons_succ, List.getElem_cons_zero, List.setIfInBounds_toArray, List.set_cons_zero, List.set_cons_succ])
  refine wpAnyH_take (i := 11) (v := ?_) rfl (by kernel_rfl) (by kernel_rfl) (by kernel_rfl) (fun _ _ _ h => h) (Or.inl ⟨by rfl, ?_⟩) (by assumption) ?_
  rotate_left
  · intro w hSw; (try dsimp only at hSw); go_simp; (try with_reducible rfl)
  (try simp only [Act.put, List.getElem_toArray, List.getElem_cons_succ, List.getElem_cons_zero, List.setIfInBounds_toArray, List.set_cons_zero, List.set_cons_succ])
  (try clear hK K)
  refine wpAnyH_ready (rs := [3]) (by kernel_rfl) (by simp) ?_
  refine AllReadyH.cons rfl (fun K hK => ?_) AllReadyH.nil
  go_simp
  (refine Calls.mono (H2.out _ HB.out.drew) ?_; rintro e w2 ⟨rfl, hb⟩)
  refine hK.out _ _ ?_ (fun hHeld => ?_)
  · obtain ⟨v0, v1, v2⟩ := HV.out.below ((Below.refl _ _).drew.trans hb)
    exact ⟨v0, v1, v2⟩
  have HB2 : Hid (Below w.heap.size w w2) := HB.out.drew.trans (hb.mono HB.out.drew.size)
  have HV2 : Hid (VBox w2 w.heap.size k) := HV.out.below ((Below.refl _ _).drew.trans hb)
  have q1 := HQ.out _ HB2.out
  clear hb H2 HV HB HQ
  (try clear hK K)
  refine wpAnyH_take (i := 5) (v := ?_) rfl (by kernel_rfl) (by kernel_rfl) (by kernel_rfl) (fun _ _ _ h => h) (Or.inl ⟨by rfl, ?_⟩) (by assumption) ?_
  rotate_left
  · intro w hSw; (try dsimp only at hSw); go_simp; (try with_reducible rfl)
  (try simp only [Act.put, List.getElem_toArray, List.getElem_cons_succ, List.getElem_cons_zero, List.setIfInBounds_toArray, List.set_cons_zero, List.set_cons_succ])
  refine wpAnyH_take (i := 6) (v := ?_) rfl (by kernel_rfl) (by kernel_rfl) (by kernel_rfl) (fun _ _ _ h => h) (Or.inl ⟨by rfl, ?_⟩) (by assumption) ?_
  rotate_left
  · intro w hSw; (try dsimp only at hSw); go_simp; (try with_reducible rfl)
  (try simp only [Act.put, List.getElem_toArray, List.getElem_cons_succ, List.getElem_cons_zero, List.setIfInBounds_toArray, List.set_cons_zero, List.set_cons_succ])
  (try clear hK K)
  refine wpAnyH_ready (rs := [7]) (by kernel_rfl) (by simp) ?_
  refine AllReadyH.cons rfl (fun K hK => ?_) AllReadyH.nil
  go_simp
  refine hK.out _ _ ?_ (fun hHeld => ?_)
  · obtain ⟨v0, v1, v2⟩ := HV2.out
    exact ⟨v0, v1, v2⟩
  clear q1
  (try clear hK K)
  refine wpAnyH_ready (rs := [12]) (by kernel_rfl) (by simp) ?_
  refine AllReadyH.cons rfl (fun K hK => ?_) AllReadyH.nil
  go_simp
  (refine Calls.mono (H3.out _ HB2.out) ?_; rintro e w3 ⟨rfl, R1, m1, fr1, h1, T1, V1, O1⟩)
  refine hK.out _ _ ?_ (fun hHeld => ?_)
  · obtain ⟨v0, v1, v2⟩ := HV2.out
    exact ⟨by rw [V1.sv.cell (World.block_lt_of_cell? _ _ v0) HN.out]; exact v0, by rw [V1.sv.cell (World.block_lt_of_cell? _ _ v1) HN.out]; exact v1, by rw [V1.sv.cell (World.block_lt_of_cell? _ _ v2) HN.out]; exact v2⟩
  have HT1 : Hid (TL w3 h1 R1 m1 fr1 root dep cnt ∧ Mv w h w3 h1 ∧ Out R m fr hh c (n :: (nds R (hh + 1) A ++ (nds R (hh + 1) B ++ X))) grow aP R1 m1 fr1) := ⟨T1, (Mv.of HB2.out).trans V1, O1⟩
  clear T1 V1 O1 H3 HB2 HV2
  (try clear hK K)
  refine wpAnyH_take (i := 13) (v := ?_) rfl (by kernel_rfl) (by kernel_rfl) (by kernel_rfl) (fun _ _ _ h => h) (Or.inl ⟨by rfl, ?_⟩) (by assumption) ?_
  rotate_left
  · intro w hSw; (try dsimp only at hSw); go_simp; (try with_reducible rfl)
  (try simp only [Act.put, List.getElem_toArray, List.getElem_cons_succ, List.getElem_cons_zero, List.setIfInBounds_toArray, List.set_cons_zero, List.set_cons_succ])
  (try clear hK K)
  refine wpAnyH_done (by kernel_rfl) ?_ _
  go_wp2_with fail
  refine Calls.mono (H4.out _ _ _ _ _ HT1.out.1 HT1.out.2.1.p HT1.out.2.2) ?_
  rintro e w4 ⟨rfl, R', m', fr', h', T2, V2, O2⟩
  have HT2 : Hid (TL w4 h' R' m' fr' root dep cnt ∧ Mv w h w4 h' ∧ Out R m fr (hh + 1) n X grow aP R' m' fr') := ⟨T2, HT1.out.2.1.trans V2, O2⟩
  clear T2 V2 O2 H4 HT1
  go_wp2_with fail
  go_ret
  exact ⟨rfl, R', m', fr', h', HT2.out⟩
theorem change_all {f : FuncId} {cap : Array Value} {k : Val} {grow : Bool} {aR : List It → List It} {aP : List Pr → List Pr} {ans : List Pr → Bool} {I : World → Hd → Prop} (D : Deed k grow aR aP ans) (hE : Enters f) (hI : ∀ w h w' h', I w h → Mv w h w' h' → I w' h') (hD : DoOk f cap k aR ans I) : ∀ hh, ChOk f cap k grow aP ans I hh
  | 0 => fun n X t i N hr hrt h4 _ _ => change_leaf D hE hI hD n X t i N hr hrt h4
  | hh + 1 => change_up D hI (change_all D hE hI hD hh)
end
end Go.Proofs.Ytafkpfhhmmnpeaa.Val
/- What the tree's settleRoot does, in its four ways. -/
namespace Go.Proofs.Ytafkpfhhmmnpeaa.Val
open Go Go.RowKit
set_option maxRecDepth 100000

section
variable {w : World} {h : Hd} {R : Nat → List It} {m : Nat} {fr : List Nat} {root dep cnt : Nat}
theorem root_facts (t : TL w h R m fr root dep cnt) (hr : root < m) : ∃ gf cf, w.cell? ⟨h.p, 3, none⟩ = some (.int .i64 root) ∧ w.cell? ⟨h.p, 4, none⟩ = some (.int .i64 dep) ∧ w.cell? ⟨h.p, 1, none⟩ = some (.slice (some ⟨gf, 0, none⟩) m cf) ∧ w.cell? ⟨gf, root, none⟩ = some (.int .i64 (R root).length) := by
  obtain ⟨gf, cf, hfv, fl, _⟩ := t.fillAt root hr
  obtain ⟨_, k1, _, k3, k4, _⟩ := t.c
  rw [hfv] at k1
  exact ⟨gf, cf, k3, k4, k1, fl⟩
set_option maxHeartbeats 4000000 in
theorem root_stays (t : TL w h R m fr root dep cnt) (hr : root < m) (h1 : 1 ≤ (R root).length) (h4 : (R root).length ≤ 4) (hd : dep ≤ 1 ∨ 2 ≤ (R root).length) :
    Calls Try.prog 64 #[.pointer (some ⟨h.p, 0, none⟩)] w fun e w' => e = .returned (.tuple #[]) ∧ TL w' h R m fr root dep cnt ∧ Mv w h w' h := by
  obtain ⟨gf, cf, k3, k4, k1, fl⟩ := root_facts t hr
  have T : Hid (TL w h R m fr root dep cnt) := t
  clear t
  obtain ⟨L, hL⟩ : ∃ L, (R root).length = L := ⟨_, rfl⟩
  rw [hL] at fl h1 h4 hd
  clear hL
  have r0 : (0 : Int) ≤ (root : Int) := by omega
  have r1 : (root : Int) < (m : Int) := by omega
  have i1 : decide ((4 : Int) < (L : Int)) = false := by simp; omega
  have i3 : ((L : Int) == 0) = false := by simp; omega
  rcases (by omega : 2 ≤ L ∨ (L = 1 ∧ dep ≤ 1)) with h2 | ⟨h2, hd1⟩
  · have i2 : ((L : Int) == 1) = false := by simp; omega
    clear hd h1 h4 h2
    go_enter Try.func64, Try.ntmps64
    go_wp2_with fail
    go_end0
    exact ⟨rfl, T.out, Mv.refl _ _⟩
  · subst h2
    have i2 : decide ((1 : Int) < (dep : Int)) = false := by simp; omega
    clear hd h1 h4 hd1 i1 i3
    go_enter Try.func64, Try.ntmps64
    go_wp2_with fail
    go_end0
    exact ⟨rfl, T.out, Mv.refl _ _⟩
set_option maxHeartbeats 4000000 in
theorem root_sinks (t : TL w h R m fr root dep cnt) (hr : root < m) (x : It) (hx : R root = [x]) (hd : 1 < dep) (hd2 : dep ≤ 1000000) (hfl : fr.length ≤ 1000000) :
    Calls Try.prog 64 #[.pointer (some ⟨h.p, 0, none⟩)] w fun e w' => e = .returned (.tuple #[]) ∧ ∃ h', TL w' h' (upd R root []) m (fr ++ [root]) x.d (dep - 1) cnt ∧ Mv w h w' h' := by
  obtain ⟨gf, cf, k3, k4, k1, fl⟩ := root_facts t hr
  obtain ⟨g, cap, cur, hav, _⟩ := t.arenaAt (by omega)
  have HR : Hid (∀ w2, Below w.heap.size w w2 → Calls Try.prog 53 #[.pointer (some ⟨h.p, 0, none⟩), .int .i64 root] w2 fun e w' => e = .returned (.slice (some ⟨g, root * 90, none⟩) 1 5) ∧ Below w2.heap.size w2 w') := fun w2 hb => by
    have := row_any (t.below hb) root hr (t.len5 root hr) g cap hav
    rwa [hx] at this
  have HQ : Hid (∀ w2, Below w.heap.size w w2 → w2.cell? ⟨g, root * 90 + 17, none⟩ = some (.int .i64 x.d) ∧ w2.cell? ⟨h.p, 3, none⟩ = some (.int .i64 root) ∧ w2.frozen? ⟨h.p, 3, none⟩ = false ∧ (w2.setCell ⟨h.p, 3, none⟩ (.int .i64 x.d)).cell? ⟨h.p, 4, none⟩ = some (.int .i64 dep) ∧ (w2.setCell ⟨h.p, 3, none⟩ (.int .i64 x.d)).frozen? ⟨h.p, 4, none⟩ = false ∧ TL ((w2.setCell ⟨h.p, 3, none⟩ (.int .i64 x.d)).setCell ⟨h.p, 4, none⟩ (.int .i64 ((dep - 1 : Nat) : Int))) h R m fr x.d (dep - 1) cnt ∧ Mv w h ((w2.setCell ⟨h.p, 3, none⟩ (.int .i64 x.d)).setCell ⟨h.p, 4, none⟩ (.int .i64 ((dep - 1 : Nat) : Int))) h) := fun w2 hb => by
    have q := (((t.rowAt g _ cap hav root hr).below hb).at 0 (by rw [hx]; simp)).c17
    have t2 := t.below hb
    obtain ⟨t3, v3⟩ := t2.setRoot x.d
    obtain ⟨t4, v4⟩ := t3.setDep (dep - 1)
    refine ⟨?_, t2.c.2.2.2.1, t2.open 3, t3.c.2.2.2.2.1, t3.open 4, t4, (Mv.of hb).trans (v3.trans v4)⟩
    simpa [hx] using q
  have HG : Hid (∀ w2, TL w2 h R m fr x.d (dep - 1) cnt → Calls Try.prog 77 #[.pointer (some ⟨h.p, 0, none⟩), .int .i64 root] w2 fun e w' => e = .returned (.tuple #[]) ∧ ∃ h', TL w' h' (upd R root []) m (fr ++ [root]) x.d (dep - 1) cnt ∧ Mv w2 h w' h') := fun w2 t2 => give_any t2 root hr hfl
  rw [hx] at fl
  have fl : w.cell? ⟨gf, root, none⟩ = some (.int .i64 1) := fl
  clear t hav hx hfl
  obtain ⟨d', hd'⟩ : ∃ d', dep - 1 = d' := ⟨_, rfl⟩
  have hdi : ((dep - 1 : Nat) : Int) = (dep : Int) - 1 := by omega
  rw [hdi] at HQ
  rw [hd'] at HQ HG ⊢
  generalize x.d = c at *
  have r0 : (0 : Int) ≤ (root : Int) := by omega
  have r1 : (root : Int) < (m : Int) := by omega
  have i2 : (1 : Int) < (dep : Int) := by omega
  have i3 : IntKind.i64.wrap ((dep : Int) - 1) = (dep : Int) - 1 := by rw [IntKind.wrap_i64]; omega
  clear hd' hdi hd hd2
  go_enter Try.func64, Try.ntmps64
  go_wp2_with fail
  refine Calls.mono (HR.out _ (Below.refl _ _)) ?_
  rintro e w1 ⟨rfl, hb⟩
  obtain ⟨q1, q2, q3, q4, q5, q6, q7⟩ := HQ.out _ hb
  have HT : Hid _ := And.intro q6 q7
  clear hb HR HQ q6 q7 k1 k3 k4 fl
  go_wp2_with fail
  refine Calls.mono (HG.out _ HT.out.1) ?_
  rintro e w2 ⟨rfl, h', T2, V2⟩
  have HT2 : Hid (TL w2 h' (upd R root []) m (fr ++ [root]) c d' cnt ∧ Mv w h w2 h') := ⟨T2, HT.out.2.trans V2⟩
  clear T2 V2 HG HT q1 q2 q3 q4 q5
  go_wp2_with fail
  go_end0
  exact ⟨rfl, h', HT2.out⟩
set_option maxHeartbeats 4000000 in
theorem root_gone (t : TL w h R m fr root dep cnt) (hr : root < m) (hx : R root = []) (hfl : fr.length ≤ 1000000) :
    Calls Try.prog 64 #[.pointer (some ⟨h.p, 0, none⟩)] w fun e w' => e = .returned (.tuple #[]) ∧ ∃ h', TL w' h' (upd R root []) m (fr ++ [root]) 0 0 cnt ∧ Mv w h w' h' := by
  obtain ⟨gf, cf, k3, k4, k1, fl⟩ := root_facts t hr
  have f3 := t.open 3
  obtain ⟨t3, v3⟩ := t.setRoot 0
  obtain ⟨t4, v4⟩ := t3.setDep 0
  have c4 := t3.c.2.2.2.2.1
  have f4 := t3.open 4
  have HG : Hid (Calls Try.prog 77 #[.pointer (some ⟨h.p, 0, none⟩), .int .i64 root] ((w.setCell ⟨h.p, 3, none⟩ (.int .i64 0)).setCell ⟨h.p, 4, none⟩ (.int .i64 0)) fun e w' => e = .returned (.tuple #[]) ∧ ∃ h', TL w' h' (upd R root []) m (fr ++ [root]) 0 0 cnt ∧ Mv w h w' h') := by
    refine Calls.mono (give_any t4 root hr hfl) ?_
    rintro e w' ⟨e1, h', T, V⟩
    exact ⟨e1, h', T, v3.trans (v4.trans V)⟩
  rw [hx] at fl
  have fl : w.cell? ⟨gf, root, none⟩ = some (.int .i64 0) := fl
  clear t t3 v3 t4 v4 hx hfl
  have c4 : (w.setCell ⟨h.p, 3, none⟩ (.int .i64 0)).cell? ⟨h.p, 4, none⟩ = some (.int .i64 dep) := c4
  have f4 : (w.setCell ⟨h.p, 3, none⟩ (.int .i64 0)).frozen? ⟨h.p, 4, none⟩ = false := f4
  have r0 : (0 : Int) ≤ (root : Int) := by omega
  have r1 : (root : Int) < (m : Int) := by omega
  go_enter Try.func64, Try.ntmps64
  go_wp2_with fail
  refine Calls.mono HG.out ?_
  rintro e w2 ⟨rfl, h', T2, V2⟩
  have HT2 : Hid (TL w2 h' (upd R root []) m (fr ++ [root]) 0 0 cnt ∧ Mv w h w2 h') := ⟨T2, V2⟩
  clear T2 V2 HG
  go_wp2_with fail
  go_end0
  exact ⟨rfl, h', HT2.out⟩
end
end Go.Proofs.Ytafkpfhhmmnpeaa.Val
/- What the tree's settleRoot does where the root has too many items: a new root above two nodes. -/
namespace Go.Proofs.Ytafkpfhhmmnpeaa.Val
open Go Go.RowKit
set_option maxRecDepth 100000

/-- The rows behind it. -/
def growR (R : Nat → List It) (root n0 n1 : Nat) (k : Val) : Nat → List It := splitR (upd R n0 [⟨headK (R root), Pl.zero, root⟩]) n0 0 root n1 k
section
variable {w : World} {h : Hd} {R : Nat → List It} {m : Nat} {fr : List Nat} {root dep cnt : Nat}
theorem tk_in {m : Nat} {fr : List Nat} (he : ∀ x ∈ fr, x < m) : tkN m fr < tkM m fr ∧ m ≤ tkM m fr ∧ tkM m fr ≤ m + 1 ∧ (tkN m fr ∈ fr ∨ tkN m fr = m) := by
  rcases tkN_cases m fr with ⟨_, e2, e3⟩ | ⟨e1, e2⟩
  · omega
  · have hmem : tkN m fr ∈ fr := by
      generalize tkN m fr = n at *
      rw [e1]; simp
    have := he _ hmem
    exact ⟨by omega, by omega, by omega, .inl hmem⟩
set_option maxHeartbeats 8000000 in
theorem root_grows (t : TL w h R m fr root dep cnt) (hm : m + 1 ≤ 1000000) (hd2 : dep ≤ 1000000) (hnd : fr.Nodup) (he : ∀ x ∈ fr, x < m ∧ R x = []) (hr : root < m) (hrf : root ∉ fr) (h5 : (R root).length = 5) (y : It) (ys : List It) (hy : (R root).drop 2 = y :: ys) :
    Calls Try.prog 64 #[.pointer (some ⟨h.p, 0, none⟩)] w fun e w' => e = .returned (.tuple #[]) ∧ ∃ h', TL w' h' (growR R root (tkN m fr) (tkN (tkM m fr) fr.dropLast) y.k) (tkM (tkM m fr) fr.dropLast) fr.dropLast.dropLast (tkN m fr) (dep + 1) cnt ∧ Mv w h w' h' := by
  obtain ⟨gf, cf, k3, k4, k1, fl⟩ := root_facts t hr
  obtain ⟨n1, n2, n3, n4⟩ := tk_in (m := m) (fr := fr) fun x hx => (he x hx).1
  have n5 : tkN m fr ≠ root := by
    rcases n4 with h | h
    · exact fun e => hrf (e ▸ h)
    · omega
  have n6 : tkN m fr ∉ fr.dropLast := fun hmem => by
    rcases tkN_cases m fr with ⟨e0, _, _⟩ | ⟨e1, _⟩
    · rw [e0] at hmem; simp at hmem
    · generalize tkN m fr = n at *
      rw [e1] at hnd
      have := (List.nodup_append.1 hnd).2.2 n hmem n (by simp)
      exact this rfl
  have hdl : ∀ x ∈ fr.dropLast, x ∈ fr := fun x hx => (List.dropLast_sublist fr).subset hx
  have H0 : Hid (Calls Try.prog 60 #[.pointer (some ⟨h.p, 0, none⟩)] w fun e w' => e = .returned (.int .i64 (tkN m fr)) ∧ ∃ h', TL w' h' (upd R (tkN m fr) []) (tkM m fr) fr.dropLast root dep cnt ∧ Mv w h w' h') := take_any t (by omega) fun x hx => (he x hx).2
  obtain ⟨z, zs, hz⟩ : ∃ z zs, R root = z :: zs := by
    cases e : R root with
    | nil => rw [e] at h5; simp at h5
    | cons z zs => exact ⟨z, zs, rfl⟩
  have hk : headK (R root) = z.k := by simp [headK, hz]
  have HL : Hid (∀ w2 h2, TL w2 h2 (upd R (tkN m fr) []) (tkM m fr) fr.dropLast (tkN m fr) (dep + 1) cnt → h2.p = h.p → Calls Try.prog 75 #[.pointer (some ⟨h.p, 0, none⟩), .int .i64 root] w2 fun e w' => e = .returned (It.mk z.k Pl.zero root).val ∧ Below w2.heap.size w2 w') := fun w2 h2 T hp => by
    have := link_any T root (by omega) z zs (by rw [upd_other _ _ (Ne.symm n5)]; exact hz)
    rwa [hp] at this
  have HI : Hid (∀ w4 h2, TL w4 h2 (upd R (tkN m fr) []) (tkM m fr) fr.dropLast (tkN m fr) (dep + 1) cnt → h2.p = h.p → Calls Try.prog 63 #[.pointer (some ⟨h.p, 0, none⟩), .int .i64 (tkN m fr), .int .i64 0, .slice (some ⟨w4.heap.size, 0, none⟩) 1 1] (w4.alloc (.cells #[.bool z.k.t, .int .i64 z.k.n, .string z.k.s, .bool false, .int .i64 0, .string ⟨#[]⟩, .bool false, .int .i64 0, .string ⟨#[]⟩, .bool false, .int .i64 0, .string ⟨#[]⟩, .bool false, .int .i64 0, .string ⟨#[]⟩, .int .i64 0, .int .i64 0, .int .i64 root] TI (0, 0))) fun e w' => e = .returned (.tuple #[]) ∧ TL w' h2 (upd R (tkN m fr) [⟨headK (R root), Pl.zero, root⟩]) (tkM m fr) fr.dropLast (tkN m fr) (dep + 1) cnt ∧ Mv w4 h2 w' h2) := fun w4 h2 T hp => by
    have T5 := T.below (alloc1 w4 (.cells #[.bool z.k.t, .int .i64 z.k.n, .string z.k.s, .bool false, .int .i64 0, .string ⟨#[]⟩, .bool false, .int .i64 0, .string ⟨#[]⟩, .bool false, .int .i64 0, .string ⟨#[]⟩, .bool false, .int .i64 0, .string ⟨#[]⟩, .int .i64 0, .int .i64 0, .int .i64 root] TI (0, 0)))
    have := insert_any T5 (tkN m fr) 0 n1 (Nat.zero_le _) [⟨z.k, Pl.zero, root⟩] (by simp) (by rw [upd_same]; simp) w4.heap.size 0 1 (item_new w4 ⟨z.k, Pl.zero, root⟩ TI) (.inl fun hh => by have := T.lt _ hh; omega)
    rw [hp, upd_same, insR_nil, upd_upd] at this
    refine Calls.mono this ?_
    rintro e w' ⟨h1, h2, h3⟩
    exact ⟨h1, by rw [hk]; exact h2, (Mv.of (alloc1 w4 _)).trans h3⟩
  have HS : Hid (∀ w5 h2, TL w5 h2 (upd R (tkN m fr) [⟨headK (R root), Pl.zero, root⟩]) (tkM m fr) fr.dropLast (tkN m fr) (dep + 1) cnt → h2.p = h.p → Calls Try.prog 76 #[.pointer (some ⟨h.p, 0, none⟩), .int .i64 (tkN m fr), .int .i64 0] w5 fun e w' => e = .returned (.tuple #[]) ∧ ∃ h', TL w' h' (growR R root (tkN m fr) (tkN (tkM m fr) fr.dropLast) y.k) (tkM (tkM m fr) fr.dropLast) fr.dropLast.dropLast (tkN m fr) (dep + 1) cnt ∧ Mv w5 h2 w' h') := fun w5 h2 T hp => by
    have := split_any T (by omega) (fun x hx => ⟨by have := (he x (hdl x hx)).1; omega, by rw [upd_other _ _ fun e => n6 (by rw [← e]; exact hx)]; exact (he x (hdl x hx)).2⟩) (tkN m fr) 0 root n1 ⟨headK (R root), Pl.zero, root⟩ (by rw [upd_same]; rfl) rfl (by omega) n5 n6 (fun hx => hrf (hdl _ hx)) (by rw [upd_same]; simp) y ys (by rw [upd_other _ _ (Ne.symm n5)]; exact hy)
    rw [hp] at this
    exact this
  clear t hnd he hrf hy n4 n5 n6 hdl hz hk n2 n3
  rw [h5] at fl
  have fl : w.cell? ⟨gf, root, none⟩ = some (.int .i64 5) := fl
  clear h5
  generalize growR R root (tkN m fr) (tkN (tkM m fr) fr.dropLast) y.k = RS at *
  generalize tkM (tkM m fr) fr.dropLast = m2 at *
  generalize fr.dropLast.dropLast = fr2 at *
  generalize tkN m fr = n at *
  generalize tkM m fr = m1 at *
  generalize fr.dropLast = fr1 at *
  generalize upd R n [⟨headK (R root), Pl.zero, root⟩] = R2 at *
  generalize upd R n [] = R1 at *
  have r0 : (0 : Int) ≤ (root : Int) := by omega
  have r1 : (root : Int) < (m : Int) := by omega
  have i3 : IntKind.i64.wrap ((dep : Int) + 1) = (dep : Int) + 1 := by rw [IntKind.wrap_i64]; omega
  go_enter Try.func64, Try.ntmps64
  go_wp2_with fail
  refine Calls.mono H0.out ?_
  rintro e w1 ⟨rfl, h1, T1, V1⟩
  have hp := V1.p
  have q1 := T1.c.2.2.2.1
  have q2 := T1.open 3
  obtain ⟨t3, v3⟩ := T1.setRoot n
  have q3 := t3.c.2.2.2.2.1
  have q4 := t3.open 4
  obtain ⟨t4, v4⟩ := t3.setDep (dep + 1)
  have q5 := t4.c.2.2.2.1
  rw [show ((dep + 1 : Nat) : Int) = (dep : Int) + 1 by omega] at t4 v4 q5
  rw [hp] at q1 q2 q3 q4 q5 t4 v4 v3
  have HT : Hid (TL ((w1.setCell ⟨h.p, 3, none⟩ (.int .i64 n)).setCell ⟨h.p, 4, none⟩ (.int .i64 ((dep : Int) + 1))) h1 R1 m1 fr1 n (dep + 1) cnt ∧ Mv w h ((w1.setCell ⟨h.p, 3, none⟩ (.int .i64 n)).setCell ⟨h.p, 4, none⟩ (.int .i64 ((dep : Int) + 1))) h1 ∧ h1.p = h.p) := ⟨t4, V1.trans (v3.trans v4), hp⟩
  clear T1 V1 t3 v3 t4 v4 H0 k1 k3 k4 fl
  go_wp2_with fail
  clear q1 q2 q3 q4
  have q5' : ∀ w', TL w' h1 R1 m1 fr1 n (dep + 1) cnt → w'.cell? ⟨h.p, 3, none⟩ = some (.int .i64 n) := fun w' T => by rw [← hp]; exact T.c.2.2.2.1
  have HC : Hid (∀ w' R' m' fr', TL w' h1 R' m' fr' n (dep + 1) cnt → w'.cell? ⟨h.p, 3, none⟩ = some (.int .i64 n)) := fun w' R' m' fr' T => by rw [← hp]; exact T.c.2.2.2.1
  clear q5' hp
  generalize (w1.setCell ⟨h.p, 3, none⟩ (.int .i64 n)).setCell ⟨h.p, 4, none⟩ (.int .i64 ((dep : Int) + 1)) = w2 at *
  refine wp_region_held_drew (S := fun w' => w'.cell? ⟨h.p, 3, none⟩ = some (.int .i64 n)) (by kernel_rfl) ?_ (fun hHeld => ?_)
  · exact HC.out _ _ _ _ (HT.out.1.below (Below.refl _ _).drew)
  (try clear hK K)
  refine wpAnyH_take (i := 0) (v := ?_) rfl (by kernel_rfl) (by kernel_rfl) (by kernel_rfl) (fun _ _ _ h => h) (Or.inl ⟨by rfl, ?_⟩) (by assumption) ?_
  rotate_left
  · intro w hSw; (try dsimp only at hSw); go_simp; (try with_reducible rfl)
  (try simp only [Act.put, List.getElem_toArray, List.getElem_cons_zero, List.setIfInBounds_toArray, List.set_cons_zero, List.set_cons_succ])
  refine wpAnyH_take (i := 1) (v := ?_) rfl (by kernel_rfl) (by kernel_rfl) (by kernel_rfl) (fun _ _ _ h => h) (Or.inl ⟨by rfl, ?_⟩) (by assumption) ?_
  rotate_left
  · intro w hSw; (try dsimp only at hSw); go_simp; (try with_reducible rfl)
  (try simp only [Act.put, List.getElem_toArray, List.getElem_cons_succ, List.getElem_cons_zero, List.setIfInBounds_toArray, List.set_cons_zero, List.set_cons_succ])
  refine wpAnyH_take (i := 2) (v := ?_) rfl (by kernel_rfl) (by kernel_rfl) (by kernel_rfl) (fun _ _ _ h => h) (Or.inl ⟨by rfl, ?_⟩) (by assumption) ?_
  rotate_left
  · intro w hSw; (try dsimp only at hSw); go_simp; (try with_reducible rfl)
  (try simp only [Act.put, List.getElem_toArray, List.getElem_cons_succ, List.getElem_cons_zero, List.setIfInBounds_toArray, List.set_cons_zero, List.set_cons_succ])
  refine wpAnyH_take (i := 3) (v := ?_) rfl (by kernel_rfl) (by kernel_rfl) (by kernel_rfl) (fun _ _ _ h => h) (Or.inl ⟨by rfl, ?_⟩) (by assumption) ?_
  rotate_left
  · intro w hSw; (try dsimp only at hSw); go_simp; (try with_reducible rfl)
  (try simp only [Act.put, List.getElem_toArray, List.getElem_cons_succ, List.getElem_cons_zero, List.setIfInBounds_toArray, List.set_cons_zero, List.set_cons_succ])
  refine wpAnyH_take (i := 4) (v := ?_) rfl (by kernel_rfl) (by kernel_rfl) (by kernel_rfl) (fun _ _ _ h => h) (Or.inl ⟨by rfl, ?_⟩) (by assumption) ?_
  rotate_left
  · intro w hSw; (try dsimp only at hSw); go_simp; (try with_reducible rfl)
  (try simp only [Act.put, List.getElem_toArray, List.getElem_cons_succ, List.getElem_cons_zero, List.setIfInBounds_toArray, List.set_cons_zero, List.set_cons_succ])
  refine wpAnyH_take (i := 5) (v := ?_) rfl (by kernel_rfl) (by kernel_rfl) (by kernel_rfl) (fun _ _ _ h => h) (Or.inl ⟨by rfl, ?_⟩) (by assumption) ?_
  rotate_left
  · intro w hSw; (try dsimp only at hSw); go_simp; (try with_reducible rfl)
  (try simp only [Act.put, List.getElem_toArray, List.getElem_cons_succ, List.getElem_cons_zero, List.setIfInBounds_toArray, List.set_cons_zero, List.set_cons_succ])
  refine wpAnyH_take (i := 6) (v := ?_) rfl (by kernel_rfl) (by kernel_rfl) (by kernel_rfl) (fun _ _ _ h => h) (Or.inl ⟨by rfl, ?_⟩) (by assumption) ?_
  rotate_left
  · intro w hSw; (try dsimp only at hSw); go_simp; (try with_reducible rfl)
  (try simp only [Act.put, List.getElem_toArray, List.getElem_cons_succ, List.getElem_cons_zero, List.setIfInBounds_toArray, List.set_cons_zero, List.set_cons_succ])
  (try clear hK K)
  refine wpAnyH_ready (rs := [7]) (by kernel_rfl) (by simp) ?_
  refine AllReadyH.cons rfl (fun K hK => ?_) AllReadyH.nil
  go_simp
  (refine Calls.mono (HL.out _ _ (HT.out.1.below (Below.refl _ _).drew) HT.out.2.2) ?_; rintro e w3 ⟨rfl, hb⟩)
  refine hK.out _ _ ?_ (fun hHeld => ?_)
  · exact HC.out _ _ _ _ (HT.out.1.below ((Below.refl _ _).drew.trans hb))
  have HT3 : Hid (TL w3 h1 R1 m1 fr1 n (dep + 1) cnt ∧ Mv w h w3 h1 ∧ h1.p = h.p) := ⟨HT.out.1.below ((Below.refl _ _).drew.trans hb), HT.out.2.1.trans (Mv.of ((Below.refl _ _).drew.trans hb)), HT.out.2.2⟩
  clear hb HL HT q5
  (try clear hK K)
  refine wpAnyH_ready (rs := [8]) (by kernel_rfl) (by simp) ?_
  refine AllReadyH.cons rfl (fun K hK => ?_) AllReadyH.nil
  go_simp
  refine hK.out _ _ ?_ (fun hHeld => ?_)
  · exact HC.out _ _ _ _ (HT3.out.1.below (alloc1 _ _))
  (try clear hK K)
  refine wpAnyH_ready (rs := [9]) (by kernel_rfl) (by simp) ?_
  refine AllReadyH.cons rfl (fun K hK => ?_) AllReadyH.nil
  go_simp
  (refine Calls.mono (HI.out _ _ HT3.out.1 HT3.out.2.2) ?_; rintro e w4 ⟨rfl, T4, V4⟩)
  refine hK.out _ _ ?_ (fun hHeld => ?_)
  · exact HC.out _ _ _ _ T4
  have HT4 : Hid (TL w4 h1 R2 m1 fr1 n (dep + 1) cnt ∧ Mv w h w4 h1 ∧ h1.p = h.p) := ⟨T4, HT3.out.2.1.trans V4, HT3.out.2.2⟩
  clear T4 V4 HI HT3
  (try clear hK K)
  refine wpAnyH_done (by kernel_rfl) ?_ _
  have q6 := HC.out _ _ _ _ HT4.out.1
  go_wp2_with fail
  refine Calls.mono (HS.out _ _ HT4.out.1 HT4.out.2.2) ?_
  rintro e w5 ⟨rfl, h', T5, V5⟩
  have HT5 : Hid (TL w5 h' RS m2 fr2 n (dep + 1) cnt ∧ Mv w h w5 h') := ⟨T5, HT4.out.2.1.trans V5⟩
  clear T5 V5 HS HT4 q6
  go_wp2_with fail
  go_end0
  exact ⟨rfl, h', HT5.out⟩
end
end Go.Proofs.Ytafkpfhhmmnpeaa.Val
