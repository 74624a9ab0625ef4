/- Facts for the tree's settle: the node below a place, and its item written anew. -/
import Derived.Test.YtafkpfhhmmnpeaaU5
import Derived.Test.YtafkpfhhmmnpeaaU6
namespace Go.Proofs.Ytafkpfhhmmnpeaa.Val
open Go Go.RowKit
set_option maxRecDepth 100000

def headK (r : List It) : Val := (r.headD It.zero).k
/-- The item by which a node stands above, written anew. -/
def relR (R : Nat → List It) (a p c : Nat) : Nat → List It := upd R a ((R a).set p ⟨headK (R c), Pl.zero, c⟩)
section
variable {w : World} {h : Hd} {R : Nat → List It} {m : Nat} {fr : List Nat} {root dep cnt : Nat}
theorem child_facts (t : TL w h R m fr root dep cnt) (a p c : Nat) (ha : a < m) (x : It) (hx : (R a)[p]? = some x) (hxd : x.d = c) (hc : c < m) :
    ∃ g gf cf, (∀ w2, Below w.heap.size w w2 → Calls Try.prog 53 #[.pointer (some ⟨h.p, 0, none⟩), .int .i64 a] w2 fun e w' => e = .returned (.slice (some ⟨g, a * 90, none⟩) (R a).length 5) ∧ Below w2.heap.size w2 w') ∧
      (∀ w2, Below w.heap.size w w2 → w2.cell? ⟨h.p, 1, none⟩ = some (.slice (some ⟨gf, 0, none⟩) m cf) ∧ w2.cell? ⟨g, a * 90 + p * 18 + 17, none⟩ = some (.int .i64 c) ∧ w2.cell? ⟨gf, c, none⟩ = some (.int .i64 (R c).length)) := by
  obtain ⟨g, cap, cur, hav, _⟩ := t.arenaAt (by omega)
  obtain ⟨gf, cf, hfv, fl, _⟩ := t.fillAt c hc
  refine ⟨g, gf, cf, fun w2 hb => row_any (t.below hb) a ha (t.len5 a ha) g cap hav, fun w2 hb => ?_⟩
  obtain ⟨_, k1, _⟩ := (t.below hb).c
  rw [hfv] at k1
  have q1 := (((t.rowAt g _ cap hav a ha).below hb).at p (List.getElem?_eq_some_iff.1 hx).1).c17
  rw [(List.getElem?_eq_some_iff.1 hx).2, hxd] at q1
  exact ⟨k1, q1, by rw [hb.cell (World.block_lt_of_cell? w _ fl)]; exact fl⟩
theorem relink_facts (t : TL w h R m fr root dep cnt) (a p c : Nat) (ha : a < m) (x : It) (hx : (R a)[p]? = some x) (hxd : x.d = c) (hc : c < m) (h0 : 0 < (R c).length) :
    ∃ g k, (∀ w2, Below w.heap.size w w2 → Calls Try.prog 53 #[.pointer (some ⟨h.p, 0, none⟩), .int .i64 a] w2 fun e w' => e = .returned (.slice (some ⟨g, a * 90, none⟩) (R a).length 5) ∧ Below w2.heap.size w2 w') ∧
      (∀ w2, Below w.heap.size w w2 → ItAt w2 g (a * 90 + p * 18) x) ∧ (∀ w2, Below w.heap.size w w2 → ∀ j, w2.frozen? ⟨g, j, none⟩ = false) ∧
      (∀ w2, Below w.heap.size w w2 → Calls Try.prog 75 #[.pointer (some ⟨h.p, 0, none⟩), .int .i64 c] w2 fun e w' => e = .returned (It.mk k Pl.zero c).val ∧ Below w2.heap.size w2 w') ∧
      (∀ w2, Below w.heap.size w w2 → TL (w2.setCells g (a * 90 + p * 18) (It.mk k Pl.zero c).cells) h (relR R a p c) m fr root dep cnt ∧
        Mv w h (w2.setCells g (a * 90 + p * 18) (It.mk k Pl.zero c).cells) h) := by
  obtain ⟨g, cap, cur, hav, hg, _⟩ := t.arenaAt (by omega)
  have hp := (List.getElem?_eq_some_iff.1 hx).1
  obtain ⟨y, ys, hy⟩ : ∃ y ys, R c = y :: ys := by
    cases e : R c with
    | nil => rw [e] at h0; simp at h0
    | cons y ys => exact ⟨y, ys, rfl⟩
  have hk : headK (R c) = y.k := by simp [headK, hy]
  refine ⟨g, y.k, fun w2 hb => row_any (t.below hb) a ha (t.len5 a ha) g cap hav, fun w2 hb => ?_, fun w2 hb j => ?_, fun w2 hb => link_any (t.below hb) c hc y ys hy, fun w2 hb => ?_⟩
  · have q1 := ((t.rowAt g _ cap hav a ha).below hb).at p hp
    rwa [(List.getElem?_eq_some_iff.1 hx).2] at q1
  · have hg2 : w2.heap[g]? = some (.cells cur.toArray TI (0, 0)) := by rw [hb.block g (Array.getElem?_eq_some_iff.1 hg).1]; exact hg
    simp [World.frozen?, hg2]
  · obtain ⟨k1, k2⟩ := (t.below hb).putItem g cap hav a p ha hp ⟨y.k, Pl.zero, c⟩
    refine ⟨?_, (Mv.of hb).trans k2⟩
    unfold relR
    rw [hk]
    have e : (fun x => (upd R a ((R a).set p ⟨y.k, Pl.zero, c⟩) x).length) = fun x => (R x).length := by
      funext z
      unfold upd
      split
      · rename_i e; rw [e, List.length_set]
      · rfl
    show TMx _ _ _ (fun x => (upd R a ((R a).set p ⟨y.k, Pl.zero, c⟩) x).length) _ _ _ _ _ _
    rw [e]; exact k1
end
end Go.Proofs.Ytafkpfhhmmnpeaa.Val
/- Plain: what a tree's nodes hold: the pairs below items, the nodes below them, and that all is as it should be. No program. -/
namespace Go.Proofs.Ytafkpfhhmmnpeaa.Val
open Go Go.RowKit
set_option maxRecDepth 100000

/-- The pairs that stand so deep below items. -/
def prs (R : Nat → List It) : Nat → List It → List Pr
  | 0, l => l.map fun x => ⟨x.k, x.v⟩
  | h + 1, l => l.flatMap fun x => prs R h (R x.d)
/-- The nodes below items. -/
def nds (R : Nat → List It) : Nat → List It → List Nat
  | 0, _ => []
  | h + 1, l => l.flatMap fun x => x.d :: nds R h (R x.d)
/-- An item is as it should be. -/
def okI (R : Nat → List It) : Nat → It → Prop
  | 0, _ => True
  | h + 1, x => 2 ≤ (R x.d).length ∧ (R x.d).length ≤ 4 ∧ headK (R x.d) = x.k ∧ ∀ y ∈ R x.d, okI R h y
def okL (R : Nat → List It) (h : Nat) (l : List It) : Prop := ∀ x ∈ l, okI R h x
theorem prs_nil (R : Nat → List It) (h : Nat) : prs R h [] = [] := by cases h <;> rfl
theorem nds_nil (R : Nat → List It) (h : Nat) : nds R h [] = [] := by cases h <;> rfl
theorem prs_append (R : Nat → List It) (h : Nat) (a b : List It) : prs R h (a ++ b) = prs R h a ++ prs R h b := by cases h <;> simp [prs]
theorem nds_append (R : Nat → List It) (h : Nat) (a b : List It) : nds R h (a ++ b) = nds R h a ++ nds R h b := by cases h <;> simp [nds]
theorem prs_up (R : Nat → List It) (h : Nat) (x : It) : prs R (h + 1) [x] = prs R h (R x.d) := by simp [prs]
theorem nds_up (R : Nat → List It) (h : Nat) (x : It) : nds R (h + 1) [x] = x.d :: nds R h (R x.d) := by simp [nds]
theorem prs_cons (R : Nat → List It) (h : Nat) (x : It) (l : List It) : prs R h (x :: l) = prs R h [x] ++ prs R h l := prs_append R h [x] l
theorem nds_cons (R : Nat → List It) (h : Nat) (x : It) (l : List It) : nds R h (x :: l) = nds R h [x] ++ nds R h l := nds_append R h [x] l
theorem okL_append {R : Nat → List It} {h : Nat} {a b : List It} : okL R h (a ++ b) ↔ okL R h a ∧ okL R h b := by
  unfold okL
  constructor
  · exact fun k => ⟨fun x hx => k x (List.mem_append.2 (.inl hx)), fun x hx => k x (List.mem_append.2 (.inr hx))⟩
  · exact fun k x hx => (List.mem_append.1 hx).elim (k.1 x) (k.2 x)
theorem okL_one {R : Nat → List It} {h : Nat} {x : It} : okL R h [x] ↔ okI R h x := by simp [okL]
theorem okL_cons {R : Nat → List It} {h : Nat} {x : It} {l : List It} : okL R h (x :: l) ↔ okI R h x ∧ okL R h l := by simp [okL]
theorem okI_up {R : Nat → List It} {h : Nat} {x : It} : okI R (h + 1) x ↔ 2 ≤ (R x.d).length ∧ (R x.d).length ≤ 4 ∧ headK (R x.d) = x.k ∧ okL R h (R x.d) := Iff.rfl
/-- Nodes elsewhere play no part. -/
theorem same_all {R R' : Nat → List It} : ∀ (h : Nat) (l : List It), (∀ z ∈ nds R h l, R' z = R z) → prs R' h l = prs R h l ∧ nds R' h l = nds R h l ∧ (okL R h l → okL R' h l) := by
  intro h
  induction h with
  | zero => intro l _; exact ⟨rfl, rfl, fun _ _ _ => trivial⟩
  | succ h ih =>
    intro l
    induction l with
    | nil => intro _; exact ⟨rfl, rfl, fun _ x hx => by cases hx⟩
    | cons x l ihl =>
      intro hl
      rw [nds_cons, nds_up] at hl
      have e1 : R' x.d = R x.d := hl x.d (by simp)
      obtain ⟨i1, i2, i3⟩ := ih (R x.d) fun z hz => hl z (by simp [hz])
      obtain ⟨j1, j2, j3⟩ := ihl fun z hz => hl z (by simp [hz])
      rw [prs_cons R', prs_cons R, nds_cons R', nds_cons R, prs_up, prs_up, nds_up, nds_up, e1, i1, i2, j1, j2]
      refine ⟨rfl, rfl, fun hk => ?_⟩
      rw [okL_cons] at hk ⊢
      obtain ⟨⟨k1, k2, k3, k4⟩, k5⟩ := hk
      exact ⟨⟨by rw [e1]; exact k1, by rw [e1]; exact k2, by rw [e1]; exact k3, by rw [e1]; exact i3 k4⟩, j3 k5⟩
/-- The first key. -/
theorem head_prs {R : Nat → List It} : ∀ (h : Nat) (y : It) (ys : List It), okL R h (y :: ys) → ∃ v rest, prs R h (y :: ys) = ⟨y.k, v⟩ :: rest := by
  intro h
  induction h with
  | zero => intro y ys _; exact ⟨y.v, _, rfl⟩
  | succ h ih =>
    intro y ys hk
    obtain ⟨k1, _, k3, k4⟩ := okI_up.1 (okL_cons.1 hk).1
    rw [prs_cons, prs_up]
    cases e : R y.d with
    | nil => rw [e] at k1; simp at k1
    | cons z zs =>
      rw [e] at k3 k4
      obtain ⟨v, rest, e2⟩ := ih z zs k4
      have e3 : z.k = y.k := by simpa [headK] using k3
      exact ⟨v, rest ++ prs R (h + 1) ys, by rw [e2, e3]; rfl⟩
theorem key_mem {R : Nat → List It} {h : Nat} {l : List It} (hk : okL R h l) {x : It} (hx : x ∈ l) : ∃ v, (⟨x.k, v⟩ : Pr) ∈ prs R h l := by
  obtain ⟨s, t, rfl⟩ := List.append_of_mem hx
  obtain ⟨v, rest, e⟩ := head_prs h x t (okL_append.1 hk).2
  exact ⟨v, by rw [prs_append, e]; simp⟩
theorem rises_items {R : Nat → List It} {h : Nat} : ∀ {l : List It}, okL R h l → Rises (prs R h l) → RisesI l := by
  intro l
  induction l with
  | nil => intro _ _; exact List.Pairwise.nil
  | cons x l ih =>
    intro hk hr
    rw [prs_cons] at hr
    have hr' := List.pairwise_append.1 hr
    obtain ⟨v, hv⟩ := key_mem (R := R) (h := h) (l := [x]) (okL_one.2 (okL_cons.1 hk).1) (List.mem_singleton.2 rfl)
    refine List.pairwise_cons.2 ⟨fun y hy => ?_, ih (okL_cons.1 hk).2 hr'.2.1⟩
    obtain ⟨u, hu⟩ := key_mem (okL_cons.1 hk).2 hy
    exact hr'.2.2 _ hv _ hu
theorem nds_len {R : Nat → List It} : ∀ (h : Nat) (l : List It), okL R h l → (nds R h l).length + l.length ≤ (prs R h l).length := by
  intro h
  induction h with
  | zero => intro l _; simp [nds, prs]
  | succ h ih =>
    intro l
    induction l with
    | nil => intro _; simp [nds_nil]
    | cons x l ihl =>
      intro hk
      have h1 := ihl (okL_cons.1 hk).2
      obtain ⟨k1, _, _, k4⟩ := okI_up.1 (okL_cons.1 hk).1
      have h2 := ih (R x.d) k4
      rw [prs_cons, nds_cons, prs_up, nds_up]
      simp only [List.length_append, List.length_cons]
      omega
theorem pow_len {R : Nat → List It} : ∀ (h : Nat) (l : List It), okL R h l → 2 ^ h * l.length ≤ (prs R h l).length := by
  intro h
  induction h with
  | zero => intro l _; simp [prs]
  | succ h ih =>
    intro l
    induction l with
    | nil => intro _; simp
    | cons x l ihl =>
      intro hk
      have h1 := ihl (okL_cons.1 hk).2
      obtain ⟨k1, _, _, k4⟩ := okI_up.1 (okL_cons.1 hk).1
      have h2 := ih (R x.d) k4
      rw [prs_cons, prs_up]
      simp only [List.length_append, List.length_cons]
      have h3 : 2 ^ h * 2 ≤ 2 ^ h * (R x.d).length := Nat.mul_le_mul_left _ k1
      rw [Nat.mul_add, Nat.pow_succ] at *
      omega
/-- Each node below so many is there once. -/
def Once (m : Nat) (l : List Nat) : Prop := ∀ z, l.count z = if z < m then 1 else 0
theorem count_mem {l : List Nat} {z : Nat} (h : z ∈ l) : 1 ≤ l.count z := List.count_pos_iff.2 h
theorem Once.lt {m : Nat} {l : List Nat} (h : Once m l) {z : Nat} (hz : z ∈ l) : z < m := by
  have h1 := h z
  have h2 := count_mem hz
  rcases Nat.lt_or_ge z m with c | c
  · exact c
  · rw [if_neg (by omega)] at h1; omega
theorem Once.le {m : Nat} {l : List Nat} (h : Once m l) (z : Nat) : l.count z ≤ 1 := by
  have h1 := h z
  split at h1 <;> omega
theorem Once.length {m : Nat} {l : List Nat} (h : Once m l) : l.length = m := by
  have hp : l.Perm (List.range m) := List.perm_iff_count.2 fun z => by
    rw [h z]
    have hr := List.nodup_range (n := m)
    by_cases c : z < m
    · rw [if_pos c]
      have h1 := List.nodup_iff_count.1 hr z
      have h2 := count_mem (List.mem_range.2 c)
      omega
    · rw [if_neg c, List.count_eq_zero.2 (by simpa using c)]
  simpa using hp.length_eq
end Go.Proofs.Ytafkpfhhmmnpeaa.Val
/- Plain: a node's row mended where the node below a place got an item or lost one. No program. -/
namespace Go.Proofs.Ytafkpfhhmmnpeaa.Val
open Go Go.RowKit
set_option maxRecDepth 100000

theorem Once.nodup {m : Nat} {l : List Nat} (h : Once m l) : l.Nodup := List.nodup_iff_count.2 fun z => h.le z
theorem Once.of {m : Nat} {l l' : List Nat} (h : Once m l) (hc : ∀ z, l'.count z = l.count z) : Once m l' := fun z => (hc z).trans (h z)
/-- A node is taken. -/
theorem once_take {m : Nat} {fr L L' : List Nat} (h : Once m L) (h1 : ∀ z, L.count z = L'.count z + fr.count z) {M : List Nat} (h2 : ∀ z, M.count z = L'.count z + (if tkN m fr = z then 1 else 0) + fr.dropLast.count z) : Once (tkM m fr) M := fun z => by
  have h3 := h z
  rw [h1 z] at h3
  rw [h2 z]
  rcases tkN_cases m fr with ⟨e0, e1, e2⟩ | ⟨e1, e2⟩
  · subst e0
    rw [e1, e2]
    simp only [List.count_nil, Nat.add_zero, List.dropLast_nil] at h3 ⊢
    rcases Nat.lt_trichotomy z m with c | c | c
    · rw [if_pos c] at h3; rw [if_neg (by omega), if_pos (by omega)]; omega
    · subst c
      rw [if_neg (by omega)] at h3; rw [if_pos rfl, if_pos (by omega)]; omega
    · rw [if_neg (by omega)] at h3; rw [if_neg (by omega), if_neg (by omega)]; omega
  · generalize tkN m fr = n at *
    generalize fr.dropLast = l at *
    subst e1
    rw [e2, ← h3, List.count_append, List.count_cons, List.count_nil]
    by_cases c : n = z
    · subst c; simp; omega
    · have : (n == z) = false := by simpa using c
      rw [if_neg c, this]; simp
/-- A node is as it should be; X: the nodes elsewhere. -/
structure Nd (R : Nat → List It) (m : Nat) (fr : List Nat) (hh n : Nat) (X : List Nat) : Prop where
  ok : okL R hh (R n)
  once : Once m (n :: (nds R hh (R n) ++ (X ++ fr)))
  free : ∀ x ∈ fr, R x = []
/-- What was done below the place behind A is done; two neighbours c, d there. -/
structure Fin (R : Nat → List It) (hh n : Nat) (X : List Nat) (P : List Pr) (R' : Nat → List It) (m' : Nat) (fr' : List Nat) : Prop where
  nd : Nd R' m' fr' (hh + 1) n X
  prs : prs R' (hh + 1) (R' n) = P
  frame : ∀ z ∈ X, R' z = R z
theorem up_fin {R R' : Nat → List It} {hh n : Nat} {A N B : List It} (hrow : R' n = A ++ (N ++ B)) (fA : ∀ z ∈ nds R (hh + 1) A, R' z = R z) (fB : ∀ z ∈ nds R (hh + 1) B, R' z = R z) (okA : okL R (hh + 1) A) (okB : okL R (hh + 1) B) (okN : okL R' (hh + 1) N) :
    okL R' (hh + 1) (R' n) ∧ prs R' (hh + 1) (R' n) = prs R (hh + 1) A ++ (prs R' (hh + 1) N ++ prs R (hh + 1) B) ∧ nds R' (hh + 1) (R' n) = nds R (hh + 1) A ++ (nds R' (hh + 1) N ++ nds R (hh + 1) B) := by
  obtain ⟨a1, a2, a3⟩ := same_all (hh + 1) A fA
  obtain ⟨b1, b2, b3⟩ := same_all (hh + 1) B fB
  rw [hrow, prs_append, prs_append, nds_append, nds_append, a1, a2, b1, b2, okL_append, okL_append]
  exact ⟨⟨a3 okA, okN, b3 okB⟩, rfl, rfl⟩
theorem item_fin {R R' : Nat → List It} {hh c : Nat} {l : List It} {k : Val} (hc : R' c = l) (hk : headK l = k) (h2 : 2 ≤ l.length) (h4 : l.length ≤ 4) (okl : okL R hh l) (f : ∀ z ∈ nds R hh l, R' z = R z) :
    okI R' (hh + 1) ⟨k, Pl.zero, c⟩ ∧ prs R' (hh + 1) [⟨k, Pl.zero, c⟩] = prs R hh l ∧ nds R' (hh + 1) [⟨k, Pl.zero, c⟩] = c :: nds R hh l := by
  obtain ⟨a1, a2, a3⟩ := same_all hh l f
  rw [prs_up, nds_up, okI_up]
  show (2 ≤ (R' c).length ∧ (R' c).length ≤ 4 ∧ headK (R' c) = k ∧ okL R' hh (R' c)) ∧ prs R' hh (R' c) = prs R hh l ∧ c :: nds R' hh (R' c) = c :: nds R hh l
  rw [hc, a1, a2]
  exact ⟨⟨h2, h4, hk, a3 okl⟩, rfl, rfl⟩
section
variable {R : Nat → List It} {m hh n : Nat} {fr X : List Nat} {A B : List It} {x : It}
/-- Ahead of settling: the node below x got an item or lost one. -/
structure Mid (R : Nat → List It) (m : Nat) (fr : List Nat) (hh n : Nat) (X : List Nat) (A : List It) (x : It) (B : List It) : Prop where
  row : R n = A ++ x :: B
  okA : okL R (hh + 1) A
  okB : okL R (hh + 1) B
  okc : okL R hh (R x.d)
  once : Once m (n :: (nds R (hh + 1) A ++ (x.d :: (nds R hh (R x.d) ++ (nds R (hh + 1) B ++ (X ++ fr))))))
  free : ∀ z ∈ fr, R z = []
theorem set_mid (A B : List It) (x y : It) : (A ++ x :: B).set A.length y = A ++ y :: B := by simp
theorem fin_keep (M : Mid R m fr hh n X A x B) (h2 : 2 ≤ (R x.d).length) (h4 : (R x.d).length ≤ 4) :
    Fin R hh n X (prs R (hh + 1) A ++ (prs R hh (R x.d) ++ prs R (hh + 1) B)) (relR R n A.length x.d) m fr := by
  have nd := M.once.nodup
  simp only [List.nodup_cons, List.nodup_append, List.mem_append, List.mem_cons, not_or] at nd
  have e : ∀ z, z ≠ n → relR R n A.length x.d z = R z := fun z hz => upd_other _ _ hz
  have hrow : relR R n A.length x.d n = A ++ ([⟨headK (R x.d), Pl.zero, x.d⟩] ++ B) := by unfold relR; rw [upd_same, M.row, set_mid]; rfl
  obtain ⟨k1, k2, k3⟩ := item_fin (R := R) (R' := relR R n A.length x.d) (hh := hh) (e x.d (Ne.symm nd.1.2.1)) rfl h2 h4 M.okc fun z hz => e z fun h => nd.1.2.2.1 (h ▸ hz)
  obtain ⟨j1, j2, j3⟩ := up_fin hrow (fun z hz => e z fun h => nd.1.1 (h ▸ hz)) (fun z hz => e z fun h => nd.1.2.2.2.1 (h ▸ hz)) M.okA M.okB (okL_one.2 k1)
  refine ⟨⟨j1, M.once.of fun z => ?_, fun z hz => ?_⟩, by rw [j2, k2], fun z hz => e z fun h => nd.1.2.2.2.2.1 (h ▸ hz)⟩
  · rw [j3, k3]
    simp only [List.count_cons, List.count_append]; omega
  · rw [e z fun h => nd.1.2.2.2.2.2 (h ▸ hz)]; exact M.free z hz
theorem ins_mid (A B N : List It) (x : It) : insR (A ++ x :: B) (A.length + 1) N = A ++ x :: (N ++ B) := by
  unfold insR
  have e1 : (A ++ x :: B).take (A.length + 1) = A ++ [x] := by
    rw [List.take_length_add_append]; simp
  have e2 : (A ++ x :: B).drop (A.length + 1) = B := by
    rw [List.drop_length_add_append]; simp
  rw [e1, e2]; simp
theorem headK_take {l : List It} (h : 2 ≤ l.length) : headK (l.take 2) = headK l := by
  cases l with
  | nil => simp at h
  | cons y l => rfl
theorem fin_split (M : Mid R m fr hh n X A x B) (h5 : (R x.d).length = 5) {y : It} {ys : List It} (hy : (R x.d).drop 2 = y :: ys) :
    Fin R hh n X (prs R (hh + 1) A ++ (prs R hh (R x.d) ++ prs R (hh + 1) B)) (relR (splitR R n A.length x.d (tkN m fr) y.k) n A.length x.d) (tkM m fr) fr.dropLast := by
  have nd := M.once.nodup
  simp only [List.nodup_cons, List.nodup_append, List.mem_append, List.mem_cons, not_or] at nd
  -- the node taken is none of the others
  have ht : ∀ z, z ∈ n :: (nds R (hh + 1) A ++ (x.d :: (nds R hh (R x.d) ++ (nds R (hh + 1) B ++ X)))) → z ≠ tkN m fr := fun z hz e => by
    subst e
    rcases tkN_cases m fr with ⟨e0, e1, _⟩ | ⟨e1, _⟩
    · have := M.once.lt (z := tkN m fr) (by
        simp only [List.mem_cons, List.mem_append] at hz ⊢
        rcases hz with h | h | h | h | h | h
        · exact .inl h
        · exact .inr (.inl h)
        · exact .inr (.inr (.inl h))
        · exact .inr (.inr (.inr (.inl h)))
        · exact .inr (.inr (.inr (.inr (.inl h))))
        · exact .inr (.inr (.inr (.inr (.inr (.inl h))))))
      omega
    · have hf : tkN m fr ∈ fr := by
        generalize tkN m fr = q at *
        rw [e1]; simp
      have h1 := M.once.le (tkN m fr)
      have h2 := count_mem hz
      have h3 := count_mem hf
      simp only [List.count_cons, List.count_append] at h1 h2
      omega
  generalize hqd : tkN m fr = q at *
  obtain ⟨R', hR'⟩ : ∃ R', relR (splitR R n A.length x.d q y.k) n A.length x.d = R' := ⟨_, rfl⟩
  have hcn : x.d ≠ n := Ne.symm nd.1.2.1
  have hqn : q ≠ n := fun e => ht n (by simp) e.symm
  have hqc : q ≠ x.d := fun e => ht x.d (by simp) e.symm
  have e : ∀ z, z ≠ n → z ≠ x.d → z ≠ q → R' z = R z := fun z h1 h2 h3 => by
    rw [← hR']; unfold relR splitR
    rw [upd_other _ _ h1, upd_other _ _ h1, upd_other _ _ h2, upd_other _ _ h3]
  have ec : R' x.d = (R x.d).take 2 := by
    rw [← hR']; unfold relR splitR
    rw [upd_other _ _ hcn, upd_other _ _ hcn, upd_same]
  have eq' : R' q = (R x.d).drop 2 := by
    rw [← hR']; unfold relR splitR
    rw [upd_other _ _ hqn, upd_other _ _ hqn, upd_other _ _ hqc, upd_same]
  have hrow : R' n = A ++ ([⟨headK ((R x.d).take 2), Pl.zero, x.d⟩, ⟨y.k, Pl.zero, q⟩] ++ B) := by
    rw [← hR']; unfold relR
    rw [upd_same]
    have e1 : splitR R n A.length x.d q y.k n = A ++ x :: ⟨y.k, Pl.zero, q⟩ :: B := by
      unfold splitR
      rw [upd_same, M.row, ins_mid]; rfl
    have e2 : splitR R n A.length x.d q y.k x.d = (R x.d).take 2 := by
      unfold splitR
      rw [upd_other _ _ hcn, upd_same]
    rw [e1, e2, set_mid]; rfl
  have hsplit : R x.d = (R x.d).take 2 ++ (R x.d).drop 2 := (List.take_append_drop 2 _).symm
  have hok := M.okc
  have hnd : nds R hh (R x.d) = nds R hh ((R x.d).take 2) ++ nds R hh ((R x.d).drop 2) := by rw [← nds_append, List.take_append_drop]
  have hpr : prs R hh (R x.d) = prs R hh ((R x.d).take 2) ++ prs R hh ((R x.d).drop 2) := by rw [← prs_append, List.take_append_drop]
  rw [hsplit, okL_append] at hok
  have hfr : ∀ z ∈ nds R hh (R x.d), R' z = R z := fun z hz => e z (fun h => nd.1.2.2.1 (h ▸ hz)) (fun h => nd.2.2.1.1.1 (h ▸ hz)) (ht z (by simp [hz]))
  obtain ⟨k1, k2, k3⟩ := item_fin (R := R) (hh := hh) ec rfl (by simp; omega) (by simp; omega) hok.1 fun z hz => hfr z (by rw [hnd]; simp [hz])
  obtain ⟨l1, l2, l3⟩ := item_fin (R := R) (hh := hh) (k := y.k) eq' (by rw [hy]; rfl) (by simp; omega) (by simp; omega) hok.2 fun z hz => hfr z (by rw [hnd]; simp [hz])
  obtain ⟨j1, j2, j3⟩ := up_fin hrow (fun z hz => e z (fun h => nd.1.1 (h ▸ hz)) (nd.2.2.2 z hz x.d (.inl rfl)) (ht z (by simp [hz]))) (fun z hz => e z (fun h => nd.1.2.2.2.1 (h ▸ hz)) (fun h => nd.2.2.1.1.2.1 (h ▸ hz)) (ht z (by simp [hz]))) M.okA M.okB (okL_cons.2 ⟨k1, okL_one.2 l1⟩)
  have hq : ∀ z ∈ X, R' z = R z := fun z hz => e z (fun h => nd.1.2.2.2.2.1 (h ▸ hz)) (fun h => nd.2.2.1.1.2.2.1 (h ▸ hz)) (ht z (by simp [hz]))
  rw [hR']
  have HO : Once (tkM m fr) (n :: (nds R' (hh + 1) (R' n) ++ (X ++ fr.dropLast))) := by
    refine once_take M.once (L' := n :: (nds R (hh + 1) A ++ (x.d :: (nds R hh (R x.d) ++ (nds R (hh + 1) B ++ X))))) (fun z => ?_) fun z => ?_
    · simp only [List.count_cons, List.count_append]; omega
    · rw [j3, nds_cons, k3, l3, hnd, hqd]
      simp only [List.count_cons, List.count_append, beq_iff_eq]; omega
  refine ⟨⟨j1, HO, fun z hz => ?_⟩, by rw [j2, prs_cons, k2, l2, hpr], hq⟩
  have hz' : z ∈ fr := (List.dropLast_sublist fr).subset hz
  rw [e z (fun h => nd.1.2.2.2.2.2 (h ▸ hz')) (fun h => nd.2.2.1.1.2.2.2 (h ▸ hz')) fun h => ?_]
  · exact M.free z hz'
  · have h1 := HO.le q
    rw [j3, nds_cons, k3, l3] at h1
    have h2 := count_mem hz
    rw [h] at h2
    simp only [List.count_cons, List.count_append, beq_self_eq_true, if_true] at h1
    omega
/-- Two neighbours, one of which lost an item. -/
structure Mid2 (R : Nat → List It) (m : Nat) (fr : List Nat) (hh n : Nat) (X : List Nat) (A : List It) (x y : It) (B : List It) : Prop where
  row : R n = A ++ x :: y :: B
  okA : okL R (hh + 1) A
  okB : okL R (hh + 1) B
  okx : okL R hh (R x.d)
  oky : okL R hh (R y.d)
  once : Once m (n :: (nds R (hh + 1) A ++ (x.d :: (nds R hh (R x.d) ++ (y.d :: (nds R hh (R y.d) ++ (nds R (hh + 1) B ++ (X ++ fr))))))))
  free : ∀ z ∈ fr, R z = []
variable {y : It}
theorem headK_app {a b : List It} (h : 0 < a.length) : headK (a ++ b) = headK a := by
  cases a with
  | nil => simp at h
  | cons y l => rfl
theorem del_mid (A B : List It) (x y : It) : delR (A ++ x :: y :: B) (A.length + 1) (A.length + 2) = A ++ x :: B := by
  unfold delR
  have e1 : (A ++ x :: y :: B).take (A.length + 1) = A ++ [x] := by
    rw [List.take_length_add_append]; simp
  have e2 : (A ++ x :: y :: B).drop (A.length + 2) = B := by
    rw [List.drop_length_add_append]; simp
  rw [e1, e2]; simp
theorem fin_join (M : Mid2 R m fr hh n X A x y B) (h2 : 2 ≤ (R x.d).length + (R y.d).length) (h4 : (R x.d).length + (R y.d).length ≤ 4) :
    Fin R hh n X (prs R (hh + 1) A ++ ((prs R hh (R x.d) ++ prs R hh (R y.d)) ++ prs R (hh + 1) B)) (relR (joinR R n A.length x.d y.d) n A.length x.d) m (fr ++ [y.d]) := by
  have nd := M.once.nodup
  simp only [List.nodup_cons, List.nodup_append, List.mem_append, List.mem_cons, not_or] at nd
  obtain ⟨R', hR'⟩ : ∃ R', relR (joinR R n A.length x.d y.d) n A.length x.d = R' := ⟨_, rfl⟩
  have hcn : x.d ≠ n := Ne.symm nd.1.2.1
  have hdn : y.d ≠ n := Ne.symm nd.1.2.2.2.1
  have hcd : x.d ≠ y.d := nd.2.2.1.1.2.1
  have e : ∀ z, z ≠ n → z ≠ x.d → z ≠ y.d → R' z = R z := fun z h1 h2 h3 => by
    rw [← hR']; unfold relR joinR
    rw [upd_other _ _ h1, upd_other _ _ h3, upd_other _ _ h1, upd_other _ _ h2]
  have ec' : joinR R n A.length x.d y.d x.d = R x.d ++ R y.d := by
    unfold joinR
    rw [upd_other _ _ hcd, upd_other _ _ hcn, upd_same]
  have ec : R' x.d = R x.d ++ R y.d := by
    rw [← hR']; unfold relR
    rw [upd_other _ _ hcn, ec']
  have ed : R' y.d = [] := by
    rw [← hR']; unfold relR joinR
    rw [upd_other _ _ hdn, upd_same]
  have hrow : R' n = A ++ ([⟨headK (R x.d ++ R y.d), Pl.zero, x.d⟩] ++ B) := by
    rw [← hR']; unfold relR
    rw [upd_same, ec']
    have e1 : joinR R n A.length x.d y.d n = A ++ x :: B := by
      unfold joinR
      rw [upd_other _ _ (Ne.symm hdn), upd_same, M.row, del_mid]
    rw [e1, set_mid]; rfl
  have fx : ∀ z ∈ nds R hh (R x.d), R' z = R z := fun z hz => e z (fun h => nd.1.2.2.1 (h ▸ hz)) (fun h => nd.2.2.1.1.1 (h ▸ hz)) (nd.2.2.1.2.2.2 z hz y.d (.inl rfl))
  have fy : ∀ z ∈ nds R hh (R y.d), R' z = R z := fun z hz => e z (fun h => nd.1.2.2.2.2.1 (h ▸ hz)) (fun h => nd.2.2.1.1.2.2.1 (h ▸ hz)) (fun h => nd.2.2.1.2.2.1.1.1 (h ▸ hz))
  obtain ⟨k1, k2, k3⟩ := item_fin (R := R) (hh := hh) ec rfl (by simpa using h2) (by simpa using h4) (okL_append.2 ⟨M.okx, M.oky⟩) fun z hz => by
    rw [nds_append] at hz
    exact (List.mem_append.1 hz).elim (fx z) (fy z)
  obtain ⟨j1, j2, j3⟩ := up_fin hrow (fun z hz => e z (fun h => nd.1.1 (h ▸ hz)) (nd.2.2.2 z hz x.d (.inl rfl)) (nd.2.2.2 z hz y.d (.inr (.inr (.inl rfl))))) (fun z hz => e z (fun h => nd.1.2.2.2.2.2.1 (h ▸ hz)) (fun h => nd.2.2.1.1.2.2.2.1 (h ▸ hz)) (fun h => nd.2.2.1.2.2.1.1.2.1 (h ▸ hz))) M.okA M.okB (okL_one.2 k1)
  rw [hR']
  refine ⟨⟨j1, M.once.of fun z => ?_, fun z hz => ?_⟩, by rw [j2, k2, prs_append], fun z hz => e z (fun h => nd.1.2.2.2.2.2.2.1 (h ▸ hz)) (fun h => nd.2.2.1.1.2.2.2.2.1 (h ▸ hz)) (fun h => nd.2.2.1.2.2.1.1.2.2.1 (h ▸ hz))⟩
  · rw [j3, k3, nds_append]
    simp only [List.count_cons, List.count_append, List.count_nil]; omega
  · rcases List.mem_append.1 hz with hz | hz
    · rw [e z (fun h => nd.1.2.2.2.2.2.2.2 (h ▸ hz)) (fun h => nd.2.2.1.1.2.2.2.2.2 (h ▸ hz)) (fun h => nd.2.2.1.2.2.1.1.2.2.2 (h ▸ hz))]
      exact M.free z hz
    · obtain rfl : z = y.d := by simpa using hz
      exact ed
theorem fin_both (M : Mid2 R m fr hh n X A x y B) (h5 : (R x.d).length + (R y.d).length = 5) {z0 : It} {zs : List It} (hz0 : (R x.d ++ R y.d).drop 2 = z0 :: zs) :
    Fin R hh n X (prs R (hh + 1) A ++ ((prs R hh (R x.d) ++ prs R hh (R y.d)) ++ prs R (hh + 1) B)) (relR (splitR (joinR R n A.length x.d y.d) n A.length x.d y.d z0.k) n A.length x.d) m fr := by
  have nd := M.once.nodup
  simp only [List.nodup_cons, List.nodup_append, List.mem_append, List.mem_cons, not_or] at nd
  obtain ⟨R', hR'⟩ : ∃ R', relR (splitR (joinR R n A.length x.d y.d) n A.length x.d y.d z0.k) n A.length x.d = R' := ⟨_, rfl⟩
  have hcn : x.d ≠ n := Ne.symm nd.1.2.1
  have hdn : y.d ≠ n := Ne.symm nd.1.2.2.2.1
  have hcd : x.d ≠ y.d := nd.2.2.1.1.2.1
  have ec' : joinR R n A.length x.d y.d x.d = R x.d ++ R y.d := by
    unfold joinR
    rw [upd_other _ _ hcd, upd_other _ _ hcn, upd_same]
  have e : ∀ z, z ≠ n → z ≠ x.d → z ≠ y.d → R' z = R z := fun z h1 h2 h3 => by
    rw [← hR']; unfold relR splitR joinR
    rw [upd_other _ _ h1, upd_other _ _ h1, upd_other _ _ h2, upd_other _ _ h3, upd_other _ _ h3, upd_other _ _ h1, upd_other _ _ h2]
  have ec : R' x.d = (R x.d ++ R y.d).take 2 := by
    rw [← hR']; unfold relR splitR
    rw [upd_other _ _ hcn, upd_other _ _ hcn, upd_same, ec']
  have ed : R' y.d = (R x.d ++ R y.d).drop 2 := by
    rw [← hR']; unfold relR splitR
    rw [upd_other _ _ hdn, upd_other _ _ hdn, upd_other _ _ (Ne.symm hcd), upd_same, ec']
  have hrow : R' n = A ++ ([⟨headK ((R x.d ++ R y.d).take 2), Pl.zero, x.d⟩, ⟨z0.k, Pl.zero, y.d⟩] ++ B) := by
    rw [← hR']; unfold relR
    have e0 : joinR R n A.length x.d y.d n = A ++ x :: B := by
      unfold joinR
      rw [upd_other _ _ (Ne.symm hdn), upd_same, M.row, del_mid]
    have e1 : splitR (joinR R n A.length x.d y.d) n A.length x.d y.d z0.k n = A ++ x :: ⟨z0.k, Pl.zero, y.d⟩ :: B := by
      unfold splitR
      rw [upd_same, e0, ins_mid]; rfl
    have e2 : splitR (joinR R n A.length x.d y.d) n A.length x.d y.d z0.k x.d = (R x.d ++ R y.d).take 2 := by
      unfold splitR
      rw [upd_other _ _ hcn, upd_same, ec']
    rw [upd_same, e1, e2, set_mid]; rfl
  have hok : okL R hh ((R x.d ++ R y.d).take 2 ++ (R x.d ++ R y.d).drop 2) := by
    rw [List.take_append_drop]; exact okL_append.2 ⟨M.okx, M.oky⟩
  rw [okL_append] at hok
  have hnd : nds R hh (R x.d) ++ nds R hh (R y.d) = nds R hh ((R x.d ++ R y.d).take 2) ++ nds R hh ((R x.d ++ R y.d).drop 2) := by rw [← nds_append, ← nds_append, List.take_append_drop]
  have hpr : prs R hh (R x.d) ++ prs R hh (R y.d) = prs R hh ((R x.d ++ R y.d).take 2) ++ prs R hh ((R x.d ++ R y.d).drop 2) := by rw [← prs_append, ← prs_append, List.take_append_drop]
  have fx : ∀ z ∈ nds R hh (R x.d), R' z = R z := fun z hz => e z (fun h => nd.1.2.2.1 (h ▸ hz)) (fun h => nd.2.2.1.1.1 (h ▸ hz)) (nd.2.2.1.2.2.2 z hz y.d (.inl rfl))
  have fy : ∀ z ∈ nds R hh (R y.d), R' z = R z := fun z hz => e z (fun h => nd.1.2.2.2.2.1 (h ▸ hz)) (fun h => nd.2.2.1.1.2.2.1 (h ▸ hz)) (fun h => nd.2.2.1.2.2.1.1.1 (h ▸ hz))
  have hfr : ∀ z ∈ nds R hh (R x.d) ++ nds R hh (R y.d), R' z = R z := fun z hz => (List.mem_append.1 hz).elim (fx z) (fy z)
  have hl : (R x.d ++ R y.d).length = 5 := by simpa using h5
  obtain ⟨k1, k2, k3⟩ := item_fin (R := R) (hh := hh) ec rfl (by rw [List.length_take]; omega) (by rw [List.length_take]; omega) hok.1 fun z hz => hfr z (by rw [hnd]; simp [hz])
  obtain ⟨l1, l2, l3⟩ := item_fin (R := R) (hh := hh) (k := z0.k) ed (by rw [hz0]; rfl) (by rw [List.length_drop]; omega) (by rw [List.length_drop]; omega) hok.2 fun z hz => hfr z (by rw [hnd]; simp [hz])
  obtain ⟨j1, j2, j3⟩ := up_fin hrow (fun z hz => e z (fun h => nd.1.1 (h ▸ hz)) (nd.2.2.2 z hz x.d (.inl rfl)) (nd.2.2.2 z hz y.d (.inr (.inr (.inl rfl))))) (fun z hz => e z (fun h => nd.1.2.2.2.2.2.1 (h ▸ hz)) (fun h => nd.2.2.1.1.2.2.2.1 (h ▸ hz)) (fun h => nd.2.2.1.2.2.1.1.2.1 (h ▸ hz))) M.okA M.okB (okL_cons.2 ⟨k1, okL_one.2 l1⟩)
  rw [hR']
  refine ⟨⟨j1, M.once.of fun z => ?_, fun z hz => ?_⟩, by rw [j2, prs_cons, k2, l2, ← hpr], fun z hz => e z (fun h => nd.1.2.2.2.2.2.2.1 (h ▸ hz)) (fun h => nd.2.2.1.1.2.2.2.2.1 (h ▸ hz)) (fun h => nd.2.2.1.2.2.1.1.2.2.1 (h ▸ hz))⟩
  · rw [j3, nds_cons, k3, l3]
    have := congrArg (List.count z) hnd
    simp only [List.count_append] at this
    simp only [List.count_cons, List.count_append]; omega
  · rw [e z (fun h => nd.1.2.2.2.2.2.2.2 (h ▸ hz)) (fun h => nd.2.2.1.1.2.2.2.2.2 (h ▸ hz)) (fun h => nd.2.2.1.2.2.1.1.2.2.2 (h ▸ hz))]
    exact M.free z hz
end
end Go.Proofs.Ytafkpfhhmmnpeaa.Val
