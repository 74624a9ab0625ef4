/- A tree that is as it should be, and holds pairs; its root settled. -/
import Derived.Test.YtafkpfhhmmnpeaaU12
namespace Go.Proofs.Ytafkpfhhmmnpeaa.Val
open Go Go.RowKit
set_option maxRecDepth 100000

/-- The rows hold the pairs l. -/
def Top (R : Nat → List It) (m : Nat) (fr : List Nat) (root dep : Nat) (l : List Pr) : Prop :=
  Rises l ∧ Rights l ∧ ((dep = 0 ∧ l = [] ∧ Once m fr ∧ ∀ x ∈ fr, R x = []) ∨ ∃ hh, dep = hh + 1 ∧ Nd R m fr hh root [] ∧ prs R hh (R root) = l ∧ 1 ≤ (R root).length ∧ (R root).length ≤ 4 ∧ (hh = 0 ∨ 2 ≤ (R root).length))
/-- A tree in memory that holds the pairs l; it has room for m nodes, uses u, is d deep. -/
def TR (w : World) (h : Hd) (l : List Pr) (m u d : Nat) : Prop := ∃ R fr root, TL w h R m fr root d l.length ∧ Top R m fr root d l ∧ u + fr.length = m
theorem two_pow_ge (n : Nat) : n + 1 ≤ 2 ^ n := by
  induction n with
  | zero => simp
  | succ n ih => rw [Nat.pow_succ]; omega
/-- What the shapes say. -/
theorem TR.shape {w : World} {h : Hd} {l : List Pr} {m u d : Nat} (t : TR w h l m u d) : u ≤ m ∧ u ≤ l.length ∧ (l.length = 0 ↔ d = 0) ∧ (l.length = 0 ↔ u = 0) ∧ (0 < d → 2 ^ (d - 1) ≤ l.length) ∧ d ≤ l.length := by
  obtain ⟨R, fr, root, _, ⟨_, _, ⟨e1, e2, e3, _⟩ | ⟨hh, e1, N, e2, l1, l4, l2⟩⟩, hu⟩ := t
  · have := e3.length
    subst e1 e2
    simp; omega
  · have h1 := N.once.length
    have h2 := nds_len hh (R root) N.ok
    have h3 := pow_len hh (R root) N.ok
    have h4 : 2 ^ hh ≤ 2 ^ hh * (R root).length := Nat.le_mul_of_pos_right _ (by omega)
    have h5 := two_pow_ge hh
    rw [e2] at h2 h3
    simp only [List.length_cons, List.length_append, List.length_nil] at h1
    subst e1
    refine ⟨by omega, by omega, ⟨fun h => by omega, fun h => by omega⟩, ⟨fun h => by omega, fun h => by omega⟩, fun _ => ?_, by omega⟩
    show 2 ^ (hh + 1 - 1) ≤ _
    rw [Nat.add_sub_cancel]; omega
theorem TR.below {w w' : World} {h : Hd} {l : List Pr} {m u d : Nat} (t : TR w h l m u d) (hb : Below w.heap.size w w') : TR w' h l m u d := by
  obtain ⟨R, fr, root, t1, t2, t3⟩ := t
  exact ⟨R, fr, root, t1.below hb, t2, t3⟩
theorem TR.lt {w : World} {h : Hd} {l : List Pr} {m u d : Nat} (t : TR w h l m u d) : ∀ k, h.has k → k < w.heap.size := by
  obtain ⟨R, fr, root, t1, t2, t3⟩ := t
  exact t1.lt
theorem TR.rises {w : World} {h : Hd} {l : List Pr} {m u d : Nat} (t : TR w h l m u d) : Rises l ∧ Rights l := by
  obtain ⟨R, fr, root, t1, t2, t3⟩ := t
  exact ⟨t2.1, t2.2.1⟩
section
variable {R : Nat → List It} {m hh root : Nat} {fr : List Nat}
theorem relR_same {S : Nat → List It} {n c : Nat} {x : It} {rest : List It} (h1 : S n = x :: rest) (h2 : x = ⟨headK (S c), Pl.zero, c⟩) : relR S n 0 c = S := by
  unfold relR
  rw [h1, ← h2]
  show upd S n (x :: rest) = S
  rw [← h1]; exact upd_self S n
/-- A new root above two nodes. -/
theorem top_grows (N : Nd R m fr hh root []) (h5 : (R root).length = 5) {y : It} {ys : List It} (hy : (R root).drop 2 = y :: ys) :
    Nd (growR R root (tkN m fr) (tkN (tkM m fr) fr.dropLast) y.k) (tkM (tkM m fr) fr.dropLast) fr.dropLast.dropLast (hh + 1) (tkN m fr) [] ∧
    prs (growR R root (tkN m fr) (tkN (tkM m fr) fr.dropLast) y.k) (hh + 1) (growR R root (tkN m fr) (tkN (tkM m fr) fr.dropLast) y.k (tkN m fr)) = prs R hh (R root) ∧ (growR R root (tkN m fr) (tkN (tkM m fr) fr.dropLast) y.k (tkN m fr)).length = 2 := by
  have HO : Once (tkM m fr) (tkN m fr :: root :: (nds R hh (R root) ++ fr.dropLast)) := by
    refine once_take N.once (L' := root :: nds R hh (R root)) (fun z => ?_) fun z => ?_
    · simp only [List.count_cons, List.count_append, List.count_nil]; omega
    · simp only [List.count_cons, List.count_append, beq_iff_eq]; omega
  have nd := HO.nodup
  simp only [List.nodup_cons, List.nodup_append, List.mem_append, List.mem_cons, not_or] at nd
  have hdl : ∀ x ∈ fr.dropLast, x ∈ fr := fun x hx => (List.dropLast_sublist fr).subset hx
  generalize hn : tkN m fr = n at *
  generalize tkM m fr = m1 at *
  generalize fr.dropLast = fr1 at *
  have er : upd R n [⟨headK (R root), Pl.zero, root⟩] root = R root := upd_other _ _ (Ne.symm nd.1.1)
  obtain ⟨s1, s2, s3⟩ := same_all (R := R) (R' := upd R n [⟨headK (R root), Pl.zero, root⟩]) hh (R root) fun z hz => upd_other _ _ fun e => nd.1.2.1 (by rw [← e]; exact hz)
  have M : Mid (upd R n [⟨headK (R root), Pl.zero, root⟩]) m1 fr1 hh n [] [] ⟨headK (R root), Pl.zero, root⟩ [] := by
    refine ⟨by rw [upd_same]; rfl, fun x hx => (by cases hx), fun x hx => (by cases hx), ?_, ?_, fun z hz => ?_⟩
    · show okL _ hh (upd R n [⟨headK (R root), Pl.zero, root⟩] root)
      rw [er]; exact s3 N.ok
    · show Once m1 (n :: (nds _ (hh + 1) [] ++ (root :: (nds _ hh (upd R n [⟨headK (R root), Pl.zero, root⟩] root) ++ (nds _ (hh + 1) [] ++ ([] ++ fr1))))))
      rw [er, s2, nds_nil]
      simpa using HO
    · rw [upd_other _ _ fun e => nd.1.2.2 (by rw [← e]; exact hz)]
      exact N.free z (hdl z hz)
  have F := fin_split M (by show (upd R n [⟨headK (R root), Pl.zero, root⟩] root).length = 5; rw [er]; exact h5) (y := y) (ys := ys) (by show (upd R n [⟨headK (R root), Pl.zero, root⟩] root).drop 2 = y :: ys; rw [er]; exact hy)
  have hcn : root ≠ n := Ne.symm nd.1.1
  have g1 : growR R root n (tkN m1 fr1) y.k n = [⟨headK (R root), Pl.zero, root⟩, ⟨y.k, Pl.zero, tkN m1 fr1⟩] := by
    unfold growR splitR
    rw [upd_same, upd_same]; rfl
  have g2 : growR R root n (tkN m1 fr1) y.k root = (R root).take 2 := by
    unfold growR splitR
    rw [upd_other _ _ hcn, upd_same, er]
  have ee : relR (splitR (upd R n [⟨headK (R root), Pl.zero, root⟩]) n 0 root (tkN m1 fr1) y.k) n 0 root = growR R root n (tkN m1 fr1) y.k := by
    refine relR_same g1 ?_
    show (⟨headK (R root), Pl.zero, root⟩ : It) = ⟨headK (growR R root n (tkN m1 fr1) y.k root), Pl.zero, root⟩
    rw [g2, headK_take (by omega)]
  have F' : Fin _ hh n [] (prs (upd R n [⟨headK (R root), Pl.zero, root⟩]) (hh + 1) [] ++ (prs (upd R n [⟨headK (R root), Pl.zero, root⟩]) hh (upd R n [⟨headK (R root), Pl.zero, root⟩] root) ++ prs (upd R n [⟨headK (R root), Pl.zero, root⟩]) (hh + 1) [])) (relR (splitR (upd R n [⟨headK (R root), Pl.zero, root⟩]) n 0 root (tkN m1 fr1) y.k) n 0 root) (tkM m1 fr1) fr1.dropLast := F
  rw [ee, er, s1, prs_nil, List.nil_append, List.append_nil] at F'
  exact ⟨F'.nd, F'.prs, by rw [g1]; rfl⟩
/-- The only node below becomes the root. -/
theorem top_sinks (N : Nd R m fr (hh + 1) root []) {x : It} (hx : R root = [x]) : Nd (upd R root []) m (fr ++ [root]) hh x.d [] ∧ prs (upd R root []) hh (upd R root [] x.d) = prs R (hh + 1) (R root) ∧ 2 ≤ (upd R root [] x.d).length ∧ (upd R root [] x.d).length ≤ 4 := by
  obtain ⟨x2, x4, _, x5⟩ := okI_up.1 (okL_one.1 (by have := N.ok; rwa [hx] at this))
  have ho := N.once
  rw [hx, nds_up] at ho
  have nd := ho.nodup
  simp only [List.nodup_cons, List.nodup_append, List.mem_append, List.mem_cons, List.cons_append, List.not_mem_nil, not_or] at nd
  have ex : upd R root [] x.d = R x.d := upd_other _ _ (Ne.symm nd.1.1)
  obtain ⟨s1, s2, s3⟩ := same_all (R := R) (R' := upd R root []) hh (R x.d) fun z hz => upd_other _ _ fun e => nd.1.2.1 (by rw [← e]; exact hz)
  rw [ex]
  refine ⟨⟨by rw [ex]; exact s3 x5, ?_, fun z hz => ?_⟩, by rw [s1, hx, prs_up], x2, x4⟩
  · rw [ex, s2]
    refine ho.of fun z => ?_
    simp only [List.count_cons, List.count_append, List.count_nil, List.nil_append]; omega
  · rcases List.mem_append.1 hz with hz | hz
    · rw [upd_other _ _ fun e => nd.1.2.2.2 (by rw [← e]; exact hz)]
      exact N.free z hz
    · obtain rfl : z = root := by simpa using hz
      exact upd_same _ _ _
end
section
variable {w : World} {h : Hd} {R : Nat → List It} {m : Nat} {fr : List Nat} {root cnt : Nat}
theorem root_any {hh : Nat} (t : TL w h R m fr root (hh + 1) cnt) (N : Nd R m fr hh root []) (hm : m + 1 ≤ 1000000) (hh6 : hh ≤ 500000) (hr : Rises (prs R hh (R root))) (hrt : Rights (prs R hh (R root))) (l5 : (R root).length ≤ 5) (l1 : hh = 0 ∨ 1 ≤ (R root).length) :
    Calls Try.prog 64 #[.pointer (some ⟨h.p, 0, none⟩)] w fun e w' => e = .returned (.tuple #[]) ∧ ∃ R' m' fr' root' dep' h', TL w' h' R' m' fr' root' dep' cnt ∧ Mv w h w' h' ∧ Top R' m' fr' root' dep' (prs R hh (R root)) ∧
      ((R root).length = 5 → m' = tkM (tkM m fr) fr.dropLast ∧ fr' = fr.dropLast.dropLast) ∧ ((R root).length ≤ 4 → m' = m) ∧ (1 ≤ (R root).length → (R root).length ≤ 4 → (hh = 0 ∨ 2 ≤ (R root).length) → fr' = fr) := by
  have hrm : root < m := N.once.lt (by simp)
  have nd := N.once.nodup
  simp only [List.nodup_cons, List.nodup_append, List.mem_append, List.not_mem_nil, not_or] at nd
  have hfl : fr.length ≤ 1000000 := by
    have := N.once.length
    simp at this; omega
  rcases (by omega : (R root).length = 5 ∨ (1 ≤ (R root).length ∧ (R root).length ≤ 4 ∧ (hh = 0 ∨ 2 ≤ (R root).length)) ∨ ((R root).length = 1 ∧ 0 < hh) ∨ ((R root).length = 0 ∧ hh = 0)) with h5 | ⟨g1, g4, g2⟩ | ⟨g1, g2⟩ | ⟨g1, g2⟩
  · obtain ⟨y, ys, hy⟩ := cons_of_drop h5
    obtain ⟨a1, a2, a3⟩ := top_grows N h5 hy
    refine Calls.mono (root_grows t hm (by omega) nd.2.2.1.2.1 (fun x hx => ⟨N.once.lt (by simp [hx]), N.free x hx⟩) hrm (fun hx => nd.1.2.2 hx) h5 y ys hy) ?_
    rintro e w' ⟨rfl, h', T, V⟩
    exact ⟨rfl, _, _, _, _, _, h', T, V, ⟨hr, hrt, .inr ⟨hh + 1, rfl, a1, a2, by omega, by omega, .inr (by omega)⟩⟩, fun _ => ⟨rfl, rfl⟩, by omega, by omega⟩
  · refine Calls.mono (root_stays t hrm g1 g4 (by omega)) ?_
    rintro e w' ⟨rfl, T, V⟩
    exact ⟨rfl, _, _, _, _, _, h, T, V, ⟨hr, hrt, .inr ⟨hh, rfl, N, rfl, g1, g4, g2⟩⟩, by omega, fun _ => rfl, fun _ _ _ => rfl⟩
  · obtain ⟨q, rfl⟩ : ∃ q, hh = q + 1 := ⟨hh - 1, by omega⟩
    obtain ⟨x, hx⟩ : ∃ x, R root = [x] := List.length_eq_one_iff.1 g1
    obtain ⟨a1, a2, a3, a4⟩ := top_sinks N hx
    refine Calls.mono (root_sinks t hrm x hx (by omega) (by omega) hfl) ?_
    rintro e w' ⟨rfl, h', T, V⟩
    exact ⟨rfl, _, _, _, _, _, h', T, V, ⟨hr, hrt, .inr ⟨q, rfl, a1, a2, by omega, a4, .inr a3⟩⟩, by omega, fun _ => rfl, by omega⟩
  · subst g2
    have hx : R root = [] := List.eq_nil_of_length_eq_zero g1
    refine Calls.mono (root_gone t hrm hx hfl) ?_
    rintro e w' ⟨rfl, h', T, V⟩
    refine ⟨rfl, _, _, _, _, _, h', T, V, ⟨hr, hrt, .inl ⟨rfl, by rw [hx]; rfl, ?_, fun z hz => ?_⟩⟩, by omega, fun _ => rfl, by omega⟩
    · refine N.once.of fun z => ?_
      rw [nds]
      simp only [List.count_cons, List.count_append, List.count_nil, List.nil_append]; omega
    · rcases List.mem_append.1 hz with hz | hz
      · rw [upd_other _ _ fun e => nd.1.2.2 (by rw [← e]; exact hz)]
        exact N.free z hz
      · obtain rfl : z = root := by simpa using hz
        exact upd_same _ _ _
end
end Go.Proofs.Ytafkpfhhmmnpeaa.Val
/- What the tree's New, Len, Depth, Used and Room answer. -/
namespace Go.Proofs.Ytafkpfhhmmnpeaa.Val
open Go Go.RowKit
set_option maxRecDepth 100000

theorem new_tree (w : World) : TR (w.alloc (.cells #[.slice none 0 0, .slice none 0 0, .slice none 0 0, .int .i64 0, .int .i64 0, .int .i64 0] TT (0, 0))) ⟨w.heap.size, .slice none 0 0, .slice none 0 0, .slice none 0 0⟩ [] 0 0 0 := by
  have nb : ∀ k, (Value.slice none 0 0).ownBlock ≠ some k := fun k h => by simp [Value.ownBlock] at h
  refine ⟨fun _ => [], [], 0, ⟨heap_alloc_new _ _, .inl ⟨rfl, rfl⟩, ⟨rfl, .inl ⟨rfl, rfl⟩⟩, ⟨rfl, .inl ⟨rfl, rfl⟩⟩, nb _, nb _, nb _, fun k _ => nb k, fun k _ => nb k, fun k _ => nb k⟩, ⟨List.Pairwise.nil, fun x hx => (by cases hx), .inl ⟨rfl, rfl, fun z => (by simp), fun x hx => (by cases hx)⟩⟩, rfl⟩
set_option maxHeartbeats 1000000 in
theorem new_any (w : World) : Calls Try.prog 30 #[] w fun e w' => e = .returned (.pointer (some ⟨w.heap.size, 0, none⟩)) ∧ TR w' ⟨w.heap.size, .slice none 0 0, .slice none 0 0, .slice none 0 0⟩ [] 0 0 0 ∧ Below w.heap.size w w' := by
  have HT : Hid _ := new_tree w
  go_enter Try.func30, Try.ntmps30
  go_wp2_with fail
  go_ret
  exact ⟨rfl, HT.out, alloc1 _ _⟩
theorem new_mine (w : World) : ∀ k, (⟨w.heap.size, .slice none 0 0, .slice none 0 0, .slice none 0 0⟩ : Hd).has k → w.heap.size ≤ k := fun k hk => by
  rcases hk with e | e | e | e
  · exact Nat.le_of_eq e.symm
  all_goals simp [Value.ownBlock] at e
section
variable {w : World} {h : Hd} {l : List Pr} {m u d : Nat}
theorem TR.cells (t : TR w h l m u d) : ∃ fa fc ra rc fl, w.cell? ⟨h.p, 1, none⟩ = some (.slice fa m fc) ∧ w.cell? ⟨h.p, 2, none⟩ = some (.slice ra fl rc) ∧ w.cell? ⟨h.p, 4, none⟩ = some (.int .i64 d) ∧ w.cell? ⟨h.p, 5, none⟩ = some (.int .i64 l.length) ∧ u + fl = m := by
  obtain ⟨R, fr, root, T, _, hu⟩ := t
  obtain ⟨ra, rc, er⟩ := owns_slice T.free
  obtain ⟨fa, fc, ef⟩ := owns_slice T.fill
  obtain ⟨_, k1, k2, _, k4, k5⟩ := T.c
  rw [ef] at k1
  rw [er] at k2
  exact ⟨fa, fc, ra, rc, fr.length, k1, k2, k4, k5, hu⟩
set_option maxHeartbeats 1000000 in
theorem len_any (t : TR w h l m u d) : Calls Try.prog 42 #[.pointer (some ⟨h.p, 0, none⟩)] w fun e w' => e = .returned (.int .i64 l.length) ∧ Below w.heap.size w w' := by
  obtain ⟨fa, fc, ra, rc, fl, k1, k2, k4, k5, hu⟩ := t.cells
  clear t
  go_enter Try.func42, Try.ntmps42
  go_wp2_with fail
  go_ret
  exact ⟨rfl, Below.refl _ _⟩
end
section
variable (w : World)
set_option maxHeartbeats 1000000 in
theorem len_nil : Calls Try.prog 42 #[.pointer none] w fun e w' => e = .returned (.int .i64 0) ∧ Below w.heap.size w w' := by
  go_enter Try.func42, Try.ntmps42
  go_wp2_with fail
  go_ret
  exact ⟨rfl, Below.refl _ _⟩
end
end Go.Proofs.Ytafkpfhhmmnpeaa.Val
/- Ahead of the tree's Put and Delete: the change below the root, and the root settled, for a tree that holds pairs. -/
namespace Go.Proofs.Ytafkpfhhmmnpeaa.Val
open Go Go.RowKit
set_option maxRecDepth 100000

/-- Ahead of a change. -/
def St1 (w : World) (h : Hd) (root dep : Nat) (l : List Pr) (m0 : Nat) : Prop := ∃ hh R m fr, dep = hh + 1 ∧ TL w h R m fr root dep l.length ∧ Nd R m fr hh root [] ∧ prs R hh (R root) = l ∧ (R root).length ≤ 4 ∧ (hh = 0 ∨ 2 ≤ (R root).length) ∧ ((m = m0 ∨ fr = []) ∧ m0 ≤ m) ∧ m ≤ 200000 ∧ hh ≤ 100000
/-- Behind it. -/
def St2 (w : World) (h : Hd) (root dep cnt : Nat) (l : List Pr) (m0 : Nat) (g : Bool) : Prop := ∃ hh R m fr, dep = hh + 1 ∧ TL w h R m fr root dep cnt ∧ Nd R m fr hh root [] ∧ prs R hh (R root) = l ∧ (R root).length ≤ 5 ∧ (hh = 0 ∨ 1 ≤ (R root).length) ∧ (g = true → 1 ≤ (R root).length ∧ (hh = 0 ∨ 2 ≤ (R root).length) ∧ (m = m0 ∨ fr = []) ∧ m0 ≤ m) ∧ (g = false → (R root).length ≤ 4 ∧ m = m0) ∧ m ≤ 500000 ∧ hh ≤ 100000
section
variable {w : World} {h : Hd} {root dep cnt : Nat} {l : List Pr} {m0 : Nat} {g : Bool}
theorem St1.c (s : St1 w h root dep l m0) : w.cell? ⟨h.p, 3, none⟩ = some (.int .i64 root) ∧ w.cell? ⟨h.p, 4, none⟩ = some (.int .i64 dep) ∧ w.cell? ⟨h.p, 5, none⟩ = some (.int .i64 l.length) := by
  obtain ⟨hh, R, m, fr, _, T, _⟩ := s
  obtain ⟨_, _, _, k3, k4, k5⟩ := T.c
  exact ⟨k3, k4, k5⟩
theorem St1.below {w' : World} (s : St1 w h root dep l m0) (hb : Below w.heap.size w w') : St1 w' h root dep l m0 := by
  obtain ⟨hh, R, m, fr, e, T, r⟩ := s
  exact ⟨hh, R, m, fr, e, T.below hb, r⟩
theorem St2.c (s : St2 w h root dep cnt l m0 g) : w.cell? ⟨h.p, 3, none⟩ = some (.int .i64 root) ∧ w.cell? ⟨h.p, 4, none⟩ = some (.int .i64 dep) ∧ w.cell? ⟨h.p, 5, none⟩ = some (.int .i64 cnt) ∧ ∀ j, w.frozen? ⟨h.p, j, none⟩ = false := by
  obtain ⟨hh, R, m, fr, _, T, _⟩ := s
  obtain ⟨_, _, _, k3, k4, k5⟩ := T.c
  exact ⟨k3, k4, k5, T.open⟩
theorem St2.count (s : St2 w h root dep cnt l m0 g) (x : Nat) : St2 (w.setCell ⟨h.p, 5, none⟩ (.int .i64 x)) h root dep x l m0 g ∧ Mv w h (w.setCell ⟨h.p, 5, none⟩ (.int .i64 x)) h := by
  obtain ⟨hh, R, m, fr, e, T, r⟩ := s
  obtain ⟨T2, V⟩ := T.setCnt x
  exact ⟨⟨hh, R, m, fr, e, T2, r⟩, V⟩
theorem TR.st1 {u : Nat} (t : TR w h l m0 u dep) (hm : m0 ≤ 100000) (hl : l.length ≤ 100000) (hd : 0 < dep) : ∃ root, St1 w h root dep l m0 := by
  have hs := t.shape
  obtain ⟨R, fr, root, T, ⟨_, _, ⟨e1, _⟩ | ⟨hh, e1, N, e2, l1, l4, l2⟩⟩, hu⟩ := t
  · omega
  · exact ⟨root, hh, R, m0, fr, e1, T, N, e2, l4, l2, ⟨.inl rfl, Nat.le_refl _⟩, by omega, by omega⟩
/-- The change, and what it comes to. -/
theorem st_change {f : FuncId} {cap : Array Value} {k : Val} {aR : List It → List It} {aP : List Pr → List Pr} {ans : List Pr → Bool} {I : World → Hd → Prop} (D : Deed k g aR aP ans) (hE : Enters f) (hI : ∀ w h w' h', I w h → Mv w h w' h' → I w' h') (hD : DoOk f cap k aR ans I)
    (s : St1 w h root dep l m0) (i : I w h) (hr : Rises l) (hrt : Rights l) (hg : g = true → aP l ≠ []) (hf : g = false → l ≠ [] ∧ ∃ hh R m fr, dep = hh + 1 ∧ TL w h R m fr root dep l.length ∧ Nd R m fr hh root [] ∧ prs R hh (R root) = l ∧ (R root).length ≤ 4 ∧ (hh = 0 ∨ 2 ≤ (R root).length) ∧ m = m0 ∧ m ≤ 200000 ∧ hh ≤ 100000) :
    Calls Try.prog 61 #[.pointer (some ⟨h.p, 0, none⟩), .int .i64 root, .int .i64 dep, V k.t k.n k.s, FV f #[] cap] w fun e w' =>
      e = .returned (.bool (ans l)) ∧ ∃ h', St2 w' h' root dep l.length (aP l) m0 g ∧ Mv w h w' h' := by
  cases g
  · obtain ⟨_, hh, R, m, fr, rfl, T, N, rfl, l4, l2, e1, hm, hh1⟩ := hf rfl
    refine Calls.mono (change_all D hE hI hD hh root [] T i N hr hrt l4 l2 (by omega)) ?_
    rintro e w' ⟨rfl, R', m', fr', h', T', V, O⟩
    obtain ⟨a1, a2, a3⟩ := O.less rfl
    exact ⟨rfl, h', ⟨hh, R', m', fr', rfl, T', O.nd, O.ps, by omega, by omega, fun h => by (cases h), fun _ => ⟨by omega, by omega⟩, by omega, hh1⟩, V⟩
  · obtain ⟨hh, R, m, fr, rfl, T, N, rfl, l4, l2, e1, hm, hh1⟩ := s
    refine Calls.mono (change_all D hE hI hD hh root [] T i N hr hrt l4 l2 (by omega)) ?_
    rintro e w' ⟨rfl, R', m', fr', h', T', V, O⟩
    obtain ⟨a1, a2, a3, a4⟩ := O.more rfl
    have hne : 1 ≤ (R' root).length := by
      rcases l2 with rfl | l2
      · have h1 := hg rfl
        rw [← O.ps, prs_zero] at h1
        have h2 : R' root ≠ [] := fun e => h1 (by rw [e]; rfl)
        exact List.length_pos_iff.2 h2
      · omega
    refine ⟨rfl, h', ⟨hh, R', m', fr', rfl, T', O.nd, O.ps, by omega, by omega, fun _ => ⟨hne, by omega, ?_, by have := O.mono rfl; have := e1.2; omega⟩, fun h => by (cases h), by omega, hh1⟩, V⟩
    rcases a3 with a3 | a3
    · rcases e1.1 with e1 | e1
      · exact .inl (by omega)
      · exact .inr (O.emp rfl e1)
    · exact .inr a3
theorem st_root (s : St2 w h root dep l.length l m0 g) (hr : Rises l) (hrt : Rights l) :
    Calls Try.prog 64 #[.pointer (some ⟨h.p, 0, none⟩)] w fun e w' => e = .returned (.tuple #[]) ∧ ∃ h' m' u' d', TR w' h' l m' u' d' ∧ Mv w h w' h' ∧ (g = true → (m' = m0 ∨ u' = m') ∧ m0 ≤ m') ∧ (g = false → m' = m0) := by
  obtain ⟨hh, R, m, fr, rfl, T, N, e, l5, l1, hg, hf, hm, hh1⟩ := s
  subst e
  refine Calls.mono (root_any T N (by omega) (by omega) hr hrt l5 l1) ?_
  rintro e w' ⟨rfl, R', m', fr', root', dep', h', T', V, TP, a1, a2, a3⟩
  have hfl : fr'.length ≤ m' := by
    rcases TP.2.2 with ⟨_, _, o, _⟩ | ⟨_, _, N', _⟩
    · exact Nat.le_of_eq o.length
    · have := N'.once.length
      simp at this; omega
  refine ⟨rfl, h', m', m' - fr'.length, dep', ⟨R', fr', root', T', TP, by omega⟩, V, fun hg1 => ?_, fun hg1 => ?_⟩
  · obtain ⟨b1, b2, b3, b4⟩ := hg hg1
    have ge1 := tkM_ge m fr
    have ge2 := tkM_ge (tkM m fr) fr.dropLast
    refine ⟨?_, by rcases (by omega : (R root).length = 5 ∨ (R root).length ≤ 4) with h5 | h4; (have := (a1 h5).1; omega); (have := a2 h4; omega)⟩
    have emp : fr' = [] → m' - fr'.length = m' := fun e => by rw [e]; simp
    rcases (by omega : (R root).length = 5 ∨ (R root).length ≤ 4) with h5 | h4
    · obtain ⟨c1, c2⟩ := a1 h5
      rcases tkN_cases m fr with ⟨e0, _, e2⟩ | ⟨e1, e2⟩
      · exact .inr (emp (by rw [c2, e0]; rfl))
      · rcases tkN_cases (tkM m fr) fr.dropLast with ⟨e3, _, _⟩ | ⟨e3, e4⟩
        · exact .inr (emp (by rw [c2, e3]; rfl))
        · rcases b3 with b3 | b3
          · exact .inl (by rw [c1, e4, e2, b3])
          · rw [b3] at e1; simp at e1
    · have h1 := a2 h4
      have h2 := a3 b1 h4 b2
      rcases b3 with b3 | b3
      · exact .inl (by omega)
      · exact .inr (emp (by rw [h2, b3]))
  · obtain ⟨b1, b2⟩ := hf hg1
    have := a2 b1
    omega
end
end Go.Proofs.Ytafkpfhhmmnpeaa.Val
/- What the tree's Put does. -/
namespace Go.Proofs.Ytafkpfhhmmnpeaa.Val
open Go Go.RowKit
set_option maxRecDepth 100000

theorem put_enters : Enters 62 := enters_of Try.func62 rfl rfl
theorem put_do (bt bv bk : Nat) (k : Val) (v : Pl) (hk : rightX k = true) : DoOk 62 #[.pointer (some ⟨bv, 0, none⟩), .pointer (some ⟨bt, 0, none⟩), .pointer (some ⟨bk, 0, none⟩)] k (putR k v) (fun l => !hasP k l) (fun w h => PB w h bt bv bk k v) := by
  intro w h R m fr root dep cnt n t b hn h4 hr hrt
  have := put1_any bt bv bk k v t b n hn h4 hrt hk
  rw [there_has hk hr hrt] at this
  simpa only [List.append_toArray, List.cons_append, List.nil_append, ← there_has hk hr hrt] using this
abbrev tobj (p : Nat) : Obj := .cells #[.pointer (some ⟨p, 0, none⟩)] 70 (0, 0)
abbrev iobj (v : Pl) : Obj := .cells #[.bool v.a.t, .int .i64 v.a.n, .string v.a.s, .bool v.b.t, .int .i64 v.b.n, .string v.b.s, .bool v.c.t, .int .i64 v.c.n, .string v.c.s, .bool v.d.t, .int .i64 v.d.n, .string v.d.s, .int .i64 v.w, .int .i64 v.m] 74 (0, 0)
theorem range_iobj (w : World) (b : Nat) (v : Pl) (hb : b = w.heap.size) : (w.alloc (iobj v)).rangeAt b 0 (vcells v) := fun j u hj => by
  subst hb
  rw [Nat.zero_add]
  have := cell_of_row (w.alloc (iobj v)) w.heap.size j (vcells v).toArray 74 (0, 0) (heap_alloc_new w _)
  rw [this]
  simpa using hj
theorem PB.new {w : World} {h : Hd} (k : Val) (v : Pl) (hl : ∀ b, h.has b → b < w.heap.size) : PB (((w.alloc (tobj h.p)).alloc (vobj k 32)).alloc (iobj v)) h w.heap.size (w.heap.size + 1 + 1) (w.heap.size + 1) k v := by
  have n1 : ∀ b, w.heap.size ≤ b → ¬ h.has b := fun b hb hh => by have := hl b hh; omega
  exact ⟨by simp [go_sem], range_iobj _ _ v (by simp), by simp [go_sem], by simp [go_sem], by simp [go_sem], n1 _ (by omega), n1 _ (by omega), n1 _ (by omega)⟩
theorem back3' {w w' : World} {o1 o2 o3 : Obj} (hb : Below (((w.alloc o1).alloc o2).alloc o3).heap.size (((w.alloc o1).alloc o2).alloc o3) w') : Below w.heap.size w w' := back3 hb
section
variable {w : World} {h : Hd} {l : List Pr} {m u d : Nat}
set_option maxHeartbeats 2000000 in
theorem put_nil (k : Val) (v : Pl) : Calls Try.prog 45 #[.pointer none, V k.t k.n k.s, .agg #[.bool v.a.t, .int .i64 v.a.n, .string v.a.s, .bool v.b.t, .int .i64 v.b.n, .string v.b.s, .bool v.c.t, .int .i64 v.c.n, .string v.c.s, .bool v.d.t, .int .i64 v.d.n, .string v.d.s, .int .i64 v.w, .int .i64 v.m]] w fun e w' => e = .returned (.bool false) ∧ Below w.heap.size w w' := by
  go_enter Try.func45, Try.ntmps45
  go_wp2_with fail
  go_ret
  exact ⟨rfl, back3 (Below.refl _ _)⟩
set_option maxHeartbeats 2000000 in
theorem put_wrong (p : Nat) (k : Val) (v : Pl) (hs : k.s.size ≤ maxLen) (hk : rightX k = false) : Calls Try.prog 45 #[.pointer (some ⟨p, 0, none⟩), V k.t k.n k.s, .agg #[.bool v.a.t, .int .i64 v.a.n, .string v.a.s, .bool v.b.t, .int .i64 v.b.n, .string v.b.s, .bool v.c.t, .int .i64 v.c.n, .string v.c.s, .bool v.d.t, .int .i64 v.d.n, .string v.d.s, .int .i64 v.w, .int .i64 v.m]] w fun e w' => e = .returned (.bool false) ∧ Below w.heap.size w w' := by
  have HR : Hid (∀ w1, Calls Try.prog 52 #[V k.t k.n k.s] w1 fun e w' => e = .returned (.bool false) ∧ Below w1.heap.size w1 w') := fun w1 => by
    have := right_any k.t k.n k.s w1 hs
    unfold rightX at hk
    rwa [hk] at this
  clear hs hk
  go_enter Try.func45, Try.ntmps45
  go_wp2_with fail
  refine Calls.mono (HR.out _) ?_
  rintro e w1 ⟨rfl, hb⟩
  have HB : Hid (Below w.heap.size w w1) := back3 hb
  clear hb HR
  go_wp2_with fail
  go_ret
  exact ⟨rfl, HB.out⟩
set_option maxHeartbeats 8000000 in
theorem put_deep (t : TR w h l m u d) (hm : m ≤ 100000) (hl : l.length ≤ 100000) (hd : 0 < d) (k : Val) (v : Pl) (hs : k.s.size ≤ maxLen) (hk : rightX k = true) :
    Calls Try.prog 45 #[.pointer (some ⟨h.p, 0, none⟩), V k.t k.n k.s, .agg #[.bool v.a.t, .int .i64 v.a.n, .string v.a.s, .bool v.b.t, .int .i64 v.b.n, .string v.b.s, .bool v.c.t, .int .i64 v.c.n, .string v.c.s, .bool v.d.t, .int .i64 v.d.n, .string v.d.s, .int .i64 v.w, .int .i64 v.m]] w fun e w' => e = .returned (.bool (!hasP k l)) ∧ ∃ h' m' u' d', TR w' h' (insP k v l) m' u' d' ∧ Mv w h w' h' ∧ ((m' = m ∨ u' = m') ∧ m ≤ m') := by
  obtain ⟨hr, hrt⟩ := t.rises
  obtain ⟨root, s⟩ := t.st1 hm hl hd
  have hlt := t.lt
  have HR : Hid (∀ w1, Calls Try.prog 52 #[V k.t k.n k.s] w1 fun e w' => e = .returned (.bool true) ∧ Below w1.heap.size w1 w') := fun w1 => by
    have := right_any k.t k.n k.s w1 hs
    have hk' := hk
    unfold rightX at hk'
    rwa [hk'] at this
  have B0 : Hid _ := PB.new (w := w) (h := h) k v hlt
  have hne : insP k v l ≠ [] := fun e => by
    have := len_put (v := v) hk hr hrt
    rw [e] at this
    split at this
    · rename_i h0
      obtain ⟨u, hu⟩ := has_iff.1 h0
      cases l with
      | nil => cases hu
      | cons => simp at this
    · simp at this
  have HC : Hid (∀ w1, St1 w1 h root d l m → PB w1 h w.heap.size (w.heap.size + 1 + 1) (w.heap.size + 1) k v → Calls Try.prog 61 #[.pointer (some ⟨h.p, 0, none⟩), .int .i64 root, .int .i64 d, V k.t k.n k.s, FV 62 #[] #[.pointer (some ⟨w.heap.size + 1 + 1, 0, none⟩), .pointer (some ⟨w.heap.size, 0, none⟩), .pointer (some ⟨w.heap.size + 1, 0, none⟩)]] w1 fun e w' =>
      e = .returned (.bool (!hasP k l)) ∧ ∃ h', St2 w' h' root d l.length (insP k v l) m true ∧ Mv w1 h w' h') := fun w1 s1 b1 =>
    st_change (put_deed k v) put_enters (fun _ _ _ _ b a => PB.mv b a) (put_do _ _ _ k v hk) s1 b1 hr hrt (fun _ => hne) (fun h => by cases h)
  have HS : Hid (∀ w2 h2 c, St2 w2 h2 root d c (insP k v l) m true → c = (insP k v l).length → h2.p = h.p → Calls Try.prog 64 #[.pointer (some ⟨h.p, 0, none⟩)] w2 fun e w' => e = .returned (.tuple #[]) ∧ ∃ h' m' u' d', TR w' h' (insP k v l) m' u' d' ∧ Mv w2 h2 w' h' ∧ ((m' = m ∨ u' = m') ∧ m ≤ m')) := fun w2 h2 c s2 hc hp => by
    subst hc
    have := st_root s2 (ins_rises hr) (ins_rights hk hrt)
    rw [hp] at this
    refine Calls.mono this ?_
    rintro e w' ⟨e1, h', m', u', d', a1, a2, a3, _⟩
    exact ⟨e1, h', m', u', d', a1, a2, a3 rfl⟩
  have HL : Hid ((insP k v l).length = if hasP k l then l.length else l.length + 1) := len_put hk hr hrt
  have S1 : Hid (St1 w h root d l m) := s
  clear t hr hrt hne hk hs s hlt
  generalize insP k v l = l2 at *
  generalize hasP k l = has at *
  have d1 : ((d : Int) == 0) = false := by simp; omega
  have ll : l.length ≤ 100000 := hl
  clear hm hd
  go_enter Try.func45, Try.ntmps45
  go_wp2_with fail
  refine Calls.mono (HR.out _) ?_
  rintro e w1 ⟨rfl, hb⟩
  have B1 : Hid (PB w1 h w.heap.size (w.heap.size + 1 + 1) (w.heap.size + 1) k v) := B0.out.mv (Mv.of hb)
  have S1' : Hid (St1 w1 h root d l m) := S1.out.below (back3 hb)
  have HB : Hid (Mv w h w1 h) := Mv.of (back3 hb)
  clear hb HR S1 B0
  obtain ⟨b1, b2, b3, b4, b5, _, _, _⟩ := B1.out
  obtain ⟨k3, k4, k5⟩ := S1'.out.c
  go_wp2_with fail
  clear b1 b2 b3 b4 b5 k3 k4 k5
  refine wp_region_held_drew (S := fun w' => w'.cell? ⟨w.heap.size, 0, none⟩ = some (.pointer (some ⟨h.p, 0, none⟩)) ∧ w'.cell? ⟨w.heap.size + 1, 0, none⟩ = some (.bool k.t) ∧ w'.cell? ⟨w.heap.size + 1, 1, none⟩ = some (.int .i64 k.n) ∧ w'.cell? ⟨w.heap.size + 1, 2, none⟩ = some (.string k.s) ∧ w'.cell? ⟨h.p, 3, none⟩ = some (.int .i64 root) ∧ w'.cell? ⟨h.p, 4, none⟩ = some (.int .i64 d)) (by kernel_rfl) ?_ (fun hHeld => ?_)
  · exact ⟨B1.out.ct, B1.out.c0, B1.out.c1, B1.out.c2, S1'.out.c.1, S1'.out.c.2.1⟩
  (try clear hK K)
  refine wpAnyH_take (i := 0) (v := ?_) rfl (by kernel_rfl) (by kernel_rfl) (by kernel_rfl) (fun _ _ _ h => h) (Or.inl ⟨by rfl, ?_⟩) (by assumption) ?_
  rotate_left
  · intro w hSw; (try dsimp only at hSw); go_simp; (try with_reducible rfl)
  (try simp only [Act.put, List.getElem_toArray, List.getElem_cons_zero, List.setIfInBounds_toArray, List.set_cons_zero, List.set_cons_succ])
  refine wpAnyH_take (i := 1) (v := ?_) rfl (by kernel_rfl) (by kernel_rfl) (by kernel_rfl) (fun _ _ _ h => h) (Or.inl ⟨by rfl, ?_⟩) (by assumption) ?_
  rotate_left
  · intro w hSw; (try dsimp only at hSw); go_simp; (try with_reducible rfl)
  (try simp only [Act.put, List.getElem_toArray, List.getElem_cons_succ, List.getElem_cons_zero, List.setIfInBounds_toArray, List.set_cons_zero, List.set_cons_succ])
  refine wpAnyH_take (i := 2) (v := ?_) rfl (by kernel_rfl) (by kernel_rfl) (by kernel_rfl) (fun _ _ _ h => h) (Or.inl ⟨by rfl, ?_⟩) (by assumption) ?_
  rotate_left
  · intro w hSw; (try dsimp only at hSw); go_simp; (try with_reducible rfl)
  (try simp only [Act.put, List.getElem_toArray, List.getElem_cons_succ, List.getElem_cons_zero, List.setIfInBounds_toArray, List.set_cons_zero, List.set_cons_succ])
  refine wpAnyH_take (i := 3) (v := ?_) rfl (by kernel_rfl) (by kernel_rfl) (by kernel_rfl) (fun _ _ _ h => h) (Or.inl ⟨by rfl, ?_⟩) (by assumption) ?_
  rotate_left
  · intro w hSw; (try dsimp only at hSw); go_simp; (try with_reducible rfl)
  (try simp only [Act.put, List.getElem_toArray, List.getElem_cons_succ, List.getElem_cons_zero, List.setIfInBounds_toArray, List.set_cons_zero, List.set_cons_succ])
  refine wpAnyH_take (i := 4) (v := ?_) rfl (by kernel_rfl) (by kernel_rfl) (by kernel_rfl) (fun _ _ _ h => h) (Or.inl ⟨by rfl, ?_⟩) (by assumption) ?_
  rotate_left
  · intro w hSw; (try dsimp only at hSw); go_simp; (try with_reducible rfl)
  (try simp only [Act.put, List.getElem_toArray, List.getElem_cons_succ, List.getElem_cons_zero, List.setIfInBounds_toArray, List.set_cons_zero, List.set_cons_succ])
  refine wpAnyH_take (i := 5) (v := ?_) rfl (by kernel_rfl) (by kernel_rfl) (by kernel_rfl) (fun _ _ _ h => h) (Or.inl ⟨by rfl, ?_⟩) (by assumption) ?_
  rotate_left
  · intro w hSw; (try dsimp only at hSw); go_simp; (try with_reducible rfl)
  (try simp only [Act.put, List.getElem_toArray, List.getElem_cons_succ, List.getElem_cons_zero, List.setIfInBounds_toArray, List.set_cons_zero, List.set_cons_succ])
  refine wpAnyH_take (i := 6) (v := ?_) rfl (by kernel_rfl) (by kernel_rfl) (by kernel_rfl) (fun _ _ _ h => h) (Or.inl ⟨by rfl, ?_⟩) (by assumption) ?_
  rotate_left
  · intro w hSw; (try dsimp only at hSw); go_simp; (try with_reducible rfl)
  (try simp only [Act.put, List.getElem_toArray, List.getElem_cons_succ, List.getElem_cons_zero, List.setIfInBounds_toArray, List.set_cons_zero, List.set_cons_succ])
  refine wpAnyH_take (i := 7) (v := ?_) rfl (by kernel_rfl) (by kernel_rfl) (by kernel_rfl) (fun _ _ _ h => h) (Or.inl ⟨by rfl, ?_⟩) (by assumption) ?_
  rotate_left
  · intro w hSw; (try dsimp only at hSw); go_simp; (try with_reducible rfl)
  (try simp only [Act.put, List.getElem_toArray, List.getElem_cons_succ, List.getElem_cons_zero, List.setIfInBounds_toArray, List.set_cons_zero, List.set_cons_succ])
  refine wpAnyH_take (i := 8) (v := ?_) rfl (by kernel_rfl) (by kernel_rfl) (by kernel_rfl) (fun _ _ _ h => h) (Or.inl ⟨by rfl, ?_⟩) (by assumption) ?_
  rotate_left
  · intro w hSw; (try dsimp only at hSw); go_simp; (try with_reducible rfl)
  (try simp only [Act.put, List.getElem_toArray, List.getElem_cons_succ, List.getElem_cons_zero, List.setIfInBounds_toArray, List.set_cons_zero, List.set_cons_succ])
  refine wpAnyH_take (i := 9) (v := ?_) rfl (by kernel_rfl) (by kernel_rfl) (by kernel_rfl) (fun _ _ _ h => h) (Or.inl ⟨by rfl, ?_⟩) (by assumption) ?_
  rotate_left
  · intro w hSw; (try dsimp only at hSw); go_simp; (try with_reducible rfl)
  (try simp only [Act.put, List.getElem_toArray, List.getElem_cons_succ, List.getElem_cons_zero, List.setIfInBounds_toArray, List.set_cons_zero, List.set_cons_succ])
  refine wpAnyH_take (i := 10) (v := ?_) rfl (by kernel_rfl) (by kernel_rfl) (by kernel_rfl) (fun _ _ _ h => h) (Or.inl ⟨by rfl, ?_⟩) (by assumption) ?_
  rotate_left
  · intro w hSw; (try dsimp only at hSw); go_simp; (try with_reducible rfl)
  (try simp only [Act.put, List.getElem_toArray, List.getElem_cons_succ, List.getElem_cons_zero, List.setIfInBounds_toArray, List.set_cons_zero, List.set_cons_succ])
  (try clear hK K)
  refine wpAnyH_ready (rs := [11]) (by kernel_rfl) (by simp) ?_
  refine AllReadyH.cons rfl (fun K hK => ?_) AllReadyH.nil
  go_simp
  (refine Calls.mono (HC.out _ (S1'.out.below (Below.refl _ _).drew) (B1.out.mv (Mv.of (Below.refl _ _).drew))) ?_; rintro e w2 ⟨rfl, h2, S2, V2⟩)
  refine hK.out _ _ ?_ (fun hHeld => ?_)
  · have b := B1.out.mv ((Mv.of (Below.refl _ _).drew).trans V2)
    have hp := V2.p
    have c := S2.c
    rw [hp] at c
    exact ⟨by rw [← hp]; exact b.ct, b.c0, b.c1, b.c2, c.1, c.2.1⟩
  have B2 : Hid (PB w2 h2 w.heap.size (w.heap.size + 1 + 1) (w.heap.size + 1) k v) := B1.out.mv ((Mv.of (Below.refl _ _).drew).trans V2)
  have S2' : Hid (St2 w2 h2 root d l.length l2 m true ∧ Mv w h w2 h2 ∧ h2.p = h.p) := ⟨S2, HB.out.trans ((Mv.of (Below.refl _ _).drew).trans V2), V2.p⟩
  clear S2 V2 HC S1' HB B1
  (try clear hK K)
  refine wpAnyH_take (i := 12) (v := ?_) rfl (by kernel_rfl) (by kernel_rfl) (by kernel_rfl) (fun _ _ _ h => h) (Or.inl ⟨by rfl, ?_⟩) (by assumption) ?_
  rotate_left
  · intro w hSw; (try dsimp only at hSw); go_simp; (try with_reducible rfl)
  (try simp only [Act.put, List.getElem_toArray, List.getElem_cons_succ, List.getElem_cons_zero, List.setIfInBounds_toArray, List.set_cons_zero, List.set_cons_succ])
  (try clear hK K)
  refine wpAnyH_done (by kernel_rfl) ?_ _
  have b1 := B2.out.ct
  obtain ⟨_, _, k5, k6⟩ := S2'.out.1.c
  rw [S2'.out.2.2] at b1 k5 k6
  cases has
  · obtain ⟨s3, v3⟩ := S2'.out.1.count (l.length + 1)
    have b3 := (B2.out.mv v3).ct
    have hlz : ((l.length + 1 : Nat) : Int) = (l.length : Int) + 1 := by omega
    rw [S2'.out.2.2, hlz] at s3 v3 b3
    have S3 : Hid (St2 (w2.setCell ⟨h.p, 5, none⟩ (.int .i64 ((l.length : Int) + 1))) h2 root d (l.length + 1) l2 m true ∧ Mv w h (w2.setCell ⟨h.p, 5, none⟩ (.int .i64 ((l.length : Int) + 1))) h2 ∧ h2.p = h.p) := ⟨s3, S2'.out.2.1.trans v3, S2'.out.2.2⟩
    clear s3 v3 hlz S2'
    go_wp2_with fail
    refine Calls.mono (HS.out _ _ _ S3.out.1 (by rw [HL.out]; rfl) S3.out.2.2) ?_
    rintro e w4 ⟨rfl, h', m', u', d', a1, a2, a3⟩
    have HT : Hid (TR w4 h' l2 m' u' d' ∧ Mv w h w4 h' ∧ ((m' = m ∨ u' = m') ∧ m ≤ m')) := ⟨a1, S3.out.2.1.trans a2, a3⟩
    clear a1 a2 a3 HS S3 b1 b3 k5 k6 B2
    go_wp2_with fail
    go_ret
    exact ⟨rfl, h', m', u', d', HT.out⟩
  · go_wp2_with fail
    refine Calls.mono (HS.out _ _ _ S2'.out.1 (by rw [HL.out]; rfl) S2'.out.2.2) ?_
    rintro e w4 ⟨rfl, h', m', u', d', a1, a2, a3⟩
    have HT : Hid (TR w4 h' l2 m' u' d' ∧ Mv w h w4 h' ∧ ((m' = m ∨ u' = m') ∧ m ≤ m')) := ⟨a1, S2'.out.2.1.trans a2, a3⟩
    clear a1 a2 a3 HS S2' b1 k5 k6 B2
    go_wp2_with fail
    go_ret
    exact ⟨rfl, h', m', u', d', HT.out⟩
end
end Go.Proofs.Ytafkpfhhmmnpeaa.Val
