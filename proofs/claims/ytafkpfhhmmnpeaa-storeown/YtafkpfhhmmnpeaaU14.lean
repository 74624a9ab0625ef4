/- What the tree's Delete does. -/
import Derived.Test.YtafkpfhhmmnpeaaU13
namespace Go.Proofs.Ytafkpfhhmmnpeaa.Val
open Go Go.RowKit
set_option maxRecDepth 100000

/-- The boxes of a call of Delete's: the tree, the key. -/
structure DB (w : World) (h : Hd) (bt bk : Nat) (k : Val) : Prop where
  ct : w.cell? ⟨bt, 0, none⟩ = some (.pointer (some ⟨h.p, 0, none⟩))
  c0 : w.cell? ⟨bk, 0, none⟩ = some (.bool k.t)
  c1 : w.cell? ⟨bk, 1, none⟩ = some (.int .i64 k.n)
  c2 : w.cell? ⟨bk, 2, none⟩ = some (.string k.s)
  nt : ¬ h.has bt
  nk : ¬ h.has bk
theorem DB.mv {w w' : World} {h h' : Hd} {bt bk : Nat} {k : Val} (b : DB w h bt bk k) (a : Mv w h w' h') : DB w' h' bt bk k := by
  have l1 := World.block_lt_of_cell? w _ b.ct
  have l3 := World.block_lt_of_cell? w _ b.c0
  have l4 := World.block_lt_of_cell? w _ b.c1
  have l5 := World.block_lt_of_cell? w _ b.c2
  exact ⟨by rw [a.sv.cell l1 b.nt, a.p]; exact b.ct, by rw [a.sv.cell l3 b.nk]; exact b.c0, by rw [a.sv.cell l4 b.nk]; exact b.c1, by rw [a.sv.cell l5 b.nk]; exact b.c2, a.not b.nt l1, a.not b.nk l3⟩
theorem DB.new {w : World} {h : Hd} (k : Val) (hl : ∀ b, h.has b → b < w.heap.size) : DB ((w.alloc (tobj h.p)).alloc (vobj k 32)) h w.heap.size (w.heap.size + 1) k := by
  have n1 : ∀ b, w.heap.size ≤ b → ¬ h.has b := fun b hb hh => by have := hl b hh; omega
  exact ⟨by simp [go_sem], by simp [go_sem], by simp [go_sem], by simp [go_sem], n1 _ (by omega), n1 _ (by omega)⟩
theorem rem_enters : Enters 66 := enters_of Try.func66 rfl rfl
theorem rem_do (bt bk : Nat) (k : Val) (hk : rightX k = true) : DoOk 66 #[.pointer (some ⟨bt, 0, none⟩)] k (remR k) (fun l => hasP k l) (fun w h => DB w h bt bk k) := by
  intro w h R m fr root dep cnt n t b hn h4 hr hrt
  have := del1_any bt k t b.ct n hn h4
  rw [there_has hk hr hrt] at this
  simpa only [List.append_toArray, List.cons_append, List.nil_append, ← there_has hk hr hrt] using this
theorem len_del {k : Val} : ∀ {l : List Pr}, Rises l → (delP k l).length = if hasP k l then l.length - 1 else l.length := by
  intro l
  induction l with
  | nil => intro _; rfl
  | cons x l ih =>
    intro hr
    have h1 := (List.pairwise_cons.1 hr).1
    have h2 := (List.pairwise_cons.1 hr).2
    have e1 : delP k (x :: l) = delP k [x] ++ delP k l := del_app k [x] l
    have e2 : hasP k (x :: l) = (hasP k [x] || hasP k l) := has_app k [x] l
    cases hx : eqV x.k k
    · have e3 : delP k [x] = [x] := by simp [delP, hx]
      have e4 : hasP k [x] = false := by simp [hasP, hx]
      rw [e1, e2, e3, e4, List.length_append, ih h2, Bool.false_or]
      cases hh : hasP k l
      · simp; omega
      · obtain ⟨v, hv⟩ := has_iff.1 hh
        have : 0 < l.length := List.length_pos_of_mem hv
        simp; omega
    · have e3 : delP k [x] = [] := by simp [delP, hx]
      have e4 : hasP k [x] = true := by simp [hasP, hx]
      have e5 : hasP k l = false := not_has fun y hy => by
        have := h1 y hy
        rw [← eqV_iff.1 hx]
        have h3 := turnX x.k y.k
        omega
      rw [e1, e2, e3, e4, del_no e5]; simp
section
variable {w : World} {h : Hd} {l : List Pr} {m u d : Nat}
/-- Ahead of a change that makes no node. -/
def St0 (w : World) (h : Hd) (root dep : Nat) (l : List Pr) (m0 : Nat) : Prop := l ≠ [] ∧ ∃ hh R m fr, dep = hh + 1 ∧ TL w h R m fr root dep l.length ∧ Nd R m fr hh root [] ∧ prs R hh (R root) = l ∧ (R root).length ≤ 4 ∧ (hh = 0 ∨ 2 ≤ (R root).length) ∧ m = m0 ∧ m ≤ 200000 ∧ hh ≤ 100000
theorem St0.below {w' : World} {root : Nat} (s : St0 w h root d l m) (hb : Below w.heap.size w w') : St0 w' h root d l m := by
  obtain ⟨hne, hh, R, m, fr, e, T, r⟩ := s
  exact ⟨hne, hh, R, m, fr, e, T.below hb, r⟩
theorem St0.st1 {root : Nat} (s : St0 w h root d l m) : St1 w h root d l m := by
  obtain ⟨hne, hh, R, m, fr, e, T, N, p, a, b, c, r⟩ := s
  exact ⟨hh, R, m, fr, e, T, N, p, a, b, ⟨.inl c, by omega⟩, r⟩
theorem TR.st0 (t : TR w h l m u d) (hm : m ≤ 100000) (hl : l.length ≤ 100000) (hne : l ≠ []) : ∃ root, St0 w h root d l m := by
  have hs := t.shape
  have hlp : 0 < l.length := List.length_pos_iff.2 hne
  obtain ⟨R, fr, root, T, ⟨_, _, ⟨e1, _⟩ | ⟨hh, e1, N, e2, l1, l4, l2⟩⟩, hu⟩ := t
  · omega
  · exact ⟨root, hne, hh, R, m, fr, e1, T, N, e2, l4, l2, rfl, by omega, by omega⟩
set_option maxHeartbeats 2000000 in
theorem del_nil (k : Val) : Calls Try.prog 48 #[.pointer none, V k.t k.n k.s] w fun e w' => e = .returned (.bool false) ∧ Below w.heap.size w w' := by
  have H0 : Hid (∀ w1, Calls Try.prog 42 #[.pointer none] w1 fun e w' => e = .returned (.int .i64 0) ∧ Below w1.heap.size w1 w') := len_nil
  go_enter Try.func48, Try.ntmps48
  go_wp2_with fail
  refine Calls.mono (H0.out _) ?_
  rintro e w1 ⟨rfl, hb⟩
  have HB : Hid (Below w.heap.size w w1) := back2 hb
  clear hb H0
  go_wp2_with fail
  go_ret
  exact ⟨rfl, HB.out⟩
set_option maxHeartbeats 2000000 in
theorem del_empty (t : TR w h [] m u d) (k : Val) : Calls Try.prog 48 #[.pointer (some ⟨h.p, 0, none⟩), V k.t k.n k.s] w fun e w' => e = .returned (.bool false) ∧ Below w.heap.size w w' := by
  have H0 : Hid (∀ w1, Below w.heap.size w w1 → Calls Try.prog 42 #[.pointer (some ⟨h.p, 0, none⟩)] w1 fun e w' => e = .returned (.int .i64 0) ∧ Below w1.heap.size w1 w') := fun w1 hb => len_any (t.below hb)
  clear t
  go_enter Try.func48, Try.ntmps48
  go_wp2_with fail
  refine Calls.mono (H0.out _ (back2 (Below.refl _ _))) ?_
  rintro e w1 ⟨rfl, hb⟩
  have HB : Hid (Below w.heap.size w w1) := back2 hb
  clear hb H0
  go_wp2_with fail
  go_ret
  exact ⟨rfl, HB.out⟩
set_option maxHeartbeats 2000000 in
theorem del_wrong (t : TR w h l m u d) (hne : l ≠ []) (k : Val) (hs : k.s.size ≤ maxLen) (hk : rightX k = false) : Calls Try.prog 48 #[.pointer (some ⟨h.p, 0, none⟩), V k.t k.n k.s] w fun e w' => e = .returned (.bool false) ∧ Below w.heap.size w w' := by
  have H0 : Hid (∀ w1, Below w.heap.size w w1 → Calls Try.prog 42 #[.pointer (some ⟨h.p, 0, none⟩)] w1 fun e w' => e = .returned (.int .i64 l.length) ∧ Below w1.heap.size w1 w') := fun w1 hb => len_any (t.below hb)
  have HR : Hid (∀ w1, Calls Try.prog 52 #[V k.t k.n k.s] w1 fun e w' => e = .returned (.bool false) ∧ Below w1.heap.size w1 w') := fun w1 => by
    have := right_any k.t k.n k.s w1 hs
    unfold rightX at hk
    rwa [hk] at this
  have hlp : 0 < l.length := List.length_pos_iff.2 hne
  clear t hs hk hne
  generalize l.length = L at *
  have i1 : ((L : Int) == 0) = false := by simp; omega
  clear hlp
  go_enter Try.func48, Try.ntmps48
  go_wp2_with fail
  have v0 : Hid (VBox ((w.alloc (tobj h.p)).alloc (vobj k 32)) (w.heap.size + 1) k) := ⟨by simp [go_sem], by simp [go_sem], by simp [go_sem]⟩
  refine Calls.mono (H0.out _ (back2 (Below.refl _ _))) ?_
  rintro e w1 ⟨rfl, hb⟩
  have HB : Hid (Below w.heap.size w w1) := back2 hb
  obtain ⟨v1, v2, v3⟩ := v0.out.below hb
  clear hb H0
  go_wp2_with fail
  refine Calls.mono (HR.out _) ?_
  rintro e w2 ⟨rfl, hb⟩
  have HB2 : Hid (Below w.heap.size w w2) := HB.out.trans (hb.mono HB.out.size)
  clear hb HR v1 v2 v3
  go_wp2_with fail
  go_ret
  exact ⟨rfl, HB2.out⟩
set_option maxHeartbeats 8000000 in
theorem del_deep (t : TR w h l m u d) (hm : m ≤ 100000) (hl : l.length ≤ 100000) (hne : l ≠ []) (k : Val) (hs : k.s.size ≤ maxLen) (hk : rightX k = true) :
    Calls Try.prog 48 #[.pointer (some ⟨h.p, 0, none⟩), V k.t k.n k.s] w fun e w' => e = .returned (.bool (hasP k l)) ∧ ∃ h' u' d', TR w' h' (delP k l) m u' d' ∧ Mv w h w' h' := by
  obtain ⟨hr, hrt⟩ := t.rises
  obtain ⟨root, s⟩ := t.st0 hm hl hne
  have hlt := t.lt
  have H0 : Hid (∀ w1, Below w.heap.size w w1 → Calls Try.prog 42 #[.pointer (some ⟨h.p, 0, none⟩)] w1 fun e w' => e = .returned (.int .i64 l.length) ∧ Below w1.heap.size w1 w') := fun w1 hb => len_any (t.below hb)
  have HR : Hid (∀ w1, Calls Try.prog 52 #[V k.t k.n k.s] w1 fun e w' => e = .returned (.bool true) ∧ Below w1.heap.size w1 w') := fun w1 => by
    have := right_any k.t k.n k.s w1 hs
    have hk' := hk
    unfold rightX at hk'
    rwa [hk'] at this
  have B0 : Hid _ := DB.new (w := w) (h := h) k hlt
  have HC : Hid (∀ w1, St0 w1 h root d l m → DB w1 h w.heap.size (w.heap.size + 1) k → Calls Try.prog 61 #[.pointer (some ⟨h.p, 0, none⟩), .int .i64 root, .int .i64 d, V k.t k.n k.s, FV 66 #[] #[.pointer (some ⟨w.heap.size, 0, none⟩)]] w1 fun e w' =>
      e = .returned (.bool (hasP k l)) ∧ ∃ h', St2 w' h' root d l.length (delP k l) m false ∧ Mv w1 h w' h') := fun w1 s1 b1 =>
    st_change (rem_deed hk) rem_enters (fun _ _ _ _ b a => DB.mv b a) (rem_do _ _ k hk) s1.st1 b1 hr hrt (fun h => by cases h) (fun _ => s1)
  have HS : Hid (∀ w2 h2 c, St2 w2 h2 root d c (delP k l) m false → c = (delP k l).length → h2.p = h.p → Calls Try.prog 64 #[.pointer (some ⟨h.p, 0, none⟩)] w2 fun e w' => e = .returned (.tuple #[]) ∧ ∃ h' u' d', TR w' h' (delP k l) m u' d' ∧ Mv w2 h2 w' h') := fun w2 h2 c s2 hc hp => by
    subst hc
    have := st_root s2 (del_rises hr) (del_rights hrt)
    rw [hp] at this
    refine Calls.mono this ?_
    rintro e w' ⟨e1, h', m', u', d', a1, a2, _, a3⟩
    obtain rfl := a3 rfl
    exact ⟨e1, h', u', d', a1, a2⟩
  have HL : Hid ((delP k l).length = if hasP k l then l.length - 1 else l.length) := len_del hr
  have S1 : Hid (St0 w h root d l m) := s
  have hlp : 0 < l.length := List.length_pos_iff.2 hne
  clear t hr hrt hne hk hs s hlt
  generalize delP k l = l2 at *
  generalize hasP k l = has at *
  have i1 : ((l.length : Int) == 0) = false := by rw [beq_eq_false_iff_ne]; omega
  have i2 : IntKind.i64.wrap ((l.length : Int) - 1) = (l.length : Int) - 1 := by rw [IntKind.wrap_i64]; omega
  have HL0 : Hid (0 < l.length) := hlp
  clear hm hlp hl
  go_enter Try.func48, Try.ntmps48
  go_wp2_with fail
  refine Calls.mono (H0.out _ (back2 (Below.refl _ _))) ?_
  rintro e w0 ⟨rfl, hb⟩
  have Ba : Hid (DB w0 h w.heap.size (w.heap.size + 1) k) := B0.out.mv (Mv.of hb)
  have HBa : Hid (Below w.heap.size w w0) := back2 hb
  obtain ⟨b1, b3, b4, b5, _, _⟩ := Ba.out
  clear hb H0 B0
  go_wp2_with fail
  refine Calls.mono (HR.out _) ?_
  rintro e w1 ⟨rfl, hb⟩
  have B1 : Hid (DB w1 h w.heap.size (w.heap.size + 1) k) := Ba.out.mv (Mv.of hb)
  have S1' : Hid (St0 w1 h root d l m) := S1.out.below (HBa.out.trans (hb.mono HBa.out.size))
  have HB : Hid (Mv w h w1 h) := Mv.of (HBa.out.trans (hb.mono HBa.out.size))
  clear hb HR S1 b1 b3 b4 b5 Ba HBa
  go_wp2_with fail
  refine wp_region_held_drew (S := fun w' => w'.cell? ⟨w.heap.size, 0, none⟩ = some (.pointer (some ⟨h.p, 0, none⟩)) ∧ w'.cell? ⟨w.heap.size + 1, 0, none⟩ = some (.bool k.t) ∧ w'.cell? ⟨w.heap.size + 1, 1, none⟩ = some (.int .i64 k.n) ∧ w'.cell? ⟨w.heap.size + 1, 2, none⟩ = some (.string k.s) ∧ w'.cell? ⟨h.p, 3, none⟩ = some (.int .i64 root) ∧ w'.cell? ⟨h.p, 4, none⟩ = some (.int .i64 d)) (by kernel_rfl) ?_ (fun hHeld => ?_)
  · exact ⟨B1.out.ct, B1.out.c0, B1.out.c1, B1.out.c2, S1'.out.st1.c.1, S1'.out.st1.c.2.1⟩
  (try clear hK K)
  refine wpAnyH_take (i := 0) (v := ?_) rfl (by kernel_rfl) (by kernel_rfl) (by kernel_rfl) (fun _ _ _ h => h) (Or.inl ⟨by rfl, ?_⟩) (by assumption) ?_
  rotate_left
  · intro w hSw; (try dsimp only at hSw); go_simp; (try with_reducible rfl)
  (try simp only [Act.put, List.getElem_toArray, List.getElem_cons_zero, List.setIfInBounds_toArray, List.set_cons_zero, List.set_cons_succ])
  refine wpAnyH_take (i := 1) (v := ?_) rfl (by kernel_rfl) (by kernel_rfl) (by kernel_rfl) (fun _ _ _ h => h) (Or.inl ⟨by rfl, ?_⟩) (by assumption) ?_
  rotate_left
  · intro w hSw; (try dsimp only at hSw); go_simp; (try with_reducible rfl)
  (try simp only [Act.put, List.getElem_toArray, List.getElem_cons_succ, List.getElem_cons_zero, List.setIfInBounds_toArray, List.set_cons_zero, List.set_cons_succ])
  refine wpAnyH_take (i := 2) (v := ?_) rfl (by kernel_rfl) (by kernel_rfl) (by kernel_rfl) (fun _ _ _ h => h) (Or.inl ⟨by rfl, ?_⟩) (by assumption) ?_
  rotate_left
  · intro w hSw; (try dsimp only at hSw); go_simp; (try with_reducible rfl)
  (try simp only [Act.put, List.getElem_toArray, List.getElem_cons_succ, List.getElem_cons_zero, List.setIfInBounds_toArray, List.set_cons_zero, List.set_cons_succ])
  refine wpAnyH_take (i := 3) (v := ?_) rfl (by kernel_rfl) (by kernel_rfl) (by kernel_rfl) (fun _ _ _ h => h) (Or.inl ⟨by rfl, ?_⟩) (by assumption) ?_
  rotate_left
  · intro w hSw; (try dsimp only at hSw); go_simp; (try with_reducible rfl)
  (try simp only [Act.put, List.getElem_toArray, List.getElem_cons_succ, List.getElem_cons_zero, List.setIfInBounds_toArray, List.set_cons_zero, List.set_cons_succ])
  refine wpAnyH_take (i := 4) (v := ?_) rfl (by kernel_rfl) (by kernel_rfl) (by kernel_rfl) (fun _ _ _ h => h) (Or.inl ⟨by rfl, ?_⟩) (by assumption) ?_
  rotate_left
  · intro w hSw; (try dsimp only at hSw); go_simp; (try with_reducible rfl)
  (try simp only [Act.put, List.getElem_toArray, List.getElem_cons_succ, List.getElem_cons_zero, List.setIfInBounds_toArray, List.set_cons_zero, List.set_cons_succ])
  refine wpAnyH_take (i := 5) (v := ?_) rfl (by kernel_rfl) (by kernel_rfl) (by kernel_rfl) (fun _ _ _ h => h) (Or.inl ⟨by rfl, ?_⟩) (by assumption) ?_
  rotate_left
  · intro w hSw; (try dsimp only at hSw); go_simp; (try with_reducible rfl)
  (try simp only [Act.put, List.getElem_toArray, List.getElem_cons_succ, List.getElem_cons_zero, List.setIfInBounds_toArray, List.set_cons_zero, List.set_cons_succ])
  refine wpAnyH_take (i := 6) (v := ?_) rfl (by kernel_rfl) (by kernel_rfl) (by kernel_rfl) (fun _ _ _ h => h) (Or.inl ⟨by rfl, ?_⟩) (by assumption) ?_
  rotate_left
  · intro w hSw; (try dsimp only at hSw); go_simp; (try with_reducible rfl)
  (try simp only [Act.put, List.getElem_toArray, List.getElem_cons_succ, List.getElem_cons_zero, List.setIfInBounds_toArray, List.set_cons_zero, List.set_cons_succ])
  refine wpAnyH_take (i := 7) (v := ?_) rfl (by kernel_rfl) (by kernel_rfl) (by kernel_rfl) (fun _ _ _ h => h) (Or.inl ⟨by rfl, ?_⟩) (by assumption) ?_
  rotate_left
  · intro w hSw; (try dsimp only at hSw); go_simp; (try with_reducible rfl)
  (try simp only [Act.put, List.getElem_toArray, List.getElem_cons_succ, List.getElem_cons_zero, List.setIfInBounds_toArray, List.set_cons_zero, List.set_cons_succ])
  refine wpAnyH_take (i := 8) (v := ?_) rfl (by kernel_rfl) (by kernel_rfl) (by kernel_rfl) (fun _ _ _ h => h) (Or.inl ⟨by rfl, ?_⟩) (by assumption) ?_
  rotate_left
  · intro w hSw; (try dsimp only at hSw); go_simp; (try with_reducible rfl)
  (try simp only [Act.put, List.getElem_toArray, List.getElem_cons_succ, List.getElem_cons_zero, List.setIfInBounds_toArray, List.set_cons_zero, List.set_cons_succ])
  refine wpAnyH_take (i := 9) (v := ?_) rfl (by kernel_rfl) (by kernel_rfl) (by kernel_rfl) (fun _ _ _ h => h) (Or.inl ⟨by rfl, ?_⟩) (by assumption) ?_
  rotate_left
  · intro w hSw; (try dsimp only at hSw); go_simp; (try with_reducible rfl)
  (try simp only [Act.put, List.getElem_toArray, List.getElem_cons_succ, List.getElem_cons_zero, List.setIfInBounds_toArray, List.set_cons_zero, List.set_cons_succ])
  refine wpAnyH_take (i := 10) (v := ?_) rfl (by kernel_rfl) (by kernel_rfl) (by kernel_rfl) (fun _ _ _ h => h) (Or.inl ⟨by rfl, ?_⟩) (by assumption) ?_
  rotate_left
  · intro w hSw; (try dsimp only at hSw); go_simp; (try with_reducible rfl)
  (try simp only [Act.put, List.getElem_toArray, List.getElem_cons_succ, List.getElem_cons_zero, List.setIfInBounds_toArray, List.set_cons_zero, List.set_cons_succ])
  (try clear hK K)
  refine wpAnyH_ready (rs := [11]) (by kernel_rfl) (by simp) ?_
  refine AllReadyH.cons rfl (fun K hK => ?_) AllReadyH.nil
  go_simp
  (refine Calls.mono (HC.out _ (S1'.out.below (Below.refl _ _).drew) (B1.out.mv (Mv.of (Below.refl _ _).drew))) ?_; rintro e w2 ⟨rfl, h2, S2, V2⟩)
  refine hK.out _ _ ?_ (fun hHeld => ?_)
  · have b := B1.out.mv ((Mv.of (Below.refl _ _).drew).trans V2)
    have hp := V2.p
    have c := S2.c
    rw [hp] at c
    exact ⟨by rw [← hp]; exact b.ct, b.c0, b.c1, b.c2, c.1, c.2.1⟩
  have B2 : Hid (DB w2 h2 w.heap.size (w.heap.size + 1) k) := B1.out.mv ((Mv.of (Below.refl _ _).drew).trans V2)
  have S2' : Hid (St2 w2 h2 root d l.length l2 m false ∧ Mv w h w2 h2 ∧ h2.p = h.p) := ⟨S2, HB.out.trans ((Mv.of (Below.refl _ _).drew).trans V2), V2.p⟩
  clear S2 V2 HC S1' HB B1
  (try clear hK K)
  refine wpAnyH_take (i := 12) (v := ?_) rfl (by kernel_rfl) (by kernel_rfl) (by kernel_rfl) (fun _ _ _ h => h) (Or.inl ⟨by rfl, ?_⟩) (by assumption) ?_
  rotate_left
  · intro w hSw; (try dsimp only at hSw); go_simp; (try with_reducible rfl)
  (try simp only [Act.put, List.getElem_toArray, List.getElem_cons_succ, List.getElem_cons_zero, List.setIfInBounds_toArray, List.set_cons_zero, List.set_cons_succ])
  (try clear hK K)
  refine wpAnyH_done (by kernel_rfl) ?_ _
  have b1 := B2.out.ct
  obtain ⟨_, _, k5, k6⟩ := S2'.out.1.c
  rw [S2'.out.2.2] at b1 k5 k6
  cases has
  · go_wp2_with fail
    refine Calls.mono (HS.out _ _ _ S2'.out.1 (by rw [HL.out]; rfl) S2'.out.2.2) ?_
    rintro e w4 ⟨rfl, h', u', d', a1, a2⟩
    have HT : Hid (TR w4 h' l2 m u' d' ∧ Mv w h w4 h') := ⟨a1, S2'.out.2.1.trans a2⟩
    clear a1 a2 HS S2' b1 k5 k6 B2
    go_wp2_with fail
    go_ret
    exact ⟨rfl, h', u', d', HT.out⟩
  · obtain ⟨s3, v3⟩ := S2'.out.1.count (l.length - 1)
    have b3 := (B2.out.mv v3).ct
    have hlz : ((l.length - 1 : Nat) : Int) = (l.length : Int) - 1 := by have := HL0.out; omega
    rw [S2'.out.2.2, hlz] at s3 v3 b3
    have S3 : Hid (St2 (w2.setCell ⟨h.p, 5, none⟩ (.int .i64 ((l.length : Int) - 1))) h2 root d (l.length - 1) l2 m false ∧ Mv w h (w2.setCell ⟨h.p, 5, none⟩ (.int .i64 ((l.length : Int) - 1))) h2 ∧ h2.p = h.p) := ⟨s3, S2'.out.2.1.trans v3, S2'.out.2.2⟩
    clear s3 v3 hlz S2'
    go_wp2_with fail
    refine Calls.mono (HS.out _ _ _ S3.out.1 (by rw [HL.out]; rfl) S3.out.2.2) ?_
    rintro e w4 ⟨rfl, h', u', d', a1, a2⟩
    have HT : Hid (TR w4 h' l2 m u' d' ∧ Mv w h w4 h') := ⟨a1, S3.out.2.1.trans a2⟩
    clear a1 a2 HS S3 b1 b3 k5 k6 B2
    go_wp2_with fail
    go_ret
    exact ⟨rfl, h', u', d', HT.out⟩
/-- In whatever tree. -/
theorem del_any (t : TR w h l m u d) (hm : m ≤ 100000) (hl : l.length ≤ 100000) (k : Val) (hs : k.s.size ≤ maxLen) :
    Calls Try.prog 48 #[.pointer (some ⟨h.p, 0, none⟩), V k.t k.n k.s] w fun e w' => e = .returned (.bool (hasP k l)) ∧ ∃ h' u' d', TR w' h' (delP k l) m u' d' ∧ Mv w h w' h' := by
  by_cases hne : l = []
  · subst hne
    refine Calls.mono (del_empty t k) ?_
    rintro e w' ⟨e1, hb⟩
    exact ⟨e1, h, u, d, t.below hb, Mv.of hb⟩
  · cases hk : rightX k
    · have hh : hasP k l = false := by
        cases hh : hasP k l
        · rfl
        · obtain ⟨v, hv⟩ := has_iff.1 hh
          have := t.rises.2 _ hv
          rw [hk] at this; cases this
      rw [hh, del_no hh]
      refine Calls.mono (del_wrong t hne k hs hk) ?_
      rintro e w' ⟨e1, hb⟩
      exact ⟨e1, h, u, d, t.below hb, Mv.of hb⟩
    · exact del_deep t hm hl hne k hs hk
end
end Go.Proofs.Ytafkpfhhmmnpeaa.Val
/- Places as cells: a box of a place, loaded and stored as a whole. -/
namespace Go.Proofs.Ytafkpfhhmmnpeaa.Val
open Go Go.RowKit
set_option maxRecDepth 100000

/-- The cells of a place. -/
def PC (cs : List Value) : Prop := cs.length = 14 ∧ ∀ v ∈ cs, v.oneCell' = true
theorem PC.of (v : Pl) : PC (vcells v) := ⟨rfl, by simp [vcells, Value.oneCell']⟩
theorem new_range {w : World} {b : Nat} (cs : List Value) (T : TypeId) (hb : b = w.heap.size) : (w.alloc (.cells cs.toArray T)).rangeAt b 0 cs := fun j u hj => by
  subst hb
  rw [Nat.zero_add, cell_of_row (w.alloc _) w.heap.size j cs.toArray T (0, 0) (heap_alloc_new w _)]
  simpa using hj
theorem range_below {w w' : World} {b o : Nat} {cs : List Value} (h : w.rangeAt b o cs) (hb : Below w.heap.size w w') : w'.rangeAt b o cs := fun j u hj => by
  have := h j u hj
  rw [hb.cell (World.block_lt_of_cell? w _ this)]; exact this
theorem there_below {w w' : World} {b o n : Nat} (h : w.there b o n) (hb : Below w.heap.size w w') : w'.there b o n := fun j hj => by
  obtain ⟨h1, h2⟩ := h j hj
  obtain ⟨u, hu⟩ := Option.isSome_iff_exists.1 h1
  have hl := World.block_lt_of_cell? w _ hu
  exact ⟨by rw [hb.cell hl, hu]; rfl, by rw [hb.frozen hl]; exact h2⟩
theorem new_there {w : World} {b n : Nat} (cs : List Value) (T : TypeId) (hb : b = w.heap.size) (hn : cs.length = n) : (w.alloc (.cells cs.toArray T)).there b 0 n := fun j hj => by
  subst hb
  subst hn
  refine ⟨?_, ?_⟩
  · rw [new_range cs T rfl j cs[j] (List.getElem?_eq_getElem hj)]; rfl
  · simp [go_sem]
theorem back_sets {w0 w : World} {B b o : Nat} {cs : List Value} (h : Below B w0 w) (hb : B ≤ b) : Below B w0 (w.setCells b o cs) := by
  induction cs generalizing w o with
  | nil => exact h
  | cons c cs ih => rw [World.setCells]; exact ih (set_below h hb _)
theorem sv_sets (b : Nat) : ∀ (cs : List Value) (o : Nat) (w : World), Sv (fun k => k = b) w (w.setCells b o cs)
  | [], _, w => Sv.refl _ w
  | c :: cs, o, w => (Sv.set (X := fun k => k = b) (Sv.refl _ w) (a := ⟨b, o, none⟩) rfl c).trans (sv_sets b cs (o + 1) _)
/-- A place is loaded. -/
theorem step_pload {ops : Array Oper} {rest : List Oper} {op : Oper} {a : Act} {w : World} {Q : Exit → Act → World → Prop} (hgd : op.guard = none) (x : Operand) (ho : op.op = .load 74 x) (b o : Nat) (hx : a.eval x = .pointer (some ⟨b, o, none⟩)) (cs : List Value) (hc : w.rangeAt b o cs) (hp : PC cs)
    (h : wpList Try.prog ops Q rest (a.put op.dst (.agg cs.toArray)) w) : wpList Try.prog ops Q (op :: rest) a w :=
  wpList_load_mid hgd 74 x ho b o hx cs _ hc Try.underlying74 rfl (by rw [hp.1]; exact isize_V) h
/-- A place is stored. -/
theorem step_pstore {ops : Array Oper} {rest : List Oper} {op : Oper} {a : Act} {w : World} {Q : Exit → Act → World → Prop} (hgd : op.guard = none) (x y : Operand) (ho : op.op = .store 74 x y) (b o : Nat) (cs : List Value) (hx : a.eval x = .pointer (some ⟨b, o, none⟩)) (hy : a.eval y = .agg cs.toArray) (ht : w.there b o 14) (hp : PC cs)
    (h : wpList Try.prog ops Q rest (a.put op.dst undef) (w.setCells b o cs)) : wpList Try.prog ops Q (op :: rest) a w :=
  wpList_store_mid hgd 74 x y ho b o cs.toArray hx hy (by have := hp.1; simpa [this] using ht) (by have := hp.1; simp only [List.size_toArray, this]; exact isize_V) (all_oneCell_toArray hp.2) (by simpa using h)
/-- A place in a box, and a slot, are handed back. -/
theorem ret_pt {fn : Func} {x t : Nat} {tmps : Array Value} {w : World} (h : fn.results = #[.cell x 74, .tmp t]) (b : Nat) (cs : List Value) (hx : tmps.getD x undef = .pointer (some ⟨b, 0, none⟩)) (hc : w.rangeAt b 0 cs) (hp : PC cs) :
    (results fn tmps).run Try.prog w = .ok (.tuple #[.agg cs.toArray, tmps.getD t undef]) w := by
  have := run_loadVar_mid (P := Try.prog) w b 0 74 cs _ hc Try.underlying74 rfl (by rw [hp.1]; exact isize_V)
  rw [Array.getD_eq_getD_getElem?] at hx
  simp [results, h, hx, asAddr, this]
end Go.Proofs.Ytafkpfhhmmnpeaa.Val
/- What Get of a tree of places answers. -/
namespace Go.Proofs.Ytafkpfhhmmnpeaa.Val
open Go Go.RowKit
set_option maxRecDepth 100000

theorem find_no {k : Val} {l : List Pr} (h : ∀ x ∈ l, cmpX x.k k ≠ 0) : l.find? (fun x => eqV x.k k) = none := List.find?_eq_none.2 fun x hx e => h x hx (by rw [eqV_iff.1 e]; exact selfX k)
theorem get_mid {k : Val} {a b c : List Pr} (ha : ∀ x ∈ a, cmpX x.k k < 0) (hc : ∀ x ∈ c, 0 < cmpX x.k k) : getP k (a ++ (b ++ c)) = getP k b := by
  unfold getP
  rw [List.find?_append, List.find?_append, find_no fun x hx => by have := ha x hx; omega, find_no (l := c) fun x hx => by have := hc x hx; omega]
  simp
theorem get_leaf {k : Val} {r : List It} (hk : rightX k = true) (hr : Rises (r.map toP)) (hri : RisesI r) (hrt : RightsI r) : getP k (r.map toP) = if there k r then ((r.getD (place k r) It.zero).v, true) else (Pl.zero, false) := by
  cases ht : there k r
  · rw [if_neg (by simp)]
    exact get_no.2 (by rw [← there_has hk hri hrt]; exact ht)
  · rw [if_pos rfl]
    obtain ⟨hp, h0⟩ := there_true ht
    have ek : r[place k r].k = k := cmp_eq (hrt _ (List.getElem_mem hp)) hk h0
    refine (get_iff hr).2 (List.mem_map.2 ⟨r[place k r], List.getElem_mem hp, ?_⟩)
    show (⟨r[place k r].k, r[place k r].v⟩ : Pr) = _
    simp [List.getElem?_eq_getElem hp, ek]
/-- On the way down: the node holds what is looked for, if it is there at all. -/
structure Dn (R : Nat → List It) (m hh n : Nat) (k : Val) (l : List Pr) : Prop where
  ok : okL R hh (R n)
  rises : Rises (prs R hh (R n))
  rights : Rights (prs R hh (R n))
  lt : n < m
  nlt : ∀ z ∈ nds R hh (R n), z < m
  get : getP k (prs R hh (R n)) = getP k l
  ne : R n ≠ []
theorem Dn.step {R : Nat → List It} {m hh n : Nat} {k : Val} {l : List Pr} (D : Dn R m (hh + 1) n k l) : ∃ x, (R n)[wayP k (R n)]? = some x ∧ Dn R m hh x.d k l := by
  obtain ⟨A, x, B, e, hw, hA, hB⟩ := way_parts (k := k) (r := R n) (R := R) (hh := hh + 1) D.ne D.ok D.rises
  have ho := D.ok
  rw [e, okL_append, okL_cons] at ho
  obtain ⟨x2, x4, _, x5⟩ := okI_up.1 ho.2.1
  have ep : prs R (hh + 1) (R n) = prs R (hh + 1) A ++ (prs R hh (R x.d) ++ prs R (hh + 1) B) := by rw [e, prs_append, prs_cons R (hh + 1) x B, prs_up]
  have en : nds R (hh + 1) (R n) = nds R (hh + 1) A ++ ((x.d :: nds R hh (R x.d)) ++ nds R (hh + 1) B) := by rw [e, nds_append, nds_cons R (hh + 1) x B, nds_up]
  have hr := D.rises
  rw [ep] at hr
  refine ⟨x, by rw [hw, e]; simp, x5, (List.pairwise_append.1 (List.pairwise_append.1 hr).2.1).1, fun y hy => D.rights y (by rw [ep]; simp [hy]), D.nlt x.d (by rw [en]; simp), fun z hz => D.nlt z (by rw [en]; simp [hz]), ?_, fun h => by rw [h] at x2; simp at x2⟩
  rw [← D.get, ep, get_mid hA hB]
/-- The boxes of a call of Get's: the key, the answer, no place. -/
structure GB (w : World) (N : Nat) (k : Val) : Prop where
  vb : VBox w N k
  zr : w.rangeAt (N + 1 + 1) 0 (vcells Pl.zero)
  th : w.there (N + 1) 0 14
theorem GB.below {w w' : World} {N : Nat} {k : Val} (g : GB w N k) (hb : Below w.heap.size w w') : GB w' N k := ⟨g.vb.below hb, range_below g.zr hb, there_below g.th hb⟩
theorem GB.new (w : World) (k : Val) : GB (((w.alloc (vobj k 32)).alloc (.cells (vcells Pl.zero).toArray 74)).alloc (.cells (vcells Pl.zero).toArray 74)) w.heap.size k :=
  ⟨((VBox.new w k 32).alloc _).alloc _, new_range (vcells Pl.zero) _ (by simp), World.there_alloc (new_there (vcells Pl.zero) _ (by simp) rfl) _⟩
abbrev gans (v : Pl) (b : Bool) : Ending := .returned (.tuple #[.agg (vcells v).toArray, .bool b])
section
variable {w : World} {h : Hd} {l : List Pr} {m u d : Nat}
theorem range_val {w : World} {g o : Nat} {x : It} (h : ItAt w g o x) : w.rangeAt g (o + 3) (vcells x.v) := fun j u hj => by
  have hj5 : j < 14 := (List.getElem?_eq_some_iff.1 hj).1
  rw [Nat.add_assoc]
  match j, hj5, hj with
  | 0, _, hj => simp [vcells] at hj; subst hj; exact h.c3
  | 1, _, hj => simp [vcells] at hj; subst hj; exact h.c4
  | 2, _, hj => simp [vcells] at hj; subst hj; exact h.c5
  | 3, _, hj => simp [vcells] at hj; subst hj; exact h.c6
  | 4, _, hj => simp [vcells] at hj; subst hj; exact h.c7
  | 5, _, hj => simp [vcells] at hj; subst hj; exact h.c8
  | 6, _, hj => simp [vcells] at hj; subst hj; exact h.c9
  | 7, _, hj => simp [vcells] at hj; subst hj; exact h.c10
  | 8, _, hj => simp [vcells] at hj; subst hj; exact h.c11
  | 9, _, hj => simp [vcells] at hj; subst hj; exact h.c12
  | 10, _, hj => simp [vcells] at hj; subst hj; exact h.c13
  | 11, _, hj => simp [vcells] at hj; subst hj; exact h.c14
  | 12, _, hj => simp [vcells] at hj; subst hj; exact h.c15
  | 13, _, hj => simp [vcells] at hj; subst hj; exact h.c16
set_option maxHeartbeats 2000000 in
theorem get_nil (k : Val) : Calls Try.prog 38 #[.pointer none, V k.t k.n k.s] w fun e w' => e = gans Pl.zero false ∧ Below w.heap.size w w' := by
  have H0 : Hid (∀ w1, Calls Try.prog 42 #[.pointer none] w1 fun e w' => e = .returned (.int .i64 0) ∧ Below w1.heap.size w1 w') := len_nil
  go_enter Try.func38, Try.ntmps38
  go_wp2_with fail
  refine Calls.mono (H0.out _) ?_
  rintro e w1 ⟨rfl, hb⟩
  have HB : Hid (Below w.heap.size w w1) := back3 hb
  have GZ : Hid (GB w1 w.heap.size k) := (GB.new w k).below hb
  clear hb H0
  have Z2 : Hid (w1.there (w.heap.size + 1) 0 14) := GZ.out.th
  have Z3 : Hid ((w1.setCells (w.heap.size + 1) 0 (vcells Pl.zero)).rangeAt (w.heap.size + 1) 0 (vcells Pl.zero)) := World.rangeAt_setCells_same _ _ _ _ Z2.out
  have HE : Hid (Below w.heap.size w (w1.setCells (w.heap.size + 1) 0 (vcells Pl.zero))) := back_sets HB.out (by omega)
  have HP : Hid _ := PC.of Pl.zero
  have Z1 : Hid (w1.rangeAt (w.heap.size + 1 + 1) 0 (vcells Pl.zero)) := GZ.out.zr
  go_wp2_with (first | (refine step_pload rfl _ rfl (w.heap.size + 1 + 1) 0 rfl (vcells Pl.zero) Z1.out HP.out ?_) | (refine step_pstore rfl _ _ rfl (w.heap.size + 1) 0 (vcells Pl.zero) rfl rfl Z2.out HP.out ?_) | fail)
  exact bodyPost_ret (ret_pt Try.results38 (w.heap.size + 1) _ rfl Z3.out HP.out) rfl ⟨rfl, HE.out⟩
set_option maxHeartbeats 2000000 in
theorem get_empty (t : TR w h [] m u d) (k : Val) : Calls Try.prog 38 #[.pointer (some ⟨h.p, 0, none⟩), V k.t k.n k.s] w fun e w' => e = gans Pl.zero false ∧ Below w.heap.size w w' := by
  have H0 : Hid (∀ w1, Below w.heap.size w w1 → Calls Try.prog 42 #[.pointer (some ⟨h.p, 0, none⟩)] w1 fun e w' => e = .returned (.int .i64 0) ∧ Below w1.heap.size w1 w') := fun w1 hb => len_any (t.below hb)
  clear t
  go_enter Try.func38, Try.ntmps38
  go_wp2_with fail
  refine Calls.mono (H0.out _ (back3 (Below.refl _ _))) ?_
  rintro e w1 ⟨rfl, hb⟩
  have HB : Hid (Below w.heap.size w w1) := back3 hb
  have GZ : Hid (GB w1 w.heap.size k) := (GB.new w k).below hb
  clear hb H0
  have Z2 : Hid (w1.there (w.heap.size + 1) 0 14) := GZ.out.th
  have Z3 : Hid ((w1.setCells (w.heap.size + 1) 0 (vcells Pl.zero)).rangeAt (w.heap.size + 1) 0 (vcells Pl.zero)) := World.rangeAt_setCells_same _ _ _ _ Z2.out
  have HE : Hid (Below w.heap.size w (w1.setCells (w.heap.size + 1) 0 (vcells Pl.zero))) := back_sets HB.out (by omega)
  have HP : Hid _ := PC.of Pl.zero
  have Z1 : Hid (w1.rangeAt (w.heap.size + 1 + 1) 0 (vcells Pl.zero)) := GZ.out.zr
  go_wp2_with (first | (refine step_pload rfl _ rfl (w.heap.size + 1 + 1) 0 rfl (vcells Pl.zero) Z1.out HP.out ?_) | (refine step_pstore rfl _ _ rfl (w.heap.size + 1) 0 (vcells Pl.zero) rfl rfl Z2.out HP.out ?_) | fail)
  exact bodyPost_ret (ret_pt Try.results38 (w.heap.size + 1) _ rfl Z3.out HP.out) rfl ⟨rfl, HE.out⟩
set_option maxHeartbeats 2000000 in
theorem get_wrong (t : TR w h l m u d) (hne : l ≠ []) (k : Val) (hs : k.s.size ≤ maxLen) (hk : rightX k = false) : Calls Try.prog 38 #[.pointer (some ⟨h.p, 0, none⟩), V k.t k.n k.s] w fun e w' => e = gans Pl.zero false ∧ Below w.heap.size w w' := by
  have H0 : Hid (∀ w1, Below w.heap.size w w1 → Calls Try.prog 42 #[.pointer (some ⟨h.p, 0, none⟩)] w1 fun e w' => e = .returned (.int .i64 l.length) ∧ Below w1.heap.size w1 w') := fun w1 hb => len_any (t.below hb)
  have HR : Hid (∀ w1, Calls Try.prog 52 #[V k.t k.n k.s] w1 fun e w' => e = .returned (.bool false) ∧ Below w1.heap.size w1 w') := fun w1 => by
    have := right_any k.t k.n k.s w1 hs
    unfold rightX at hk
    rwa [hk] at this
  have hlp : 0 < l.length := List.length_pos_iff.2 hne
  clear t hs hk hne
  generalize l.length = L at *
  have i1 : ((L : Int) == 0) = false := by simp; omega
  clear hlp
  go_enter Try.func38, Try.ntmps38
  go_wp2_with fail
  refine Calls.mono (H0.out _ (back3 (Below.refl _ _))) ?_
  rintro e w1 ⟨rfl, hb⟩
  have HB : Hid (Below w.heap.size w w1) := back3 hb
  have GZ : Hid (GB w1 w.heap.size k) := (GB.new w k).below hb
  obtain ⟨v1, v2, v3⟩ := GZ.out.vb
  clear hb H0
  go_wp2_with fail
  refine Calls.mono (HR.out _) ?_
  rintro e w2 ⟨rfl, hb⟩
  have HB2 : Hid (Below w.heap.size w w2) := HB.out.trans (hb.mono HB.out.size)
  have GZ2 : Hid (GB w2 w.heap.size k) := GZ.out.below hb
  clear hb HR v1 v2 v3 GZ HB
  have Z2 : Hid (w2.there (w.heap.size + 1) 0 14) := GZ2.out.th
  have Z3 : Hid ((w2.setCells (w.heap.size + 1) 0 (vcells Pl.zero)).rangeAt (w.heap.size + 1) 0 (vcells Pl.zero)) := World.rangeAt_setCells_same _ _ _ _ Z2.out
  have HE : Hid (Below w.heap.size w (w2.setCells (w.heap.size + 1) 0 (vcells Pl.zero))) := back_sets HB2.out (by omega)
  have HP : Hid _ := PC.of Pl.zero
  have Z1 : Hid (w2.rangeAt (w.heap.size + 1 + 1) 0 (vcells Pl.zero)) := GZ2.out.zr
  go_wp2_with (first | (refine step_pload rfl _ rfl (w.heap.size + 1 + 1) 0 rfl (vcells Pl.zero) Z1.out HP.out ?_) | (refine step_pstore rfl _ _ rfl (w.heap.size + 1) 0 (vcells Pl.zero) rfl rfl Z2.out HP.out ?_) | fail)
  exact bodyPost_ret (ret_pt Try.results38 (w.heap.size + 1) _ rfl Z3.out HP.out) rfl ⟨rfl, HE.out⟩
set_option maxHeartbeats 8000000 in
theorem get_deep (t : TR w h l m u d) (hl : l.length ≤ 100000) (hne : l ≠ []) (k : Val) (hs : k.s.size ≤ maxLen) (hk : rightX k = true) :
    Calls Try.prog 38 #[.pointer (some ⟨h.p, 0, none⟩), V k.t k.n k.s] w fun e w' => e = gans (getP k l).1 (getP k l).2 ∧ Below w.heap.size w w' := by
  obtain ⟨hr, hrt⟩ := t.rises
  have hsh := t.shape
  have hlp : 0 < l.length := List.length_pos_iff.2 hne
  have H0 : Hid (∀ w1, Below w.heap.size w w1 → Calls Try.prog 42 #[.pointer (some ⟨h.p, 0, none⟩)] w1 fun e w' => e = .returned (.int .i64 l.length) ∧ Below w1.heap.size w1 w') := fun w1 hb => len_any (t.below hb)
  have HR : Hid (∀ w1, Calls Try.prog 52 #[V k.t k.n k.s] w1 fun e w' => e = .returned (.bool true) ∧ Below w1.heap.size w1 w') := fun w1 => by
    have := right_any k.t k.n k.s w1 hs
    have hk' := hk
    unfold rightX at hk'
    rwa [hk'] at this
  obtain ⟨R, fr, root, T, ⟨_, _, ⟨e1, _⟩ | ⟨hh, e1, N, e2, l1, l4, l2⟩⟩, hu⟩ := t
  · omega
  have D0 : Hid (Dn R m hh root k l) := ⟨N.ok, by rw [e2]; exact hr, by rw [e2]; exact hrt, N.once.lt (by simp), fun z hz => N.once.lt (by simp [hz]), by rw [e2], fun h => by rw [h] at l1; simp at l1⟩
  obtain ⟨g, cap, cur, hav, _⟩ := T.arenaAt (by have := D0.out.lt; omega)
  have HW : Hid (∀ (n q : Nat) w1, Below w.heap.size w w1 → Dn R m q n k l → Calls Try.prog 53 #[.pointer (some ⟨h.p, 0, none⟩), .int .i64 n] w1 fun e w' => e = .returned (.slice (some ⟨g, n * 90, none⟩) (R n).length 5) ∧ Below w1.heap.size w1 w') := fun n q w1 hb D => row_any (T.below hb) n D.lt (T.len5 n D.lt) g cap hav
  have HY : Hid (∀ (n q : Nat) w1, Below w.heap.size w w1 → Dn R m q n k l → Calls Try.prog 54 #[.pointer (some ⟨h.p, 0, none⟩), .int .i64 n, V k.t k.n k.s] w1 fun e w' => e = .returned (.int .i64 (wayP k (R n))) ∧ Below w1.heap.size w1 w') := fun n q w1 hb D => way_any (T.below hb) n D.lt k (rises_items D.ok D.rises)
  have HF : Hid (∀ (n q : Nat) w1, Below w.heap.size w w1 → Dn R m q n k l → Calls Try.prog 55 #[.pointer (some ⟨h.p, 0, none⟩), .int .i64 n, V k.t k.n k.s] w1 fun e w' => e = .returned (.tuple #[.int .i64 (place k (R n)), .bool (there k (R n))]) ∧ Below w1.heap.size w1 w') := fun n q w1 hb D => find_any (T.below hb) n D.lt k (rises_items D.ok D.rises)
  have HC : Hid (∀ (n q i : Nat) (x : It) w1, Below w.heap.size w w1 → Dn R m q n k l → (R n)[i]? = some x → ItAt w1 g (n * 90 + i * 18) x) := fun n q i x w1 hb D hx => by
    have := ((T.rowAt g _ cap hav n D.lt).below hb).at i (List.getElem?_eq_some_iff.1 hx).1
    rwa [(List.getElem?_eq_some_iff.1 hx).2] at this
  have H5 : Hid (∀ n, n < m → (R n).length ≤ 5) := fun n hn => T.len5 n hn
  have HT : Hid (∀ w1, Below w.heap.size w w1 → w1.cell? ⟨h.p, 3, none⟩ = some (.int .i64 root) ∧ w1.cell? ⟨h.p, 4, none⟩ = some (.int .i64 d)) := fun w1 hb => by
    obtain ⟨_, _, _, k3, k4, _⟩ := (T.below hb).c
    exact ⟨k3, k4⟩
  have HG : Hid (∀ n, Dn R m 0 n k l → getP k l = if there k (R n) then (((R n).getD (place k (R n)) It.zero).v, true) else (Pl.zero, false)) := fun n D => by
    have hri := rises_items D.ok D.rises
    rw [← D.get, prs_zero]
    exact get_leaf hk D.rises hri fun x hx => D.rights (toP x) (List.mem_map.2 ⟨x, hx, rfl⟩)
  obtain ⟨gv, hgv⟩ : ∃ gv, getP k l = gv := ⟨_, rfl⟩
  rw [hgv] at HG ⊢
  clear T N hr hrt hk hs hav e2 l1 l4 l2 hu hne hgv
  have i1 : ((l.length : Int) == 0) = false := by rw [beq_eq_false_iff_ne]; omega
  have d2 : d ≤ 200000 := by omega
  have d4 : IntKind.i64.wrap ((d : Int) - 1) = (d : Int) - 1 := by rw [IntKind.wrap_i64]; omega
  have d5 : (d : Int) - 1 = (hh : Int) := by omega
  have HD : Hid (d = hh + 1 ∧ hh ≤ 200000) := ⟨e1, by omega⟩
  clear hsh hlp e1
  go_enter Try.func38, Try.ntmps38
  go_wp2_with fail
  refine Calls.mono (H0.out _ (back3 (Below.refl _ _))) ?_
  rintro e wa ⟨rfl, hb⟩
  have HBa : Hid (Below w.heap.size w wa) := back3 hb
  have HVa : Hid (GB wa w.heap.size k) := (GB.new w k).below hb
  obtain ⟨v1, v2, v3⟩ := HVa.out.vb
  clear hb H0
  go_wp2_with fail
  refine Calls.mono (HR.out _) ?_
  rintro e w1 ⟨rfl, hb⟩
  have HB1 : Hid (Below w.heap.size w w1) := HBa.out.trans (hb.mono HBa.out.size)
  have HV1 : Hid (GB w1 w.heap.size k) := HVa.out.below hb
  obtain ⟨k3, k4⟩ := HT.out _ HB1.out
  clear hb HR v1 v2 v3 HBa HVa
  go_wp2_with fail
  go_loopw [7, 28] (fun a c wr => ∃ n i : Nat, i ≤ hh ∧ a = .int .i64 n ∧ c = .int .i64 i ∧ Hid (Dn R m (hh - i) n k l) ∧ Hid (Below w.heap.size w wr ∧ GB wr w.heap.size k)) (fun _ c _ => hh - (intOf c).toNat)
  case atStart => exact ⟨root, 0, Nat.zero_le _, rfl, rfl, D0, HB1.out, HV1.out⟩
  case round =>
    obtain ⟨n, i, hi, rfl, rfl, HDn, HWr⟩ := hrel
    by_cases h1 : i < hh
    · obtain ⟨q, hq⟩ : ∃ q, hh - i = q + 1 := ⟨hh - i - 1, by omega⟩
      have HDq : Hid (Dn R m (q + 1) n k l) := by have := HDn.out; rwa [hq] at this
      obtain ⟨x, hx, Dx⟩ := HDq.out.step
      have HX : Hid (Dn R m (hh - (i + 1)) x.d k l) := by rw [show hh - (i + 1) = q by omega]; exact Dx
      have hpl := (List.getElem?_eq_some_iff.1 hx).1
      have hl5 := H5.out n HDq.out.lt
      have A1 : Hid _ := fun w1 hb => HW.out n (q + 1) w1 hb HDq.out
      have A2 : Hid _ := fun w1 hb => HY.out n (q + 1) w1 hb HDq.out
      have A3 : Hid (∀ w1, Below w.heap.size w w1 → w1.cell? ⟨g, n * 90 + wayP k (R n) * 18 + 17, none⟩ = some (.int .i64 x.d)) := fun w1 hb => (HC.out n (q + 1) (wayP k (R n)) x w1 hb HDq.out hx).c17
      clear HDn HDq Dx hx HW HY HF HC H5 HT HG
      generalize wayP k (R n) = p at *
      generalize (R n).length = La at *
      generalize x.d = c at *
      have i2 : (i : Int) < (hh : Int) := by omega
      have p0 : (0 : Int) ≤ (p : Int) := by omega
      have p1 : (p : Int) < (La : Int) := by omega
      have HI : Hid (i < hh ∧ hh ≤ 200000) := ⟨h1, HD.out.2⟩
      have i5 : i ≤ 200000 := by have := HD.out.2; omega
      clear h1 hi hq hpl hl5
      go_wp2_with fail
      refine wp_region_held_drew (S := fun w' => w'.cell? ⟨w.heap.size, 0, none⟩ = some (.bool k.t) ∧ w'.cell? ⟨w.heap.size, 1, none⟩ = some (.int .i64 k.n) ∧ w'.cell? ⟨w.heap.size, 2, none⟩ = some (.string k.s) ∧ w'.cell? ⟨g, n * 90 + p * 18 + 17, none⟩ = some (.int .i64 c)) (by kernel_rfl) ?_ (fun hHeld => ?_)
      · obtain ⟨v0, v1, v2⟩ := HWr.out.2.vb
        exact ⟨v0, v1, v2, A3.out _ HWr.out.1.drew⟩
      (try clear hK K)
      refine wpAnyH_take (i := 0) (v := ?_) rfl (by kernel_rfl) (by kernel_rfl) (by kernel_rfl) (fun _ _ _ h => h) (Or.inl ⟨by rfl, ?_⟩) (by assumption) ?_
      rotate_left
      · intro w hSw; (try dsimp only at hSw); go_simp; (try with_reducible rfl)
      (try simp only [Act.put, List.getElem_toArray, List.getElem_cons_zero, List.setIfInBounds_toArray, List.set_cons_zero, List.set_cons_succ])
      refine wpAnyH_take (i := 1) (v := ?_) rfl (by kernel_rfl) (by kernel_rfl) (by kernel_rfl) (fun _ _ _ h => h) (Or.inl ⟨by rfl, ?_⟩) (by assumption) ?_
      rotate_left
      · intro w hSw; (try dsimp only at hSw); go_simp; (try with_reducible rfl)
      (try simp only [Act.put, List.getElem_toArray, List.getElem_cons_succ, List.getElem_cons_zero, List.setIfInBounds_toArray, List.set_cons_zero, List.set_cons_succ])
      refine wpAnyH_take (i := 3) (v := ?_) rfl (by kernel_rfl) (by kernel_rfl) (by kernel_rfl) (fun _ _ _ h => h) (Or.inl ⟨by rfl, ?_⟩) (by assumption) ?_
      rotate_left
      · intro w hSw; (try dsimp only at hSw); go_simp; (try with_reducible rfl)
      (try simp only [Act.put, List.getElem_toArray, List.getElem_cons_succ, List.getElem_cons_zero, List.setIfInBounds_toArray, List.set_cons_zero, List.set_cons_succ])
      refine wpAnyH_take (i := 4) (v := ?_) rfl (by kernel_rfl) (by kernel_rfl) (by kernel_rfl) (fun _ _ _ h => h) (Or.inl ⟨by rfl, ?_⟩) (by assumption) ?_
      rotate_left
      · intro w hSw; (try dsimp only at hSw); go_simp; (try with_reducible rfl)
      (try simp only [Act.put, List.getElem_toArray, List.getElem_cons_succ, List.getElem_cons_zero, List.setIfInBounds_toArray, List.set_cons_zero, List.set_cons_succ])
      refine wpAnyH_take (i := 5) (v := ?_) rfl (by kernel_rfl) (by kernel_rfl) (by kernel_rfl) (fun _ _ _ h => h) (Or.inl ⟨by rfl, ?_⟩) (by assumption) ?_
      rotate_left
      · intro w hSw; (try dsimp only at hSw); go_simp; (try with_reducible rfl)
      (try simp only [Act.put, List.getElem_toArray, List.getElem_cons_succ, List.getElem_cons_zero, List.setIfInBounds_toArray, List.set_cons_zero, List.set_cons_succ])
      (try clear hK K)
      refine wpAnyH_ready (rs := [2]) (by kernel_rfl) (by simp) ?_
      refine AllReadyH.cons rfl (fun K hK => ?_) AllReadyH.nil
      go_simp
      (refine Calls.mono (A1.out _ HWr.out.1.drew) ?_; rintro e w2 ⟨rfl, hb⟩)
      refine hK.out _ _ ?_ (fun hHeld => ?_)
      · obtain ⟨v0, v1, v2⟩ := (HWr.out.2.below ((Below.refl _ _).drew.trans hb)).vb
        exact ⟨v0, v1, v2, A3.out _ (HWr.out.1.drew.trans (hb.mono HWr.out.1.drew.size))⟩
      have HW2 : Hid (Below w.heap.size w w2 ∧ GB w2 w.heap.size k) := ⟨HWr.out.1.drew.trans (hb.mono HWr.out.1.drew.size), HWr.out.2.below ((Below.refl _ _).drew.trans hb)⟩
      clear hb A1 HWr
      (try clear hK K)
      refine wpAnyH_ready (rs := [6]) (by kernel_rfl) (by simp) ?_
      refine AllReadyH.cons rfl (fun K hK => ?_) AllReadyH.nil
      go_simp
      (refine Calls.mono (A2.out _ HW2.out.1) ?_; rintro e w3 ⟨rfl, hb⟩)
      refine hK.out _ _ ?_ (fun hHeld => ?_)
      · obtain ⟨v0, v1, v2⟩ := (HW2.out.2.below hb).vb
        exact ⟨v0, v1, v2, A3.out _ (HW2.out.1.trans (hb.mono HW2.out.1.size))⟩
      have HW3 : Hid (Below w.heap.size w w3 ∧ GB w3 w.heap.size k) := ⟨HW2.out.1.trans (hb.mono HW2.out.1.size), HW2.out.2.below hb⟩
      clear hb A2 HW2 A3
      (try clear hK K)
      refine wpAnyH_take (i := 7) (v := ?_) rfl (by kernel_rfl) (by kernel_rfl) (by kernel_rfl) (fun _ _ _ h => h) (Or.inl ⟨by rfl, ?_⟩) (by assumption) ?_
      rotate_left
      · intro w hSw; (try dsimp only at hSw); go_simp; (try with_reducible rfl)
      (try simp only [Act.put, List.getElem_toArray, List.getElem_cons_succ, List.getElem_cons_zero, List.setIfInBounds_toArray, List.set_cons_zero, List.set_cons_succ])
      refine wpAnyH_take (i := 8) (v := ?_) rfl (by kernel_rfl) (by kernel_rfl) (by kernel_rfl) (fun _ _ _ h => h) (Or.inl ⟨by rfl, ?_⟩) (by assumption) ?_
      rotate_left
      · intro w hSw; (try dsimp only at hSw); go_simp; (try with_reducible rfl)
      (try simp only [Act.put, List.getElem_toArray, List.getElem_cons_succ, List.getElem_cons_zero, List.setIfInBounds_toArray, List.set_cons_zero, List.set_cons_succ])
      refine wpAnyH_take (i := 9) (v := ?_) rfl (by kernel_rfl) (by kernel_rfl) (by kernel_rfl) (fun _ _ _ h => h) (Or.inl ⟨by rfl, ?_⟩) (by assumption) ?_
      rotate_left
      · intro w hSw; (try dsimp only at hSw); go_simp; (try with_reducible rfl)
      (try simp only [Act.put, List.getElem_toArray, List.getElem_cons_succ, List.getElem_cons_zero, List.setIfInBounds_toArray, List.set_cons_zero, List.set_cons_succ])
      refine wpAnyH_take (i := 10) (v := ?_) rfl (by kernel_rfl) (by kernel_rfl) (by kernel_rfl) (fun _ _ _ h => h) (Or.inl ⟨by rfl, ?_⟩) (by assumption) ?_
      rotate_left
      · intro w hSw; (try dsimp only at hSw); go_simp; (try with_reducible rfl)
      (try simp only [Act.put, List.getElem_toArray, List.getElem_cons_succ, List.getElem_cons_zero, List.setIfInBounds_toArray, List.set_cons_zero, List.set_cons_succ])
      (try clear hK K)
      refine wpAnyH_done (by kernel_rfl) ?_ _
      go_wp2_with fail
      go_roundw
      case rel => exact ⟨c, i + 1, by have := HI.out; omega, rfl, by go_num, HX, HW3⟩
      case measure => have := HI.out; simp [intOf]; omega
    · obtain rfl : i = hh := by omega
      have HD0 : Hid (Dn R m 0 n k l) := by have := HDn.out; rwa [Nat.sub_self] at this
      have A1 : Hid _ := fun w1 hb => HW.out n 0 w1 hb HD0.out
      have A2 : Hid _ := fun w1 hb => HF.out n 0 w1 hb HD0.out
      have A3 := HG.out n HD0.out
      have hl5 := H5.out n HD0.out.lt
      have hple := place_le k (R n)
      have A4 : Hid (there k (R n) = true → place k (R n) < (R n).length ∧ ∀ w1, Below w.heap.size w w1 → w1.rangeAt g (n * 90 + place k (R n) * 18 + 3) (vcells ((R n).getD (place k (R n)) It.zero).v)) := fun ht => by
        obtain ⟨hp, _⟩ := there_true ht
        have hx : (R n)[place k (R n)]? = some ((R n).getD (place k (R n)) It.zero) := by simp [List.getElem?_eq_getElem hp]
        exact ⟨hp, fun w1 hb => range_val (HC.out n 0 (place k (R n)) _ w1 hb HD0.out hx)⟩
      clear HDn HD0 HW HY HF HC H5 HT HG D0 HB1 HV1
      generalize ((R n).getD (place k (R n)) It.zero).v = v at *
      generalize place k (R n) = p at *
      generalize there k (R n) = th at *
      generalize (R n).length = La at *
      have A5 : Hid (gv = if th = true then (v, true) else (Pl.zero, false)) := A3
      clear A3
      obtain ⟨v0, v1, v2⟩ := HWr.out.2.vb
      go_wp2_with fail
      refine Calls.mono (A2.out _ HWr.out.1) ?_
      rintro e w2 ⟨rfl, hb⟩
      have HW2 : Hid (Below w.heap.size w w2) := HWr.out.1.trans (hb.mono HWr.out.1.size)
      have GZ2 : Hid (GB w2 w.heap.size k) := HWr.out.2.below hb
      clear hb A2 HWr v0 v1 v2
      cases th
      · have Z2 : Hid (w2.there (w.heap.size + 1) 0 14) := GZ2.out.th
        have Z3 : Hid ((w2.setCells (w.heap.size + 1) 0 (vcells Pl.zero)).rangeAt (w.heap.size + 1) 0 (vcells Pl.zero)) := World.rangeAt_setCells_same _ _ _ _ Z2.out
        have HE : Hid (Below w.heap.size w (w2.setCells (w.heap.size + 1) 0 (vcells Pl.zero))) := back_sets HW2.out (by omega)
        have HP : Hid _ := PC.of Pl.zero
        have Z1 : Hid (w2.rangeAt (w.heap.size + 1 + 1) 0 (vcells Pl.zero)) := GZ2.out.zr
        go_wp2_with (first | (refine step_pload rfl _ rfl (w.heap.size + 1 + 1) 0 rfl (vcells Pl.zero) Z1.out HP.out ?_) | (refine step_pstore rfl _ _ rfl (w.heap.size + 1) 0 (vcells Pl.zero) rfl rfl Z2.out HP.out ?_) | fail)
        exact bodyPost_ret (ret_pt Try.results38 (w.heap.size + 1) _ rfl Z3.out HP.out) rfl ⟨by rw [A5.out]; rfl, HE.out⟩
      · obtain ⟨a1, a2⟩ := A4.out rfl
        have HA : Hid _ := a2
        have p0 : (0 : Int) ≤ (p : Int) := by omega
        have p1 : (p : Int) < (La : Int) := by omega
        clear a2 A4
        go_wp2_with fail
        refine Calls.mono (A1.out _ HW2.out) ?_
        rintro e w3 ⟨rfl, hb⟩
        have HW3 : Hid (Below w.heap.size w w3) := HW2.out.trans (hb.mono HW2.out.size)
        have GZ3 : Hid (GB w3 w.heap.size k) := GZ2.out.below hb
        clear hb A1 HW2 GZ2
        have Z2 : Hid (w3.there (w.heap.size + 1) 0 14) := GZ3.out.th
        have Z3 : Hid ((w3.setCells (w.heap.size + 1) 0 (vcells v)).rangeAt (w.heap.size + 1) 0 (vcells v)) := World.rangeAt_setCells_same _ _ _ _ Z2.out
        have HE : Hid (Below w.heap.size w (w3.setCells (w.heap.size + 1) 0 (vcells v))) := back_sets HW3.out (by omega)
        have HP : Hid _ := PC.of v
        have Z1 : Hid _ := HA.out _ HW3.out
        go_wp2_with (first | (refine step_pload rfl _ rfl g (n * 90 + p * 18 + 3) rfl (vcells v) Z1.out HP.out ?_) | (refine step_pstore rfl _ _ rfl (w.heap.size + 1) 0 (vcells v) rfl rfl Z2.out HP.out ?_) | fail)
        exact bodyPost_ret (ret_pt Try.results38 (w.heap.size + 1) _ rfl Z3.out HP.out) rfl ⟨by rw [A5.out]; rfl, HE.out⟩
/-- In whatever tree. -/
theorem get_any (t : TR w h l m u d) (hl : l.length ≤ 100000) (k : Val) (hs : k.s.size ≤ maxLen) :
    Calls Try.prog 38 #[.pointer (some ⟨h.p, 0, none⟩), V k.t k.n k.s] w fun e w' => e = gans (getP k l).1 (getP k l).2 ∧ Below w.heap.size w w' := by
  by_cases hne : l = []
  · subst hne
    exact get_empty t k
  · cases hk : rightX k
    · have hh : hasP k l = false := by
        cases hh : hasP k l
        · rfl
        · obtain ⟨v, hv⟩ := has_iff.1 hh
          have := t.rises.2 _ hv
          rw [hk] at this; cases this
      rw [get_no.2 hh]
      exact get_wrong t hne k hs hk
    · exact get_deep t hl hne k hs hk
end
end Go.Proofs.Ytafkpfhhmmnpeaa.Val
