/- What the tree's settle does: the node below a place is joined with a neighbour. -/
import Derived.Test.YtafkpfhhmmnpeaaU7
namespace Go.Proofs.Ytafkpfhhmmnpeaa.Val
open Go Go.RowKit
set_option maxRecDepth 100000

section
variable {w : World} {h : Hd} {R : Nat → List It} {m : Nat} {fr : List Nat} {root dep cnt : Nat}
set_option maxHeartbeats 8000000 in
theorem settle_join (t : TL w h R m fr root dep cnt) (a p c q c1 d1 : Nat) (ha : a < m) (x : It) (hx : (R a)[p]? = some x) (hxd : x.d = c) (hc : c < m) (h2 : (R c).length < 2) (hpq : p = q + 1 ∨ (p = 0 ∧ q = 0))
    (x1 y1 : It) (hx1 : (R a)[q]? = some x1) (hxd1 : x1.d = c1) (hy1 : (R a)[q + 1]? = some y1) (hyd1 : y1.d = d1) (hc1 : c1 < m) (hd1 : d1 < m) (hac : a ≠ c1) (had : a ≠ d1) (hcd : c1 ≠ d1) (hl1 : 0 < (R c1).length) (hl2 : 0 < (R d1).length) (hfl : fr.length ≤ 1000000) (h4 : (R c1).length + (R d1).length ≤ 4) :
    Calls Try.prog 74 #[.pointer (some ⟨h.p, 0, none⟩), .int .i64 a, .int .i64 p] w fun e w' => e = .returned (.tuple #[]) ∧ ∃ h', TL w' h' (relR (joinR R a q c1 d1) a q c1) m (fr ++ [d1]) root dep cnt ∧ Mv w h w' h' := by
  have hp := (List.getElem?_eq_some_iff.1 hx).1
  have hq1 := (List.getElem?_eq_some_iff.1 hy1).1
  have hal := t.len5 a ha
  obtain ⟨g, gf, cf, hr, hq⟩ := child_facts t a p c ha x hx hxd hc
  have HR : Hid _ := hr
  have Q : Hid _ := hq
  have JN : Hid (∀ w1, Below w.heap.size w w1 → _) := fun w1 hb => join_any (t.below hb) hfl a q c1 d1 ha x1 y1 hx1 hxd1 hy1 hyd1 hc1 hd1 hac hcd (by omega) hl2
  have s0 : joinR R a q c1 d1 a = delR (R a) (q + 1) (q + 2) := by unfold joinR; rw [upd_other _ _ had, upd_same]
  have s1 : (joinR R a q c1 d1 a)[q]? = some x1 := by
    rw [s0]
    unfold delR
    rw [List.getElem?_append_left (by simp; omega), List.getElem?_take, if_pos (by omega)]
    exact hx1
  have s2 : joinR R a q c1 d1 c1 = R c1 ++ R d1 := by
    unfold joinR
    rw [upd_other _ _ hcd, upd_other _ _ (Ne.symm hac), upd_same]
  have s2l : (joinR R a q c1 d1 c1).length = (R c1).length + (R d1).length := by rw [s2, List.length_append]
  have s3 : (joinR R a q c1 d1 a).length = (R a).length - 1 := by
    rw [s0, delR_length _ _ _ (by omega) (by omega)]; omega
  have CF : Hid (∀ w1 h1, TL w1 h1 (joinR R a q c1 d1) m (fr ++ [d1]) root dep cnt → _) := fun w1 h1 ht => child_facts ht a q c1 ha x1 s1 hxd1 hc1
  have RL : Hid (∀ w1 h1, TL w1 h1 (joinR R a q c1 d1) m (fr ++ [d1]) root dep cnt → _) := fun w1 h1 ht => relink_facts ht a q c1 ha x1 s1 hxd1 hc1 (by omega)
  rw [s3] at RL
  rw [s2l, s3] at CF
  have HX5 : Hid (x1.d = c1) := hxd1
  have HB0 : Hid (Below w.heap.size w w) := Below.refl _ _
  clear hr hq t hx hxd s0 s1 s2 s2l s3 hx1 hxd1 hy1 hyd1 hac had hcd hfl
  generalize relR (joinR R a q c1 d1) a q c1 = R5 at *
  generalize joinR R a q c1 d1 = R1 at *
  obtain ⟨La, hLa⟩ : ∃ La, (R a).length = La := ⟨_, rfl⟩
  obtain ⟨Lc, hLc⟩ : ∃ Lc, (R c).length = Lc := ⟨_, rfl⟩
  obtain ⟨L1, hL1⟩ : ∃ L1, (R c1).length + (R d1).length = L1 := ⟨_, rfl⟩
  rw [hLa] at HR hp hal RL hq1 CF
  rw [hLc] at Q h2
  rw [hL1] at CF h4
  clear hLa hLc hL1 hl1 hl2
  obtain ⟨Lb, hLb⟩ : ∃ Lb, La - 1 = Lb := ⟨_, rfl⟩
  have hLb2 : La = Lb + 1 := by omega
  rw [hLb] at CF RL
  have i1 : (Lc : Int) < 2 := by omega
  have i2 : decide ((4 : Int) < (L1 : Int)) = false := by simp; omega
  have p0 : (0 : Int) ≤ (p : Int) := by omega
  have p1 : (p : Int) < (La : Int) := by omega
  have q0 : (0 : Int) ≤ (q : Int) := by omega
  have q2 : (q : Int) < (Lb : Int) := by omega
  have q3 : (q : Int) < (La : Int) := by omega
  have q4 : q ≤ 5 := by omega
  have b0 : (0 : Int) < (Lb : Int) := by omega
  have b1 : (0 : Int) < (La : Int) := by omega
  have b2 : 0 < Lb := by omega
  have b3 : 0 < La := by omega
  have c0 : (0 : Int) ≤ (c : Int) := by omega
  have c2 : (c : Int) < (m : Int) := by omega
  have c3 : (0 : Int) ≤ (c1 : Int) := by omega
  have c4 : (c1 : Int) < (m : Int) := by omega
  clear hLb hLb2
  go_enter Try.func74, Try.ntmps74
  go_wp2_with fail
  refine wp_region_held_drew (S := fun w' => w'.cell? ⟨h.p, 1, none⟩ = some (.slice (some ⟨gf, 0, none⟩) m cf) ∧ w'.cell? ⟨g, a * 90 + p * 18 + 17, none⟩ = some (.int .i64 c) ∧ w'.cell? ⟨gf, c, none⟩ = some (.int .i64 Lc)) (by kernel_rfl) ?_ (fun hHeld => ?_)
  · exact Q.out _ (HB0.out.drew)
  (try clear hK K)
  refine wpAnyH_take (i := 0) (v := ?_) rfl (by kernel_rfl) (by kernel_rfl) (by kernel_rfl) (fun _ _ _ h => h) (Or.inl ⟨by rfl, ?_⟩) (by assumption) ?_
  rotate_left
  · intro w hSw; (try dsimp only at hSw); go_simp; (try with_reducible rfl)
  (try simp only [Act.put, List.getElem_toArray, List.getElem_cons_zero, List.setIfInBounds_toArray, List.set_cons_zero, List.set_cons_succ])
  refine wpAnyH_take (i := 1) (v := ?_) rfl (by kernel_rfl) (by kernel_rfl) (by kernel_rfl) (fun _ _ _ h => h) (Or.inl ⟨by rfl, ?_⟩) (by assumption) ?_
  rotate_left
  · intro w hSw; (try dsimp only at hSw); go_simp; (try with_reducible rfl)
  (try simp only [Act.put, List.getElem_toArray, List.getElem_cons_succ, List.getElem_cons_zero, List.setIfInBounds_toArray, List.set_cons_zero, List.set_cons_succ])
  refine wpAnyH_take (i := 2) (v := ?_) rfl (by kernel_rfl) (by kernel_rfl) (by kernel_rfl) (fun _ _ _ h => h) (Or.inl ⟨by rfl, ?_⟩) (by assumption) ?_
  rotate_left
  · intro w hSw; (try dsimp only at hSw); go_simp; (try with_reducible rfl)
  (try simp only [Act.put, List.getElem_toArray, List.getElem_cons_succ, List.getElem_cons_zero, List.setIfInBounds_toArray, List.set_cons_zero, List.set_cons_succ])
  refine wpAnyH_take (i := 3) (v := ?_) rfl (by kernel_rfl) (by kernel_rfl) (by kernel_rfl) (fun _ _ _ h => h) (Or.inl ⟨by rfl, ?_⟩) (by assumption) ?_
  rotate_left
  · intro w hSw; (try dsimp only at hSw); go_simp; (try with_reducible rfl)
  (try simp only [Act.put, List.getElem_toArray, List.getElem_cons_succ, List.getElem_cons_zero, List.setIfInBounds_toArray, List.set_cons_zero, List.set_cons_succ])
  refine wpAnyH_take (i := 4) (v := ?_) rfl (by kernel_rfl) (by kernel_rfl) (by kernel_rfl) (fun _ _ _ h => h) (Or.inl ⟨by rfl, ?_⟩) (by assumption) ?_
  rotate_left
  · intro w hSw; (try dsimp only at hSw); go_simp; (try with_reducible rfl)
  (try simp only [Act.put, List.getElem_toArray, List.getElem_cons_succ, List.getElem_cons_zero, List.setIfInBounds_toArray, List.set_cons_zero, List.set_cons_succ])
  refine wpAnyH_take (i := 5) (v := ?_) rfl (by kernel_rfl) (by kernel_rfl) (by kernel_rfl) (fun _ _ _ h => h) (Or.inl ⟨by rfl, ?_⟩) (by assumption) ?_
  rotate_left
  · intro w hSw; (try dsimp only at hSw); go_simp; (try with_reducible rfl)
  (try simp only [Act.put, List.getElem_toArray, List.getElem_cons_succ, List.getElem_cons_zero, List.setIfInBounds_toArray, List.set_cons_zero, List.set_cons_succ])
  refine wpAnyH_take (i := 7) (v := ?_) rfl (by kernel_rfl) (by kernel_rfl) (by kernel_rfl) (fun _ _ _ h => h) (Or.inl ⟨by rfl, ?_⟩) (by assumption) ?_
  rotate_left
  · intro w hSw; (try dsimp only at hSw); go_simp; (try with_reducible rfl)
  (try simp only [Act.put, List.getElem_toArray, List.getElem_cons_succ, List.getElem_cons_zero, List.setIfInBounds_toArray, List.set_cons_zero, List.set_cons_succ])
  (try clear hK K)
  refine wpAnyH_ready (rs := [6]) (by kernel_rfl) (by simp) ?_
  refine AllReadyH.cons rfl (fun K hK => ?_) AllReadyH.nil
  go_simp
  (refine Calls.mono (HR.out _ HB0.out.drew) ?_; rintro e w1 ⟨rfl, hb⟩)
  refine hK.out _ _ ?_ (fun hHeld => ?_)
  · exact Q.out _ (HB0.out.drew.trans (hb.mono HB0.out.drew.size))
  have HBw1 : Hid (Below w.heap.size w w1) := HB0.out.drew.trans (hb.mono HB0.out.drew.size)
  clear hb HR
  (try clear hK K)
  refine wpAnyH_take (i := 8) (v := ?_) rfl (by kernel_rfl) (by kernel_rfl) (by kernel_rfl) (fun _ _ _ h => h) (Or.inl ⟨by rfl, ?_⟩) (by assumption) ?_
  rotate_left
  · intro w hSw; (try dsimp only at hSw); go_simp; (try with_reducible rfl)
  (try simp only [Act.put, List.getElem_toArray, List.getElem_cons_succ, List.getElem_cons_zero, List.setIfInBounds_toArray, List.set_cons_zero, List.set_cons_succ])
  refine wpAnyH_take (i := 9) (v := ?_) rfl (by kernel_rfl) (by kernel_rfl) (by kernel_rfl) (fun _ _ _ h => h) (Or.inl ⟨by rfl, ?_⟩) (by assumption) ?_
  rotate_left
  · intro w hSw; (try dsimp only at hSw); go_simp; (try with_reducible rfl)
  (try simp only [Act.put, List.getElem_toArray, List.getElem_cons_succ, List.getElem_cons_zero, List.setIfInBounds_toArray, List.set_cons_zero, List.set_cons_succ])
  refine wpAnyH_take (i := 10) (v := ?_) rfl (by kernel_rfl) (by kernel_rfl) (by kernel_rfl) (fun _ _ _ h => h) (Or.inl ⟨by rfl, ?_⟩) (by assumption) ?_
  rotate_left
  · intro w hSw; (try dsimp only at hSw); go_simp; (try with_reducible rfl)
  (try simp only [Act.put, List.getElem_toArray, List.getElem_cons_succ, List.getElem_cons_zero, List.setIfInBounds_toArray, List.set_cons_zero, List.set_cons_succ])
  refine wpAnyH_take (i := 11) (v := ?_) rfl (by kernel_rfl) (by kernel_rfl) (by kernel_rfl) (fun _ _ _ h => h) (Or.inl ⟨by rfl, ?_⟩) (by assumption) ?_
  rotate_left
  · intro w hSw; (try dsimp only at hSw); go_simp; (try with_reducible rfl)
  (try simp only [Act.put, List.getElem_toArray, List.getElem_cons_succ, List.getElem_cons_zero, List.setIfInBounds_toArray, List.set_cons_zero, List.set_cons_succ])
  refine wpAnyH_take (i := 12) (v := ?_) rfl (by kernel_rfl) (by kernel_rfl) (by kernel_rfl) (fun _ _ _ h => h) (Or.inl ⟨by rfl, ?_⟩) (by assumption) ?_
  rotate_left
  · intro w hSw; (try dsimp only at hSw); go_simp; (try with_reducible rfl)
  (try simp only [Act.put, List.getElem_toArray, List.getElem_cons_succ, List.getElem_cons_zero, List.setIfInBounds_toArray, List.set_cons_zero, List.set_cons_succ])
  refine wpAnyH_take (i := 13) (v := ?_) rfl (by kernel_rfl) (by kernel_rfl) (by kernel_rfl) (fun _ _ _ h => h) (Or.inl ⟨by rfl, ?_⟩) (by assumption) ?_
  rotate_left
  · intro w hSw; (try dsimp only at hSw); go_simp; (try with_reducible rfl)
  (try simp only [Act.put, List.getElem_toArray, List.getElem_cons_succ, List.getElem_cons_zero, List.setIfInBounds_toArray, List.set_cons_zero, List.set_cons_succ])
  (try clear hK K)
  refine wpAnyH_done (by kernel_rfl) ?_ _
  clear Q HB0
  rcases hpq with e | ⟨e1, e2⟩
  · subst e
    go_wp2_with fail
    refine Calls.mono (JN.out _ HBw1.out) ?_
    rintro e w2 ⟨rfl, h1, T2, M2⟩
    have HM2 : Hid (Mv w h w2 h1) := (Mv.of HBw1.out).trans M2
    have HT2 : Hid (TL w2 h1 R1 m (fr ++ [d1]) root dep cnt) := T2
    obtain ⟨g2, gf2, cf2, r1, r2⟩ := CF.out w2 h1 T2
    rw [M2.p] at r1 r2
    have HR2' : Hid _ := r1
    have Q2 : Hid _ := r2
    have HB2 : Hid (Below w2.heap.size w2 w2) := Below.refl _ _
    clear r1 r2 T2 M2 CF JN HBw1
    go_wp2_with fail
    refine wp_region_held_drew (S := fun w' => w'.cell? ⟨h.p, 1, none⟩ = some (.slice (some ⟨gf2, 0, none⟩) m cf2) ∧ w'.cell? ⟨g2, a * 90 + q * 18 + 17, none⟩ = some (.int .i64 c1) ∧ w'.cell? ⟨gf2, c1, none⟩ = some (.int .i64 L1)) (by kernel_rfl) ?_ (fun hHeld => ?_)
    · exact Q2.out _ (HB2.out.drew)
    (try clear hK K)
    refine wpAnyH_take (i := 0) (v := ?_) rfl (by kernel_rfl) (by kernel_rfl) (by kernel_rfl) (fun _ _ _ h => h) (Or.inl ⟨by rfl, ?_⟩) (by assumption) ?_
    rotate_left
    · intro w hSw; (try dsimp only at hSw); go_simp; (try with_reducible rfl)
    (try simp only [Act.put, List.getElem_toArray, List.getElem_cons_zero, List.setIfInBounds_toArray, List.set_cons_zero, List.set_cons_succ])
    refine wpAnyH_take (i := 1) (v := ?_) rfl (by kernel_rfl) (by kernel_rfl) (by kernel_rfl) (fun _ _ _ h => h) (Or.inl ⟨by rfl, ?_⟩) (by assumption) ?_
    rotate_left
    · intro w hSw; (try dsimp only at hSw); go_simp; (try with_reducible rfl)
    (try simp only [Act.put, List.getElem_toArray, List.getElem_cons_succ, List.getElem_cons_zero, List.setIfInBounds_toArray, List.set_cons_zero, List.set_cons_succ])
    refine wpAnyH_take (i := 2) (v := ?_) rfl (by kernel_rfl) (by kernel_rfl) (by kernel_rfl) (fun _ _ _ h => h) (Or.inl ⟨by rfl, ?_⟩) (by assumption) ?_
    rotate_left
    · intro w hSw; (try dsimp only at hSw); go_simp; (try with_reducible rfl)
    (try simp only [Act.put, List.getElem_toArray, List.getElem_cons_succ, List.getElem_cons_zero, List.setIfInBounds_toArray, List.set_cons_zero, List.set_cons_succ])
    refine wpAnyH_take (i := 3) (v := ?_) rfl (by kernel_rfl) (by kernel_rfl) (by kernel_rfl) (fun _ _ _ h => h) (Or.inl ⟨by rfl, ?_⟩) (by assumption) ?_
    rotate_left
    · intro w hSw; (try dsimp only at hSw); go_simp; (try with_reducible rfl)
    (try simp only [Act.put, List.getElem_toArray, List.getElem_cons_succ, List.getElem_cons_zero, List.setIfInBounds_toArray, List.set_cons_zero, List.set_cons_succ])
    refine wpAnyH_take (i := 4) (v := ?_) rfl (by kernel_rfl) (by kernel_rfl) (by kernel_rfl) (fun _ _ _ h => h) (Or.inl ⟨by rfl, ?_⟩) (by assumption) ?_
    rotate_left
    · intro w hSw; (try dsimp only at hSw); go_simp; (try with_reducible rfl)
    (try simp only [Act.put, List.getElem_toArray, List.getElem_cons_succ, List.getElem_cons_zero, List.setIfInBounds_toArray, List.set_cons_zero, List.set_cons_succ])
    refine wpAnyH_take (i := 5) (v := ?_) rfl (by kernel_rfl) (by kernel_rfl) (by kernel_rfl) (fun _ _ _ h => h) (Or.inl ⟨by rfl, ?_⟩) (by assumption) ?_
    rotate_left
    · intro w hSw; (try dsimp only at hSw); go_simp; (try with_reducible rfl)
    (try simp only [Act.put, List.getElem_toArray, List.getElem_cons_succ, List.getElem_cons_zero, List.setIfInBounds_toArray, List.set_cons_zero, List.set_cons_succ])
    refine wpAnyH_take (i := 7) (v := ?_) rfl (by kernel_rfl) (by kernel_rfl) (by kernel_rfl) (fun _ _ _ h => h) (Or.inl ⟨by rfl, ?_⟩) (by assumption) ?_
    rotate_left
    · intro w hSw; (try dsimp only at hSw); go_simp; (try with_reducible rfl)
    (try simp only [Act.put, List.getElem_toArray, List.getElem_cons_succ, List.getElem_cons_zero, List.setIfInBounds_toArray, List.set_cons_zero, List.set_cons_succ])
    (try clear hK K)
    refine wpAnyH_ready (rs := [6]) (by kernel_rfl) (by simp) ?_
    refine AllReadyH.cons rfl (fun K hK => ?_) AllReadyH.nil
    go_simp
    (refine Calls.mono (HR2'.out _ HB2.out.drew) ?_; rintro e w3 ⟨rfl, hb⟩)
    refine hK.out _ _ ?_ (fun hHeld => ?_)
    · exact Q2.out _ (HB2.out.drew.trans (hb.mono HB2.out.drew.size))
    have HBw3 : Hid (Below w2.heap.size w2 w3) := HB2.out.drew.trans (hb.mono HB2.out.drew.size)
    clear hb HR2'
    (try clear hK K)
    refine wpAnyH_take (i := 8) (v := ?_) rfl (by kernel_rfl) (by kernel_rfl) (by kernel_rfl) (fun _ _ _ h => h) (Or.inl ⟨by rfl, ?_⟩) (by assumption) ?_
    rotate_left
    · intro w hSw; (try dsimp only at hSw); go_simp; (try with_reducible rfl)
    (try simp only [Act.put, List.getElem_toArray, List.getElem_cons_succ, List.getElem_cons_zero, List.setIfInBounds_toArray, List.set_cons_zero, List.set_cons_succ])
    refine wpAnyH_take (i := 9) (v := ?_) rfl (by kernel_rfl) (by kernel_rfl) (by kernel_rfl) (fun _ _ _ h => h) (Or.inl ⟨by rfl, ?_⟩) (by assumption) ?_
    rotate_left
    · intro w hSw; (try dsimp only at hSw); go_simp; (try with_reducible rfl)
    (try simp only [Act.put, List.getElem_toArray, List.getElem_cons_succ, List.getElem_cons_zero, List.setIfInBounds_toArray, List.set_cons_zero, List.set_cons_succ])
    refine wpAnyH_take (i := 10) (v := ?_) rfl (by kernel_rfl) (by kernel_rfl) (by kernel_rfl) (fun _ _ _ h => h) (Or.inl ⟨by rfl, ?_⟩) (by assumption) ?_
    rotate_left
    · intro w hSw; (try dsimp only at hSw); go_simp; (try with_reducible rfl)
    (try simp only [Act.put, List.getElem_toArray, List.getElem_cons_succ, List.getElem_cons_zero, List.setIfInBounds_toArray, List.set_cons_zero, List.set_cons_succ])
    refine wpAnyH_take (i := 11) (v := ?_) rfl (by kernel_rfl) (by kernel_rfl) (by kernel_rfl) (fun _ _ _ h => h) (Or.inl ⟨by rfl, ?_⟩) (by assumption) ?_
    rotate_left
    · intro w hSw; (try dsimp only at hSw); go_simp; (try with_reducible rfl)
    (try simp only [Act.put, List.getElem_toArray, List.getElem_cons_succ, List.getElem_cons_zero, List.setIfInBounds_toArray, List.set_cons_zero, List.set_cons_succ])
    refine wpAnyH_take (i := 12) (v := ?_) rfl (by kernel_rfl) (by kernel_rfl) (by kernel_rfl) (fun _ _ _ h => h) (Or.inl ⟨by rfl, ?_⟩) (by assumption) ?_
    rotate_left
    · intro w hSw; (try dsimp only at hSw); go_simp; (try with_reducible rfl)
    (try simp only [Act.put, List.getElem_toArray, List.getElem_cons_succ, List.getElem_cons_zero, List.setIfInBounds_toArray, List.set_cons_zero, List.set_cons_succ])
    refine wpAnyH_take (i := 13) (v := ?_) rfl (by kernel_rfl) (by kernel_rfl) (by kernel_rfl) (fun _ _ _ h => h) (Or.inl ⟨by rfl, ?_⟩) (by assumption) ?_
    rotate_left
    · intro w hSw; (try dsimp only at hSw); go_simp; (try with_reducible rfl)
    (try simp only [Act.put, List.getElem_toArray, List.getElem_cons_succ, List.getElem_cons_zero, List.setIfInBounds_toArray, List.set_cons_zero, List.set_cons_succ])
    (try clear hK K)
    refine wpAnyH_done (by kernel_rfl) ?_ _
    clear Q2 HB2
    have T5 : Hid _ := RL.out w3 h1 (HT2.out.below HBw3.out)
    rw [HM2.out.p] at T5
    clear RL HT2
    obtain ⟨g5, k5, r1, r2, r3, r4, r5⟩ := T5.out
    have HR1 : Hid _ := r1
    have HR2 : Hid _ := r2
    have HR3 : Hid _ := r3
    have HR4 : Hid _ := r4
    have HR5 : Hid _ := r5
    clear T5 r1 r2 r3 r4 r5
    go_wp2_with fail
    refine Calls.mono (HR1.out _ (Below.refl w3.heap.size w3)) ?_
    rintro e u1 ⟨rfl, hb⟩
    have HU1 : Hid (Below w3.heap.size w3 u1) := hb
    clear hb
    go_wp2_with fail
    refine Calls.mono (HR1.out _ HU1.out) ?_
    rintro e u2 ⟨rfl, hb⟩
    have HU2 : Hid (Below w3.heap.size w3 u2) := HU1.out.trans (hb.mono HU1.out.size)
    have v4 := (HR2.out _ HU2.out).c17
    rw [HX5.out] at v4
    clear hb HU1 HR1
    go_wp2_with fail
    refine Calls.mono (HR4.out _ HU2.out) ?_
    rintro e u3 ⟨rfl, hb⟩
    have HU3 : Hid (Below w3.heap.size w3 u3) := HU2.out.trans (hb.mono HU2.out.size)
    clear hb HU2 HR4 v4
    have HT : Hid _ := (HR2.out _ HU3.out).there (HR3.out _ HU3.out)
    have HF5 : Hid _ := HR5.out _ HU3.out
    clear HR2 HR3 HR5
    go_wp2_with (refine wpList_store_mid rfl _ _ _ rfl _ _ (It.mk k5 Pl.zero c1).cells.toArray rfl rfl HT.out isize_I (all_oneCell_toArray (It.cells_one _)) ?_)
    go_end0
    exact ⟨rfl, h1, HF5.out.1, HM2.out.trans ((Mv.of HBw3.out).trans HF5.out.2)⟩
  · subst e1 e2
    simp only [Nat.zero_mul, Nat.add_zero] at CF RL
    go_wp2_with fail
    refine Calls.mono (JN.out _ HBw1.out) ?_
    rintro e w2 ⟨rfl, h1, T2, M2⟩
    have HM2 : Hid (Mv w h w2 h1) := (Mv.of HBw1.out).trans M2
    have HT2 : Hid (TL w2 h1 R1 m (fr ++ [d1]) root dep cnt) := T2
    obtain ⟨g2, gf2, cf2, r1, r2⟩ := CF.out w2 h1 T2
    rw [M2.p] at r1 r2
    have HR2' : Hid _ := r1
    have Q2 : Hid _ := r2
    have HB2 : Hid (Below w2.heap.size w2 w2) := Below.refl _ _
    clear r1 r2 T2 M2 CF JN HBw1
    go_wp2_with fail
    refine wp_region_held_drew (S := fun w' => w'.cell? ⟨h.p, 1, none⟩ = some (.slice (some ⟨gf2, 0, none⟩) m cf2) ∧ w'.cell? ⟨g2, a * 90 + 17, none⟩ = some (.int .i64 c1) ∧ w'.cell? ⟨gf2, c1, none⟩ = some (.int .i64 L1)) (by kernel_rfl) ?_ (fun hHeld => ?_)
    · exact Q2.out _ (HB2.out.drew)
    (try clear hK K)
    refine wpAnyH_take (i := 0) (v := ?_) rfl (by kernel_rfl) (by kernel_rfl) (by kernel_rfl) (fun _ _ _ h => h) (Or.inl ⟨by rfl, ?_⟩) (by assumption) ?_
    rotate_left
    · intro w hSw; (try dsimp only at hSw); go_simp; (try with_reducible rfl)
    (try simp only [Act.put, List.getElem_toArray, List.getElem_cons_zero, List.setIfInBounds_toArray, List.set_cons_zero, List.set_cons_succ])
    refine wpAnyH_take (i := 1) (v := ?_) rfl (by kernel_rfl) (by kernel_rfl) (by kernel_rfl) (fun _ _ _ h => h) (Or.inl ⟨by rfl, ?_⟩) (by assumption) ?_
    rotate_left
    · intro w hSw; (try dsimp only at hSw); go_simp; (try with_reducible rfl)
    (try simp only [Act.put, List.getElem_toArray, List.getElem_cons_succ, List.getElem_cons_zero, List.setIfInBounds_toArray, List.set_cons_zero, List.set_cons_succ])
    refine wpAnyH_take (i := 2) (v := ?_) rfl (by kernel_rfl) (by kernel_rfl) (by kernel_rfl) (fun _ _ _ h => h) (Or.inl ⟨by rfl, ?_⟩) (by assumption) ?_
    rotate_left
    · intro w hSw; (try dsimp only at hSw); go_simp; (try with_reducible rfl)
    (try simp only [Act.put, List.getElem_toArray, List.getElem_cons_succ, List.getElem_cons_zero, List.setIfInBounds_toArray, List.set_cons_zero, List.set_cons_succ])
    refine wpAnyH_take (i := 3) (v := ?_) rfl (by kernel_rfl) (by kernel_rfl) (by kernel_rfl) (fun _ _ _ h => h) (Or.inl ⟨by rfl, ?_⟩) (by assumption) ?_
    rotate_left
    · intro w hSw; (try dsimp only at hSw); go_simp; (try with_reducible rfl)
    (try simp only [Act.put, List.getElem_toArray, List.getElem_cons_succ, List.getElem_cons_zero, List.setIfInBounds_toArray, List.set_cons_zero, List.set_cons_succ])
    refine wpAnyH_take (i := 4) (v := ?_) rfl (by kernel_rfl) (by kernel_rfl) (by kernel_rfl) (fun _ _ _ h => h) (Or.inl ⟨by rfl, ?_⟩) (by assumption) ?_
    rotate_left
    · intro w hSw; (try dsimp only at hSw); go_simp; (try with_reducible rfl)
    (try simp only [Act.put, List.getElem_toArray, List.getElem_cons_succ, List.getElem_cons_zero, List.setIfInBounds_toArray, List.set_cons_zero, List.set_cons_succ])
    refine wpAnyH_take (i := 5) (v := ?_) rfl (by kernel_rfl) (by kernel_rfl) (by kernel_rfl) (fun _ _ _ h => h) (Or.inl ⟨by rfl, ?_⟩) (by assumption) ?_
    rotate_left
    · intro w hSw; (try dsimp only at hSw); go_simp; (try with_reducible rfl)
    (try simp only [Act.put, List.getElem_toArray, List.getElem_cons_succ, List.getElem_cons_zero, List.setIfInBounds_toArray, List.set_cons_zero, List.set_cons_succ])
    refine wpAnyH_take (i := 7) (v := ?_) rfl (by kernel_rfl) (by kernel_rfl) (by kernel_rfl) (fun _ _ _ h => h) (Or.inl ⟨by rfl, ?_⟩) (by assumption) ?_
    rotate_left
    · intro w hSw; (try dsimp only at hSw); go_simp; (try with_reducible rfl)
    (try simp only [Act.put, List.getElem_toArray, List.getElem_cons_succ, List.getElem_cons_zero, List.setIfInBounds_toArray, List.set_cons_zero, List.set_cons_succ])
    (try clear hK K)
    refine wpAnyH_ready (rs := [6]) (by kernel_rfl) (by simp) ?_
    refine AllReadyH.cons rfl (fun K hK => ?_) AllReadyH.nil
    go_simp
    (refine Calls.mono (HR2'.out _ HB2.out.drew) ?_; rintro e w3 ⟨rfl, hb⟩)
    refine hK.out _ _ ?_ (fun hHeld => ?_)
    · exact Q2.out _ (HB2.out.drew.trans (hb.mono HB2.out.drew.size))
    have HBw3 : Hid (Below w2.heap.size w2 w3) := HB2.out.drew.trans (hb.mono HB2.out.drew.size)
    clear hb HR2'
    (try clear hK K)
    refine wpAnyH_take (i := 8) (v := ?_) rfl (by kernel_rfl) (by kernel_rfl) (by kernel_rfl) (fun _ _ _ h => h) (Or.inl ⟨by rfl, ?_⟩) (by assumption) ?_
    rotate_left
    · intro w hSw; (try dsimp only at hSw); go_simp; (try with_reducible rfl)
    (try simp only [Act.put, List.getElem_toArray, List.getElem_cons_succ, List.getElem_cons_zero, List.setIfInBounds_toArray, List.set_cons_zero, List.set_cons_succ])
    refine wpAnyH_take (i := 9) (v := ?_) rfl (by kernel_rfl) (by kernel_rfl) (by kernel_rfl) (fun _ _ _ h => h) (Or.inl ⟨by rfl, ?_⟩) (by assumption) ?_
    rotate_left
    · intro w hSw; (try dsimp only at hSw); go_simp; (try with_reducible rfl)
    (try simp only [Act.put, List.getElem_toArray, List.getElem_cons_succ, List.getElem_cons_zero, List.setIfInBounds_toArray, List.set_cons_zero, List.set_cons_succ])
    refine wpAnyH_take (i := 10) (v := ?_) rfl (by kernel_rfl) (by kernel_rfl) (by kernel_rfl) (fun _ _ _ h => h) (Or.inl ⟨by rfl, ?_⟩) (by assumption) ?_
    rotate_left
    · intro w hSw; (try dsimp only at hSw); go_simp; (try with_reducible rfl)
    (try simp only [Act.put, List.getElem_toArray, List.getElem_cons_succ, List.getElem_cons_zero, List.setIfInBounds_toArray, List.set_cons_zero, List.set_cons_succ])
    refine wpAnyH_take (i := 11) (v := ?_) rfl (by kernel_rfl) (by kernel_rfl) (by kernel_rfl) (fun _ _ _ h => h) (Or.inl ⟨by rfl, ?_⟩) (by assumption) ?_
    rotate_left
    · intro w hSw; (try dsimp only at hSw); go_simp; (try with_reducible rfl)
    (try simp only [Act.put, List.getElem_toArray, List.getElem_cons_succ, List.getElem_cons_zero, List.setIfInBounds_toArray, List.set_cons_zero, List.set_cons_succ])
    refine wpAnyH_take (i := 12) (v := ?_) rfl (by kernel_rfl) (by kernel_rfl) (by kernel_rfl) (fun _ _ _ h => h) (Or.inl ⟨by rfl, ?_⟩) (by assumption) ?_
    rotate_left
    · intro w hSw; (try dsimp only at hSw); go_simp; (try with_reducible rfl)
    (try simp only [Act.put, List.getElem_toArray, List.getElem_cons_succ, List.getElem_cons_zero, List.setIfInBounds_toArray, List.set_cons_zero, List.set_cons_succ])
    refine wpAnyH_take (i := 13) (v := ?_) rfl (by kernel_rfl) (by kernel_rfl) (by kernel_rfl) (fun _ _ _ h => h) (Or.inl ⟨by rfl, ?_⟩) (by assumption) ?_
    rotate_left
    · intro w hSw; (try dsimp only at hSw); go_simp; (try with_reducible rfl)
    (try simp only [Act.put, List.getElem_toArray, List.getElem_cons_succ, List.getElem_cons_zero, List.setIfInBounds_toArray, List.set_cons_zero, List.set_cons_succ])
    (try clear hK K)
    refine wpAnyH_done (by kernel_rfl) ?_ _
    clear Q2 HB2
    have T5 : Hid _ := RL.out w3 h1 (HT2.out.below HBw3.out)
    rw [HM2.out.p] at T5
    clear RL HT2
    obtain ⟨g5, k5, r1, r2, r3, r4, r5⟩ := T5.out
    have HR1 : Hid _ := r1
    have HR2 : Hid _ := r2
    have HR3 : Hid _ := r3
    have HR4 : Hid _ := r4
    have HR5 : Hid _ := r5
    clear T5 r1 r2 r3 r4 r5
    go_wp2_with fail
    refine Calls.mono (HR1.out _ (Below.refl w3.heap.size w3)) ?_
    rintro e u1 ⟨rfl, hb⟩
    have HU1 : Hid (Below w3.heap.size w3 u1) := hb
    clear hb
    go_wp2_with fail
    refine Calls.mono (HR1.out _ HU1.out) ?_
    rintro e u2 ⟨rfl, hb⟩
    have HU2 : Hid (Below w3.heap.size w3 u2) := HU1.out.trans (hb.mono HU1.out.size)
    have v4 := (HR2.out _ HU2.out).c17
    rw [HX5.out] at v4
    clear hb HU1 HR1
    go_wp2_with fail
    refine Calls.mono (HR4.out _ HU2.out) ?_
    rintro e u3 ⟨rfl, hb⟩
    have HU3 : Hid (Below w3.heap.size w3 u3) := HU2.out.trans (hb.mono HU2.out.size)
    clear hb HU2 HR4 v4
    have HT : Hid _ := (HR2.out _ HU3.out).there (HR3.out _ HU3.out)
    have HF5 : Hid _ := HR5.out _ HU3.out
    clear HR2 HR3 HR5
    go_wp2_with (refine wpList_store_mid rfl _ _ _ rfl _ _ (It.mk k5 Pl.zero c1).cells.toArray rfl rfl HT.out isize_I (all_oneCell_toArray (It.cells_one _)) ?_)
    go_end0
    exact ⟨rfl, h1, HF5.out.1, HM2.out.trans ((Mv.of HBw3.out).trans HF5.out.2)⟩
end
end Go.Proofs.Ytafkpfhhmmnpeaa.Val

