/- What the tree's settle does: the node below a place stays, is split, or is joined with a neighbour. -/
import Derived.Test.YtafkpfhhmmnpeaaU7
namespace Go.Proofs.Ytafkpfhhmmnpeaa.Val
open Go Go.RowKit
set_option maxRecDepth 100000

section
variable {w : World} {h : Hd} {R : Nat → List It} {m : Nat} {fr : List Nat} {root dep cnt : Nat}
set_option maxHeartbeats 8000000 in
theorem settle_keep (t : TL w h R m fr root dep cnt) (a p c : Nat) (ha : a < m) (x : It) (hx : (R a)[p]? = some x) (hxd : x.d = c) (hc : c < m) (h2 : 2 ≤ (R c).length) (h4 : (R c).length ≤ 4) :
    Calls Try.prog 74 #[.pointer (some ⟨h.p, 0, none⟩), .int .i64 a, .int .i64 p] w fun e w' => e = .returned (.tuple #[]) ∧ TL w' h (relR R a p c) m fr root dep cnt ∧ Mv w h w' h := by
  have hp := (List.getElem?_eq_some_iff.1 hx).1
  have hal := t.len5 a ha
  obtain ⟨g, gf, cf, hr, hq⟩ := child_facts t a p c ha x hx hxd hc
  have HR : Hid _ := hr
  have HS : Hid _ := hr
  have Q : Hid _ := hq
  have RL : Hid (∀ w1, Below w.heap.size w w1 → _) := fun w1 hb => relink_facts (t.below hb) a p c ha x hx hxd hc (by omega)
  have HX5 : Hid (x.d = c) := hxd
  have HB0 : Hid (Below w.heap.size w w) := Below.refl _ _
  clear hr hq t hx hxd
  generalize relR R a p c = R5 at *
  obtain ⟨La, hLa⟩ : ∃ La, (R a).length = La := ⟨_, rfl⟩
  obtain ⟨Lc, hLc⟩ : ∃ Lc, (R c).length = Lc := ⟨_, rfl⟩
  rw [hLa] at HR HS RL hp hal
  rw [hLc] at Q h2 h4
  clear hLa hLc
  have i1 : decide ((Lc : Int) < 2) = false := by simp; omega
  have i2 : decide ((4 : Int) < (Lc : Int)) = false := by simp; omega
  have p0 : (0 : Int) ≤ (p : Int) := by omega
  have p1 : (p : Int) < (La : Int) := by omega
  have c0 : (0 : Int) ≤ (c : Int) := by omega
  have c1 : (c : Int) < (m : Int) := by omega
  go_enter Try.func74, Try.ntmps74
  go_wp2_with fail
  refine wp_region_held_drew (S := fun w' => w'.cell? ⟨h.p, 1, none⟩ = some (.slice (some ⟨gf, 0, none⟩) m cf) ∧ w'.cell? ⟨g, a * 90 + p * 18 + 17, none⟩ = some (.int .i64 c) ∧ w'.cell? ⟨gf, c, none⟩ = some (.int .i64 Lc)) (by kernel_rfl) ?_ (fun hHeld => ?_)
  · exact Q.out _ (HB0.out.drew)
  (try clear hK K)
  refine wpAnyH_take (i := 0) (v := ?_) rfl (by kernel_rfl) (by kernel_rfl) (by kernel_rfl) (fun _ _ _ h => h) (Or.inl ⟨by rfl, ?_⟩) (by assumption) ?_
  rotate_left
  · intro w hSw; (try dsimp only at hSw); go_simp; (try with_reducible rfl)
  (try simp only [Act.put, List.getElem_toArray, List.getElem_cons_zero, List.setIfInBounds_toArray, List.set_cons_zero, List.set_cons_succ])
  refine wpAnyH_take (i := 1) (v := ?_) rfl (by kernel_rfl) (by kernel_rfl) (by kernel_rfl) (fun _ _ _ h => h) (Or.inl ⟨by rfl, ?_⟩) (by assumption) ?_
  rotate_left
  · intro w hSw; (try dsimp only at hSw); go_simp; (try with_reducible rfl)
  (try simp only [Act.put, List.getElem_toArray, List.getElem_cons_succ, List.getElem_cons_zero, List.setIfInBounds_toArray, List.set_cons_zero, List.set_cons_succ])
  refine wpAnyH_take (i := 2) (v := ?_) rfl (by kernel_rfl) (by kernel_rfl) (by kernel_rfl) (fun _ _ _ h => h) (Or.inl ⟨by rfl, ?_⟩) (by assumption) ?_
  rotate_left
  · intro w hSw; (try dsimp only at hSw); go_simp; (try with_reducible rfl)
  (try simp only [Act.put, List.getElem_toArray, List.getElem_cons_succ, List.getElem_cons_zero, List.setIfInBounds_toArray, List.set_cons_zero, List.set_cons_succ])
  refine wpAnyH_take (i := 3) (v := ?_) rfl (by kernel_rfl) (by kernel_rfl) (by kernel_rfl) (fun _ _ _ h => h) (Or.inl ⟨by rfl, ?_⟩) (by assumption) ?_
  rotate_left
  · intro w hSw; (try dsimp only at hSw); go_simp; (try with_reducible rfl)
  (try simp only [Act.put, List.getElem_toArray, List.getElem_cons_succ, List.getElem_cons_zero, List.setIfInBounds_toArray, List.set_cons_zero, List.set_cons_succ])
  refine wpAnyH_take (i := 4) (v := ?_) rfl (by kernel_rfl) (by kernel_rfl) (by kernel_rfl) (fun _ _ _ h => h) (Or.inl ⟨by rfl, ?_⟩) (by assumption) ?_
  rotate_left
  · intro w hSw; (try dsimp only at hSw); go_simp; (try with_reducible rfl)
  (try simp only [Act.put, List.getElem_toArray, List.getElem_cons_succ, List.getElem_cons_zero, List.setIfInBounds_toArray, List.set_cons_zero, List.set_cons_succ])
  refine wpAnyH_take (i := 5) (v := ?_) rfl (by kernel_rfl) (by kernel_rfl) (by kernel_rfl) (fun _ _ _ h => h) (Or.inl ⟨by rfl, ?_⟩) (by assumption) ?_
  rotate_left
  · intro w hSw; (try dsimp only at hSw); go_simp; (try with_reducible rfl)
  (try simp only [Act.put, List.getElem_toArray, List.getElem_cons_succ, List.getElem_cons_zero, List.setIfInBounds_toArray, List.set_cons_zero, List.set_cons_succ])
  refine wpAnyH_take (i := 7) (v := ?_) rfl (by kernel_rfl) (by kernel_rfl) (by kernel_rfl) (fun _ _ _ h => h) (Or.inl ⟨by rfl, ?_⟩) (by assumption) ?_
  rotate_left
  · intro w hSw; (try dsimp only at hSw); go_simp; (try with_reducible rfl)
  (try simp only [Act.put, List.getElem_toArray, List.getElem_cons_succ, List.getElem_cons_zero, List.setIfInBounds_toArray, List.set_cons_zero, List.set_cons_succ])
  (try clear hK K)
  refine wpAnyH_ready (rs := [6]) (by kernel_rfl) (by simp) ?_
  refine AllReadyH.cons rfl (fun K hK => ?_) AllReadyH.nil
  go_simp
  (refine Calls.mono (HR.out _ HB0.out.drew) ?_; rintro e w1 ⟨rfl, hb⟩)
  refine hK.out _ _ ?_ (fun hHeld => ?_)
  · exact Q.out _ (HB0.out.drew.trans (hb.mono HB0.out.drew.size))
  have HBw1 : Hid (Below w.heap.size w w1) := HB0.out.drew.trans (hb.mono HB0.out.drew.size)
  clear hb HR
  (try clear hK K)
  refine wpAnyH_take (i := 8) (v := ?_) rfl (by kernel_rfl) (by kernel_rfl) (by kernel_rfl) (fun _ _ _ h => h) (Or.inl ⟨by rfl, ?_⟩) (by assumption) ?_
  rotate_left
  · intro w hSw; (try dsimp only at hSw); go_simp; (try with_reducible rfl)
  (try simp only [Act.put, List.getElem_toArray, List.getElem_cons_succ, List.getElem_cons_zero, List.setIfInBounds_toArray, List.set_cons_zero, List.set_cons_succ])
  refine wpAnyH_take (i := 9) (v := ?_) rfl (by kernel_rfl) (by kernel_rfl) (by kernel_rfl) (fun _ _ _ h => h) (Or.inl ⟨by rfl, ?_⟩) (by assumption) ?_
  rotate_left
  · intro w hSw; (try dsimp only at hSw); go_simp; (try with_reducible rfl)
  (try simp only [Act.put, List.getElem_toArray, List.getElem_cons_succ, List.getElem_cons_zero, List.setIfInBounds_toArray, List.set_cons_zero, List.set_cons_succ])
  refine wpAnyH_take (i := 10) (v := ?_) rfl (by kernel_rfl) (by kernel_rfl) (by kernel_rfl) (fun _ _ _ h => h) (Or.inl ⟨by rfl, ?_⟩) (by assumption) ?_
  rotate_left
  · intro w hSw; (try dsimp only at hSw); go_simp; (try with_reducible rfl)
  (try simp only [Act.put, List.getElem_toArray, List.getElem_cons_succ, List.getElem_cons_zero, List.setIfInBounds_toArray, List.set_cons_zero, List.set_cons_succ])
  refine wpAnyH_take (i := 11) (v := ?_) rfl (by kernel_rfl) (by kernel_rfl) (by kernel_rfl) (fun _ _ _ h => h) (Or.inl ⟨by rfl, ?_⟩) (by assumption) ?_
  rotate_left
  · intro w hSw; (try dsimp only at hSw); go_simp; (try with_reducible rfl)
  (try simp only [Act.put, List.getElem_toArray, List.getElem_cons_succ, List.getElem_cons_zero, List.setIfInBounds_toArray, List.set_cons_zero, List.set_cons_succ])
  refine wpAnyH_take (i := 12) (v := ?_) rfl (by kernel_rfl) (by kernel_rfl) (by kernel_rfl) (fun _ _ _ h => h) (Or.inl ⟨by rfl, ?_⟩) (by assumption) ?_
  rotate_left
  · intro w hSw; (try dsimp only at hSw); go_simp; (try with_reducible rfl)
  (try simp only [Act.put, List.getElem_toArray, List.getElem_cons_succ, List.getElem_cons_zero, List.setIfInBounds_toArray, List.set_cons_zero, List.set_cons_succ])
  refine wpAnyH_take (i := 13) (v := ?_) rfl (by kernel_rfl) (by kernel_rfl) (by kernel_rfl) (fun _ _ _ h => h) (Or.inl ⟨by rfl, ?_⟩) (by assumption) ?_
  rotate_left
  · intro w hSw; (try dsimp only at hSw); go_simp; (try with_reducible rfl)
  (try simp only [Act.put, List.getElem_toArray, List.getElem_cons_succ, List.getElem_cons_zero, List.setIfInBounds_toArray, List.set_cons_zero, List.set_cons_succ])
  (try clear hK K)
  refine wpAnyH_done (by kernel_rfl) ?_ _
  go_wp2_with fail
  refine wp_region_held_drew (S := fun w' => w'.cell? ⟨h.p, 1, none⟩ = some (.slice (some ⟨gf, 0, none⟩) m cf) ∧ w'.cell? ⟨g, a * 90 + p * 18 + 17, none⟩ = some (.int .i64 c) ∧ w'.cell? ⟨gf, c, none⟩ = some (.int .i64 Lc)) (by kernel_rfl) ?_ (fun hHeld => ?_)
  · exact Q.out _ (HBw1.out.drew)
  (try clear hK K)
  refine wpAnyH_take (i := 0) (v := ?_) rfl (by kernel_rfl) (by kernel_rfl) (by kernel_rfl) (fun _ _ _ h => h) (Or.inl ⟨by rfl, ?_⟩) (by assumption) ?_
  rotate_left
  · intro w hSw; (try dsimp only at hSw); go_simp; (try with_reducible rfl)
  (try simp only [Act.put, List.getElem_toArray, List.getElem_cons_zero, List.setIfInBounds_toArray, List.set_cons_zero, List.set_cons_succ])
  refine wpAnyH_take (i := 1) (v := ?_) rfl (by kernel_rfl) (by kernel_rfl) (by kernel_rfl) (fun _ _ _ h => h) (Or.inl ⟨by rfl, ?_⟩) (by assumption) ?_
  rotate_left
  · intro w hSw; (try dsimp only at hSw); go_simp; (try with_reducible rfl)
  (try simp only [Act.put, List.getElem_toArray, List.getElem_cons_succ, List.getElem_cons_zero, List.setIfInBounds_toArray, List.set_cons_zero, List.set_cons_succ])
  refine wpAnyH_take (i := 2) (v := ?_) rfl (by kernel_rfl) (by kernel_rfl) (by kernel_rfl) (fun _ _ _ h => h) (Or.inl ⟨by rfl, ?_⟩) (by assumption) ?_
  rotate_left
  · intro w hSw; (try dsimp only at hSw); go_simp; (try with_reducible rfl)
  (try simp only [Act.put, List.getElem_toArray, List.getElem_cons_succ, List.getElem_cons_zero, List.setIfInBounds_toArray, List.set_cons_zero, List.set_cons_succ])
  refine wpAnyH_take (i := 3) (v := ?_) rfl (by kernel_rfl) (by kernel_rfl) (by kernel_rfl) (fun _ _ _ h => h) (Or.inl ⟨by rfl, ?_⟩) (by assumption) ?_
  rotate_left
  · intro w hSw; (try dsimp only at hSw); go_simp; (try with_reducible rfl)
  (try simp only [Act.put, List.getElem_toArray, List.getElem_cons_succ, List.getElem_cons_zero, List.setIfInBounds_toArray, List.set_cons_zero, List.set_cons_succ])
  refine wpAnyH_take (i := 4) (v := ?_) rfl (by kernel_rfl) (by kernel_rfl) (by kernel_rfl) (fun _ _ _ h => h) (Or.inl ⟨by rfl, ?_⟩) (by assumption) ?_
  rotate_left
  · intro w hSw; (try dsimp only at hSw); go_simp; (try with_reducible rfl)
  (try simp only [Act.put, List.getElem_toArray, List.getElem_cons_succ, List.getElem_cons_zero, List.setIfInBounds_toArray, List.set_cons_zero, List.set_cons_succ])
  refine wpAnyH_take (i := 5) (v := ?_) rfl (by kernel_rfl) (by kernel_rfl) (by kernel_rfl) (fun _ _ _ h => h) (Or.inl ⟨by rfl, ?_⟩) (by assumption) ?_
  rotate_left
  · intro w hSw; (try dsimp only at hSw); go_simp; (try with_reducible rfl)
  (try simp only [Act.put, List.getElem_toArray, List.getElem_cons_succ, List.getElem_cons_zero, List.setIfInBounds_toArray, List.set_cons_zero, List.set_cons_succ])
  refine wpAnyH_take (i := 7) (v := ?_) rfl (by kernel_rfl) (by kernel_rfl) (by kernel_rfl) (fun _ _ _ h => h) (Or.inl ⟨by rfl, ?_⟩) (by assumption) ?_
  rotate_left
  · intro w hSw; (try dsimp only at hSw); go_simp; (try with_reducible rfl)
  (try simp only [Act.put, List.getElem_toArray, List.getElem_cons_succ, List.getElem_cons_zero, List.setIfInBounds_toArray, List.set_cons_zero, List.set_cons_succ])
  (try clear hK K)
  refine wpAnyH_ready (rs := [6]) (by kernel_rfl) (by simp) ?_
  refine AllReadyH.cons rfl (fun K hK => ?_) AllReadyH.nil
  go_simp
  (refine Calls.mono (HS.out _ HBw1.out.drew) ?_; rintro e w2 ⟨rfl, hb⟩)
  refine hK.out _ _ ?_ (fun hHeld => ?_)
  · exact Q.out _ (HBw1.out.drew.trans (hb.mono HBw1.out.drew.size))
  have HBw2 : Hid (Below w.heap.size w w2) := HBw1.out.drew.trans (hb.mono HBw1.out.drew.size)
  clear hb HS
  (try clear hK K)
  refine wpAnyH_take (i := 8) (v := ?_) rfl (by kernel_rfl) (by kernel_rfl) (by kernel_rfl) (fun _ _ _ h => h) (Or.inl ⟨by rfl, ?_⟩) (by assumption) ?_
  rotate_left
  · intro w hSw; (try dsimp only at hSw); go_simp; (try with_reducible rfl)
  (try simp only [Act.put, List.getElem_toArray, List.getElem_cons_succ, List.getElem_cons_zero, List.setIfInBounds_toArray, List.set_cons_zero, List.set_cons_succ])
  refine wpAnyH_take (i := 9) (v := ?_) rfl (by kernel_rfl) (by kernel_rfl) (by kernel_rfl) (fun _ _ _ h => h) (Or.inl ⟨by rfl, ?_⟩) (by assumption) ?_
  rotate_left
  · intro w hSw; (try dsimp only at hSw); go_simp; (try with_reducible rfl)
  (try simp only [Act.put, List.getElem_toArray, List.getElem_cons_succ, List.getElem_cons_zero, List.setIfInBounds_toArray, List.set_cons_zero, List.set_cons_succ])
  refine wpAnyH_take (i := 10) (v := ?_) rfl (by kernel_rfl) (by kernel_rfl) (by kernel_rfl) (fun _ _ _ h => h) (Or.inl ⟨by rfl, ?_⟩) (by assumption) ?_
  rotate_left
  · intro w hSw; (try dsimp only at hSw); go_simp; (try with_reducible rfl)
  (try simp only [Act.put, List.getElem_toArray, List.getElem_cons_succ, List.getElem_cons_zero, List.setIfInBounds_toArray, List.set_cons_zero, List.set_cons_succ])
  refine wpAnyH_take (i := 11) (v := ?_) rfl (by kernel_rfl) (by kernel_rfl) (by kernel_rfl) (fun _ _ _ h => h) (Or.inl ⟨by rfl, ?_⟩) (by assumption) ?_
  rotate_left
  · intro w hSw; (try dsimp only at hSw); go_simp; (try with_reducible rfl)
  (try simp only [Act.put, List.getElem_toArray, List.getElem_cons_succ, List.getElem_cons_zero, List.setIfInBounds_toArray, List.set_cons_zero, List.set_cons_succ])
  refine wpAnyH_take (i := 12) (v := ?_) rfl (by kernel_rfl) (by kernel_rfl) (by kernel_rfl) (fun _ _ _ h => h) (Or.inl ⟨by rfl, ?_⟩) (by assumption) ?_
  rotate_left
  · intro w hSw; (try dsimp only at hSw); go_simp; (try with_reducible rfl)
  (try simp only [Act.put, List.getElem_toArray, List.getElem_cons_succ, List.getElem_cons_zero, List.setIfInBounds_toArray, List.set_cons_zero, List.set_cons_succ])
  refine wpAnyH_take (i := 13) (v := ?_) rfl (by kernel_rfl) (by kernel_rfl) (by kernel_rfl) (fun _ _ _ h => h) (Or.inl ⟨by rfl, ?_⟩) (by assumption) ?_
  rotate_left
  · intro w hSw; (try dsimp only at hSw); go_simp; (try with_reducible rfl)
  (try simp only [Act.put, List.getElem_toArray, List.getElem_cons_succ, List.getElem_cons_zero, List.setIfInBounds_toArray, List.set_cons_zero, List.set_cons_succ])
  (try clear hK K)
  refine wpAnyH_done (by kernel_rfl) ?_ _
  clear Q HBw1 HB0
  have T5 : Hid _ := RL.out w2 HBw2.out
  clear RL
  obtain ⟨g5, k5, r1, r2, r3, r4, r5⟩ := T5.out
  have HR1 : Hid _ := r1
  have HR2 : Hid _ := r2
  have HR3 : Hid _ := r3
  have HR4 : Hid _ := r4
  have HR5 : Hid _ := r5
  clear T5 r1 r2 r3 r4 r5
  go_wp2_with fail
  refine Calls.mono (HR1.out _ (Below.refl w2.heap.size w2)) ?_
  rintro e u1 ⟨rfl, hb⟩
  have HU1 : Hid (Below w2.heap.size w2 u1) := hb
  clear hb
  go_wp2_with fail
  refine Calls.mono (HR1.out _ HU1.out) ?_
  rintro e u2 ⟨rfl, hb⟩
  have HU2 : Hid (Below w2.heap.size w2 u2) := HU1.out.trans (hb.mono HU1.out.size)
  have v4 := (HR2.out _ HU2.out).c17
  rw [HX5.out] at v4
  clear hb HU1 HR1
  go_wp2_with fail
  refine Calls.mono (HR4.out _ HU2.out) ?_
  rintro e u3 ⟨rfl, hb⟩
  have HU3 : Hid (Below w2.heap.size w2 u3) := HU2.out.trans (hb.mono HU2.out.size)
  clear hb HU2 HR4 v4
  obtain ⟨v0, v1, v2, v3, v4, v5, v6, v7, v8, v9, v10, v11, v12, v13, v14, v15, v16, v17⟩ := HR2.out _ HU3.out
  have f5 := HR3.out _ HU3.out
  have HF5 : Hid _ := HR5.out _ HU3.out
  clear HR2 HR3 HR5
  go_wp2_with fail
  go_end0
  exact ⟨rfl, HF5.out.1, (Mv.of HBw2.out).trans HF5.out.2⟩
set_option maxHeartbeats 8000000 in
theorem settle_split (t : TL w h R m fr root dep cnt) (hm : m ≤ 1000000) (he : ∀ x ∈ fr, x < m ∧ R x = []) (a p c : Nat) (ha : a < m) (x : It) (hx : (R a)[p]? = some x) (hxd : x.d = c) (hc : c < m) (hac : a ≠ c) (hfa : a ∉ fr) (hfc : c ∉ fr) (h4 : (R a).length ≤ 4)
    (y : It) (ys : List It) (hy : (R c).drop 2 = y :: ys) (h5 : 4 < (R c).length) :
    Calls Try.prog 74 #[.pointer (some ⟨h.p, 0, none⟩), .int .i64 a, .int .i64 p] w fun e w' => e = .returned (.tuple #[]) ∧ ∃ h', TL w' h' (relR (splitR R a p c (tkN m fr) y.k) a p c) (tkM m fr) fr.dropLast root dep cnt ∧ Mv w h w' h' := by
  have hp := (List.getElem?_eq_some_iff.1 hx).1
  have hal := t.len5 a ha
  obtain ⟨g, gf, cf, hr, hq⟩ := child_facts t a p c ha x hx hxd hc
  have HR : Hid _ := hr
  have HS : Hid _ := hr
  have Q : Hid _ := hq
  have SP : Hid (∀ w1, Below w.heap.size w w1 → _) := fun w1 hb => split_any (t.below hb) hm he a p c ha x hx hxd hc hac hfa hfc h4 y ys hy
  obtain ⟨n1, n2, n3⟩ : a < tkM m fr ∧ c < tkM m fr ∧ tkN m fr ≠ c := by
    rcases tkN_cases m fr with ⟨_, e2, e3⟩ | ⟨e1, e2⟩
    · omega
    · have hmem : tkN m fr ∈ fr := by
        generalize tkN m fr = n at *
        rw [e1]; simp
      exact ⟨by omega, by omega, fun e => hfc (e ▸ hmem)⟩
  have s1 : (splitR R a p c (tkN m fr) y.k a)[p]? = some x := by
    unfold splitR
    rw [upd_same]
    unfold insR
    rw [List.getElem?_append_left (by simp; omega), List.getElem?_take, if_pos (by omega)]
    exact hx
  have s2 : (splitR R a p c (tkN m fr) y.k c).length = 2 := by
    unfold splitR
    rw [upd_other _ _ (Ne.symm hac), upd_same]
    simp; omega
  have s3 : (splitR R a p c (tkN m fr) y.k a).length = (R a).length + 1 := by
    unfold splitR
    rw [upd_same, insR_length _ _ _ (by omega)]; rfl
  have RL : Hid (∀ w1 h1, TL w1 h1 (splitR R a p c (tkN m fr) y.k) (tkM m fr) fr.dropLast root dep cnt → _) := fun w1 h1 ht => relink_facts ht a p c n1 x s1 hxd n2 (by omega)
  have HX5 : Hid (x.d = c) := hxd
  have HB0 : Hid (Below w.heap.size w w) := Below.refl _ _
  rw [s3] at RL
  clear hr hq t hx hxd s1 s2 s3 n1 n2 n3 hm he hac hfa hfc hy ys
  generalize relR (splitR R a p c (tkN m fr) y.k) a p c = R5 at *
  generalize splitR R a p c (tkN m fr) y.k = R4 at *
  generalize tkM m fr = m1 at *
  generalize fr.dropLast = fr1 at *
  obtain ⟨La, hLa⟩ : ∃ La, (R a).length = La := ⟨_, rfl⟩
  obtain ⟨Lc, hLc⟩ : ∃ Lc, (R c).length = Lc := ⟨_, rfl⟩
  rw [hLa] at HR HS hp hal RL h4
  rw [hLc] at Q h5
  clear hLa hLc
  have i1 : decide ((Lc : Int) < 2) = false := by simp; omega
  have i2 : (4 : Int) < (Lc : Int) := by omega
  have p0 : (0 : Int) ≤ (p : Int) := by omega
  have p1 : (p : Int) < (La : Int) := by omega
  have p2 : (p : Int) < ((La + 1 : Nat) : Int) := by omega
  have p3 : (p : Int) < (La : Int) + 1 := by omega
  have c0 : (0 : Int) ≤ (c : Int) := by omega
  have c1 : (c : Int) < (m : Int) := by omega
  go_enter Try.func74, Try.ntmps74
  go_wp2_with fail
  refine wp_region_held_drew (S := fun w' => w'.cell? ⟨h.p, 1, none⟩ = some (.slice (some ⟨gf, 0, none⟩) m cf) ∧ w'.cell? ⟨g, a * 90 + p * 18 + 17, none⟩ = some (.int .i64 c) ∧ w'.cell? ⟨gf, c, none⟩ = some (.int .i64 Lc)) (by kernel_rfl) ?_ (fun hHeld => ?_)
  · exact Q.out _ (HB0.out.drew)
  (try clear hK K)
  refine wpAnyH_take (i := 0) (v := ?_) rfl (by kernel_rfl) (by kernel_rfl) (by kernel_rfl) (fun _ _ _ h => h) (Or.inl ⟨by rfl, ?_⟩) (by assumption) ?_
  rotate_left
  · intro w hSw; (try dsimp only at hSw); go_simp; (try with_reducible rfl)
  (try simp only [Act.put, List.getElem_toArray, List.getElem_cons_zero, List.setIfInBounds_toArray, List.set_cons_zero, List.set_cons_succ])
  refine wpAnyH_take (i := 1) (v := ?_) rfl (by kernel_rfl) (by kernel_rfl) (by kernel_rfl) (fun _ _ _ h => h) (Or.inl ⟨by rfl, ?_⟩) (by assumption) ?_
  rotate_left
  · intro w hSw; (try dsimp only at hSw); go_simp; (try with_reducible rfl)
  (try simp only [Act.put, List.getElem_toArray, List.getElem_cons_succ, List.getElem_cons_zero, List.setIfInBounds_toArray, List.set_cons_zero, List.set_cons_succ])
  refine wpAnyH_take (i := 2) (v := ?_) rfl (by kernel_rfl) (by kernel_rfl) (by kernel_rfl) (fun _ _ _ h => h) (Or.inl ⟨by rfl, ?_⟩) (by assumption) ?_
  rotate_left
  · intro w hSw; (try dsimp only at hSw); go_simp; (try with_reducible rfl)
  (try simp only [Act.put, List.getElem_toArray, List.getElem_cons_succ, List.getElem_cons_zero, List.setIfInBounds_toArray, List.set_cons_zero, List.set_cons_succ])
  refine wpAnyH_take (i := 3) (v := ?_) rfl (by kernel_rfl) (by kernel_rfl) (by kernel_rfl) (fun _ _ _ h => h) (Or.inl ⟨by rfl, ?_⟩) (by assumption) ?_
  rotate_left
  · intro w hSw; (try dsimp only at hSw); go_simp; (try with_reducible rfl)
  (try simp only [Act.put, List.getElem_toArray, List.getElem_cons_succ, List.getElem_cons_zero, List.setIfInBounds_toArray, List.set_cons_zero, List.set_cons_succ])
  refine wpAnyH_take (i := 4) (v := ?_) rfl (by kernel_rfl) (by kernel_rfl) (by kernel_rfl) (fun _ _ _ h => h) (Or.inl ⟨by rfl, ?_⟩) (by assumption) ?_
  rotate_left
  · intro w hSw; (try dsimp only at hSw); go_simp; (try with_reducible rfl)
  (try simp only [Act.put, List.getElem_toArray, List.getElem_cons_succ, List.getElem_cons_zero, List.setIfInBounds_toArray, List.set_cons_zero, List.set_cons_succ])
  refine wpAnyH_take (i := 5) (v := ?_) rfl (by kernel_rfl) (by kernel_rfl) (by kernel_rfl) (fun _ _ _ h => h) (Or.inl ⟨by rfl, ?_⟩) (by assumption) ?_
  rotate_left
  · intro w hSw; (try dsimp only at hSw); go_simp; (try with_reducible rfl)
  (try simp only [Act.put, List.getElem_toArray, List.getElem_cons_succ, List.getElem_cons_zero, List.setIfInBounds_toArray, List.set_cons_zero, List.set_cons_succ])
  refine wpAnyH_take (i := 7) (v := ?_) rfl (by kernel_rfl) (by kernel_rfl) (by kernel_rfl) (fun _ _ _ h => h) (Or.inl ⟨by rfl, ?_⟩) (by assumption) ?_
  rotate_left
  · intro w hSw; (try dsimp only at hSw); go_simp; (try with_reducible rfl)
  (try simp only [Act.put, List.getElem_toArray, List.getElem_cons_succ, List.getElem_cons_zero, List.setIfInBounds_toArray, List.set_cons_zero, List.set_cons_succ])
  (try clear hK K)
  refine wpAnyH_ready (rs := [6]) (by kernel_rfl) (by simp) ?_
  refine AllReadyH.cons rfl (fun K hK => ?_) AllReadyH.nil
  go_simp
  (refine Calls.mono (HR.out _ HB0.out.drew) ?_; rintro e w1 ⟨rfl, hb⟩)
  refine hK.out _ _ ?_ (fun hHeld => ?_)
  · exact Q.out _ (HB0.out.drew.trans (hb.mono HB0.out.drew.size))
  have HBw1 : Hid (Below w.heap.size w w1) := HB0.out.drew.trans (hb.mono HB0.out.drew.size)
  clear hb HR
  (try clear hK K)
  refine wpAnyH_take (i := 8) (v := ?_) rfl (by kernel_rfl) (by kernel_rfl) (by kernel_rfl) (fun _ _ _ h => h) (Or.inl ⟨by rfl, ?_⟩) (by assumption) ?_
  rotate_left
  · intro w hSw; (try dsimp only at hSw); go_simp; (try with_reducible rfl)
  (try simp only [Act.put, List.getElem_toArray, List.getElem_cons_succ, List.getElem_cons_zero, List.setIfInBounds_toArray, List.set_cons_zero, List.set_cons_succ])
  refine wpAnyH_take (i := 9) (v := ?_) rfl (by kernel_rfl) (by kernel_rfl) (by kernel_rfl) (fun _ _ _ h => h) (Or.inl ⟨by rfl, ?_⟩) (by assumption) ?_
  rotate_left
  · intro w hSw; (try dsimp only at hSw); go_simp; (try with_reducible rfl)
  (try simp only [Act.put, List.getElem_toArray, List.getElem_cons_succ, List.getElem_cons_zero, List.setIfInBounds_toArray, List.set_cons_zero, List.set_cons_succ])
  refine wpAnyH_take (i := 10) (v := ?_) rfl (by kernel_rfl) (by kernel_rfl) (by kernel_rfl) (fun _ _ _ h => h) (Or.inl ⟨by rfl, ?_⟩) (by assumption) ?_
  rotate_left
  · intro w hSw; (try dsimp only at hSw); go_simp; (try with_reducible rfl)
  (try simp only [Act.put, List.getElem_toArray, List.getElem_cons_succ, List.getElem_cons_zero, List.setIfInBounds_toArray, List.set_cons_zero, List.set_cons_succ])
  refine wpAnyH_take (i := 11) (v := ?_) rfl (by kernel_rfl) (by kernel_rfl) (by kernel_rfl) (fun _ _ _ h => h) (Or.inl ⟨by rfl, ?_⟩) (by assumption) ?_
  rotate_left
  · intro w hSw; (try dsimp only at hSw); go_simp; (try with_reducible rfl)
  (try simp only [Act.put, List.getElem_toArray, List.getElem_cons_succ, List.getElem_cons_zero, List.setIfInBounds_toArray, List.set_cons_zero, List.set_cons_succ])
  refine wpAnyH_take (i := 12) (v := ?_) rfl (by kernel_rfl) (by kernel_rfl) (by kernel_rfl) (fun _ _ _ h => h) (Or.inl ⟨by rfl, ?_⟩) (by assumption) ?_
  rotate_left
  · intro w hSw; (try dsimp only at hSw); go_simp; (try with_reducible rfl)
  (try simp only [Act.put, List.getElem_toArray, List.getElem_cons_succ, List.getElem_cons_zero, List.setIfInBounds_toArray, List.set_cons_zero, List.set_cons_succ])
  refine wpAnyH_take (i := 13) (v := ?_) rfl (by kernel_rfl) (by kernel_rfl) (by kernel_rfl) (fun _ _ _ h => h) (Or.inl ⟨by rfl, ?_⟩) (by assumption) ?_
  rotate_left
  · intro w hSw; (try dsimp only at hSw); go_simp; (try with_reducible rfl)
  (try simp only [Act.put, List.getElem_toArray, List.getElem_cons_succ, List.getElem_cons_zero, List.setIfInBounds_toArray, List.set_cons_zero, List.set_cons_succ])
  (try clear hK K)
  refine wpAnyH_done (by kernel_rfl) ?_ _
  go_wp2_with fail
  refine wp_region_held_drew (S := fun w' => w'.cell? ⟨h.p, 1, none⟩ = some (.slice (some ⟨gf, 0, none⟩) m cf) ∧ w'.cell? ⟨g, a * 90 + p * 18 + 17, none⟩ = some (.int .i64 c) ∧ w'.cell? ⟨gf, c, none⟩ = some (.int .i64 Lc)) (by kernel_rfl) ?_ (fun hHeld => ?_)
  · exact Q.out _ (HBw1.out.drew)
  (try clear hK K)
  refine wpAnyH_take (i := 0) (v := ?_) rfl (by kernel_rfl) (by kernel_rfl) (by kernel_rfl) (fun _ _ _ h => h) (Or.inl ⟨by rfl, ?_⟩) (by assumption) ?_
  rotate_left
  · intro w hSw; (try dsimp only at hSw); go_simp; (try with_reducible rfl)
  (try simp only [Act.put, List.getElem_toArray, List.getElem_cons_zero, List.setIfInBounds_toArray, List.set_cons_zero, List.set_cons_succ])
  refine wpAnyH_take (i := 1) (v := ?_) rfl (by kernel_rfl) (by kernel_rfl) (by kernel_rfl) (fun _ _ _ h => h) (Or.inl ⟨by rfl, ?_⟩) (by assumption) ?_
  rotate_left
  · intro w hSw; (try dsimp only at hSw); go_simp; (try with_reducible rfl)
  (try simp only [Act.put, List.getElem_toArray, List.getElem_cons_succ, List.getElem_cons_zero, List.setIfInBounds_toArray, List.set_cons_zero, List.set_cons_succ])
  refine wpAnyH_take (i := 2) (v := ?_) rfl (by kernel_rfl) (by kernel_rfl) (by kernel_rfl) (fun _ _ _ h => h) (Or.inl ⟨by rfl, ?_⟩) (by assumption) ?_
  rotate_left
  · intro w hSw; (try dsimp only at hSw); go_simp; (try with_reducible rfl)
  (try simp only [Act.put, List.getElem_toArray, List.getElem_cons_succ, List.getElem_cons_zero, List.setIfInBounds_toArray, List.set_cons_zero, List.set_cons_succ])
  refine wpAnyH_take (i := 3) (v := ?_) rfl (by kernel_rfl) (by kernel_rfl) (by kernel_rfl) (fun _ _ _ h => h) (Or.inl ⟨by rfl, ?_⟩) (by assumption) ?_
  rotate_left
  · intro w hSw; (try dsimp only at hSw); go_simp; (try with_reducible rfl)
  (try simp only [Act.put, List.getElem_toArray, List.getElem_cons_succ, List.getElem_cons_zero, List.setIfInBounds_toArray, List.set_cons_zero, List.set_cons_succ])
  refine wpAnyH_take (i := 4) (v := ?_) rfl (by kernel_rfl) (by kernel_rfl) (by kernel_rfl) (fun _ _ _ h => h) (Or.inl ⟨by rfl, ?_⟩) (by assumption) ?_
  rotate_left
  · intro w hSw; (try dsimp only at hSw); go_simp; (try with_reducible rfl)
  (try simp only [Act.put, List.getElem_toArray, List.getElem_cons_succ, List.getElem_cons_zero, List.setIfInBounds_toArray, List.set_cons_zero, List.set_cons_succ])
  refine wpAnyH_take (i := 5) (v := ?_) rfl (by kernel_rfl) (by kernel_rfl) (by kernel_rfl) (fun _ _ _ h => h) (Or.inl ⟨by rfl, ?_⟩) (by assumption) ?_
  rotate_left
  · intro w hSw; (try dsimp only at hSw); go_simp; (try with_reducible rfl)
  (try simp only [Act.put, List.getElem_toArray, List.getElem_cons_succ, List.getElem_cons_zero, List.setIfInBounds_toArray, List.set_cons_zero, List.set_cons_succ])
  refine wpAnyH_take (i := 7) (v := ?_) rfl (by kernel_rfl) (by kernel_rfl) (by kernel_rfl) (fun _ _ _ h => h) (Or.inl ⟨by rfl, ?_⟩) (by assumption) ?_
  rotate_left
  · intro w hSw; (try dsimp only at hSw); go_simp; (try with_reducible rfl)
  (try simp only [Act.put, List.getElem_toArray, List.getElem_cons_succ, List.getElem_cons_zero, List.setIfInBounds_toArray, List.set_cons_zero, List.set_cons_succ])
  (try clear hK K)
  refine wpAnyH_ready (rs := [6]) (by kernel_rfl) (by simp) ?_
  refine AllReadyH.cons rfl (fun K hK => ?_) AllReadyH.nil
  go_simp
  (refine Calls.mono (HS.out _ HBw1.out.drew) ?_; rintro e w2 ⟨rfl, hb⟩)
  refine hK.out _ _ ?_ (fun hHeld => ?_)
  · exact Q.out _ (HBw1.out.drew.trans (hb.mono HBw1.out.drew.size))
  have HBw2 : Hid (Below w.heap.size w w2) := HBw1.out.drew.trans (hb.mono HBw1.out.drew.size)
  clear hb HS
  (try clear hK K)
  refine wpAnyH_take (i := 8) (v := ?_) rfl (by kernel_rfl) (by kernel_rfl) (by kernel_rfl) (fun _ _ _ h => h) (Or.inl ⟨by rfl, ?_⟩) (by assumption) ?_
  rotate_left
  · intro w hSw; (try dsimp only at hSw); go_simp; (try with_reducible rfl)
  (try simp only [Act.put, List.getElem_toArray, List.getElem_cons_succ, List.getElem_cons_zero, List.setIfInBounds_toArray, List.set_cons_zero, List.set_cons_succ])
  refine wpAnyH_take (i := 9) (v := ?_) rfl (by kernel_rfl) (by kernel_rfl) (by kernel_rfl) (fun _ _ _ h => h) (Or.inl ⟨by rfl, ?_⟩) (by assumption) ?_
  rotate_left
  · intro w hSw; (try dsimp only at hSw); go_simp; (try with_reducible rfl)
  (try simp only [Act.put, List.getElem_toArray, List.getElem_cons_succ, List.getElem_cons_zero, List.setIfInBounds_toArray, List.set_cons_zero, List.set_cons_succ])
  refine wpAnyH_take (i := 10) (v := ?_) rfl (by kernel_rfl) (by kernel_rfl) (by kernel_rfl) (fun _ _ _ h => h) (Or.inl ⟨by rfl, ?_⟩) (by assumption) ?_
  rotate_left
  · intro w hSw; (try dsimp only at hSw); go_simp; (try with_reducible rfl)
  (try simp only [Act.put, List.getElem_toArray, List.getElem_cons_succ, List.getElem_cons_zero, List.setIfInBounds_toArray, List.set_cons_zero, List.set_cons_succ])
  refine wpAnyH_take (i := 11) (v := ?_) rfl (by kernel_rfl) (by kernel_rfl) (by kernel_rfl) (fun _ _ _ h => h) (Or.inl ⟨by rfl, ?_⟩) (by assumption) ?_
  rotate_left
  · intro w hSw; (try dsimp only at hSw); go_simp; (try with_reducible rfl)
  (try simp only [Act.put, List.getElem_toArray, List.getElem_cons_succ, List.getElem_cons_zero, List.setIfInBounds_toArray, List.set_cons_zero, List.set_cons_succ])
  refine wpAnyH_take (i := 12) (v := ?_) rfl (by kernel_rfl) (by kernel_rfl) (by kernel_rfl) (fun _ _ _ h => h) (Or.inl ⟨by rfl, ?_⟩) (by assumption) ?_
  rotate_left
  · intro w hSw; (try dsimp only at hSw); go_simp; (try with_reducible rfl)
  (try simp only [Act.put, List.getElem_toArray, List.getElem_cons_succ, List.getElem_cons_zero, List.setIfInBounds_toArray, List.set_cons_zero, List.set_cons_succ])
  refine wpAnyH_take (i := 13) (v := ?_) rfl (by kernel_rfl) (by kernel_rfl) (by kernel_rfl) (fun _ _ _ h => h) (Or.inl ⟨by rfl, ?_⟩) (by assumption) ?_
  rotate_left
  · intro w hSw; (try dsimp only at hSw); go_simp; (try with_reducible rfl)
  (try simp only [Act.put, List.getElem_toArray, List.getElem_cons_succ, List.getElem_cons_zero, List.setIfInBounds_toArray, List.set_cons_zero, List.set_cons_succ])
  (try clear hK K)
  refine wpAnyH_done (by kernel_rfl) ?_ _
  clear Q HBw1 HB0
  go_wp2_with fail
  refine Calls.mono (SP.out _ HBw2.out) ?_
  rintro e w3 ⟨rfl, h1, T3, M3⟩
  have HM3 : Hid (Mv w h w3 h1) := (Mv.of HBw2.out).trans M3
  have T5 : Hid _ := RL.out w3 h1 T3
  rw [M3.p] at T5
  clear RL T3 M3 HBw2 SP
  obtain ⟨g5, k5, r1, r2, r3, r4, r5⟩ := T5.out
  have HR1 : Hid _ := r1
  have HR2 : Hid _ := r2
  have HR3 : Hid _ := r3
  have HR4 : Hid _ := r4
  have HR5 : Hid _ := r5
  clear T5 r1 r2 r3 r4 r5
  go_wp2_with fail
  refine Calls.mono (HR1.out _ (Below.refl w3.heap.size w3)) ?_
  rintro e u1 ⟨rfl, hb⟩
  have HU1 : Hid (Below w3.heap.size w3 u1) := hb
  clear hb
  go_wp2_with fail
  refine Calls.mono (HR1.out _ HU1.out) ?_
  rintro e u2 ⟨rfl, hb⟩
  have HU2 : Hid (Below w3.heap.size w3 u2) := HU1.out.trans (hb.mono HU1.out.size)
  have v4 := (HR2.out _ HU2.out).c17
  rw [HX5.out] at v4
  clear hb HU1 HR1
  go_wp2_with fail
  refine Calls.mono (HR4.out _ HU2.out) ?_
  rintro e u3 ⟨rfl, hb⟩
  have HU3 : Hid (Below w3.heap.size w3 u3) := HU2.out.trans (hb.mono HU2.out.size)
  clear hb HU2 HR4 v4
  obtain ⟨v0, v1, v2, v3, v4, v5, v6, v7, v8, v9, v10, v11, v12, v13, v14, v15, v16, v17⟩ := HR2.out _ HU3.out
  have f5 := HR3.out _ HU3.out
  have HF5 : Hid _ := HR5.out _ HU3.out
  clear HR2 HR3 HR5
  go_wp2_with fail
  go_end0
  exact ⟨rfl, h1, HF5.out.1, HM3.out.trans HF5.out.2⟩
end
end Go.Proofs.Ytafkpfhhmmnpeaa.Val

