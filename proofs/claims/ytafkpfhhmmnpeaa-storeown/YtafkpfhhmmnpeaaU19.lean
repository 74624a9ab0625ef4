/- What the tree's Put does, in a tree without keys, and in whatever tree. -/
import Derived.Test.YtafkpfhhmmnpeaaU13
namespace Go.Proofs.Ytafkpfhhmmnpeaa.Val
open Go Go.RowKit
set_option maxRecDepth 100000

section
variable {w : World} {h : Hd} {l : List Pr} {m u d : Nat}
theorem first_st {R : Nat → List It} {fr : List Nat} {w2 : World} {h2 : Hd} {cnt : Nat} (o : Once m fr) (f : ∀ x ∈ fr, R x = []) (hm : m ≤ 100000) (T : TL w2 h2 (upd R (tkN m fr) []) (tkM m fr) fr.dropLast (tkN m fr) 1 cnt) (hc : cnt = 0) : St1 w2 h2 (tkN m fr) 1 [] m := by
  subst hc
  have HO : Once (tkM m fr) (tkN m fr :: fr.dropLast) := by
    refine once_take o (L' := []) (fun z => by simp) fun z => ?_
    simp only [List.count_cons, List.count_nil, beq_iff_eq]; omega
  have nd := HO.nodup
  refine ⟨0, _, _, _, rfl, T, ⟨by intro x hx; trivial, by simpa [nds] using HO, fun z hz => ?_⟩, by rw [upd_same]; rfl, by rw [upd_same]; simp, .inl rfl, ⟨?_, tkM_ge m fr⟩, ?_, by omega⟩
  · rw [upd_other _ _ fun e => (List.nodup_cons.1 nd).1 (by rw [← e]; exact hz)]
    exact f z ((List.dropLast_sublist fr).subset hz)
  · rcases tkN_cases m fr with ⟨e0, _, _⟩ | ⟨_, e2⟩
    · exact .inr (by rw [e0]; rfl)
    · exact .inl e2
  · rcases tkN_cases m fr with ⟨_, _, e2⟩ | ⟨_, e2⟩ <;> omega
set_option maxHeartbeats 8000000 in
theorem put_first (t : TR w h [] m u 0) (hm : m ≤ 100000) (k : Val) (v : Pl) (hs : k.s.size ≤ maxLen) (hk : rightX k = true) :
    Calls Try.prog 45 #[.pointer (some ⟨h.p, 0, none⟩), V k.t k.n k.s, .agg #[.bool v.a.t, .int .i64 v.a.n, .string v.a.s, .bool v.b.t, .int .i64 v.b.n, .string v.b.s, .bool v.c.t, .int .i64 v.c.n, .string v.c.s, .bool v.d.t, .int .i64 v.d.n, .string v.d.s, .int .i64 v.w, .int .i64 v.m]] w fun e w' => e = .returned (.bool true) ∧ ∃ h' m' u' d', TR w' h' (insP k v []) m' u' d' ∧ Mv w h w' h' ∧ ((m' = m ∨ u' = m') ∧ m ≤ m') := by
  have hlt := t.lt
  obtain ⟨R, fr, root, T, ⟨_, _, ⟨_, _, o, f⟩ | ⟨hh, e1, _⟩⟩, hu⟩ := t
  rotate_left
  · cases e1
  have HR : Hid (∀ w1, Calls Try.prog 52 #[V k.t k.n k.s] w1 fun e w' => e = .returned (.bool true) ∧ Below w1.heap.size w1 w') := fun w1 => by
    have := right_any k.t k.n k.s w1 hs
    have hk' := hk
    unfold rightX at hk'
    rwa [hk'] at this
  have B0 : Hid _ := PB.new (w := w) (h := h) k v hlt
  have HTK : Hid (∀ w1, Below w.heap.size w w1 → Calls Try.prog 60 #[.pointer (some ⟨h.p, 0, none⟩)] w1 fun e w' => e = .returned (.int .i64 (tkN m fr)) ∧ ∃ h', TL w' h' (upd R (tkN m fr) []) (tkM m fr) fr.dropLast root 0 0 ∧ Mv w1 h w' h') := fun w1 hb => take_any (T.below hb) (by omega) f
  have HST : Hid (∀ w2 h2, TL w2 h2 (upd R (tkN m fr) []) (tkM m fr) fr.dropLast (tkN m fr) 1 0 → St1 w2 h2 (tkN m fr) 1 [] m) := fun w2 h2 T2 => first_st o f hm T2 rfl
  have hnil : Rises ([] : List Pr) := List.Pairwise.nil
  have hnil2 : Rights ([] : List Pr) := fun x hx => by cases hx
  have HC : Hid (∀ w1 h1, h1.p = h.p → St1 w1 h1 (tkN m fr) 1 [] m → PB w1 h1 w.heap.size (w.heap.size + 1 + 1) (w.heap.size + 1) k v → Calls Try.prog 61 #[.pointer (some ⟨h.p, 0, none⟩), .int .i64 (tkN m fr), .int .i64 1, V k.t k.n k.s, FV 62 #[] #[.pointer (some ⟨w.heap.size + 1 + 1, 0, none⟩), .pointer (some ⟨w.heap.size, 0, none⟩), .pointer (some ⟨w.heap.size + 1, 0, none⟩)]] w1 fun e w' =>
      e = .returned (.bool true) ∧ ∃ h', St2 w' h' (tkN m fr) 1 0 (insP k v []) m true ∧ Mv w1 h1 w' h') := fun w1 h1 hp s1 b1 => by
    have := st_change (put_deed k v) put_enters (fun _ _ _ _ b a => PB.mv b a) (put_do _ _ _ k v hk) s1 b1 hnil hnil2 (fun _ h => by cases h) (fun h => by cases h)
    rw [hp] at this
    exact this
  have HS : Hid (∀ w2 h2 c, St2 w2 h2 (tkN m fr) 1 c (insP k v []) m true → c = (insP k v []).length → h2.p = h.p → Calls Try.prog 64 #[.pointer (some ⟨h.p, 0, none⟩)] w2 fun e w' => e = .returned (.tuple #[]) ∧ ∃ h' m' u' d', TR w' h' (insP k v []) m' u' d' ∧ Mv w2 h2 w' h' ∧ ((m' = m ∨ u' = m') ∧ m ≤ m')) := fun w2 h2 c s2 hc hp => by
    subst hc
    have := st_root s2 (ins_rises hnil) (ins_rights hk hnil2)
    rw [hp] at this
    refine Calls.mono this ?_
    rintro e w' ⟨e1, h', m', u', d', a1, a2, a3, _⟩
    exact ⟨e1, h', m', u', d', a1, a2, a3 rfl⟩
  have HL : Hid ((insP k v []).length = 1) := rfl
  have HT0 : Hid (TL w h R m fr root 0 0) := T
  clear T o f hu hk hs hm hlt hnil hnil2
  generalize insP k v [] = l2 at *
  generalize tkN m fr = n0 at *
  generalize tkM m fr = m1 at *
  generalize fr.dropLast = fr1 at *
  generalize upd R n0 [] = R1 at *
  go_enter Try.func45, Try.ntmps45
  go_wp2_with fail
  refine Calls.mono (HR.out _) ?_
  rintro e wa ⟨rfl, hb⟩
  have Ba : Hid (PB wa h w.heap.size (w.heap.size + 1 + 1) (w.heap.size + 1) k v) := B0.out.mv (Mv.of hb)
  have HBa : Hid (Below w.heap.size w wa) := back3 hb
  obtain ⟨_, _, _, k3, k4, k5⟩ := (HT0.out.below (back3 hb)).c
  obtain ⟨b1, b2, b3, b4, b5, _, _, _⟩ := Ba.out
  clear hb HR B0
  go_wp2_with fail
  clear b1 b2 b3 b4 b5 k3 k4 k5
  refine wp_region_held_drew (S := fun w' => w'.cell? ⟨w.heap.size, 0, none⟩ = some (.pointer (some ⟨h.p, 0, none⟩))) (by kernel_rfl) ?_ (fun hHeld => ?_)
  · exact Ba.out.ct
  (try clear hK K)
  refine wpAnyH_take (i := 0) (v := ?_) rfl (by kernel_rfl) (by kernel_rfl) (by kernel_rfl) (fun _ _ _ h => h) (Or.inl ⟨by rfl, ?_⟩) (by assumption) ?_
  rotate_left
  · intro w hSw; (try dsimp only at hSw); go_simp; (try with_reducible rfl)
  (try simp only [Act.put, List.getElem_toArray, List.getElem_cons_zero, List.setIfInBounds_toArray, List.set_cons_zero, List.set_cons_succ])
  refine wpAnyH_take (i := 1) (v := ?_) rfl (by kernel_rfl) (by kernel_rfl) (by kernel_rfl) (fun _ _ _ h => h) (Or.inl ⟨by rfl, ?_⟩) (by assumption) ?_
  rotate_left
  · intro w hSw; (try dsimp only at hSw); go_simp; (try with_reducible rfl)
  (try simp only [Act.put, List.getElem_toArray, List.getElem_cons_succ, List.getElem_cons_zero, List.setIfInBounds_toArray, List.set_cons_zero, List.set_cons_succ])
  refine wpAnyH_take (i := 2) (v := ?_) rfl (by kernel_rfl) (by kernel_rfl) (by kernel_rfl) (fun _ _ _ h => h) (Or.inl ⟨by rfl, ?_⟩) (by assumption) ?_
  rotate_left
  · intro w hSw; (try dsimp only at hSw); go_simp; (try with_reducible rfl)
  (try simp only [Act.put, List.getElem_toArray, List.getElem_cons_succ, List.getElem_cons_zero, List.setIfInBounds_toArray, List.set_cons_zero, List.set_cons_succ])
  (try clear hK K)
  refine wpAnyH_ready (rs := [3]) (by kernel_rfl) (by simp) ?_
  refine AllReadyH.cons rfl (fun K hK => ?_) AllReadyH.nil
  go_simp
  (refine Calls.mono (HTK.out _ HBa.out.drew) ?_; rintro e wb ⟨rfl, hN, T2, V2⟩)
  refine hK.out _ _ ?_ (fun hHeld => ?_)
  · have b := Ba.out.mv ((Mv.of (Below.refl _ _).drew).trans V2)
    rw [← V2.p]; exact b.ct
  have hp := V2.p
  have Bb : Hid (PB wb hN w.heap.size (w.heap.size + 1 + 1) (w.heap.size + 1) k v) := Ba.out.mv ((Mv.of (Below.refl _ _).drew).trans V2)
  have q1 := T2.c.2.2.2.1
  have q2 := T2.open 3
  obtain ⟨t3, v3⟩ := T2.setRoot n0
  have q3 := t3.c.2.2.2.2.1
  have q4 := t3.open 4
  obtain ⟨t4, v4⟩ := t3.setDep 1
  have bc := Bb.out.mv v3
  have bd := bc.mv v4
  rw [hp] at q1 q2 q3 q4 t4 v4 v3 bc bd
  have HT4 : Hid (TL ((wb.setCell ⟨h.p, 3, none⟩ (.int .i64 n0)).setCell ⟨h.p, 4, none⟩ (.int .i64 1)) hN R1 m1 fr1 n0 1 0 ∧ Mv w h ((wb.setCell ⟨h.p, 3, none⟩ (.int .i64 n0)).setCell ⟨h.p, 4, none⟩ (.int .i64 1)) hN) := ⟨t4, (Mv.of HBa.out).trans ((Mv.of (Below.refl _ _).drew).trans (V2.trans (v3.trans v4)))⟩
  have HBc : Hid (PB (wb.setCell ⟨h.p, 3, none⟩ (.int .i64 n0)) hN w.heap.size (w.heap.size + 1 + 1) (w.heap.size + 1) k v) := bc
  have HBd : Hid (PB ((wb.setCell ⟨h.p, 3, none⟩ (.int .i64 n0)).setCell ⟨h.p, 4, none⟩ (.int .i64 1)) hN w.heap.size (w.heap.size + 1 + 1) (w.heap.size + 1) k v) := bd
  have HP : Hid (hN.p = h.p) := hp
  clear T2 V2 t3 v3 t4 v4 bc bd HTK HBa Ba HT0 hp
  (try clear hK K)
  refine wpAnyH_take (i := 4) (v := ?_) rfl (by kernel_rfl) (by kernel_rfl) (by kernel_rfl) (fun _ _ _ h => h) (Or.inl ⟨by rfl, ?_⟩) (by assumption) ?_
  rotate_left
  · intro w hSw; (try dsimp only at hSw); go_simp; (try with_reducible rfl)
  (try simp only [Act.put, List.getElem_toArray, List.getElem_cons_succ, List.getElem_cons_zero, List.setIfInBounds_toArray, List.set_cons_zero, List.set_cons_succ])
  refine wpAnyH_take (i := 5) (v := ?_) rfl (by kernel_rfl) (by kernel_rfl) (by kernel_rfl) (fun _ _ _ h => h) (Or.inl ⟨by rfl, ?_⟩) (by assumption) ?_
  rotate_left
  · intro w hSw; (try dsimp only at hSw); go_simp; (try with_reducible rfl)
  (try simp only [Act.put, List.getElem_toArray, List.getElem_cons_succ, List.getElem_cons_zero, List.setIfInBounds_toArray, List.set_cons_zero, List.set_cons_succ])
  (try clear hK K)
  refine wpAnyH_ready (rs := [6]) (by kernel_rfl) (by simp) ?_
  refine AllReadyH.cons rfl (fun K hK => ?_) AllReadyH.nil
  go_simp
  refine hK.out _ _ ?_ (fun hHeld => ?_)
  · have := HBc.out.ct
    rwa [HP.out] at this
  (try clear hK K)
  refine wpAnyH_take (i := 7) (v := ?_) rfl (by kernel_rfl) (by kernel_rfl) (by kernel_rfl) (fun _ _ _ h => h) (Or.inl ⟨by rfl, ?_⟩) (by assumption) ?_
  rotate_left
  · intro w hSw; (try dsimp only at hSw); go_simp; (try with_reducible rfl)
  (try simp only [Act.put, List.getElem_toArray, List.getElem_cons_succ, List.getElem_cons_zero, List.setIfInBounds_toArray, List.set_cons_zero, List.set_cons_succ])
  refine wpAnyH_take (i := 8) (v := ?_) rfl (by kernel_rfl) (by kernel_rfl) (by kernel_rfl) (fun _ _ _ h => h) (Or.inl ⟨by rfl, ?_⟩) (by assumption) ?_
  rotate_left
  · intro w hSw; (try dsimp only at hSw); go_simp; (try with_reducible rfl)
  (try simp only [Act.put, List.getElem_toArray, List.getElem_cons_succ, List.getElem_cons_zero, List.setIfInBounds_toArray, List.set_cons_zero, List.set_cons_succ])
  (try clear hK K)
  refine wpAnyH_ready (rs := [9]) (by kernel_rfl) (by simp) ?_
  refine AllReadyH.cons rfl (fun K hK => ?_) AllReadyH.nil
  go_simp
  refine hK.out _ _ ?_ (fun hHeld => ?_)
  · have := HBd.out.ct
    rwa [HP.out] at this
  (try clear hK K)
  refine wpAnyH_done (by kernel_rfl) ?_ _
  have S1' : Hid (St1 ((wb.setCell ⟨h.p, 3, none⟩ (.int .i64 n0)).setCell ⟨h.p, 4, none⟩ (.int .i64 1)) hN n0 1 [] m) := HST.out _ _ HT4.out.1
  have HB : Hid (Mv w h ((wb.setCell ⟨h.p, 3, none⟩ (.int .i64 n0)).setCell ⟨h.p, 4, none⟩ (.int .i64 1)) hN) := HT4.out.2
  clear q1 q2 q3 q4 HT4 HBc HST Bb
  generalize (wb.setCell ⟨h.p, 3, none⟩ (.int .i64 n0)).setCell ⟨h.p, 4, none⟩ (.int .i64 1) = w1 at *
  have B1 : Hid (PB w1 hN w.heap.size (w.heap.size + 1 + 1) (w.heap.size + 1) k v) := HBd.out
  clear HBd
  go_wp2_with fail
  refine wp_region_held_drew (S := fun w' => w'.cell? ⟨w.heap.size, 0, none⟩ = some (.pointer (some ⟨h.p, 0, none⟩)) ∧ w'.cell? ⟨w.heap.size + 1, 0, none⟩ = some (.bool k.t) ∧ w'.cell? ⟨w.heap.size + 1, 1, none⟩ = some (.int .i64 k.n) ∧ w'.cell? ⟨w.heap.size + 1, 2, none⟩ = some (.string k.s) ∧ w'.cell? ⟨h.p, 3, none⟩ = some (.int .i64 n0) ∧ w'.cell? ⟨h.p, 4, none⟩ = some (.int .i64 1)) (by kernel_rfl) ?_ (fun hHeld => ?_)
  · have bb := B1.out.mv (Mv.of (Below.refl _ _).drew)
    have cc := (S1'.out.below (Below.refl _ _).drew).c
    rw [HP.out] at cc
    exact ⟨by rw [← HP.out]; exact bb.ct, bb.c0, bb.c1, bb.c2, cc.1, cc.2.1⟩
  (try clear hK K)
  refine wpAnyH_take (i := 0) (v := ?_) rfl (by kernel_rfl) (by kernel_rfl) (by kernel_rfl) (fun _ _ _ h => h) (Or.inl ⟨by rfl, ?_⟩) (by assumption) ?_
  rotate_left
  · intro w hSw; (try dsimp only at hSw); go_simp; (try with_reducible rfl)
  (try simp only [Act.put, List.getElem_toArray, List.getElem_cons_zero, List.setIfInBounds_toArray, List.set_cons_zero, List.set_cons_succ])
  refine wpAnyH_take (i := 1) (v := ?_) rfl (by kernel_rfl) (by kernel_rfl) (by kernel_rfl) (fun _ _ _ h => h) (Or.inl ⟨by rfl, ?_⟩) (by assumption) ?_
  rotate_left
  · intro w hSw; (try dsimp only at hSw); go_simp; (try with_reducible rfl)
  (try simp only [Act.put, List.getElem_toArray, List.getElem_cons_succ, List.getElem_cons_zero, List.setIfInBounds_toArray, List.set_cons_zero, List.set_cons_succ])
  refine wpAnyH_take (i := 2) (v := ?_) rfl (by kernel_rfl) (by kernel_rfl) (by kernel_rfl) (fun _ _ _ h => h) (Or.inl ⟨by rfl, ?_⟩) (by assumption) ?_
  rotate_left
  · intro w hSw; (try dsimp only at hSw); go_simp; (try with_reducible rfl)
  (try simp only [Act.put, List.getElem_toArray, List.getElem_cons_succ, List.getElem_cons_zero, List.setIfInBounds_toArray, List.set_cons_zero, List.set_cons_succ])
  refine wpAnyH_take (i := 3) (v := ?_) rfl (by kernel_rfl) (by kernel_rfl) (by kernel_rfl) (fun _ _ _ h => h) (Or.inl ⟨by rfl, ?_⟩) (by assumption) ?_
  rotate_left
  · intro w hSw; (try dsimp only at hSw); go_simp; (try with_reducible rfl)
  (try simp only [Act.put, List.getElem_toArray, List.getElem_cons_succ, List.getElem_cons_zero, List.setIfInBounds_toArray, List.set_cons_zero, List.set_cons_succ])
  refine wpAnyH_take (i := 4) (v := ?_) rfl (by kernel_rfl) (by kernel_rfl) (by kernel_rfl) (fun _ _ _ h => h) (Or.inl ⟨by rfl, ?_⟩) (by assumption) ?_
  rotate_left
  · intro w hSw; (try dsimp only at hSw); go_simp; (try with_reducible rfl)
  (try simp only [Act.put, List.getElem_toArray, List.getElem_cons_succ, List.getElem_cons_zero, List.setIfInBounds_toArray, List.set_cons_zero, List.set_cons_succ])
  refine wpAnyH_take (i := 5) (v := ?_) rfl (by kernel_rfl) (by kernel_rfl) (by kernel_rfl) (fun _ _ _ h => h) (Or.inl ⟨by rfl, ?_⟩) (by assumption) ?_
  rotate_left
  · intro w hSw; (try dsimp only at hSw); go_simp; (try with_reducible rfl)
  (try simp only [Act.put, List.getElem_toArray, List.getElem_cons_succ, List.getElem_cons_zero, List.setIfInBounds_toArray, List.set_cons_zero, List.set_cons_succ])
  refine wpAnyH_take (i := 6) (v := ?_) rfl (by kernel_rfl) (by kernel_rfl) (by kernel_rfl) (fun _ _ _ h => h) (Or.inl ⟨by rfl, ?_⟩) (by assumption) ?_
  rotate_left
  · intro w hSw; (try dsimp only at hSw); go_simp; (try with_reducible rfl)
  (try simp only [Act.put, List.getElem_toArray, List.getElem_cons_succ, List.getElem_cons_zero, List.setIfInBounds_toArray, List.set_cons_zero, List.set_cons_succ])
  refine wpAnyH_take (i := 7) (v := ?_) rfl (by kernel_rfl) (by kernel_rfl) (by kernel_rfl) (fun _ _ _ h => h) (Or.inl ⟨by rfl, ?_⟩) (by assumption) ?_
  rotate_left
  · intro w hSw; (try dsimp only at hSw); go_simp; (try with_reducible rfl)
  (try simp only [Act.put, List.getElem_toArray, List.getElem_cons_succ, List.getElem_cons_zero, List.setIfInBounds_toArray, List.set_cons_zero, List.set_cons_succ])
  refine wpAnyH_take (i := 8) (v := ?_) rfl (by kernel_rfl) (by kernel_rfl) (by kernel_rfl) (fun _ _ _ h => h) (Or.inl ⟨by rfl, ?_⟩) (by assumption) ?_
  rotate_left
  · intro w hSw; (try dsimp only at hSw); go_simp; (try with_reducible rfl)
  (try simp only [Act.put, List.getElem_toArray, List.getElem_cons_succ, List.getElem_cons_zero, List.setIfInBounds_toArray, List.set_cons_zero, List.set_cons_succ])
  refine wpAnyH_take (i := 9) (v := ?_) rfl (by kernel_rfl) (by kernel_rfl) (by kernel_rfl) (fun _ _ _ h => h) (Or.inl ⟨by rfl, ?_⟩) (by assumption) ?_
  rotate_left
  · intro w hSw; (try dsimp only at hSw); go_simp; (try with_reducible rfl)
  (try simp only [Act.put, List.getElem_toArray, List.getElem_cons_succ, List.getElem_cons_zero, List.setIfInBounds_toArray, List.set_cons_zero, List.set_cons_succ])
  refine wpAnyH_take (i := 10) (v := ?_) rfl (by kernel_rfl) (by kernel_rfl) (by kernel_rfl) (fun _ _ _ h => h) (Or.inl ⟨by rfl, ?_⟩) (by assumption) ?_
  rotate_left
  · intro w hSw; (try dsimp only at hSw); go_simp; (try with_reducible rfl)
  (try simp only [Act.put, List.getElem_toArray, List.getElem_cons_succ, List.getElem_cons_zero, List.setIfInBounds_toArray, List.set_cons_zero, List.set_cons_succ])
  (try clear hK K)
  refine wpAnyH_ready (rs := [11]) (by kernel_rfl) (by simp) ?_
  refine AllReadyH.cons rfl (fun K hK => ?_) AllReadyH.nil
  go_simp
  (refine Calls.mono (HC.out _ _ HP.out (S1'.out.below (Below.refl _ _).drew) (B1.out.mv (Mv.of (Below.refl _ _).drew))) ?_; rintro e w2 ⟨rfl, h2, S2, V2⟩)
  refine hK.out _ _ ?_ (fun hHeld => ?_)
  · have b := B1.out.mv ((Mv.of (Below.refl _ _).drew).trans V2)
    have hp := V2.p.trans HP.out
    have c := S2.c
    rw [hp] at c
    exact ⟨by rw [← hp]; exact b.ct, b.c0, b.c1, b.c2, c.1, c.2.1⟩
  have B2 : Hid (PB w2 h2 w.heap.size (w.heap.size + 1 + 1) (w.heap.size + 1) k v) := B1.out.mv ((Mv.of (Below.refl _ _).drew).trans V2)
  have S2' : Hid (St2 w2 h2 n0 1 0 l2 m true ∧ Mv w h w2 h2 ∧ h2.p = h.p) := ⟨S2, HB.out.trans ((Mv.of (Below.refl _ _).drew).trans V2), V2.p.trans HP.out⟩
  clear S2 V2 HC S1' HB B1
  (try clear hK K)
  refine wpAnyH_take (i := 12) (v := ?_) rfl (by kernel_rfl) (by kernel_rfl) (by kernel_rfl) (fun _ _ _ h => h) (Or.inl ⟨by rfl, ?_⟩) (by assumption) ?_
  rotate_left
  · intro w hSw; (try dsimp only at hSw); go_simp; (try with_reducible rfl)
  (try simp only [Act.put, List.getElem_toArray, List.getElem_cons_succ, List.getElem_cons_zero, List.setIfInBounds_toArray, List.set_cons_zero, List.set_cons_succ])
  (try clear hK K)
  refine wpAnyH_done (by kernel_rfl) ?_ _
  have b1 := B2.out.ct
  obtain ⟨_, _, k5, k6⟩ := S2'.out.1.c
  rw [S2'.out.2.2] at b1 k5 k6
  obtain ⟨s3, v3⟩ := S2'.out.1.count 1
  have b3 := (B2.out.mv v3).ct
  rw [S2'.out.2.2] at s3 v3 b3
  have S3 : Hid (St2 (w2.setCell ⟨h.p, 5, none⟩ (.int .i64 1)) h2 n0 1 1 l2 m true ∧ Mv w h (w2.setCell ⟨h.p, 5, none⟩ (.int .i64 1)) h2 ∧ h2.p = h.p) := ⟨s3, S2'.out.2.1.trans v3, S2'.out.2.2⟩
  clear s3 v3 S2'
  go_wp2_with fail
  refine Calls.mono (HS.out _ _ _ S3.out.1 (by rw [HL.out]) S3.out.2.2) ?_
  rintro e w4 ⟨rfl, h', m', u', d', a1, a2, a3⟩
  have HT : Hid (TR w4 h' l2 m' u' d' ∧ Mv w h w4 h' ∧ ((m' = m ∨ u' = m') ∧ m ≤ m')) := ⟨a1, S3.out.2.1.trans a2, a3⟩
  clear a1 a2 a3 HS S3 b1 b3 k5 k6 B2
  go_wp2_with fail
  go_ret
  exact ⟨rfl, h', m', u', d', HT.out⟩
theorem put_any (t : TR w h l m u d) (hm : m ≤ 100000) (hl : l.length ≤ 100000) (k : Val) (v : Pl) (hs : k.s.size ≤ maxLen) (hk : rightX k = true) :
    Calls Try.prog 45 #[.pointer (some ⟨h.p, 0, none⟩), V k.t k.n k.s, .agg #[.bool v.a.t, .int .i64 v.a.n, .string v.a.s, .bool v.b.t, .int .i64 v.b.n, .string v.b.s, .bool v.c.t, .int .i64 v.c.n, .string v.c.s, .bool v.d.t, .int .i64 v.d.n, .string v.d.s, .int .i64 v.w, .int .i64 v.m]] w fun e w' => e = .returned (.bool (!hasP k l)) ∧ ∃ h' m' u' d', TR w' h' (insP k v l) m' u' d' ∧ Mv w h w' h' ∧ ((m' = m ∨ u' = m') ∧ m ≤ m') := by
  rcases Nat.eq_zero_or_pos d with h0 | h0
  · subst h0
    have hl0 : l = [] := List.eq_nil_of_length_eq_zero (t.shape.2.2.1.2 rfl)
    subst hl0
    exact put_first t hm k v hs hk
  · exact put_deep t hm hl h0 k v hs hk
end
end Go.Proofs.Ytafkpfhhmmnpeaa.Val

