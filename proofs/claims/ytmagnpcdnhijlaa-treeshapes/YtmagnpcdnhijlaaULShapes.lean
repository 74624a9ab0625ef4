/- TreeShapes: the walk. -/
import Derived.Test.YtmagnpcdnhijlaaU20
import Derived.Test.YtmagnpcdnhijlaaU14
import Derived.Test.YtmagnpcdnhijlaaUO
namespace Go.Proofs.Ytmagnpcdnhijlaa.Val
open Go Go.RowKit

/-- Behind a step: the tree, and what it tells. -/
def ShOk (w0 w3 : World) (j M : Nat) (m' u' d' : Nat) (l' : List Pr) : Prop := (∃ h', Own5 w0 w3 l' 200 h' m' u' d') ∧ m' = max M u' ∧ l'.length ≤ j + 1 ∧ m' ≤ j + 1
theorem sh_put {w0 wr : World} {l : List Pr} {h : Hd} {M u d j : Nat} (o : Own5 w0 wr l 200 h M u d) (hl : l.length ≤ j) (hM : M ≤ j) (hj : j < 200) (hum : u ≤ M) (k : Val) (v : Int) (hs : k.s.size ≤ maxLen) :
    Calls Try.prog 19 #[.pointer (some ⟨w0.heap.size, 0, none⟩), V k.t k.n k.s, .int .i64 v] wr fun e w' => (∃ b, e = .returned (.bool b)) ∧ ∃ m' u' d' l', ShOk w0 w' j M m' u' d' l' := by
  cases hk : rightX k
  · refine Calls.mono (put_wrong w0.heap.size k v hs hk) ?_
    rintro e w' ⟨rfl, hb⟩
    exact ⟨⟨_, rfl⟩, M, u, d, l, ⟨h, o.below hb⟩, by omega, by omega, by omega⟩
  · have := put_any o.tr (by omega) (by omega) k v hs hk
    rw [o.p] at this
    refine Calls.mono this ?_
    rintro e w' ⟨rfl, h', m', u', d', t', vv, hmm⟩
    have hsh := t'.shape
    have hlen := len_put (v := v) hk o.tr.rises.1 o.tr.rises.2
    have hlen2 : (insP k v l).length ≤ j + 1 := by rw [hlen]; split <;> omega
    exact ⟨⟨_, rfl⟩, m', u', d', insP k v l, ⟨h', o.mv vv t' (by omega)⟩, by omega, hlen2, by omega⟩
theorem sh_del {w0 wr : World} {l : List Pr} {h : Hd} {M u d j : Nat} (o : Own5 w0 wr l 200 h M u d) (hl : l.length ≤ j) (hM : M ≤ j) (hj : j < 200) (k : Val) (hs : k.s.size ≤ maxLen) :
    Calls Try.prog 21 #[.pointer (some ⟨w0.heap.size, 0, none⟩), V k.t k.n k.s] wr fun e w' => (∃ b, e = .returned (.bool b)) ∧ ∃ m' u' d' l', ShOk w0 w' j M m' u' d' l' := by
  have := del_any o.tr (by omega) (by omega) k hs
  rw [o.p] at this
  refine Calls.mono this ?_
  rintro e w' ⟨rfl, h', u', d', t', vv⟩
  have hsh := t'.shape
  have hlen : (delP k l).length ≤ l.length := List.length_filter_le ..
  exact ⟨⟨_, rfl⟩, M, u', d', delP k l, ⟨h', o.mv vv t' o.room⟩, by omega, by omega, by omega⟩
set_option maxRecDepth 100000 in
set_option maxHeartbeats 16000000 in
theorem tshapes_walk (v : Value) (xs : List AcP) (w : World) (hin : ActsIn w v xs) (hok : ∀ a ∈ xs, a.k.s.size ≤ maxLen) : Calls Try.prog 6 #[v] w fun e w' => e = .returned (.bool true) ∧ Below w.heap.size w w' := by
  obtain ⟨ao, cap, rfl, hmx⟩ := Lies.slice hin
  have HA : Hid (∀ w1, Calls Try.prog 10 #[] w1 fun e w' => e = .returned (.bool true) ∧ Below w1.heap.size w1 w') := awake_any
  have HN : Hid (∀ w1, Calls Try.prog 11 #[] w1 fun e w' => e = .returned (.pointer (some ⟨w1.heap.size, 0, none⟩)) ∧ TR w' ⟨w1.heap.size, .slice none 0 0, .slice none 0 0, .slice none 0 0⟩ [] 0 0 0 ∧ Below w1.heap.size w1 w') := new_any
  have HIN : Hid (ActsIn w (.slice ao xs.length cap) xs ∧ ∀ a ∈ xs, a.k.s.size ≤ maxLen) := ⟨hin, hok⟩
  clear hin hok
  go_enter Try.func6, Try.ntmps6
  go_wp2_with fail
  refine Calls.mono (HA.out _) ?_
  rintro e w0 ⟨rfl, hb⟩
  have HB0 : Hid (Below w.heap.size w w0) := hb
  clear hb HA
  go_wp2_with fail
  refine Calls.mono (HN.out _) ?_
  rintro e w1 ⟨rfl, T1, hb⟩
  have HO1 : Hid (∃ h u d l, Own5 w0 w1 l 200 h 0 u d ∧ l.length ≤ 0) := ⟨_, 0, 0, [], ⟨T1, rfl, new_mine w0, hb, by omega⟩, by simp⟩
  clear T1 hb HN
  go_wp2_with fail
  go_loopw [5, 6] (fun a5 a6 wr => ∃ j M : Nat, j ≤ xs.length ∧ j ≤ 200 ∧ a5 = .int .i64 M ∧ a6 = .int .i64 j ∧ Hid (∃ h u d l, Own5 w0 wr l 200 h M u d ∧ l.length ≤ j ∧ M ≤ j)) (fun _ a6 _ => xs.length - (intOf a6).toNat)
  case atStart =>
    obtain ⟨h, u, d, l, o, hl⟩ := HO1.out
    exact ⟨0, 0, Nat.zero_le _, by omega, rfl, rfl, h, u, d, l, o, hl, by omega⟩
  case round =>
    obtain ⟨j, M, hj, hj2, rfl, rfl, HO⟩ := hrel
    clear HO1
    by_cases h1 : j < xs.length ∧ j < 200
    · obtain ⟨h, u0, d0, l0, o, hl, hM⟩ := HO.out
      have hum := o.tr.shape.1
      have HIR : ActsIn wr (.slice ao xs.length cap) xs := HIN.out.1.below (HB0.out.trans (o.blw.mono HB0.out.size))
      obtain ⟨b, oo, rfl, c0, c1, c2, c3, c4⟩ := HIR.at j h1.1
      have hs := HIN.out.2 xs[j] (List.getElem_mem h1.1)
      have HPUT : Hid (∀ w1, Below wr.heap.size wr w1 → _) := fun w1 hb => sh_put (o.below hb) hl hM h1.2 hum xs[j].k xs[j].v hs
      have HDEL : Hid _ := sh_del o hl hM h1.2 xs[j].k hs
      have HCC : Hid (∀ w1, Below wr.heap.size wr w1 → w1.cell? ⟨b, oo + j * 5 + 1, none⟩ = some (.bool xs[j].k.t) ∧ w1.cell? ⟨b, oo + j * 5 + 2, none⟩ = some (.int .i64 xs[j].k.n) ∧ w1.cell? ⟨b, oo + j * 5 + 3, none⟩ = some (.string xs[j].k.s) ∧ w1.cell? ⟨b, oo + j * 5 + 4, none⟩ = some (.int .i64 xs[j].v)) := fun w1 hb => ⟨by rw [hb.cell (World.block_lt_of_cell? _ _ c1)]; exact c1, by rw [hb.cell (World.block_lt_of_cell? _ _ c2)]; exact c2, by rw [hb.cell (World.block_lt_of_cell? _ _ c3)]; exact c3, by rw [hb.cell (World.block_lt_of_cell? _ _ c4)]; exact c4⟩
      have HBR : Hid (Below w0.heap.size w0 wr) := o.blw
      have HCB : Hid (∀ w3 {l' m' u' d'}, (∃ h', Own5 w0 w3 l' 200 h' m' u' d') → w3.cell? ⟨b, oo + j * 5 + 1, none⟩ = some (.bool xs[j].k.t) ∧ w3.cell? ⟨b, oo + j * 5 + 2, none⟩ = some (.int .i64 xs[j].k.n) ∧ w3.cell? ⟨b, oo + j * 5 + 3, none⟩ = some (.string xs[j].k.s) ∧ w3.cell? ⟨b, oo + j * 5 + 4, none⟩ = some (.int .i64 xs[j].v)) := fun w3 l' m' u' d' ⟨h', o'⟩ => by
        have hR : ActsIn w3 (.slice (some ⟨b, oo, none⟩) xs.length cap) xs := HIN.out.1.below (HB0.out.trans (o'.blw.mono HB0.out.size))
        obtain ⟨b', oo', e, _, q1, q2, q3, q4⟩ := hR.at j h1.1
        cases e
        exact ⟨q1, q2, q3, q4⟩
      clear HIR o hs HO
      generalize xs[j] = a at *
      have j0 : (0 : Int) ≤ (j : Int) := by omega
      have j1 : (j : Int) < (xs.length : Int) := by omega
      have j2 : (j : Int) < 200 := by omega
      have j3 : j ≤ 200 := by omega
      have HJ : Hid (j + 1 ≤ xs.length ∧ j < 200) := ⟨h1.1, h1.2⟩
      clear h1 hj hj2 hM hl hum
      cases hdel : a.del
      · rw [hdel] at c0
        clear hdel HDEL
        go_wp2_with fail
        refine wp_region_held_drew (S := fun w' => w'.cell? ⟨b, oo + j * 5 + 1, none⟩ = some (.bool a.k.t) ∧ w'.cell? ⟨b, oo + j * 5 + 2, none⟩ = some (.int .i64 a.k.n) ∧ w'.cell? ⟨b, oo + j * 5 + 3, none⟩ = some (.string a.k.s) ∧ w'.cell? ⟨b, oo + j * 5 + 4, none⟩ = some (.int .i64 a.v)) (by kernel_rfl) ?_ (fun hHeld => ?_)
        · exact HCC.out _ (Below.refl _ _).drew
        (try clear hK K)
        refine wpAnyH_take (i := 0) (v := ?_) rfl (by kernel_rfl) (by kernel_rfl) (by kernel_rfl) (fun _ _ _ h => h) (Or.inl ⟨by rfl, ?_⟩) (by assumption) ?_
        rotate_left
        · intro w hSw; (try dsimp only at hSw); go_simp; (try with_reducible rfl)
        (try simp only [Act.put, List.getElem_toArray, List.getElem_cons_zero, List.setIfInBounds_toArray, List.set_cons_zero, List.set_cons_succ])
        refine wpAnyH_take (i := 1) (v := ?_) rfl (by kernel_rfl) (by kernel_rfl) (by kernel_rfl) (fun _ _ _ h => h) (Or.inl ⟨by rfl, ?_⟩) (by assumption) ?_
        rotate_left
        · intro w hSw; (try dsimp only at hSw); go_simp; (try with_reducible rfl)
        (try simp only [Act.put, List.getElem_toArray, List.getElem_cons_succ, List.getElem_cons_zero, List.setIfInBounds_toArray, List.set_cons_zero, List.set_cons_succ])
        refine wpAnyH_take (i := 2) (v := ?_) rfl (by kernel_rfl) (by kernel_rfl) (by kernel_rfl) (fun _ _ _ h => h) (Or.inl ⟨by rfl, ?_⟩) (by assumption) ?_
        rotate_left
        · intro w hSw; (try dsimp only at hSw); go_simp; (try with_reducible rfl)
        (try simp only [Act.put, List.getElem_toArray, List.getElem_cons_succ, List.getElem_cons_zero, List.setIfInBounds_toArray, List.set_cons_zero, List.set_cons_succ])
        refine wpAnyH_take (i := 3) (v := ?_) rfl (by kernel_rfl) (by kernel_rfl) (by kernel_rfl) (fun _ _ _ h => h) (Or.inl ⟨by rfl, ?_⟩) (by assumption) ?_
        rotate_left
        · intro w hSw; (try dsimp only at hSw); go_simp; (try with_reducible rfl)
        (try simp only [Act.put, List.getElem_toArray, List.getElem_cons_succ, List.getElem_cons_zero, List.setIfInBounds_toArray, List.set_cons_zero, List.set_cons_succ])
        refine wpAnyH_take (i := 4) (v := ?_) rfl (by kernel_rfl) (by kernel_rfl) (by kernel_rfl) (fun _ _ _ h => h) (Or.inl ⟨by rfl, ?_⟩) (by assumption) ?_
        rotate_left
        · intro w hSw; (try dsimp only at hSw); go_simp; (try with_reducible rfl)
        (try simp only [Act.put, List.getElem_toArray, List.getElem_cons_succ, List.getElem_cons_zero, List.setIfInBounds_toArray, List.set_cons_zero, List.set_cons_succ])
        refine wpAnyH_take (i := 5) (v := ?_) rfl (by kernel_rfl) (by kernel_rfl) (by kernel_rfl) (fun _ _ _ h => h) (Or.inl ⟨by rfl, ?_⟩) (by assumption) ?_
        rotate_left
        · intro w hSw; (try dsimp only at hSw); go_simp; (try with_reducible rfl)
        (try simp only [Act.put, List.getElem_toArray, List.getElem_cons_succ, List.getElem_cons_zero, List.setIfInBounds_toArray, List.set_cons_zero, List.set_cons_succ])
        refine wpAnyH_take (i := 6) (v := ?_) rfl (by kernel_rfl) (by kernel_rfl) (by kernel_rfl) (fun _ _ _ h => h) (Or.inl ⟨by rfl, ?_⟩) (by assumption) ?_
        rotate_left
        · intro w hSw; (try dsimp only at hSw); go_simp; (try with_reducible rfl)
        (try simp only [Act.put, List.getElem_toArray, List.getElem_cons_succ, List.getElem_cons_zero, List.setIfInBounds_toArray, List.set_cons_zero, List.set_cons_succ])
        refine wpAnyH_take (i := 7) (v := ?_) rfl (by kernel_rfl) (by kernel_rfl) (by kernel_rfl) (fun _ _ _ h => h) (Or.inl ⟨by rfl, ?_⟩) (by assumption) ?_
        rotate_left
        · intro w hSw; (try dsimp only at hSw); go_simp; (try with_reducible rfl)
        (try simp only [Act.put, List.getElem_toArray, List.getElem_cons_succ, List.getElem_cons_zero, List.setIfInBounds_toArray, List.set_cons_zero, List.set_cons_succ])
        refine wpAnyH_take (i := 8) (v := ?_) rfl (by kernel_rfl) (by kernel_rfl) (by kernel_rfl) (fun _ _ _ h => h) (Or.inl ⟨by rfl, ?_⟩) (by assumption) ?_
        rotate_left
        · intro w hSw; (try dsimp only at hSw); go_simp; (try with_reducible rfl)
        (try simp only [Act.put, List.getElem_toArray, List.getElem_cons_succ, List.getElem_cons_zero, List.setIfInBounds_toArray, List.set_cons_zero, List.set_cons_succ])
        refine wpAnyH_take (i := 9) (v := ?_) rfl (by kernel_rfl) (by kernel_rfl) (by kernel_rfl) (fun _ _ _ h => h) (Or.inl ⟨by rfl, ?_⟩) (by assumption) ?_
        rotate_left
        · intro w hSw; (try dsimp only at hSw); go_simp; (try with_reducible rfl)
        (try simp only [Act.put, List.getElem_toArray, List.getElem_cons_succ, List.getElem_cons_zero, List.setIfInBounds_toArray, List.set_cons_zero, List.set_cons_succ])
        refine wpAnyH_take (i := 10) (v := ?_) rfl (by kernel_rfl) (by kernel_rfl) (by kernel_rfl) (fun _ _ _ h => h) (Or.inl ⟨by rfl, ?_⟩) (by assumption) ?_
        rotate_left
        · intro w hSw; (try dsimp only at hSw); go_simp; (try with_reducible rfl)
        (try simp only [Act.put, List.getElem_toArray, List.getElem_cons_succ, List.getElem_cons_zero, List.setIfInBounds_toArray, List.set_cons_zero, List.set_cons_succ])
        (try clear hK K)
        refine wpAnyH_ready (rs := [11]) (by kernel_rfl) (by simp) ?_
        refine AllReadyH.cons rfl (fun K hK => ?_) AllReadyH.nil
        go_simp
        (refine Calls.mono (HPUT.out _ (Below.refl _ _).drew) ?_; rintro e w3 ⟨⟨bb, rfl⟩, m', u, d, l, hsh⟩)
        refine hK.out _ _ ?_ (fun hHeld => ?_)
        · exact HCB.out w3 hsh.1
        clear c0 c1 c2 c3 c4 HPUT
        (try clear hK K)
        refine wpAnyH_done (by kernel_rfl) ?_ _
        obtain ⟨⟨h', o'⟩, hm', hl', hm2⟩ := hsh
        obtain ⟨n, hn⟩ : ∃ n, l.length = n := ⟨_, rfl⟩
        have HLEN : ∀ w1, Below w3.heap.size w3 w1 → Calls Try.prog 15 #[.pointer (some ⟨w0.heap.size, 0, none⟩)] w1 fun e w' => e = .returned (.int .i64 n) ∧ Below w1.heap.size w1 w' := fun w1 hb => by
          have := len_any (o'.tr.below hb)
          rwa [o'.p, hn] at this
        have HDEP : ∀ w1, Below w3.heap.size w3 w1 → Calls Try.prog 22 #[.pointer (some ⟨w0.heap.size, 0, none⟩)] w1 fun e w' => e = .returned (.int .i64 d) ∧ Below w1.heap.size w1 w' := fun w1 hb => by
          have := depth_any (o'.tr.below hb)
          rwa [o'.p] at this
        have HU : Hid (∀ w1, Below w3.heap.size w3 w1 → Calls Try.prog 23 #[.pointer (some ⟨w0.heap.size, 0, none⟩)] w1 fun e w' => e = .returned (.int .i64 u) ∧ Below w1.heap.size w1 w') := fun w1 hb => by
          have := used_any (o'.tr.below hb) (by have := o'.room; omega)
          rwa [o'.p] at this
        have HR : Hid (∀ w1, Below w3.heap.size w3 w1 → Calls Try.prog 24 #[.pointer (some ⟨w0.heap.size, 0, none⟩)] w1 fun e w' => e = .returned (.int .i64 (max M u : Nat)) ∧ Below w1.heap.size w1 w') := fun w1 hb => by
          have := room_any (o'.tr.below hb)
          rw [hm'] at this
          rwa [o'.p] at this
        have HO : Hid (∀ w9, Below w3.heap.size w3 w9 → Hid (∃ h2 u2 d2 l2, Own5 w0 w9 l2 200 h2 (max M u : Nat) u2 d2 ∧ l2.length ≤ j + 1 ∧ (max M u : Nat) ≤ j + 1)) := fun w9 hb => ⟨h', u, d, l, by rw [← hm']; exact o'.below hb, hl', by omega⟩
        have HF : Hid (u ≤ n ∧ (n = 0 ↔ d = 0) ∧ (n = 0 ↔ u = 0) ∧ (0 < d → 2 ^ (d - 1) ≤ n) ∧ n ≤ 200) := by
          have := o'.tr.shape
          rw [hn] at this hl'
          exact ⟨this.2.1, this.2.2.1, this.2.2.2.1, this.2.2.2.2.1, by have := HJ.out; omega⟩
        have hd8 : d ≤ 8 := by
          rcases Nat.lt_or_ge d 9 with h | h
          · omega
          · exfalso
            have h1 := HF.out.2.2.2.1 (by omega)
            have h2 : 2 ^ 8 ≤ 2 ^ (d - 1) := Nat.pow_le_pow_right (by omega) (by omega)
            have := HF.out.2.2.2.2
            omega
        clear o' hm' hl' hm2 hn
        rcases (by omega : d = 0 ∨ d = 1 ∨ d = 2 ∨ d = 3 ∨ d = 4 ∨ d = 5 ∨ d = 6 ∨ d = 7 ∨ d = 8) with rfl | rfl | rfl | rfl | rfl | rfl | rfl | rfl | rfl
        · have HL : Hid (∀ w1, Below w3.heap.size w3 w1 → Calls Try.prog 15 #[.pointer (some ⟨w0.heap.size, 0, none⟩)] w1 fun e w' => e = .returned (.int .i64 n) ∧ Below w1.heap.size w1 w') := HLEN
          have HD : Hid (∀ w1, Below w3.heap.size w3 w1 → Calls Try.prog 22 #[.pointer (some ⟨w0.heap.size, 0, none⟩)] w1 fun e w' => e = .returned (.int .i64 0) ∧ Below w1.heap.size w1 w') := HDEP
          clear HLEN HDEP
          obtain rfl : n = 0 := HF.out.2.1.2 rfl
          obtain rfl : u = 0 := HF.out.2.2.1.1 rfl

          have i0 : (0 : Int) ≤ (M : Int) := by omega
          have hmx : max M 0 = M := by omega
          rw [hmx] at HR HO
          clear hmx
          go_wp2_with fail
          refine Calls.mono (HL.out _ (Below.refl _ _)) ?_
          rintro e w4 ⟨rfl, hb⟩
          have B4 : Hid (Below w3.heap.size w3 w4) := hb
          clear hb HL
          go_wp2_with fail
          refine Calls.mono (HD.out _ B4.out) ?_
          rintro e w5 ⟨rfl, hb⟩
          have B5 : Hid (Below w3.heap.size w3 w5) := B4.out.trans (hb.mono B4.out.size)
          clear hb HD B4
          go_wp2_with fail
          refine Calls.mono (HU.out _ B5.out) ?_
          rintro e w6 ⟨rfl, hb⟩
          have B6 : Hid (Below w3.heap.size w3 w6) := B5.out.trans (hb.mono B5.out.size)
          clear hb B5
          go_wp2_with fail
          refine Calls.mono (HU.out _ B6.out) ?_
          rintro e w7 ⟨rfl, hb⟩
          have B7 : Hid (Below w3.heap.size w3 w7) := B6.out.trans (hb.mono B6.out.size)
          clear hb B6
          go_wp2_with fail
          refine Calls.mono (HU.out _ B7.out) ?_
          rintro e w8 ⟨rfl, hb⟩
          have B8 : Hid (Below w3.heap.size w3 w8) := B7.out.trans (hb.mono B7.out.size)
          clear hb B7 HU
          go_wp2_with fail
          refine Calls.mono (HR.out _ B8.out) ?_
          rintro e w9 ⟨rfl, hb⟩
          have B9 : Hid (Below w3.heap.size w3 w9) := B8.out.trans (hb.mono B8.out.size)
          clear hb B8 HR
          go_wp2_with fail
          go_roundw
          case rel => exact ⟨j + 1, M, HJ.out.1, by have := HJ.out.2; omega, rfl, by go_num, HO.out _ B9.out⟩
          case measure => have := HJ.out; simp [intOf]; omega
        · have HL : Hid (∀ w1, Below w3.heap.size w3 w1 → Calls Try.prog 15 #[.pointer (some ⟨w0.heap.size, 0, none⟩)] w1 fun e w' => e = .returned (.int .i64 n) ∧ Below w1.heap.size w1 w') := HLEN
          have HD : Hid (∀ w1, Below w3.heap.size w3 w1 → Calls Try.prog 22 #[.pointer (some ⟨w0.heap.size, 0, none⟩)] w1 fun e w' => e = .returned (.int .i64 1) ∧ Below w1.heap.size w1 w') := HDEP
          clear HLEN HDEP
          have n1 : ((n : Int) == 0) = false := by rw [beq_eq_false_iff_ne]; have := HF.out; omega
          have u1 : ((u : Int) == 0) = false := by rw [beq_eq_false_iff_ne]; have := HF.out; omega
          have u2 : u ≤ n := HF.out.1
          have u3 : (u : Int) ≤ (n : Int) := by omega
          have n2 : 1 ≤ n := HF.out.2.2.2.1 (by omega)
          have n3 : (1 : Int) ≤ (n : Int) := by omega
          rcases Nat.lt_or_ge M u with hmu | hmu
          · have x1 : decide ((M : Int) < (u : Int)) = true := by simp; omega
            have x2 : (M : Int) < (u : Int) := by omega
            have x3 : (M : Int) ≤ (u : Int) := by omega
            have hmx : max M u = u := by omega
            rw [hmx] at HR HO
            clear hmx hmu
            go_wp2_with fail
            refine Calls.mono (HL.out _ (Below.refl _ _)) ?_
            rintro e w4 ⟨rfl, hb⟩
            have B4 : Hid (Below w3.heap.size w3 w4) := hb
            clear hb HL
            go_wp2_with fail
            refine Calls.mono (HD.out _ B4.out) ?_
            rintro e w5 ⟨rfl, hb⟩
            have B5 : Hid (Below w3.heap.size w3 w5) := B4.out.trans (hb.mono B4.out.size)
            clear hb HD B4
            go_wp2_with fail
            refine Calls.mono (HU.out _ B5.out) ?_
            rintro e w6 ⟨rfl, hb⟩
            have B6 : Hid (Below w3.heap.size w3 w6) := B5.out.trans (hb.mono B5.out.size)
            clear hb B5
            go_wp2_with fail
            refine Calls.mono (HU.out _ B6.out) ?_
            rintro e w7 ⟨rfl, hb⟩
            have B7 : Hid (Below w3.heap.size w3 w7) := B6.out.trans (hb.mono B6.out.size)
            clear hb B6
            go_wp2_with fail
            refine Calls.mono (HU.out _ B7.out) ?_
            rintro e w8 ⟨rfl, hb⟩
            have B8 : Hid (Below w3.heap.size w3 w8) := B7.out.trans (hb.mono B7.out.size)
            clear hb B7 HU
            go_wp2_with fail
            refine Calls.mono (HR.out _ B8.out) ?_
            rintro e w9 ⟨rfl, hb⟩
            have B9 : Hid (Below w3.heap.size w3 w9) := B8.out.trans (hb.mono B8.out.size)
            clear hb B8 HR
            go_wp2_with fail
            go_roundw
            case rel => exact ⟨j + 1, u, HJ.out.1, by have := HJ.out.2; omega, rfl, by go_num, HO.out _ B9.out⟩
            case measure => have := HJ.out; simp [intOf]; omega
          · have x2 : (u : Int) ≤ (M : Int) := by omega
            have hmx : max M u = M := by omega
            rw [hmx] at HR HO
            clear hmx hmu
            go_wp2_with fail
            refine Calls.mono (HL.out _ (Below.refl _ _)) ?_
            rintro e w4 ⟨rfl, hb⟩
            have B4 : Hid (Below w3.heap.size w3 w4) := hb
            clear hb HL
            go_wp2_with fail
            refine Calls.mono (HD.out _ B4.out) ?_
            rintro e w5 ⟨rfl, hb⟩
            have B5 : Hid (Below w3.heap.size w3 w5) := B4.out.trans (hb.mono B4.out.size)
            clear hb HD B4
            go_wp2_with fail
            refine Calls.mono (HU.out _ B5.out) ?_
            rintro e w6 ⟨rfl, hb⟩
            have B6 : Hid (Below w3.heap.size w3 w6) := B5.out.trans (hb.mono B5.out.size)
            clear hb B5
            go_wp2_with fail
            refine Calls.mono (HU.out _ B6.out) ?_
            rintro e w7 ⟨rfl, hb⟩
            have B7 : Hid (Below w3.heap.size w3 w7) := B6.out.trans (hb.mono B6.out.size)
            clear hb B6
            go_wp2_with fail
            refine Calls.mono (HU.out _ B7.out) ?_
            rintro e w8 ⟨rfl, hb⟩
            have B8 : Hid (Below w3.heap.size w3 w8) := B7.out.trans (hb.mono B7.out.size)
            clear hb B7 HU
            go_wp2_with fail
            refine Calls.mono (HR.out _ B8.out) ?_
            rintro e w9 ⟨rfl, hb⟩
            have B9 : Hid (Below w3.heap.size w3 w9) := B8.out.trans (hb.mono B8.out.size)
            clear hb B8 HR
            go_wp2_with fail
            go_roundw
            case rel => exact ⟨j + 1, M, HJ.out.1, by have := HJ.out.2; omega, rfl, by go_num, HO.out _ B9.out⟩
            case measure => have := HJ.out; simp [intOf]; omega
        · have HL : Hid (∀ w1, Below w3.heap.size w3 w1 → Calls Try.prog 15 #[.pointer (some ⟨w0.heap.size, 0, none⟩)] w1 fun e w' => e = .returned (.int .i64 n) ∧ Below w1.heap.size w1 w') := HLEN
          have HD : Hid (∀ w1, Below w3.heap.size w3 w1 → Calls Try.prog 22 #[.pointer (some ⟨w0.heap.size, 0, none⟩)] w1 fun e w' => e = .returned (.int .i64 2) ∧ Below w1.heap.size w1 w') := HDEP
          clear HLEN HDEP
          have n1 : ((n : Int) == 0) = false := by rw [beq_eq_false_iff_ne]; have := HF.out; omega
          have u1 : ((u : Int) == 0) = false := by rw [beq_eq_false_iff_ne]; have := HF.out; omega
          have u2 : u ≤ n := HF.out.1
          have u3 : (u : Int) ≤ (n : Int) := by omega
          have n2 : 2 ≤ n := HF.out.2.2.2.1 (by omega)
          have n3 : (2 : Int) ≤ (n : Int) := by omega
          rcases Nat.lt_or_ge M u with hmu | hmu
          · have x1 : decide ((M : Int) < (u : Int)) = true := by simp; omega
            have x2 : (M : Int) < (u : Int) := by omega
            have x3 : (M : Int) ≤ (u : Int) := by omega
            have hmx : max M u = u := by omega
            rw [hmx] at HR HO
            clear hmx hmu
            go_wp2_with fail
            refine Calls.mono (HL.out _ (Below.refl _ _)) ?_
            rintro e w4 ⟨rfl, hb⟩
            have B4 : Hid (Below w3.heap.size w3 w4) := hb
            clear hb HL
            go_wp2_with fail
            refine Calls.mono (HD.out _ B4.out) ?_
            rintro e w5 ⟨rfl, hb⟩
            have B5 : Hid (Below w3.heap.size w3 w5) := B4.out.trans (hb.mono B4.out.size)
            clear hb HD B4
            go_wp2_with fail
            refine Calls.mono (HU.out _ B5.out) ?_
            rintro e w6 ⟨rfl, hb⟩
            have B6 : Hid (Below w3.heap.size w3 w6) := B5.out.trans (hb.mono B5.out.size)
            clear hb B5
            go_wp2_with fail
            refine Calls.mono (HU.out _ B6.out) ?_
            rintro e w7 ⟨rfl, hb⟩
            have B7 : Hid (Below w3.heap.size w3 w7) := B6.out.trans (hb.mono B6.out.size)
            clear hb B6
            go_wp2_with fail
            refine Calls.mono (HU.out _ B7.out) ?_
            rintro e w8 ⟨rfl, hb⟩
            have B8 : Hid (Below w3.heap.size w3 w8) := B7.out.trans (hb.mono B7.out.size)
            clear hb B7 HU
            go_wp2_with fail
            refine Calls.mono (HR.out _ B8.out) ?_
            rintro e w9 ⟨rfl, hb⟩
            have B9 : Hid (Below w3.heap.size w3 w9) := B8.out.trans (hb.mono B8.out.size)
            clear hb B8 HR
            go_wp2_with fail
            go_roundw
            case rel => exact ⟨j + 1, u, HJ.out.1, by have := HJ.out.2; omega, rfl, by go_num, HO.out _ B9.out⟩
            case measure => have := HJ.out; simp [intOf]; omega
          · have x2 : (u : Int) ≤ (M : Int) := by omega
            have hmx : max M u = M := by omega
            rw [hmx] at HR HO
            clear hmx hmu
            go_wp2_with fail
            refine Calls.mono (HL.out _ (Below.refl _ _)) ?_
            rintro e w4 ⟨rfl, hb⟩
            have B4 : Hid (Below w3.heap.size w3 w4) := hb
            clear hb HL
            go_wp2_with fail
            refine Calls.mono (HD.out _ B4.out) ?_
            rintro e w5 ⟨rfl, hb⟩
            have B5 : Hid (Below w3.heap.size w3 w5) := B4.out.trans (hb.mono B4.out.size)
            clear hb HD B4
            go_wp2_with fail
            refine Calls.mono (HU.out _ B5.out) ?_
            rintro e w6 ⟨rfl, hb⟩
            have B6 : Hid (Below w3.heap.size w3 w6) := B5.out.trans (hb.mono B5.out.size)
            clear hb B5
            go_wp2_with fail
            refine Calls.mono (HU.out _ B6.out) ?_
            rintro e w7 ⟨rfl, hb⟩
            have B7 : Hid (Below w3.heap.size w3 w7) := B6.out.trans (hb.mono B6.out.size)
            clear hb B6
            go_wp2_with fail
            refine Calls.mono (HU.out _ B7.out) ?_
            rintro e w8 ⟨rfl, hb⟩
            have B8 : Hid (Below w3.heap.size w3 w8) := B7.out.trans (hb.mono B7.out.size)
            clear hb B7 HU
            go_wp2_with fail
            refine Calls.mono (HR.out _ B8.out) ?_
            rintro e w9 ⟨rfl, hb⟩
            have B9 : Hid (Below w3.heap.size w3 w9) := B8.out.trans (hb.mono B8.out.size)
            clear hb B8 HR
            go_wp2_with fail
            go_roundw
            case rel => exact ⟨j + 1, M, HJ.out.1, by have := HJ.out.2; omega, rfl, by go_num, HO.out _ B9.out⟩
            case measure => have := HJ.out; simp [intOf]; omega
        · have HL : Hid (∀ w1, Below w3.heap.size w3 w1 → Calls Try.prog 15 #[.pointer (some ⟨w0.heap.size, 0, none⟩)] w1 fun e w' => e = .returned (.int .i64 n) ∧ Below w1.heap.size w1 w') := HLEN
          have HD : Hid (∀ w1, Below w3.heap.size w3 w1 → Calls Try.prog 22 #[.pointer (some ⟨w0.heap.size, 0, none⟩)] w1 fun e w' => e = .returned (.int .i64 3) ∧ Below w1.heap.size w1 w') := HDEP
          clear HLEN HDEP
          have n1 : ((n : Int) == 0) = false := by rw [beq_eq_false_iff_ne]; have := HF.out; omega
          have u1 : ((u : Int) == 0) = false := by rw [beq_eq_false_iff_ne]; have := HF.out; omega
          have u2 : u ≤ n := HF.out.1
          have u3 : (u : Int) ≤ (n : Int) := by omega
          have n2 : 4 ≤ n := HF.out.2.2.2.1 (by omega)
          have n3 : (4 : Int) ≤ (n : Int) := by omega
          rcases Nat.lt_or_ge M u with hmu | hmu
          · have x1 : decide ((M : Int) < (u : Int)) = true := by simp; omega
            have x2 : (M : Int) < (u : Int) := by omega
            have x3 : (M : Int) ≤ (u : Int) := by omega
            have hmx : max M u = u := by omega
            rw [hmx] at HR HO
            clear hmx hmu
            go_wp2_with fail
            refine Calls.mono (HL.out _ (Below.refl _ _)) ?_
            rintro e w4 ⟨rfl, hb⟩
            have B4 : Hid (Below w3.heap.size w3 w4) := hb
            clear hb HL
            go_wp2_with fail
            refine Calls.mono (HD.out _ B4.out) ?_
            rintro e w5 ⟨rfl, hb⟩
            have B5 : Hid (Below w3.heap.size w3 w5) := B4.out.trans (hb.mono B4.out.size)
            clear hb HD B4
            go_wp2_with fail
            refine Calls.mono (HU.out _ B5.out) ?_
            rintro e w6 ⟨rfl, hb⟩
            have B6 : Hid (Below w3.heap.size w3 w6) := B5.out.trans (hb.mono B5.out.size)
            clear hb B5
            go_wp2_with fail
            refine Calls.mono (HU.out _ B6.out) ?_
            rintro e w7 ⟨rfl, hb⟩
            have B7 : Hid (Below w3.heap.size w3 w7) := B6.out.trans (hb.mono B6.out.size)
            clear hb B6
            go_wp2_with fail
            refine Calls.mono (HU.out _ B7.out) ?_
            rintro e w8 ⟨rfl, hb⟩
            have B8 : Hid (Below w3.heap.size w3 w8) := B7.out.trans (hb.mono B7.out.size)
            clear hb B7 HU
            go_wp2_with fail
            refine Calls.mono (HR.out _ B8.out) ?_
            rintro e w9 ⟨rfl, hb⟩
            have B9 : Hid (Below w3.heap.size w3 w9) := B8.out.trans (hb.mono B8.out.size)
            clear hb B8 HR
            go_wp2_with fail
            go_roundw
            case rel => exact ⟨j + 1, u, HJ.out.1, by have := HJ.out.2; omega, rfl, by go_num, HO.out _ B9.out⟩
            case measure => have := HJ.out; simp [intOf]; omega
          · have x2 : (u : Int) ≤ (M : Int) := by omega
            have hmx : max M u = M := by omega
            rw [hmx] at HR HO
            clear hmx hmu
            go_wp2_with fail
            refine Calls.mono (HL.out _ (Below.refl _ _)) ?_
            rintro e w4 ⟨rfl, hb⟩
            have B4 : Hid (Below w3.heap.size w3 w4) := hb
            clear hb HL
            go_wp2_with fail
            refine Calls.mono (HD.out _ B4.out) ?_
            rintro e w5 ⟨rfl, hb⟩
            have B5 : Hid (Below w3.heap.size w3 w5) := B4.out.trans (hb.mono B4.out.size)
            clear hb HD B4
            go_wp2_with fail
            refine Calls.mono (HU.out _ B5.out) ?_
            rintro e w6 ⟨rfl, hb⟩
            have B6 : Hid (Below w3.heap.size w3 w6) := B5.out.trans (hb.mono B5.out.size)
            clear hb B5
            go_wp2_with fail
            refine Calls.mono (HU.out _ B6.out) ?_
            rintro e w7 ⟨rfl, hb⟩
            have B7 : Hid (Below w3.heap.size w3 w7) := B6.out.trans (hb.mono B6.out.size)
            clear hb B6
            go_wp2_with fail
            refine Calls.mono (HU.out _ B7.out) ?_
            rintro e w8 ⟨rfl, hb⟩
            have B8 : Hid (Below w3.heap.size w3 w8) := B7.out.trans (hb.mono B7.out.size)
            clear hb B7 HU
            go_wp2_with fail
            refine Calls.mono (HR.out _ B8.out) ?_
            rintro e w9 ⟨rfl, hb⟩
            have B9 : Hid (Below w3.heap.size w3 w9) := B8.out.trans (hb.mono B8.out.size)
            clear hb B8 HR
            go_wp2_with fail
            go_roundw
            case rel => exact ⟨j + 1, M, HJ.out.1, by have := HJ.out.2; omega, rfl, by go_num, HO.out _ B9.out⟩
            case measure => have := HJ.out; simp [intOf]; omega
        · have HL : Hid (∀ w1, Below w3.heap.size w3 w1 → Calls Try.prog 15 #[.pointer (some ⟨w0.heap.size, 0, none⟩)] w1 fun e w' => e = .returned (.int .i64 n) ∧ Below w1.heap.size w1 w') := HLEN
          have HD : Hid (∀ w1, Below w3.heap.size w3 w1 → Calls Try.prog 22 #[.pointer (some ⟨w0.heap.size, 0, none⟩)] w1 fun e w' => e = .returned (.int .i64 4) ∧ Below w1.heap.size w1 w') := HDEP
          clear HLEN HDEP
          have n1 : ((n : Int) == 0) = false := by rw [beq_eq_false_iff_ne]; have := HF.out; omega
          have u1 : ((u : Int) == 0) = false := by rw [beq_eq_false_iff_ne]; have := HF.out; omega
          have u2 : u ≤ n := HF.out.1
          have u3 : (u : Int) ≤ (n : Int) := by omega
          have n2 : 8 ≤ n := HF.out.2.2.2.1 (by omega)
          have n3 : (8 : Int) ≤ (n : Int) := by omega
          rcases Nat.lt_or_ge M u with hmu | hmu
          · have x1 : decide ((M : Int) < (u : Int)) = true := by simp; omega
            have x2 : (M : Int) < (u : Int) := by omega
            have x3 : (M : Int) ≤ (u : Int) := by omega
            have hmx : max M u = u := by omega
            rw [hmx] at HR HO
            clear hmx hmu
            go_wp2_with fail
            refine Calls.mono (HL.out _ (Below.refl _ _)) ?_
            rintro e w4 ⟨rfl, hb⟩
            have B4 : Hid (Below w3.heap.size w3 w4) := hb
            clear hb HL
            go_wp2_with fail
            refine Calls.mono (HD.out _ B4.out) ?_
            rintro e w5 ⟨rfl, hb⟩
            have B5 : Hid (Below w3.heap.size w3 w5) := B4.out.trans (hb.mono B4.out.size)
            clear hb HD B4
            go_wp2_with fail
            refine Calls.mono (HU.out _ B5.out) ?_
            rintro e w6 ⟨rfl, hb⟩
            have B6 : Hid (Below w3.heap.size w3 w6) := B5.out.trans (hb.mono B5.out.size)
            clear hb B5
            go_wp2_with fail
            refine Calls.mono (HU.out _ B6.out) ?_
            rintro e w7 ⟨rfl, hb⟩
            have B7 : Hid (Below w3.heap.size w3 w7) := B6.out.trans (hb.mono B6.out.size)
            clear hb B6
            go_wp2_with fail
            refine Calls.mono (HU.out _ B7.out) ?_
            rintro e w8 ⟨rfl, hb⟩
            have B8 : Hid (Below w3.heap.size w3 w8) := B7.out.trans (hb.mono B7.out.size)
            clear hb B7 HU
            go_wp2_with fail
            refine Calls.mono (HR.out _ B8.out) ?_
            rintro e w9 ⟨rfl, hb⟩
            have B9 : Hid (Below w3.heap.size w3 w9) := B8.out.trans (hb.mono B8.out.size)
            clear hb B8 HR
            go_wp2_with fail
            go_roundw
            case rel => exact ⟨j + 1, u, HJ.out.1, by have := HJ.out.2; omega, rfl, by go_num, HO.out _ B9.out⟩
            case measure => have := HJ.out; simp [intOf]; omega
          · have x2 : (u : Int) ≤ (M : Int) := by omega
            have hmx : max M u = M := by omega
            rw [hmx] at HR HO
            clear hmx hmu
            go_wp2_with fail
            refine Calls.mono (HL.out _ (Below.refl _ _)) ?_
            rintro e w4 ⟨rfl, hb⟩
            have B4 : Hid (Below w3.heap.size w3 w4) := hb
            clear hb HL
            go_wp2_with fail
            refine Calls.mono (HD.out _ B4.out) ?_
            rintro e w5 ⟨rfl, hb⟩
            have B5 : Hid (Below w3.heap.size w3 w5) := B4.out.trans (hb.mono B4.out.size)
            clear hb HD B4
            go_wp2_with fail
            refine Calls.mono (HU.out _ B5.out) ?_
            rintro e w6 ⟨rfl, hb⟩
            have B6 : Hid (Below w3.heap.size w3 w6) := B5.out.trans (hb.mono B5.out.size)
            clear hb B5
            go_wp2_with fail
            refine Calls.mono (HU.out _ B6.out) ?_
            rintro e w7 ⟨rfl, hb⟩
            have B7 : Hid (Below w3.heap.size w3 w7) := B6.out.trans (hb.mono B6.out.size)
            clear hb B6
            go_wp2_with fail
            refine Calls.mono (HU.out _ B7.out) ?_
            rintro e w8 ⟨rfl, hb⟩
            have B8 : Hid (Below w3.heap.size w3 w8) := B7.out.trans (hb.mono B7.out.size)
            clear hb B7 HU
            go_wp2_with fail
            refine Calls.mono (HR.out _ B8.out) ?_
            rintro e w9 ⟨rfl, hb⟩
            have B9 : Hid (Below w3.heap.size w3 w9) := B8.out.trans (hb.mono B8.out.size)
            clear hb B8 HR
            go_wp2_with fail
            go_roundw
            case rel => exact ⟨j + 1, M, HJ.out.1, by have := HJ.out.2; omega, rfl, by go_num, HO.out _ B9.out⟩
            case measure => have := HJ.out; simp [intOf]; omega
        · have HL : Hid (∀ w1, Below w3.heap.size w3 w1 → Calls Try.prog 15 #[.pointer (some ⟨w0.heap.size, 0, none⟩)] w1 fun e w' => e = .returned (.int .i64 n) ∧ Below w1.heap.size w1 w') := HLEN
          have HD : Hid (∀ w1, Below w3.heap.size w3 w1 → Calls Try.prog 22 #[.pointer (some ⟨w0.heap.size, 0, none⟩)] w1 fun e w' => e = .returned (.int .i64 5) ∧ Below w1.heap.size w1 w') := HDEP
          clear HLEN HDEP
          have n1 : ((n : Int) == 0) = false := by rw [beq_eq_false_iff_ne]; have := HF.out; omega
          have u1 : ((u : Int) == 0) = false := by rw [beq_eq_false_iff_ne]; have := HF.out; omega
          have u2 : u ≤ n := HF.out.1
          have u3 : (u : Int) ≤ (n : Int) := by omega
          have n2 : 16 ≤ n := HF.out.2.2.2.1 (by omega)
          have n3 : (16 : Int) ≤ (n : Int) := by omega
          rcases Nat.lt_or_ge M u with hmu | hmu
          · have x1 : decide ((M : Int) < (u : Int)) = true := by simp; omega
            have x2 : (M : Int) < (u : Int) := by omega
            have x3 : (M : Int) ≤ (u : Int) := by omega
            have hmx : max M u = u := by omega
            rw [hmx] at HR HO
            clear hmx hmu
            go_wp2_with fail
            refine Calls.mono (HL.out _ (Below.refl _ _)) ?_
            rintro e w4 ⟨rfl, hb⟩
            have B4 : Hid (Below w3.heap.size w3 w4) := hb
            clear hb HL
            go_wp2_with fail
            refine Calls.mono (HD.out _ B4.out) ?_
            rintro e w5 ⟨rfl, hb⟩
            have B5 : Hid (Below w3.heap.size w3 w5) := B4.out.trans (hb.mono B4.out.size)
            clear hb HD B4
            go_wp2_with fail
            refine Calls.mono (HU.out _ B5.out) ?_
            rintro e w6 ⟨rfl, hb⟩
            have B6 : Hid (Below w3.heap.size w3 w6) := B5.out.trans (hb.mono B5.out.size)
            clear hb B5
            go_wp2_with fail
            refine Calls.mono (HU.out _ B6.out) ?_
            rintro e w7 ⟨rfl, hb⟩
            have B7 : Hid (Below w3.heap.size w3 w7) := B6.out.trans (hb.mono B6.out.size)
            clear hb B6
            go_wp2_with fail
            refine Calls.mono (HU.out _ B7.out) ?_
            rintro e w8 ⟨rfl, hb⟩
            have B8 : Hid (Below w3.heap.size w3 w8) := B7.out.trans (hb.mono B7.out.size)
            clear hb B7 HU
            go_wp2_with fail
            refine Calls.mono (HR.out _ B8.out) ?_
            rintro e w9 ⟨rfl, hb⟩
            have B9 : Hid (Below w3.heap.size w3 w9) := B8.out.trans (hb.mono B8.out.size)
            clear hb B8 HR
            go_wp2_with fail
            go_roundw
            case rel => exact ⟨j + 1, u, HJ.out.1, by have := HJ.out.2; omega, rfl, by go_num, HO.out _ B9.out⟩
            case measure => have := HJ.out; simp [intOf]; omega
          · have x2 : (u : Int) ≤ (M : Int) := by omega
            have hmx : max M u = M := by omega
            rw [hmx] at HR HO
            clear hmx hmu
            go_wp2_with fail
            refine Calls.mono (HL.out _ (Below.refl _ _)) ?_
            rintro e w4 ⟨rfl, hb⟩
            have B4 : Hid (Below w3.heap.size w3 w4) := hb
            clear hb HL
            go_wp2_with fail
            refine Calls.mono (HD.out _ B4.out) ?_
            rintro e w5 ⟨rfl, hb⟩
            have B5 : Hid (Below w3.heap.size w3 w5) := B4.out.trans (hb.mono B4.out.size)
            clear hb HD B4
            go_wp2_with fail
            refine Calls.mono (HU.out _ B5.out) ?_
            rintro e w6 ⟨rfl, hb⟩
            have B6 : Hid (Below w3.heap.size w3 w6) := B5.out.trans (hb.mono B5.out.size)
            clear hb B5
            go_wp2_with fail
            refine Calls.mono (HU.out _ B6.out) ?_
            rintro e w7 ⟨rfl, hb⟩
            have B7 : Hid (Below w3.heap.size w3 w7) := B6.out.trans (hb.mono B6.out.size)
            clear hb B6
            go_wp2_with fail
            refine Calls.mono (HU.out _ B7.out) ?_
            rintro e w8 ⟨rfl, hb⟩
            have B8 : Hid (Below w3.heap.size w3 w8) := B7.out.trans (hb.mono B7.out.size)
            clear hb B7 HU
            go_wp2_with fail
            refine Calls.mono (HR.out _ B8.out) ?_
            rintro e w9 ⟨rfl, hb⟩
            have B9 : Hid (Below w3.heap.size w3 w9) := B8.out.trans (hb.mono B8.out.size)
            clear hb B8 HR
            go_wp2_with fail
            go_roundw
            case rel => exact ⟨j + 1, M, HJ.out.1, by have := HJ.out.2; omega, rfl, by go_num, HO.out _ B9.out⟩
            case measure => have := HJ.out; simp [intOf]; omega
        · have HL : Hid (∀ w1, Below w3.heap.size w3 w1 → Calls Try.prog 15 #[.pointer (some ⟨w0.heap.size, 0, none⟩)] w1 fun e w' => e = .returned (.int .i64 n) ∧ Below w1.heap.size w1 w') := HLEN
          have HD : Hid (∀ w1, Below w3.heap.size w3 w1 → Calls Try.prog 22 #[.pointer (some ⟨w0.heap.size, 0, none⟩)] w1 fun e w' => e = .returned (.int .i64 6) ∧ Below w1.heap.size w1 w') := HDEP
          clear HLEN HDEP
          have n1 : ((n : Int) == 0) = false := by rw [beq_eq_false_iff_ne]; have := HF.out; omega
          have u1 : ((u : Int) == 0) = false := by rw [beq_eq_false_iff_ne]; have := HF.out; omega
          have u2 : u ≤ n := HF.out.1
          have u3 : (u : Int) ≤ (n : Int) := by omega
          have n2 : 32 ≤ n := HF.out.2.2.2.1 (by omega)
          have n3 : (32 : Int) ≤ (n : Int) := by omega
          rcases Nat.lt_or_ge M u with hmu | hmu
          · have x1 : decide ((M : Int) < (u : Int)) = true := by simp; omega
            have x2 : (M : Int) < (u : Int) := by omega
            have x3 : (M : Int) ≤ (u : Int) := by omega
            have hmx : max M u = u := by omega
            rw [hmx] at HR HO
            clear hmx hmu
            go_wp2_with fail
            refine Calls.mono (HL.out _ (Below.refl _ _)) ?_
            rintro e w4 ⟨rfl, hb⟩
            have B4 : Hid (Below w3.heap.size w3 w4) := hb
            clear hb HL
            go_wp2_with fail
            refine Calls.mono (HD.out _ B4.out) ?_
            rintro e w5 ⟨rfl, hb⟩
            have B5 : Hid (Below w3.heap.size w3 w5) := B4.out.trans (hb.mono B4.out.size)
            clear hb HD B4
            go_wp2_with fail
            refine Calls.mono (HU.out _ B5.out) ?_
            rintro e w6 ⟨rfl, hb⟩
            have B6 : Hid (Below w3.heap.size w3 w6) := B5.out.trans (hb.mono B5.out.size)
            clear hb B5
            go_wp2_with fail
            refine Calls.mono (HU.out _ B6.out) ?_
            rintro e w7 ⟨rfl, hb⟩
            have B7 : Hid (Below w3.heap.size w3 w7) := B6.out.trans (hb.mono B6.out.size)
            clear hb B6
            go_wp2_with fail
            refine Calls.mono (HU.out _ B7.out) ?_
            rintro e w8 ⟨rfl, hb⟩
            have B8 : Hid (Below w3.heap.size w3 w8) := B7.out.trans (hb.mono B7.out.size)
            clear hb B7 HU
            go_wp2_with fail
            refine Calls.mono (HR.out _ B8.out) ?_
            rintro e w9 ⟨rfl, hb⟩
            have B9 : Hid (Below w3.heap.size w3 w9) := B8.out.trans (hb.mono B8.out.size)
            clear hb B8 HR
            go_wp2_with fail
            go_roundw
            case rel => exact ⟨j + 1, u, HJ.out.1, by have := HJ.out.2; omega, rfl, by go_num, HO.out _ B9.out⟩
            case measure => have := HJ.out; simp [intOf]; omega
          · have x2 : (u : Int) ≤ (M : Int) := by omega
            have hmx : max M u = M := by omega
            rw [hmx] at HR HO
            clear hmx hmu
            go_wp2_with fail
            refine Calls.mono (HL.out _ (Below.refl _ _)) ?_
            rintro e w4 ⟨rfl, hb⟩
            have B4 : Hid (Below w3.heap.size w3 w4) := hb
            clear hb HL
            go_wp2_with fail
            refine Calls.mono (HD.out _ B4.out) ?_
            rintro e w5 ⟨rfl, hb⟩
            have B5 : Hid (Below w3.heap.size w3 w5) := B4.out.trans (hb.mono B4.out.size)
            clear hb HD B4
            go_wp2_with fail
            refine Calls.mono (HU.out _ B5.out) ?_
            rintro e w6 ⟨rfl, hb⟩
            have B6 : Hid (Below w3.heap.size w3 w6) := B5.out.trans (hb.mono B5.out.size)
            clear hb B5
            go_wp2_with fail
            refine Calls.mono (HU.out _ B6.out) ?_
            rintro e w7 ⟨rfl, hb⟩
            have B7 : Hid (Below w3.heap.size w3 w7) := B6.out.trans (hb.mono B6.out.size)
            clear hb B6
            go_wp2_with fail
            refine Calls.mono (HU.out _ B7.out) ?_
            rintro e w8 ⟨rfl, hb⟩
            have B8 : Hid (Below w3.heap.size w3 w8) := B7.out.trans (hb.mono B7.out.size)
            clear hb B7 HU
            go_wp2_with fail
            refine Calls.mono (HR.out _ B8.out) ?_
            rintro e w9 ⟨rfl, hb⟩
            have B9 : Hid (Below w3.heap.size w3 w9) := B8.out.trans (hb.mono B8.out.size)
            clear hb B8 HR
            go_wp2_with fail
            go_roundw
            case rel => exact ⟨j + 1, M, HJ.out.1, by have := HJ.out.2; omega, rfl, by go_num, HO.out _ B9.out⟩
            case measure => have := HJ.out; simp [intOf]; omega
        · have HL : Hid (∀ w1, Below w3.heap.size w3 w1 → Calls Try.prog 15 #[.pointer (some ⟨w0.heap.size, 0, none⟩)] w1 fun e w' => e = .returned (.int .i64 n) ∧ Below w1.heap.size w1 w') := HLEN
          have HD : Hid (∀ w1, Below w3.heap.size w3 w1 → Calls Try.prog 22 #[.pointer (some ⟨w0.heap.size, 0, none⟩)] w1 fun e w' => e = .returned (.int .i64 7) ∧ Below w1.heap.size w1 w') := HDEP
          clear HLEN HDEP
          have n1 : ((n : Int) == 0) = false := by rw [beq_eq_false_iff_ne]; have := HF.out; omega
          have u1 : ((u : Int) == 0) = false := by rw [beq_eq_false_iff_ne]; have := HF.out; omega
          have u2 : u ≤ n := HF.out.1
          have u3 : (u : Int) ≤ (n : Int) := by omega
          have n2 : 64 ≤ n := HF.out.2.2.2.1 (by omega)
          have n3 : (64 : Int) ≤ (n : Int) := by omega
          rcases Nat.lt_or_ge M u with hmu | hmu
          · have x1 : decide ((M : Int) < (u : Int)) = true := by simp; omega
            have x2 : (M : Int) < (u : Int) := by omega
            have x3 : (M : Int) ≤ (u : Int) := by omega
            have hmx : max M u = u := by omega
            rw [hmx] at HR HO
            clear hmx hmu
            go_wp2_with fail
            refine Calls.mono (HL.out _ (Below.refl _ _)) ?_
            rintro e w4 ⟨rfl, hb⟩
            have B4 : Hid (Below w3.heap.size w3 w4) := hb
            clear hb HL
            go_wp2_with fail
            refine Calls.mono (HD.out _ B4.out) ?_
            rintro e w5 ⟨rfl, hb⟩
            have B5 : Hid (Below w3.heap.size w3 w5) := B4.out.trans (hb.mono B4.out.size)
            clear hb HD B4
            go_wp2_with fail
            refine Calls.mono (HU.out _ B5.out) ?_
            rintro e w6 ⟨rfl, hb⟩
            have B6 : Hid (Below w3.heap.size w3 w6) := B5.out.trans (hb.mono B5.out.size)
            clear hb B5
            go_wp2_with fail
            refine Calls.mono (HU.out _ B6.out) ?_
            rintro e w7 ⟨rfl, hb⟩
            have B7 : Hid (Below w3.heap.size w3 w7) := B6.out.trans (hb.mono B6.out.size)
            clear hb B6
            go_wp2_with fail
            refine Calls.mono (HU.out _ B7.out) ?_
            rintro e w8 ⟨rfl, hb⟩
            have B8 : Hid (Below w3.heap.size w3 w8) := B7.out.trans (hb.mono B7.out.size)
            clear hb B7 HU
            go_wp2_with fail
            refine Calls.mono (HR.out _ B8.out) ?_
            rintro e w9 ⟨rfl, hb⟩
            have B9 : Hid (Below w3.heap.size w3 w9) := B8.out.trans (hb.mono B8.out.size)
            clear hb B8 HR
            go_wp2_with fail
            go_roundw
            case rel => exact ⟨j + 1, u, HJ.out.1, by have := HJ.out.2; omega, rfl, by go_num, HO.out _ B9.out⟩
            case measure => have := HJ.out; simp [intOf]; omega
          · have x2 : (u : Int) ≤ (M : Int) := by omega
            have hmx : max M u = M := by omega
            rw [hmx] at HR HO
            clear hmx hmu
            go_wp2_with fail
            refine Calls.mono (HL.out _ (Below.refl _ _)) ?_
            rintro e w4 ⟨rfl, hb⟩
            have B4 : Hid (Below w3.heap.size w3 w4) := hb
            clear hb HL
            go_wp2_with fail
            refine Calls.mono (HD.out _ B4.out) ?_
            rintro e w5 ⟨rfl, hb⟩
            have B5 : Hid (Below w3.heap.size w3 w5) := B4.out.trans (hb.mono B4.out.size)
            clear hb HD B4
            go_wp2_with fail
            refine Calls.mono (HU.out _ B5.out) ?_
            rintro e w6 ⟨rfl, hb⟩
            have B6 : Hid (Below w3.heap.size w3 w6) := B5.out.trans (hb.mono B5.out.size)
            clear hb B5
            go_wp2_with fail
            refine Calls.mono (HU.out _ B6.out) ?_
            rintro e w7 ⟨rfl, hb⟩
            have B7 : Hid (Below w3.heap.size w3 w7) := B6.out.trans (hb.mono B6.out.size)
            clear hb B6
            go_wp2_with fail
            refine Calls.mono (HU.out _ B7.out) ?_
            rintro e w8 ⟨rfl, hb⟩
            have B8 : Hid (Below w3.heap.size w3 w8) := B7.out.trans (hb.mono B7.out.size)
            clear hb B7 HU
            go_wp2_with fail
            refine Calls.mono (HR.out _ B8.out) ?_
            rintro e w9 ⟨rfl, hb⟩
            have B9 : Hid (Below w3.heap.size w3 w9) := B8.out.trans (hb.mono B8.out.size)
            clear hb B8 HR
            go_wp2_with fail
            go_roundw
            case rel => exact ⟨j + 1, M, HJ.out.1, by have := HJ.out.2; omega, rfl, by go_num, HO.out _ B9.out⟩
            case measure => have := HJ.out; simp [intOf]; omega
        · have HL : Hid (∀ w1, Below w3.heap.size w3 w1 → Calls Try.prog 15 #[.pointer (some ⟨w0.heap.size, 0, none⟩)] w1 fun e w' => e = .returned (.int .i64 n) ∧ Below w1.heap.size w1 w') := HLEN
          have HD : Hid (∀ w1, Below w3.heap.size w3 w1 → Calls Try.prog 22 #[.pointer (some ⟨w0.heap.size, 0, none⟩)] w1 fun e w' => e = .returned (.int .i64 8) ∧ Below w1.heap.size w1 w') := HDEP
          clear HLEN HDEP
          have n1 : ((n : Int) == 0) = false := by rw [beq_eq_false_iff_ne]; have := HF.out; omega
          have u1 : ((u : Int) == 0) = false := by rw [beq_eq_false_iff_ne]; have := HF.out; omega
          have u2 : u ≤ n := HF.out.1
          have u3 : (u : Int) ≤ (n : Int) := by omega
          have n2 : 128 ≤ n := HF.out.2.2.2.1 (by omega)
          have n3 : (128 : Int) ≤ (n : Int) := by omega
          rcases Nat.lt_or_ge M u with hmu | hmu
          · have x1 : decide ((M : Int) < (u : Int)) = true := by simp; omega
            have x2 : (M : Int) < (u : Int) := by omega
            have x3 : (M : Int) ≤ (u : Int) := by omega
            have hmx : max M u = u := by omega
            rw [hmx] at HR HO
            clear hmx hmu
            go_wp2_with fail
            refine Calls.mono (HL.out _ (Below.refl _ _)) ?_
            rintro e w4 ⟨rfl, hb⟩
            have B4 : Hid (Below w3.heap.size w3 w4) := hb
            clear hb HL
            go_wp2_with fail
            refine Calls.mono (HD.out _ B4.out) ?_
            rintro e w5 ⟨rfl, hb⟩
            have B5 : Hid (Below w3.heap.size w3 w5) := B4.out.trans (hb.mono B4.out.size)
            clear hb HD B4
            go_wp2_with fail
            refine Calls.mono (HU.out _ B5.out) ?_
            rintro e w6 ⟨rfl, hb⟩
            have B6 : Hid (Below w3.heap.size w3 w6) := B5.out.trans (hb.mono B5.out.size)
            clear hb B5
            go_wp2_with fail
            refine Calls.mono (HU.out _ B6.out) ?_
            rintro e w7 ⟨rfl, hb⟩
            have B7 : Hid (Below w3.heap.size w3 w7) := B6.out.trans (hb.mono B6.out.size)
            clear hb B6
            go_wp2_with fail
            refine Calls.mono (HU.out _ B7.out) ?_
            rintro e w8 ⟨rfl, hb⟩
            have B8 : Hid (Below w3.heap.size w3 w8) := B7.out.trans (hb.mono B7.out.size)
            clear hb B7 HU
            go_wp2_with fail
            refine Calls.mono (HR.out _ B8.out) ?_
            rintro e w9 ⟨rfl, hb⟩
            have B9 : Hid (Below w3.heap.size w3 w9) := B8.out.trans (hb.mono B8.out.size)
            clear hb B8 HR
            go_wp2_with fail
            go_roundw
            case rel => exact ⟨j + 1, u, HJ.out.1, by have := HJ.out.2; omega, rfl, by go_num, HO.out _ B9.out⟩
            case measure => have := HJ.out; simp [intOf]; omega
          · have x2 : (u : Int) ≤ (M : Int) := by omega
            have hmx : max M u = M := by omega
            rw [hmx] at HR HO
            clear hmx hmu
            go_wp2_with fail
            refine Calls.mono (HL.out _ (Below.refl _ _)) ?_
            rintro e w4 ⟨rfl, hb⟩
            have B4 : Hid (Below w3.heap.size w3 w4) := hb
            clear hb HL
            go_wp2_with fail
            refine Calls.mono (HD.out _ B4.out) ?_
            rintro e w5 ⟨rfl, hb⟩
            have B5 : Hid (Below w3.heap.size w3 w5) := B4.out.trans (hb.mono B4.out.size)
            clear hb HD B4
            go_wp2_with fail
            refine Calls.mono (HU.out _ B5.out) ?_
            rintro e w6 ⟨rfl, hb⟩
            have B6 : Hid (Below w3.heap.size w3 w6) := B5.out.trans (hb.mono B5.out.size)
            clear hb B5
            go_wp2_with fail
            refine Calls.mono (HU.out _ B6.out) ?_
            rintro e w7 ⟨rfl, hb⟩
            have B7 : Hid (Below w3.heap.size w3 w7) := B6.out.trans (hb.mono B6.out.size)
            clear hb B6
            go_wp2_with fail
            refine Calls.mono (HU.out _ B7.out) ?_
            rintro e w8 ⟨rfl, hb⟩
            have B8 : Hid (Below w3.heap.size w3 w8) := B7.out.trans (hb.mono B7.out.size)
            clear hb B7 HU
            go_wp2_with fail
            refine Calls.mono (HR.out _ B8.out) ?_
            rintro e w9 ⟨rfl, hb⟩
            have B9 : Hid (Below w3.heap.size w3 w9) := B8.out.trans (hb.mono B8.out.size)
            clear hb B8 HR
            go_wp2_with fail
            go_roundw
            case rel => exact ⟨j + 1, M, HJ.out.1, by have := HJ.out.2; omega, rfl, by go_num, HO.out _ B9.out⟩
            case measure => have := HJ.out; simp [intOf]; omega
      · rw [hdel] at c0
        clear hdel HPUT HCC HCB
        go_wp2_with fail
        refine Calls.mono HDEL.out ?_
        rintro e w3 ⟨⟨bb, rfl⟩, m', u, d, l, hsh⟩
        clear c0 c1 c2 c3 c4 HDEL
        obtain ⟨⟨h', o'⟩, hm', hl', hm2⟩ := hsh
        obtain ⟨n, hn⟩ : ∃ n, l.length = n := ⟨_, rfl⟩
        have HLEN : ∀ w1, Below w3.heap.size w3 w1 → Calls Try.prog 15 #[.pointer (some ⟨w0.heap.size, 0, none⟩)] w1 fun e w' => e = .returned (.int .i64 n) ∧ Below w1.heap.size w1 w' := fun w1 hb => by
          have := len_any (o'.tr.below hb)
          rwa [o'.p, hn] at this
        have HDEP : ∀ w1, Below w3.heap.size w3 w1 → Calls Try.prog 22 #[.pointer (some ⟨w0.heap.size, 0, none⟩)] w1 fun e w' => e = .returned (.int .i64 d) ∧ Below w1.heap.size w1 w' := fun w1 hb => by
          have := depth_any (o'.tr.below hb)
          rwa [o'.p] at this
        have HU : Hid (∀ w1, Below w3.heap.size w3 w1 → Calls Try.prog 23 #[.pointer (some ⟨w0.heap.size, 0, none⟩)] w1 fun e w' => e = .returned (.int .i64 u) ∧ Below w1.heap.size w1 w') := fun w1 hb => by
          have := used_any (o'.tr.below hb) (by have := o'.room; omega)
          rwa [o'.p] at this
        have HR : Hid (∀ w1, Below w3.heap.size w3 w1 → Calls Try.prog 24 #[.pointer (some ⟨w0.heap.size, 0, none⟩)] w1 fun e w' => e = .returned (.int .i64 (max M u : Nat)) ∧ Below w1.heap.size w1 w') := fun w1 hb => by
          have := room_any (o'.tr.below hb)
          rw [hm'] at this
          rwa [o'.p] at this
        have HO : Hid (∀ w9, Below w3.heap.size w3 w9 → Hid (∃ h2 u2 d2 l2, Own5 w0 w9 l2 200 h2 (max M u : Nat) u2 d2 ∧ l2.length ≤ j + 1 ∧ (max M u : Nat) ≤ j + 1)) := fun w9 hb => ⟨h', u, d, l, by rw [← hm']; exact o'.below hb, hl', by omega⟩
        have HF : Hid (u ≤ n ∧ (n = 0 ↔ d = 0) ∧ (n = 0 ↔ u = 0) ∧ (0 < d → 2 ^ (d - 1) ≤ n) ∧ n ≤ 200) := by
          have := o'.tr.shape
          rw [hn] at this hl'
          exact ⟨this.2.1, this.2.2.1, this.2.2.2.1, this.2.2.2.2.1, by have := HJ.out; omega⟩
        have hd8 : d ≤ 8 := by
          rcases Nat.lt_or_ge d 9 with h | h
          · omega
          · exfalso
            have h1 := HF.out.2.2.2.1 (by omega)
            have h2 : 2 ^ 8 ≤ 2 ^ (d - 1) := Nat.pow_le_pow_right (by omega) (by omega)
            have := HF.out.2.2.2.2
            omega
        clear o' hm' hl' hm2 hn
        rcases (by omega : d = 0 ∨ d = 1 ∨ d = 2 ∨ d = 3 ∨ d = 4 ∨ d = 5 ∨ d = 6 ∨ d = 7 ∨ d = 8) with rfl | rfl | rfl | rfl | rfl | rfl | rfl | rfl | rfl
        · have HL : Hid (∀ w1, Below w3.heap.size w3 w1 → Calls Try.prog 15 #[.pointer (some ⟨w0.heap.size, 0, none⟩)] w1 fun e w' => e = .returned (.int .i64 n) ∧ Below w1.heap.size w1 w') := HLEN
          have HD : Hid (∀ w1, Below w3.heap.size w3 w1 → Calls Try.prog 22 #[.pointer (some ⟨w0.heap.size, 0, none⟩)] w1 fun e w' => e = .returned (.int .i64 0) ∧ Below w1.heap.size w1 w') := HDEP
          clear HLEN HDEP
          obtain rfl : n = 0 := HF.out.2.1.2 rfl
          obtain rfl : u = 0 := HF.out.2.2.1.1 rfl

          have i0 : (0 : Int) ≤ (M : Int) := by omega
          have hmx : max M 0 = M := by omega
          rw [hmx] at HR HO
          clear hmx
          go_wp2_with fail
          refine Calls.mono (HL.out _ (Below.refl _ _)) ?_
          rintro e w4 ⟨rfl, hb⟩
          have B4 : Hid (Below w3.heap.size w3 w4) := hb
          clear hb HL
          go_wp2_with fail
          refine Calls.mono (HD.out _ B4.out) ?_
          rintro e w5 ⟨rfl, hb⟩
          have B5 : Hid (Below w3.heap.size w3 w5) := B4.out.trans (hb.mono B4.out.size)
          clear hb HD B4
          go_wp2_with fail
          refine Calls.mono (HU.out _ B5.out) ?_
          rintro e w6 ⟨rfl, hb⟩
          have B6 : Hid (Below w3.heap.size w3 w6) := B5.out.trans (hb.mono B5.out.size)
          clear hb B5
          go_wp2_with fail
          refine Calls.mono (HU.out _ B6.out) ?_
          rintro e w7 ⟨rfl, hb⟩
          have B7 : Hid (Below w3.heap.size w3 w7) := B6.out.trans (hb.mono B6.out.size)
          clear hb B6
          go_wp2_with fail
          refine Calls.mono (HU.out _ B7.out) ?_
          rintro e w8 ⟨rfl, hb⟩
          have B8 : Hid (Below w3.heap.size w3 w8) := B7.out.trans (hb.mono B7.out.size)
          clear hb B7 HU
          go_wp2_with fail
          refine Calls.mono (HR.out _ B8.out) ?_
          rintro e w9 ⟨rfl, hb⟩
          have B9 : Hid (Below w3.heap.size w3 w9) := B8.out.trans (hb.mono B8.out.size)
          clear hb B8 HR
          go_wp2_with fail
          go_roundw
          case rel => exact ⟨j + 1, M, HJ.out.1, by have := HJ.out.2; omega, rfl, by go_num, HO.out _ B9.out⟩
          case measure => have := HJ.out; simp [intOf]; omega
        · have HL : Hid (∀ w1, Below w3.heap.size w3 w1 → Calls Try.prog 15 #[.pointer (some ⟨w0.heap.size, 0, none⟩)] w1 fun e w' => e = .returned (.int .i64 n) ∧ Below w1.heap.size w1 w') := HLEN
          have HD : Hid (∀ w1, Below w3.heap.size w3 w1 → Calls Try.prog 22 #[.pointer (some ⟨w0.heap.size, 0, none⟩)] w1 fun e w' => e = .returned (.int .i64 1) ∧ Below w1.heap.size w1 w') := HDEP
          clear HLEN HDEP
          have n1 : ((n : Int) == 0) = false := by rw [beq_eq_false_iff_ne]; have := HF.out; omega
          have u1 : ((u : Int) == 0) = false := by rw [beq_eq_false_iff_ne]; have := HF.out; omega
          have u2 : u ≤ n := HF.out.1
          have u3 : (u : Int) ≤ (n : Int) := by omega
          have n2 : 1 ≤ n := HF.out.2.2.2.1 (by omega)
          have n3 : (1 : Int) ≤ (n : Int) := by omega
          rcases Nat.lt_or_ge M u with hmu | hmu
          · have x1 : decide ((M : Int) < (u : Int)) = true := by simp; omega
            have x2 : (M : Int) < (u : Int) := by omega
            have x3 : (M : Int) ≤ (u : Int) := by omega
            have hmx : max M u = u := by omega
            rw [hmx] at HR HO
            clear hmx hmu
            go_wp2_with fail
            refine Calls.mono (HL.out _ (Below.refl _ _)) ?_
            rintro e w4 ⟨rfl, hb⟩
            have B4 : Hid (Below w3.heap.size w3 w4) := hb
            clear hb HL
            go_wp2_with fail
            refine Calls.mono (HD.out _ B4.out) ?_
            rintro e w5 ⟨rfl, hb⟩
            have B5 : Hid (Below w3.heap.size w3 w5) := B4.out.trans (hb.mono B4.out.size)
            clear hb HD B4
            go_wp2_with fail
            refine Calls.mono (HU.out _ B5.out) ?_
            rintro e w6 ⟨rfl, hb⟩
            have B6 : Hid (Below w3.heap.size w3 w6) := B5.out.trans (hb.mono B5.out.size)
            clear hb B5
            go_wp2_with fail
            refine Calls.mono (HU.out _ B6.out) ?_
            rintro e w7 ⟨rfl, hb⟩
            have B7 : Hid (Below w3.heap.size w3 w7) := B6.out.trans (hb.mono B6.out.size)
            clear hb B6
            go_wp2_with fail
            refine Calls.mono (HU.out _ B7.out) ?_
            rintro e w8 ⟨rfl, hb⟩
            have B8 : Hid (Below w3.heap.size w3 w8) := B7.out.trans (hb.mono B7.out.size)
            clear hb B7 HU
            go_wp2_with fail
            refine Calls.mono (HR.out _ B8.out) ?_
            rintro e w9 ⟨rfl, hb⟩
            have B9 : Hid (Below w3.heap.size w3 w9) := B8.out.trans (hb.mono B8.out.size)
            clear hb B8 HR
            go_wp2_with fail
            go_roundw
            case rel => exact ⟨j + 1, u, HJ.out.1, by have := HJ.out.2; omega, rfl, by go_num, HO.out _ B9.out⟩
            case measure => have := HJ.out; simp [intOf]; omega
          · have x2 : (u : Int) ≤ (M : Int) := by omega
            have hmx : max M u = M := by omega
            rw [hmx] at HR HO
            clear hmx hmu
            go_wp2_with fail
            refine Calls.mono (HL.out _ (Below.refl _ _)) ?_
            rintro e w4 ⟨rfl, hb⟩
            have B4 : Hid (Below w3.heap.size w3 w4) := hb
            clear hb HL
            go_wp2_with fail
            refine Calls.mono (HD.out _ B4.out) ?_
            rintro e w5 ⟨rfl, hb⟩
            have B5 : Hid (Below w3.heap.size w3 w5) := B4.out.trans (hb.mono B4.out.size)
            clear hb HD B4
            go_wp2_with fail
            refine Calls.mono (HU.out _ B5.out) ?_
            rintro e w6 ⟨rfl, hb⟩
            have B6 : Hid (Below w3.heap.size w3 w6) := B5.out.trans (hb.mono B5.out.size)
            clear hb B5
            go_wp2_with fail
            refine Calls.mono (HU.out _ B6.out) ?_
            rintro e w7 ⟨rfl, hb⟩
            have B7 : Hid (Below w3.heap.size w3 w7) := B6.out.trans (hb.mono B6.out.size)
            clear hb B6
            go_wp2_with fail
            refine Calls.mono (HU.out _ B7.out) ?_
            rintro e w8 ⟨rfl, hb⟩
            have B8 : Hid (Below w3.heap.size w3 w8) := B7.out.trans (hb.mono B7.out.size)
            clear hb B7 HU
            go_wp2_with fail
            refine Calls.mono (HR.out _ B8.out) ?_
            rintro e w9 ⟨rfl, hb⟩
            have B9 : Hid (Below w3.heap.size w3 w9) := B8.out.trans (hb.mono B8.out.size)
            clear hb B8 HR
            go_wp2_with fail
            go_roundw
            case rel => exact ⟨j + 1, M, HJ.out.1, by have := HJ.out.2; omega, rfl, by go_num, HO.out _ B9.out⟩
            case measure => have := HJ.out; simp [intOf]; omega
        · have HL : Hid (∀ w1, Below w3.heap.size w3 w1 → Calls Try.prog 15 #[.pointer (some ⟨w0.heap.size, 0, none⟩)] w1 fun e w' => e = .returned (.int .i64 n) ∧ Below w1.heap.size w1 w') := HLEN
          have HD : Hid (∀ w1, Below w3.heap.size w3 w1 → Calls Try.prog 22 #[.pointer (some ⟨w0.heap.size, 0, none⟩)] w1 fun e w' => e = .returned (.int .i64 2) ∧ Below w1.heap.size w1 w') := HDEP
          clear HLEN HDEP
          have n1 : ((n : Int) == 0) = false := by rw [beq_eq_false_iff_ne]; have := HF.out; omega
          have u1 : ((u : Int) == 0) = false := by rw [beq_eq_false_iff_ne]; have := HF.out; omega
          have u2 : u ≤ n := HF.out.1
          have u3 : (u : Int) ≤ (n : Int) := by omega
          have n2 : 2 ≤ n := HF.out.2.2.2.1 (by omega)
          have n3 : (2 : Int) ≤ (n : Int) := by omega
          rcases Nat.lt_or_ge M u with hmu | hmu
          · have x1 : decide ((M : Int) < (u : Int)) = true := by simp; omega
            have x2 : (M : Int) < (u : Int) := by omega
            have x3 : (M : Int) ≤ (u : Int) := by omega
            have hmx : max M u = u := by omega
            rw [hmx] at HR HO
            clear hmx hmu
            go_wp2_with fail
            refine Calls.mono (HL.out _ (Below.refl _ _)) ?_
            rintro e w4 ⟨rfl, hb⟩
            have B4 : Hid (Below w3.heap.size w3 w4) := hb
            clear hb HL
            go_wp2_with fail
            refine Calls.mono (HD.out _ B4.out) ?_
            rintro e w5 ⟨rfl, hb⟩
            have B5 : Hid (Below w3.heap.size w3 w5) := B4.out.trans (hb.mono B4.out.size)
            clear hb HD B4
            go_wp2_with fail
            refine Calls.mono (HU.out _ B5.out) ?_
            rintro e w6 ⟨rfl, hb⟩
            have B6 : Hid (Below w3.heap.size w3 w6) := B5.out.trans (hb.mono B5.out.size)
            clear hb B5
            go_wp2_with fail
            refine Calls.mono (HU.out _ B6.out) ?_
            rintro e w7 ⟨rfl, hb⟩
            have B7 : Hid (Below w3.heap.size w3 w7) := B6.out.trans (hb.mono B6.out.size)
            clear hb B6
            go_wp2_with fail
            refine Calls.mono (HU.out _ B7.out) ?_
            rintro e w8 ⟨rfl, hb⟩
            have B8 : Hid (Below w3.heap.size w3 w8) := B7.out.trans (hb.mono B7.out.size)
            clear hb B7 HU
            go_wp2_with fail
            refine Calls.mono (HR.out _ B8.out) ?_
            rintro e w9 ⟨rfl, hb⟩
            have B9 : Hid (Below w3.heap.size w3 w9) := B8.out.trans (hb.mono B8.out.size)
            clear hb B8 HR
            go_wp2_with fail
            go_roundw
            case rel => exact ⟨j + 1, u, HJ.out.1, by have := HJ.out.2; omega, rfl, by go_num, HO.out _ B9.out⟩
            case measure => have := HJ.out; simp [intOf]; omega
          · have x2 : (u : Int) ≤ (M : Int) := by omega
            have hmx : max M u = M := by omega
            rw [hmx] at HR HO
            clear hmx hmu
            go_wp2_with fail
            refine Calls.mono (HL.out _ (Below.refl _ _)) ?_
            rintro e w4 ⟨rfl, hb⟩
            have B4 : Hid (Below w3.heap.size w3 w4) := hb
            clear hb HL
            go_wp2_with fail
            refine Calls.mono (HD.out _ B4.out) ?_
            rintro e w5 ⟨rfl, hb⟩
            have B5 : Hid (Below w3.heap.size w3 w5) := B4.out.trans (hb.mono B4.out.size)
            clear hb HD B4
            go_wp2_with fail
            refine Calls.mono (HU.out _ B5.out) ?_
            rintro e w6 ⟨rfl, hb⟩
            have B6 : Hid (Below w3.heap.size w3 w6) := B5.out.trans (hb.mono B5.out.size)
            clear hb B5
            go_wp2_with fail
            refine Calls.mono (HU.out _ B6.out) ?_
            rintro e w7 ⟨rfl, hb⟩
            have B7 : Hid (Below w3.heap.size w3 w7) := B6.out.trans (hb.mono B6.out.size)
            clear hb B6
            go_wp2_with fail
            refine Calls.mono (HU.out _ B7.out) ?_
            rintro e w8 ⟨rfl, hb⟩
            have B8 : Hid (Below w3.heap.size w3 w8) := B7.out.trans (hb.mono B7.out.size)
            clear hb B7 HU
            go_wp2_with fail
            refine Calls.mono (HR.out _ B8.out) ?_
            rintro e w9 ⟨rfl, hb⟩
            have B9 : Hid (Below w3.heap.size w3 w9) := B8.out.trans (hb.mono B8.out.size)
            clear hb B8 HR
            go_wp2_with fail
            go_roundw
            case rel => exact ⟨j + 1, M, HJ.out.1, by have := HJ.out.2; omega, rfl, by go_num, HO.out _ B9.out⟩
            case measure => have := HJ.out; simp [intOf]; omega
        · have HL : Hid (∀ w1, Below w3.heap.size w3 w1 → Calls Try.prog 15 #[.pointer (some ⟨w0.heap.size, 0, none⟩)] w1 fun e w' => e = .returned (.int .i64 n) ∧ Below w1.heap.size w1 w') := HLEN
          have HD : Hid (∀ w1, Below w3.heap.size w3 w1 → Calls Try.prog 22 #[.pointer (some ⟨w0.heap.size, 0, none⟩)] w1 fun e w' => e = .returned (.int .i64 3) ∧ Below w1.heap.size w1 w') := HDEP
          clear HLEN HDEP
          have n1 : ((n : Int) == 0) = false := by rw [beq_eq_false_iff_ne]; have := HF.out; omega
          have u1 : ((u : Int) == 0) = false := by rw [beq_eq_false_iff_ne]; have := HF.out; omega
          have u2 : u ≤ n := HF.out.1
          have u3 : (u : Int) ≤ (n : Int) := by omega
          have n2 : 4 ≤ n := HF.out.2.2.2.1 (by omega)
          have n3 : (4 : Int) ≤ (n : Int) := by omega
          rcases Nat.lt_or_ge M u with hmu | hmu
          · have x1 : decide ((M : Int) < (u : Int)) = true := by simp; omega
            have x2 : (M : Int) < (u : Int) := by omega
            have x3 : (M : Int) ≤ (u : Int) := by omega
            have hmx : max M u = u := by omega
            rw [hmx] at HR HO
            clear hmx hmu
            go_wp2_with fail
            refine Calls.mono (HL.out _ (Below.refl _ _)) ?_
            rintro e w4 ⟨rfl, hb⟩
            have B4 : Hid (Below w3.heap.size w3 w4) := hb
            clear hb HL
            go_wp2_with fail
            refine Calls.mono (HD.out _ B4.out) ?_
            rintro e w5 ⟨rfl, hb⟩
            have B5 : Hid (Below w3.heap.size w3 w5) := B4.out.trans (hb.mono B4.out.size)
            clear hb HD B4
            go_wp2_with fail
            refine Calls.mono (HU.out _ B5.out) ?_
            rintro e w6 ⟨rfl, hb⟩
            have B6 : Hid (Below w3.heap.size w3 w6) := B5.out.trans (hb.mono B5.out.size)
            clear hb B5
            go_wp2_with fail
            refine Calls.mono (HU.out _ B6.out) ?_
            rintro e w7 ⟨rfl, hb⟩
            have B7 : Hid (Below w3.heap.size w3 w7) := B6.out.trans (hb.mono B6.out.size)
            clear hb B6
            go_wp2_with fail
            refine Calls.mono (HU.out _ B7.out) ?_
            rintro e w8 ⟨rfl, hb⟩
            have B8 : Hid (Below w3.heap.size w3 w8) := B7.out.trans (hb.mono B7.out.size)
            clear hb B7 HU
            go_wp2_with fail
            refine Calls.mono (HR.out _ B8.out) ?_
            rintro e w9 ⟨rfl, hb⟩
            have B9 : Hid (Below w3.heap.size w3 w9) := B8.out.trans (hb.mono B8.out.size)
            clear hb B8 HR
            go_wp2_with fail
            go_roundw
            case rel => exact ⟨j + 1, u, HJ.out.1, by have := HJ.out.2; omega, rfl, by go_num, HO.out _ B9.out⟩
            case measure => have := HJ.out; simp [intOf]; omega
          · have x2 : (u : Int) ≤ (M : Int) := by omega
            have hmx : max M u = M := by omega
            rw [hmx] at HR HO
            clear hmx hmu
            go_wp2_with fail
            refine Calls.mono (HL.out _ (Below.refl _ _)) ?_
            rintro e w4 ⟨rfl, hb⟩
            have B4 : Hid (Below w3.heap.size w3 w4) := hb
            clear hb HL
            go_wp2_with fail
            refine Calls.mono (HD.out _ B4.out) ?_
            rintro e w5 ⟨rfl, hb⟩
            have B5 : Hid (Below w3.heap.size w3 w5) := B4.out.trans (hb.mono B4.out.size)
            clear hb HD B4
            go_wp2_with fail
            refine Calls.mono (HU.out _ B5.out) ?_
            rintro e w6 ⟨rfl, hb⟩
            have B6 : Hid (Below w3.heap.size w3 w6) := B5.out.trans (hb.mono B5.out.size)
            clear hb B5
            go_wp2_with fail
            refine Calls.mono (HU.out _ B6.out) ?_
            rintro e w7 ⟨rfl, hb⟩
            have B7 : Hid (Below w3.heap.size w3 w7) := B6.out.trans (hb.mono B6.out.size)
            clear hb B6
            go_wp2_with fail
            refine Calls.mono (HU.out _ B7.out) ?_
            rintro e w8 ⟨rfl, hb⟩
            have B8 : Hid (Below w3.heap.size w3 w8) := B7.out.trans (hb.mono B7.out.size)
            clear hb B7 HU
            go_wp2_with fail
            refine Calls.mono (HR.out _ B8.out) ?_
            rintro e w9 ⟨rfl, hb⟩
            have B9 : Hid (Below w3.heap.size w3 w9) := B8.out.trans (hb.mono B8.out.size)
            clear hb B8 HR
            go_wp2_with fail
            go_roundw
            case rel => exact ⟨j + 1, M, HJ.out.1, by have := HJ.out.2; omega, rfl, by go_num, HO.out _ B9.out⟩
            case measure => have := HJ.out; simp [intOf]; omega
        · have HL : Hid (∀ w1, Below w3.heap.size w3 w1 → Calls Try.prog 15 #[.pointer (some ⟨w0.heap.size, 0, none⟩)] w1 fun e w' => e = .returned (.int .i64 n) ∧ Below w1.heap.size w1 w') := HLEN
          have HD : Hid (∀ w1, Below w3.heap.size w3 w1 → Calls Try.prog 22 #[.pointer (some ⟨w0.heap.size, 0, none⟩)] w1 fun e w' => e = .returned (.int .i64 4) ∧ Below w1.heap.size w1 w') := HDEP
          clear HLEN HDEP
          have n1 : ((n : Int) == 0) = false := by rw [beq_eq_false_iff_ne]; have := HF.out; omega
          have u1 : ((u : Int) == 0) = false := by rw [beq_eq_false_iff_ne]; have := HF.out; omega
          have u2 : u ≤ n := HF.out.1
          have u3 : (u : Int) ≤ (n : Int) := by omega
          have n2 : 8 ≤ n := HF.out.2.2.2.1 (by omega)
          have n3 : (8 : Int) ≤ (n : Int) := by omega
          rcases Nat.lt_or_ge M u with hmu | hmu
          · have x1 : decide ((M : Int) < (u : Int)) = true := by simp; omega
            have x2 : (M : Int) < (u : Int) := by omega
            have x3 : (M : Int) ≤ (u : Int) := by omega
            have hmx : max M u = u := by omega
            rw [hmx] at HR HO
            clear hmx hmu
            go_wp2_with fail
            refine Calls.mono (HL.out _ (Below.refl _ _)) ?_
            rintro e w4 ⟨rfl, hb⟩
            have B4 : Hid (Below w3.heap.size w3 w4) := hb
            clear hb HL
            go_wp2_with fail
            refine Calls.mono (HD.out _ B4.out) ?_
            rintro e w5 ⟨rfl, hb⟩
            have B5 : Hid (Below w3.heap.size w3 w5) := B4.out.trans (hb.mono B4.out.size)
            clear hb HD B4
            go_wp2_with fail
            refine Calls.mono (HU.out _ B5.out) ?_
            rintro e w6 ⟨rfl, hb⟩
            have B6 : Hid (Below w3.heap.size w3 w6) := B5.out.trans (hb.mono B5.out.size)
            clear hb B5
            go_wp2_with fail
            refine Calls.mono (HU.out _ B6.out) ?_
            rintro e w7 ⟨rfl, hb⟩
            have B7 : Hid (Below w3.heap.size w3 w7) := B6.out.trans (hb.mono B6.out.size)
            clear hb B6
            go_wp2_with fail
            refine Calls.mono (HU.out _ B7.out) ?_
            rintro e w8 ⟨rfl, hb⟩
            have B8 : Hid (Below w3.heap.size w3 w8) := B7.out.trans (hb.mono B7.out.size)
            clear hb B7 HU
            go_wp2_with fail
            refine Calls.mono (HR.out _ B8.out) ?_
            rintro e w9 ⟨rfl, hb⟩
            have B9 : Hid (Below w3.heap.size w3 w9) := B8.out.trans (hb.mono B8.out.size)
            clear hb B8 HR
            go_wp2_with fail
            go_roundw
            case rel => exact ⟨j + 1, u, HJ.out.1, by have := HJ.out.2; omega, rfl, by go_num, HO.out _ B9.out⟩
            case measure => have := HJ.out; simp [intOf]; omega
          · have x2 : (u : Int) ≤ (M : Int) := by omega
            have hmx : max M u = M := by omega
            rw [hmx] at HR HO
            clear hmx hmu
            go_wp2_with fail
            refine Calls.mono (HL.out _ (Below.refl _ _)) ?_
            rintro e w4 ⟨rfl, hb⟩
            have B4 : Hid (Below w3.heap.size w3 w4) := hb
            clear hb HL
            go_wp2_with fail
            refine Calls.mono (HD.out _ B4.out) ?_
            rintro e w5 ⟨rfl, hb⟩
            have B5 : Hid (Below w3.heap.size w3 w5) := B4.out.trans (hb.mono B4.out.size)
            clear hb HD B4
            go_wp2_with fail
            refine Calls.mono (HU.out _ B5.out) ?_
            rintro e w6 ⟨rfl, hb⟩
            have B6 : Hid (Below w3.heap.size w3 w6) := B5.out.trans (hb.mono B5.out.size)
            clear hb B5
            go_wp2_with fail
            refine Calls.mono (HU.out _ B6.out) ?_
            rintro e w7 ⟨rfl, hb⟩
            have B7 : Hid (Below w3.heap.size w3 w7) := B6.out.trans (hb.mono B6.out.size)
            clear hb B6
            go_wp2_with fail
            refine Calls.mono (HU.out _ B7.out) ?_
            rintro e w8 ⟨rfl, hb⟩
            have B8 : Hid (Below w3.heap.size w3 w8) := B7.out.trans (hb.mono B7.out.size)
            clear hb B7 HU
            go_wp2_with fail
            refine Calls.mono (HR.out _ B8.out) ?_
            rintro e w9 ⟨rfl, hb⟩
            have B9 : Hid (Below w3.heap.size w3 w9) := B8.out.trans (hb.mono B8.out.size)
            clear hb B8 HR
            go_wp2_with fail
            go_roundw
            case rel => exact ⟨j + 1, M, HJ.out.1, by have := HJ.out.2; omega, rfl, by go_num, HO.out _ B9.out⟩
            case measure => have := HJ.out; simp [intOf]; omega
        · have HL : Hid (∀ w1, Below w3.heap.size w3 w1 → Calls Try.prog 15 #[.pointer (some ⟨w0.heap.size, 0, none⟩)] w1 fun e w' => e = .returned (.int .i64 n) ∧ Below w1.heap.size w1 w') := HLEN
          have HD : Hid (∀ w1, Below w3.heap.size w3 w1 → Calls Try.prog 22 #[.pointer (some ⟨w0.heap.size, 0, none⟩)] w1 fun e w' => e = .returned (.int .i64 5) ∧ Below w1.heap.size w1 w') := HDEP
          clear HLEN HDEP
          have n1 : ((n : Int) == 0) = false := by rw [beq_eq_false_iff_ne]; have := HF.out; omega
          have u1 : ((u : Int) == 0) = false := by rw [beq_eq_false_iff_ne]; have := HF.out; omega
          have u2 : u ≤ n := HF.out.1
          have u3 : (u : Int) ≤ (n : Int) := by omega
          have n2 : 16 ≤ n := HF.out.2.2.2.1 (by omega)
          have n3 : (16 : Int) ≤ (n : Int) := by omega
          rcases Nat.lt_or_ge M u with hmu | hmu
          · have x1 : decide ((M : Int) < (u : Int)) = true := by simp; omega
            have x2 : (M : Int) < (u : Int) := by omega
            have x3 : (M : Int) ≤ (u : Int) := by omega
            have hmx : max M u = u := by omega
            rw [hmx] at HR HO
            clear hmx hmu
            go_wp2_with fail
            refine Calls.mono (HL.out _ (Below.refl _ _)) ?_
            rintro e w4 ⟨rfl, hb⟩
            have B4 : Hid (Below w3.heap.size w3 w4) := hb
            clear hb HL
            go_wp2_with fail
            refine Calls.mono (HD.out _ B4.out) ?_
            rintro e w5 ⟨rfl, hb⟩
            have B5 : Hid (Below w3.heap.size w3 w5) := B4.out.trans (hb.mono B4.out.size)
            clear hb HD B4
            go_wp2_with fail
            refine Calls.mono (HU.out _ B5.out) ?_
            rintro e w6 ⟨rfl, hb⟩
            have B6 : Hid (Below w3.heap.size w3 w6) := B5.out.trans (hb.mono B5.out.size)
            clear hb B5
            go_wp2_with fail
            refine Calls.mono (HU.out _ B6.out) ?_
            rintro e w7 ⟨rfl, hb⟩
            have B7 : Hid (Below w3.heap.size w3 w7) := B6.out.trans (hb.mono B6.out.size)
            clear hb B6
            go_wp2_with fail
            refine Calls.mono (HU.out _ B7.out) ?_
            rintro e w8 ⟨rfl, hb⟩
            have B8 : Hid (Below w3.heap.size w3 w8) := B7.out.trans (hb.mono B7.out.size)
            clear hb B7 HU
            go_wp2_with fail
            refine Calls.mono (HR.out _ B8.out) ?_
            rintro e w9 ⟨rfl, hb⟩
            have B9 : Hid (Below w3.heap.size w3 w9) := B8.out.trans (hb.mono B8.out.size)
            clear hb B8 HR
            go_wp2_with fail
            go_roundw
            case rel => exact ⟨j + 1, u, HJ.out.1, by have := HJ.out.2; omega, rfl, by go_num, HO.out _ B9.out⟩
            case measure => have := HJ.out; simp [intOf]; omega
          · have x2 : (u : Int) ≤ (M : Int) := by omega
            have hmx : max M u = M := by omega
            rw [hmx] at HR HO
            clear hmx hmu
            go_wp2_with fail
            refine Calls.mono (HL.out _ (Below.refl _ _)) ?_
            rintro e w4 ⟨rfl, hb⟩
            have B4 : Hid (Below w3.heap.size w3 w4) := hb
            clear hb HL
            go_wp2_with fail
            refine Calls.mono (HD.out _ B4.out) ?_
            rintro e w5 ⟨rfl, hb⟩
            have B5 : Hid (Below w3.heap.size w3 w5) := B4.out.trans (hb.mono B4.out.size)
            clear hb HD B4
            go_wp2_with fail
            refine Calls.mono (HU.out _ B5.out) ?_
            rintro e w6 ⟨rfl, hb⟩
            have B6 : Hid (Below w3.heap.size w3 w6) := B5.out.trans (hb.mono B5.out.size)
            clear hb B5
            go_wp2_with fail
            refine Calls.mono (HU.out _ B6.out) ?_
            rintro e w7 ⟨rfl, hb⟩
            have B7 : Hid (Below w3.heap.size w3 w7) := B6.out.trans (hb.mono B6.out.size)
            clear hb B6
            go_wp2_with fail
            refine Calls.mono (HU.out _ B7.out) ?_
            rintro e w8 ⟨rfl, hb⟩
            have B8 : Hid (Below w3.heap.size w3 w8) := B7.out.trans (hb.mono B7.out.size)
            clear hb B7 HU
            go_wp2_with fail
            refine Calls.mono (HR.out _ B8.out) ?_
            rintro e w9 ⟨rfl, hb⟩
            have B9 : Hid (Below w3.heap.size w3 w9) := B8.out.trans (hb.mono B8.out.size)
            clear hb B8 HR
            go_wp2_with fail
            go_roundw
            case rel => exact ⟨j + 1, M, HJ.out.1, by have := HJ.out.2; omega, rfl, by go_num, HO.out _ B9.out⟩
            case measure => have := HJ.out; simp [intOf]; omega
        · have HL : Hid (∀ w1, Below w3.heap.size w3 w1 → Calls Try.prog 15 #[.pointer (some ⟨w0.heap.size, 0, none⟩)] w1 fun e w' => e = .returned (.int .i64 n) ∧ Below w1.heap.size w1 w') := HLEN
          have HD : Hid (∀ w1, Below w3.heap.size w3 w1 → Calls Try.prog 22 #[.pointer (some ⟨w0.heap.size, 0, none⟩)] w1 fun e w' => e = .returned (.int .i64 6) ∧ Below w1.heap.size w1 w') := HDEP
          clear HLEN HDEP
          have n1 : ((n : Int) == 0) = false := by rw [beq_eq_false_iff_ne]; have := HF.out; omega
          have u1 : ((u : Int) == 0) = false := by rw [beq_eq_false_iff_ne]; have := HF.out; omega
          have u2 : u ≤ n := HF.out.1
          have u3 : (u : Int) ≤ (n : Int) := by omega
          have n2 : 32 ≤ n := HF.out.2.2.2.1 (by omega)
          have n3 : (32 : Int) ≤ (n : Int) := by omega
          rcases Nat.lt_or_ge M u with hmu | hmu
          · have x1 : decide ((M : Int) < (u : Int)) = true := by simp; omega
            have x2 : (M : Int) < (u : Int) := by omega
            have x3 : (M : Int) ≤ (u : Int) := by omega
            have hmx : max M u = u := by omega
            rw [hmx] at HR HO
            clear hmx hmu
            go_wp2_with fail
            refine Calls.mono (HL.out _ (Below.refl _ _)) ?_
            rintro e w4 ⟨rfl, hb⟩
            have B4 : Hid (Below w3.heap.size w3 w4) := hb
            clear hb HL
            go_wp2_with fail
            refine Calls.mono (HD.out _ B4.out) ?_
            rintro e w5 ⟨rfl, hb⟩
            have B5 : Hid (Below w3.heap.size w3 w5) := B4.out.trans (hb.mono B4.out.size)
            clear hb HD B4
            go_wp2_with fail
            refine Calls.mono (HU.out _ B5.out) ?_
            rintro e w6 ⟨rfl, hb⟩
            have B6 : Hid (Below w3.heap.size w3 w6) := B5.out.trans (hb.mono B5.out.size)
            clear hb B5
            go_wp2_with fail
            refine Calls.mono (HU.out _ B6.out) ?_
            rintro e w7 ⟨rfl, hb⟩
            have B7 : Hid (Below w3.heap.size w3 w7) := B6.out.trans (hb.mono B6.out.size)
            clear hb B6
            go_wp2_with fail
            refine Calls.mono (HU.out _ B7.out) ?_
            rintro e w8 ⟨rfl, hb⟩
            have B8 : Hid (Below w3.heap.size w3 w8) := B7.out.trans (hb.mono B7.out.size)
            clear hb B7 HU
            go_wp2_with fail
            refine Calls.mono (HR.out _ B8.out) ?_
            rintro e w9 ⟨rfl, hb⟩
            have B9 : Hid (Below w3.heap.size w3 w9) := B8.out.trans (hb.mono B8.out.size)
            clear hb B8 HR
            go_wp2_with fail
            go_roundw
            case rel => exact ⟨j + 1, u, HJ.out.1, by have := HJ.out.2; omega, rfl, by go_num, HO.out _ B9.out⟩
            case measure => have := HJ.out; simp [intOf]; omega
          · have x2 : (u : Int) ≤ (M : Int) := by omega
            have hmx : max M u = M := by omega
            rw [hmx] at HR HO
            clear hmx hmu
            go_wp2_with fail
            refine Calls.mono (HL.out _ (Below.refl _ _)) ?_
            rintro e w4 ⟨rfl, hb⟩
            have B4 : Hid (Below w3.heap.size w3 w4) := hb
            clear hb HL
            go_wp2_with fail
            refine Calls.mono (HD.out _ B4.out) ?_
            rintro e w5 ⟨rfl, hb⟩
            have B5 : Hid (Below w3.heap.size w3 w5) := B4.out.trans (hb.mono B4.out.size)
            clear hb HD B4
            go_wp2_with fail
            refine Calls.mono (HU.out _ B5.out) ?_
            rintro e w6 ⟨rfl, hb⟩
            have B6 : Hid (Below w3.heap.size w3 w6) := B5.out.trans (hb.mono B5.out.size)
            clear hb B5
            go_wp2_with fail
            refine Calls.mono (HU.out _ B6.out) ?_
            rintro e w7 ⟨rfl, hb⟩
            have B7 : Hid (Below w3.heap.size w3 w7) := B6.out.trans (hb.mono B6.out.size)
            clear hb B6
            go_wp2_with fail
            refine Calls.mono (HU.out _ B7.out) ?_
            rintro e w8 ⟨rfl, hb⟩
            have B8 : Hid (Below w3.heap.size w3 w8) := B7.out.trans (hb.mono B7.out.size)
            clear hb B7 HU
            go_wp2_with fail
            refine Calls.mono (HR.out _ B8.out) ?_
            rintro e w9 ⟨rfl, hb⟩
            have B9 : Hid (Below w3.heap.size w3 w9) := B8.out.trans (hb.mono B8.out.size)
            clear hb B8 HR
            go_wp2_with fail
            go_roundw
            case rel => exact ⟨j + 1, M, HJ.out.1, by have := HJ.out.2; omega, rfl, by go_num, HO.out _ B9.out⟩
            case measure => have := HJ.out; simp [intOf]; omega
        · have HL : Hid (∀ w1, Below w3.heap.size w3 w1 → Calls Try.prog 15 #[.pointer (some ⟨w0.heap.size, 0, none⟩)] w1 fun e w' => e = .returned (.int .i64 n) ∧ Below w1.heap.size w1 w') := HLEN
          have HD : Hid (∀ w1, Below w3.heap.size w3 w1 → Calls Try.prog 22 #[.pointer (some ⟨w0.heap.size, 0, none⟩)] w1 fun e w' => e = .returned (.int .i64 7) ∧ Below w1.heap.size w1 w') := HDEP
          clear HLEN HDEP
          have n1 : ((n : Int) == 0) = false := by rw [beq_eq_false_iff_ne]; have := HF.out; omega
          have u1 : ((u : Int) == 0) = false := by rw [beq_eq_false_iff_ne]; have := HF.out; omega
          have u2 : u ≤ n := HF.out.1
          have u3 : (u : Int) ≤ (n : Int) := by omega
          have n2 : 64 ≤ n := HF.out.2.2.2.1 (by omega)
          have n3 : (64 : Int) ≤ (n : Int) := by omega
          rcases Nat.lt_or_ge M u with hmu | hmu
          · have x1 : decide ((M : Int) < (u : Int)) = true := by simp; omega
            have x2 : (M : Int) < (u : Int) := by omega
            have x3 : (M : Int) ≤ (u : Int) := by omega
            have hmx : max M u = u := by omega
            rw [hmx] at HR HO
            clear hmx hmu
            go_wp2_with fail
            refine Calls.mono (HL.out _ (Below.refl _ _)) ?_
            rintro e w4 ⟨rfl, hb⟩
            have B4 : Hid (Below w3.heap.size w3 w4) := hb
            clear hb HL
            go_wp2_with fail
            refine Calls.mono (HD.out _ B4.out) ?_
            rintro e w5 ⟨rfl, hb⟩
            have B5 : Hid (Below w3.heap.size w3 w5) := B4.out.trans (hb.mono B4.out.size)
            clear hb HD B4
            go_wp2_with fail
            refine Calls.mono (HU.out _ B5.out) ?_
            rintro e w6 ⟨rfl, hb⟩
            have B6 : Hid (Below w3.heap.size w3 w6) := B5.out.trans (hb.mono B5.out.size)
            clear hb B5
            go_wp2_with fail
            refine Calls.mono (HU.out _ B6.out) ?_
            rintro e w7 ⟨rfl, hb⟩
            have B7 : Hid (Below w3.heap.size w3 w7) := B6.out.trans (hb.mono B6.out.size)
            clear hb B6
            go_wp2_with fail
            refine Calls.mono (HU.out _ B7.out) ?_
            rintro e w8 ⟨rfl, hb⟩
            have B8 : Hid (Below w3.heap.size w3 w8) := B7.out.trans (hb.mono B7.out.size)
            clear hb B7 HU
            go_wp2_with fail
            refine Calls.mono (HR.out _ B8.out) ?_
            rintro e w9 ⟨rfl, hb⟩
            have B9 : Hid (Below w3.heap.size w3 w9) := B8.out.trans (hb.mono B8.out.size)
            clear hb B8 HR
            go_wp2_with fail
            go_roundw
            case rel => exact ⟨j + 1, u, HJ.out.1, by have := HJ.out.2; omega, rfl, by go_num, HO.out _ B9.out⟩
            case measure => have := HJ.out; simp [intOf]; omega
          · have x2 : (u : Int) ≤ (M : Int) := by omega
            have hmx : max M u = M := by omega
            rw [hmx] at HR HO
            clear hmx hmu
            go_wp2_with fail
            refine Calls.mono (HL.out _ (Below.refl _ _)) ?_
            rintro e w4 ⟨rfl, hb⟩
            have B4 : Hid (Below w3.heap.size w3 w4) := hb
            clear hb HL
            go_wp2_with fail
            refine Calls.mono (HD.out _ B4.out) ?_
            rintro e w5 ⟨rfl, hb⟩
            have B5 : Hid (Below w3.heap.size w3 w5) := B4.out.trans (hb.mono B4.out.size)
            clear hb HD B4
            go_wp2_with fail
            refine Calls.mono (HU.out _ B5.out) ?_
            rintro e w6 ⟨rfl, hb⟩
            have B6 : Hid (Below w3.heap.size w3 w6) := B5.out.trans (hb.mono B5.out.size)
            clear hb B5
            go_wp2_with fail
            refine Calls.mono (HU.out _ B6.out) ?_
            rintro e w7 ⟨rfl, hb⟩
            have B7 : Hid (Below w3.heap.size w3 w7) := B6.out.trans (hb.mono B6.out.size)
            clear hb B6
            go_wp2_with fail
            refine Calls.mono (HU.out _ B7.out) ?_
            rintro e w8 ⟨rfl, hb⟩
            have B8 : Hid (Below w3.heap.size w3 w8) := B7.out.trans (hb.mono B7.out.size)
            clear hb B7 HU
            go_wp2_with fail
            refine Calls.mono (HR.out _ B8.out) ?_
            rintro e w9 ⟨rfl, hb⟩
            have B9 : Hid (Below w3.heap.size w3 w9) := B8.out.trans (hb.mono B8.out.size)
            clear hb B8 HR
            go_wp2_with fail
            go_roundw
            case rel => exact ⟨j + 1, M, HJ.out.1, by have := HJ.out.2; omega, rfl, by go_num, HO.out _ B9.out⟩
            case measure => have := HJ.out; simp [intOf]; omega
        · have HL : Hid (∀ w1, Below w3.heap.size w3 w1 → Calls Try.prog 15 #[.pointer (some ⟨w0.heap.size, 0, none⟩)] w1 fun e w' => e = .returned (.int .i64 n) ∧ Below w1.heap.size w1 w') := HLEN
          have HD : Hid (∀ w1, Below w3.heap.size w3 w1 → Calls Try.prog 22 #[.pointer (some ⟨w0.heap.size, 0, none⟩)] w1 fun e w' => e = .returned (.int .i64 8) ∧ Below w1.heap.size w1 w') := HDEP
          clear HLEN HDEP
          have n1 : ((n : Int) == 0) = false := by rw [beq_eq_false_iff_ne]; have := HF.out; omega
          have u1 : ((u : Int) == 0) = false := by rw [beq_eq_false_iff_ne]; have := HF.out; omega
          have u2 : u ≤ n := HF.out.1
          have u3 : (u : Int) ≤ (n : Int) := by omega
          have n2 : 128 ≤ n := HF.out.2.2.2.1 (by omega)
          have n3 : (128 : Int) ≤ (n : Int) := by omega
          rcases Nat.lt_or_ge M u with hmu | hmu
          · have x1 : decide ((M : Int) < (u : Int)) = true := by simp; omega
            have x2 : (M : Int) < (u : Int) := by omega
            have x3 : (M : Int) ≤ (u : Int) := by omega
            have hmx : max M u = u := by omega
            rw [hmx] at HR HO
            clear hmx hmu
            go_wp2_with fail
            refine Calls.mono (HL.out _ (Below.refl _ _)) ?_
            rintro e w4 ⟨rfl, hb⟩
            have B4 : Hid (Below w3.heap.size w3 w4) := hb
            clear hb HL
            go_wp2_with fail
            refine Calls.mono (HD.out _ B4.out) ?_
            rintro e w5 ⟨rfl, hb⟩
            have B5 : Hid (Below w3.heap.size w3 w5) := B4.out.trans (hb.mono B4.out.size)
            clear hb HD B4
            go_wp2_with fail
            refine Calls.mono (HU.out _ B5.out) ?_
            rintro e w6 ⟨rfl, hb⟩
            have B6 : Hid (Below w3.heap.size w3 w6) := B5.out.trans (hb.mono B5.out.size)
            clear hb B5
            go_wp2_with fail
            refine Calls.mono (HU.out _ B6.out) ?_
            rintro e w7 ⟨rfl, hb⟩
            have B7 : Hid (Below w3.heap.size w3 w7) := B6.out.trans (hb.mono B6.out.size)
            clear hb B6
            go_wp2_with fail
            refine Calls.mono (HU.out _ B7.out) ?_
            rintro e w8 ⟨rfl, hb⟩
            have B8 : Hid (Below w3.heap.size w3 w8) := B7.out.trans (hb.mono B7.out.size)
            clear hb B7 HU
            go_wp2_with fail
            refine Calls.mono (HR.out _ B8.out) ?_
            rintro e w9 ⟨rfl, hb⟩
            have B9 : Hid (Below w3.heap.size w3 w9) := B8.out.trans (hb.mono B8.out.size)
            clear hb B8 HR
            go_wp2_with fail
            go_roundw
            case rel => exact ⟨j + 1, u, HJ.out.1, by have := HJ.out.2; omega, rfl, by go_num, HO.out _ B9.out⟩
            case measure => have := HJ.out; simp [intOf]; omega
          · have x2 : (u : Int) ≤ (M : Int) := by omega
            have hmx : max M u = M := by omega
            rw [hmx] at HR HO
            clear hmx hmu
            go_wp2_with fail
            refine Calls.mono (HL.out _ (Below.refl _ _)) ?_
            rintro e w4 ⟨rfl, hb⟩
            have B4 : Hid (Below w3.heap.size w3 w4) := hb
            clear hb HL
            go_wp2_with fail
            refine Calls.mono (HD.out _ B4.out) ?_
            rintro e w5 ⟨rfl, hb⟩
            have B5 : Hid (Below w3.heap.size w3 w5) := B4.out.trans (hb.mono B4.out.size)
            clear hb HD B4
            go_wp2_with fail
            refine Calls.mono (HU.out _ B5.out) ?_
            rintro e w6 ⟨rfl, hb⟩
            have B6 : Hid (Below w3.heap.size w3 w6) := B5.out.trans (hb.mono B5.out.size)
            clear hb B5
            go_wp2_with fail
            refine Calls.mono (HU.out _ B6.out) ?_
            rintro e w7 ⟨rfl, hb⟩
            have B7 : Hid (Below w3.heap.size w3 w7) := B6.out.trans (hb.mono B6.out.size)
            clear hb B6
            go_wp2_with fail
            refine Calls.mono (HU.out _ B7.out) ?_
            rintro e w8 ⟨rfl, hb⟩
            have B8 : Hid (Below w3.heap.size w3 w8) := B7.out.trans (hb.mono B7.out.size)
            clear hb B7 HU
            go_wp2_with fail
            refine Calls.mono (HR.out _ B8.out) ?_
            rintro e w9 ⟨rfl, hb⟩
            have B9 : Hid (Below w3.heap.size w3 w9) := B8.out.trans (hb.mono B8.out.size)
            clear hb B8 HR
            go_wp2_with fail
            go_roundw
            case rel => exact ⟨j + 1, M, HJ.out.1, by have := HJ.out.2; omega, rfl, by go_num, HO.out _ B9.out⟩
            case measure => have := HJ.out; simp [intOf]; omega
    · have HBE : Hid (Below w.heap.size w wr) := by
        obtain ⟨h, u0, d0, l0, o, _⟩ := HO.out
        exact HB0.out.trans (o.blw.mono HB0.out.size)
      clear HO
      by_cases h2 : j < xs.length
      · obtain rfl : j = 200 := by omega
        have j1 : ((200 : Nat) : Int) < (xs.length : Int) := by omega
        have j1' : (200 : Int) < (xs.length : Int) := by omega
        have j1'' : 200 < xs.length := by omega
        clear h1 h2 hj hj2
        go_wp2_with fail
        go_ret
        exact ⟨rfl, HBE.out⟩
      · obtain rfl : j = xs.length := by omega
        clear h1 h2 hj hj2
        go_wp2_with fail
        go_ret
        exact ⟨rfl, HBE.out⟩
end Go.Proofs.Ytmagnpcdnhijlaa.Val
/- Behind each step of any script (of its first 200 acts) a tree is no deeper than its keys allow, has no more nodes than keys, and has room for no more than there were. No conditions. -/
namespace Go.Proofs.Ytmagnpcdnhijlaa.Val
open Go.ChangeShapes Go.WideShapes Go.ChangeAt Go.RowKit
open Go.ChangeMaps (open_string)

set_option maxRecDepth 100000 in
theorem tshapes_lifted (os : Os) (started : os.Started) (H : Type) (enc : TypeId × Value → H) :
    ReturnsInHanded {} Try.checked os 6 .any (Rows.treeShapesSpec.pre6 enc Try.prog Try.f6 Rows.treeShapesRow.domain false) (Rows.treeShapesSpec.post enc Try.prog Try.f6 false true false false) := by
  refine returnsInHanded_of_change (C := Try.checked) own started (by kernel_rfl) Try.func6
    (ChangeSpec.witness6 (enc := enc) (C := Try.checked) false ⟨#[], #[.slice none 0 0], []⟩ 8 (by kernel_rfl) (by kernel_rfl) (by kernel_rfl) (by kernel_rfl)) ?_
  intro W base args ds gs before hval0 hW _ _
  have hval : ∀ (j : Nat) t v, Try.f6.params[j]? = some t → args[j]? = some v → Value.okWide Try.prog W .any base t v := hval0
  have hW' := hW
  obtain ⟨p, q, hA0, hV, rfl, hfz, hnd⟩ := hW
  have hA : DataW.TrodAll enc Try.prog W 0 (fun _ => true) true Try.f6.params.toList args.toList ds p := hA0
  rw [Try.params6] at hA hval
  obtain ⟨v0, vs0, d0, ds0, p0, q0, hargs, rfl, rfl, h0, r0⟩ := trodAll_cons hA
  obtain ⟨rfl, rfl, rfl⟩ := trodAll_nil r0
  obtain rfl : args = #[v0] := by cases args; simp_all
  obtain ⟨rfl, rfl⟩ := trodVars_none hV
  have k0 := h0
  have lt0 : ∀ x ∈ p0, x.block < W.heap.size := by obtain ⟨m, hm⟩ := k0; exact DataW.trod_lt m _ _ _ hm
  obtain ⟨a0, len0, cap0, rfl⟩ := okWide_slice Try.underlying22 (hval 0 22 v0 rfl rfl)
  obtain ⟨l0, w0, o0⟩ := open_acts h0 rfl
  clear hA0 hval0
  refine (tshapes_walk _ _ W w0 o0).mono fun e W' ⟨he, bel⟩ => ?_
  subst he
  exact ⟨_, rfl, _, _, _, [], _, [], hW', trodAll_mk1 (shut_bool Try.underlying4 _), (trodAll_cons_mk (Below.trod laidOut (by kernel_rfl) (of_decide_eq_true (by kernel_rfl)) k0 bel lt0) trodAll_mk0), rfl, bel.frame _, fun h => by cases h⟩

/-- The statement. -/
theorem tshapes_said : Rows.TreeShapesSaid :=
  OpenClaim.holds_of_wide 6 Try.f6 rfl rfl rfl rfl rfl rfl rfl ⟨rfl, rfl, rfl, rfl, rfl⟩ rfl rfl rfl rfl rfl (by kernel_rfl) Try.func6 (by kernel_rfl)
    (of_decide_eq_true (by kernel_rfl)) (by unfold Func.isWrapper; first | (rw [if_pos (by decide +kernel)]; kernel_rfl) | (rw [if_neg (by decide +kernel)]; exact ⟨rfl, rfl⟩))
    (fun os started H enc _ => tshapes_lifted os started H enc)
end Go.Proofs.Ytmagnpcdnhijlaa.Val
