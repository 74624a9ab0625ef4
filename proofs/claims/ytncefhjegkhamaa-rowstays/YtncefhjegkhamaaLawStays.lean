/- The law RowStays answers true for any table, row and sets. -/
import Derived.Test.YtncefhjegkhamaaLawSame
import Derived.Test.YtncefhjegkhamaaUpdFacts
namespace Go.Proofs.Ytncefhjegkhamaa.Val
open Go.RowKit

theorem eql_self (x : Val) : ∀ w, (binOp .neq 40 (.agg #[.bool x.t, .int .i64 x.n, .string x.s]) (.agg #[.bool x.t, .int .i64 x.n, .string x.s])).run Try.prog w = .ok (.bool false) w := fun w => by
  have := neq_V x x w
  rw [eqV_iff.2 rfl] at this
  exact this
/-- Is one of the first sets a column's? -/
def SetOf (l : List SetP) (i j : Nat) (b : Bool) : Prop := b = true ↔ ∃ m, ∃ h : m < l.length, m < j ∧ l[m].col = (i : Int)
theorem SetOf.zero (l : List SetP) (i : Nat) : SetOf l i 0 false := by simp [SetOf]
theorem SetOf.yes {l : List SetP} {i j : Nat} (h : SetOf l i j true) : SetOf l i (j + 1) true := by
  obtain ⟨m, hm, hlt, e⟩ := h.1 rfl
  exact ⟨fun _ => ⟨m, hm, by omega, e⟩, fun _ => rfl⟩
theorem SetOf.next {l : List SetP} {i j : Nat} (h : SetOf l i j false) (hj : j < l.length) : SetOf l i (j + 1) (l[j].col == (i : Int)) := by
  refine ⟨fun e => ⟨j, hj, by omega, eq_of_beq e⟩, fun ⟨m, hm, hlt, e⟩ => ?_⟩
  by_cases e' : m = j
  · subst e'; exact beq_iff_eq.2 e
  · exact absurd (h.2 ⟨m, hm, by omega, e⟩) (by simp)
theorem SetOf.no {l : List SetP} {i j : Nat} (h : SetOf l i j false) (hj : l.length ≤ j) : ∀ s ∈ l, s.col ≠ (i : Int) := fun s hs e => by
  obtain ⟨k, hk, rfl⟩ := List.mem_iff_getElem.1 hs
  exact absurd (h.2 ⟨k, hk, by omega, e⟩) (by simp)
set_option maxHeartbeats 2000000 in
theorem stays_walk (vc vr vs : Value) (cols : List Bool) (xs : List Val) (l : List SetP) (w : World) (hc : BoolsIn w vc cols) (hr : RowIn w vr xs) (hs : SetsIn w vs l) (ho : RowOk xs) (hso : SetsOk l) :
    Calls Try.prog 6 #[.agg #[vc], vr, vs] w fun e w' => e = .returned (.bool true) ∧ Below w.heap.size w w' := by
  have H0 : Hid (∀ w1, Calls Try.prog 10 #[] w1 fun e w' => e = .returned (.bool true) ∧ Below w1.heap.size w1 w') := awake_any
  obtain ⟨lg, hlg⟩ : ∃ lg, (decide (1000 < cols.length) || decide (1000 < xs.length) || decide (1000 < l.length)) = lg := ⟨_, rfl⟩
  have H1 : Hid (∀ w1, Below w.heap.size w w1 → Calls Try.prog 11 #[.agg #[vc], vr, vs] w1 fun e w' => e = .returned (.bool lg) ∧ Below w1.heap.size w1 w') := fun w1 hb => by
    have := long_any vc vr vs cols xs l w1 (hc.below hb) (hr.below hb) (hs.below hb); rw [hlg] at this; exact this
  have HL : Hid (lg = false → xs.length ≤ 1000) := fun h => by rw [h] at hlg; simp at hlg; omega
  have H2 : Hid (∀ w1, Below w.heap.size w w1 → Calls Try.prog 18 #[.agg #[vc], vr, vs] w1 fun e w' => ∃ v', e = .returned (.tuple #[v', .int .i64 (upd cols xs l).2]) ∧ OwnRow w' w1.heap.size 40 v' (upd cols xs l).1 ∧ Below w1.heap.size w1 w') := fun w1 hb => update_any vc vr vs cols xs l w1 (hc.below hb) (hr.below hb) (hs.below hb) ho hso
  have H3 : Hid (∀ w1 v', Below w.heap.size w w1 → RowIn w1 v' xs → Calls Try.prog 20 #[vr, v'] w1 fun e w' => e = .returned (.bool true) ∧ Below w1.heap.size w1 w') := fun w1 v' hb h => by
    have := rsame_any vr v' xs xs w1 (hr.below hb) h; rw [eqRow_self] at this; exact this
  have H4 : Hid (∀ w1 v' out, Below w.heap.size w w1 → RowIn w1 v' out → RowOk out → Calls Try.prog 15 #[.agg #[vc], v'] w1 fun e w' => e = .returned (.bool (fitsRow cols out)) ∧ Below w1.heap.size w1 w') := fun w1 v' out hb h h2 => fits_any vc v' cols out w1 (hc.below hb) h h2
  have HU : Hid (RowOk (upd cols xs l).1) := upd_ok_row ho hso
  have HR : Hid (RowIn w vr xs) := hr
  have HSI : Hid (SetsIn w vs l) := hs
  have hcs := upd_cases cols xs l
  obtain ⟨ar, cr, rfl, lr⟩ := hr.slice
  obtain ⟨as', cs, rfl, ls⟩ := hs.slice
  clear hc hr hs ho hso hlg
  generalize hu : upd cols xs l = u at *
  clear hu
  obtain ⟨ur, un⟩ := u
  have HCS : Hid ((fitsRow cols xs = true ∧ setsB cols l = true ∧ un = 0 ∧ runSets xs l xs = some ur) ∨ (ur = [] ∧ (un = 1 ∨ un = 20 ∨ un = 21))) := hcs
  clear hcs
  go_enter Try.func6, Try.ntmps6
  go_wp2_with fail
  refine Calls.mono (H0.out _) ?_
  rintro e w1 ⟨rfl, hb⟩
  have HK1 : Hid _ := kept_box hb
  have c1 := HK1.out.1
  clear hb
  go_wp2_with fail
  refine Calls.mono (H1.out _ HK1.out.2) ?_
  rintro e w2 ⟨rfl, hb⟩
  have HK2 : Hid _ := cell_on HK1.out hb
  clear hb c1
  cases lg
  · have hr2 := HR.out.below HK2.out.2
    have hl2 := HL.out rfl
    go_wp2_with (at_builtin; refine wpList_append_row rfl _ _ _ rfl Try.underlying26 _ xs rfl rfl hr2 hl2 ?_)
    intro vo w3 hown hb
    have HK3 : Hid _ := cell_on HK2.out hb
    have c3 := HK3.out.1
    have HO3 : Hid (RowIn w3 vo xs) := hown.isIn
    clear hb hown hr2 hl2
    go_wp2_with fail
    refine Calls.mono (H2.out _ HK3.out.2) ?_
    rintro e w4 ⟨vx, rfl, hown, hb⟩
    have HK4 : Hid _ := cell_on HK3.out hb
    have HO4 : Hid (RowIn w4 vo xs) := HO3.out.below hb
    have HX4 : Hid (RowIn w4 vx ur) := hown.isIn
    clear hb hown c3
    go_wp2_with fail
    refine Calls.mono (H3.out _ _ HK4.out.2 HO4.out) ?_
    rintro e w5 ⟨rfl, hb⟩
    have HK5 : Hid _ := cell_on HK4.out hb
    have c5 := HK5.out.1
    have HX5 : Hid (RowIn w5 vx ur) := HX4.out.below hb
    obtain ⟨ax, cx, rfl, lx⟩ := HX5.out.slice
    clear hb
    rcases HCS.out with ⟨h1, h2, rfl, h3⟩ | ⟨rfl, h⟩
    · have HF : Hid (∀ w1, Below w.heap.size w w1 → RowIn w1 (.slice ax ur.length cx) ur → Calls Try.prog 15 #[.agg #[vc], .slice ax ur.length cx] w1 fun e w' => e = .returned (.bool true) ∧ Below w1.heap.size w1 w') := fun w1 hb h => by
        have := H4.out w1 _ ur hb h HU.out; rw [upd_fits h1 h2 h3] at this; exact this
      have hpos : 0 < xs.length := by have h4 := (fitsRow_parts h1); have h5 := mayT_iff.1 h4.1; omega
      have hlen : ur.length = xs.length := runSets_length h3
      have HST : Hid (∀ (i : Nat) (hi : i < xs.length) (hi' : i < ur.length), (∀ s ∈ l, s.col ≠ (i : Int)) → ur[i] = xs[i]) := fun i hi hi' hn => upd_stays h2 h3 i hi hi' hn
      have HKEY : Hid (ur[0]'(by omega) = xs[0]) := upd_key h2 h3 hpos (by omega)
      obtain ⟨bx, ox, rfl, x0, x1, x2⟩ := HX5.out.at 0 (by omega)
      rw [HKEY.out] at x0 x1 x2
      obtain ⟨br, or', rfl, r0, r1, r2⟩ := (HR.out.below HK5.out.2).at 0 hpos
      have HLEN : Hid (ur.length = xs.length) := hlen
      have HPOS : Hid (0 < xs.length) := hpos
      have hne := eql_self xs[0]
      have hux : 0 < ur.length := by omega
      have hxx : 0 < xs.length := by omega
      clear HKEY
      generalize xs[0] = key at *
      clear h1 h2 h3 hlen hpos HCS H0 H1 H2 H3 H4 HU
      simp only [Nat.zero_mul, Nat.add_zero] at x0 x1 x2 r0 r1 r2
      go_wp2_with fail
      refine wp_region_held_drew (S := fun w' => w'.cell? ⟨w.heap.size, 0, none⟩ = some vc ∧ (w'.cell? ⟨bx, ox, none⟩ = some (.bool key.t) ∧ w'.cell? ⟨bx, ox + 1, none⟩ = some (.int .i64 key.n) ∧ w'.cell? ⟨bx, ox + 2, none⟩ = some (.string key.s)) ∧ (w'.cell? ⟨br, or', none⟩ = some (.bool key.t) ∧ w'.cell? ⟨br, or' + 1, none⟩ = some (.int .i64 key.n) ∧ w'.cell? ⟨br, or' + 2, none⟩ = some (.string key.s))) (by kernel_rfl) ?_ (fun hHeld => ?_)
      · exact ⟨c5, ⟨x0, x1, x2⟩, r0, r1, r2⟩
      (try clear hK K)
      refine wpAnyH_take (i := 0) (v := ?_) rfl (by kernel_rfl) (by kernel_rfl) (by kernel_rfl) (fun _ _ _ h => h) (Or.inl ⟨by rfl, ?_⟩) (by assumption) ?_
      rotate_left
      · intro w hSw; (try dsimp only at hSw); go_simp; (try with_reducible rfl)
      (try simp only [Act.put, List.getElem_toArray, List.getElem_cons_zero, List.setIfInBounds_toArray, List.set_cons_zero, List.set_cons_succ])
      refine wpAnyH_take (i := 1) (v := ?_) rfl (by kernel_rfl) (by kernel_rfl) (by kernel_rfl) (fun _ _ _ h => h) (Or.inl ⟨by rfl, ?_⟩) (by assumption) ?_
      rotate_left
      · intro w hSw; (try dsimp only at hSw); go_simp; (try with_reducible rfl)
      (try simp only [Act.put, List.getElem_toArray, List.getElem_cons_succ, List.getElem_cons_zero, List.setIfInBounds_toArray, List.set_cons_zero, List.set_cons_succ])
      (try clear hK K)
      refine wpAnyH_ready (rs := [2]) (by kernel_rfl) (by simp) ?_
      refine AllReadyH.cons rfl (fun K hK => ?_) AllReadyH.nil
      go_simp
      (refine Calls.mono (HF.out _ HK5.out.2.drew (HX5.out.below (Below.refl _ _).drew)) ?_; rintro e w6 ⟨rfl, hb⟩)
      refine hK.out _ _ ?_ (fun hHeld => ?_)
      · exact ⟨by rw [hb.cell (World.block_lt_of_cell? _ _ c5)]; exact c5, ⟨by rw [hb.cell (World.block_lt_of_cell? _ _ x0)]; exact x0, by rw [hb.cell (World.block_lt_of_cell? _ _ x1)]; exact x1, by rw [hb.cell (World.block_lt_of_cell? _ _ x2)]; exact x2⟩, by rw [hb.cell (World.block_lt_of_cell? _ _ r0)]; exact r0, by rw [hb.cell (World.block_lt_of_cell? _ _ r1)]; exact r1, by rw [hb.cell (World.block_lt_of_cell? _ _ r2)]; exact r2⟩
      have HX6 : Hid (RowIn w6 (.slice (some ⟨bx, ox, none⟩) ur.length cx) ur) := (HX5.out.below (Below.refl _ _).drew).below hb
      have HB6 : Hid (Below w.heap.size w w6) := HK5.out.2.drew.trans (hb.mono HK5.out.2.size)
      clear hb
      (try clear hK K)
      refine wpAnyH_take (i := 3) (v := ?_) rfl (by kernel_rfl) (by kernel_rfl) (by kernel_rfl) (fun _ _ _ h => h) (Or.inl ⟨by rfl, ?_⟩) (by assumption) ?_
      rotate_left
      · intro w hSw; (try dsimp only at hSw); go_simp; (try with_reducible rfl)
      (try simp only [Act.put, List.getElem_toArray, List.getElem_cons_succ, List.getElem_cons_zero, List.setIfInBounds_toArray, List.set_cons_zero, List.set_cons_succ])
      refine wpAnyH_take (i := 4) (v := ?_) rfl (by kernel_rfl) (by kernel_rfl) (by kernel_rfl) (fun _ _ _ h => h) (Or.inl ⟨by rfl, ?_⟩) (by assumption) ?_
      rotate_left
      · intro w hSw; (try dsimp only at hSw); go_simp; (try with_reducible rfl)
      (try simp only [Act.put, List.getElem_toArray, List.getElem_cons_succ, List.getElem_cons_zero, List.setIfInBounds_toArray, List.set_cons_zero, List.set_cons_succ])
      refine wpAnyH_take (i := 5) (v := ?_) rfl (by kernel_rfl) (by kernel_rfl) (by kernel_rfl) (fun _ _ _ h => h) (Or.inl ⟨by rfl, ?_⟩) (by assumption) ?_
      rotate_left
      · intro w hSw; (try dsimp only at hSw); go_simp; (try with_reducible rfl)
      (try simp only [Act.put, List.getElem_toArray, List.getElem_cons_succ, List.getElem_cons_zero, List.setIfInBounds_toArray, List.set_cons_zero, List.set_cons_succ])
      refine wpAnyH_take (i := 6) (v := ?_) rfl (by kernel_rfl) (by kernel_rfl) (by kernel_rfl) (fun _ _ _ h => h) (Or.inl ⟨by rfl, ?_⟩) (by assumption) ?_
      rotate_left
      · intro w hSw; (try dsimp only at hSw); go_simp; (try with_reducible rfl)
      (try simp only [Act.put, List.getElem_toArray, List.getElem_cons_succ, List.getElem_cons_zero, List.setIfInBounds_toArray, List.set_cons_zero, List.set_cons_succ])
      refine wpAnyH_take (i := 7) (v := ?_) rfl (by kernel_rfl) (by kernel_rfl) (by kernel_rfl) (fun _ _ _ h => h) (Or.inl ⟨by rfl, ?_⟩) (by assumption) ?_
      rotate_left
      · intro w hSw; (try dsimp only at hSw); go_simp; (try with_reducible rfl)
      (try simp only [Act.put, List.getElem_toArray, List.getElem_cons_succ, List.getElem_cons_zero, List.setIfInBounds_toArray, List.set_cons_zero, List.set_cons_succ])
      refine wpAnyH_take (i := 8) (v := ?_) rfl (by kernel_rfl) (by kernel_rfl) (by kernel_rfl) (fun _ _ _ h => h) (Or.inl ⟨by rfl, ?_⟩) (by assumption) ?_
      rotate_left
      · intro w hSw; (try dsimp only at hSw); go_simp; (try with_reducible rfl)
      (try simp only [Act.put, List.getElem_toArray, List.getElem_cons_succ, List.getElem_cons_zero, List.setIfInBounds_toArray, List.set_cons_zero, List.set_cons_succ])
      refine wpAnyH_take (i := 9) (v := ?_) rfl (by kernel_rfl) (by kernel_rfl) (by kernel_rfl) (fun _ _ _ h => h) (Or.inl ⟨by rfl, ?_⟩) (by assumption) ?_
      rotate_left
      · intro w hSw; (try dsimp only at hSw); go_simp; (try with_reducible rfl)
      (try simp only [Act.put, List.getElem_toArray, List.getElem_cons_succ, List.getElem_cons_zero, List.setIfInBounds_toArray, List.set_cons_zero, List.set_cons_succ])
      refine wpAnyH_take (i := 10) (v := ?_) rfl (by kernel_rfl) (by kernel_rfl) (by kernel_rfl) (fun _ _ _ h => h) (Or.inl ⟨by rfl, ?_⟩) (by assumption) ?_
      rotate_left
      · intro w hSw; (try dsimp only at hSw); go_simp; (try with_reducible rfl)
      (try simp only [Act.put, List.getElem_toArray, List.getElem_cons_succ, List.getElem_cons_zero, List.setIfInBounds_toArray, List.set_cons_zero, List.set_cons_succ])
      refine wpAnyH_take (i := 11) (v := ?_) rfl (by kernel_rfl) (by kernel_rfl) (by kernel_rfl) (fun _ _ _ h => h) (Or.inl ⟨by rfl, ?_⟩) (by assumption) ?_
      rotate_left
      · intro w hSw; (try dsimp only at hSw); go_simp; (try with_reducible rfl)
      (try simp only [Act.put, List.getElem_toArray, List.getElem_cons_succ, List.getElem_cons_zero, List.setIfInBounds_toArray, List.set_cons_zero, List.set_cons_succ])
      refine wpAnyH_take (i := 12) (v := ?_) rfl (by kernel_rfl) (by kernel_rfl) (by kernel_rfl) (fun _ _ _ h => h) (Or.inl ⟨by rfl, ?_⟩) (by assumption) ?_
      rotate_left
      · intro w hSw; (try dsimp only at hSw); go_simp; (try with_reducible rfl)
      (try simp only [Act.put, List.getElem_toArray, List.getElem_cons_succ, List.getElem_cons_zero, List.setIfInBounds_toArray, List.set_cons_zero, List.set_cons_succ])
      (try clear hK K)
      refine wpAnyH_done (by kernel_rfl) ?_ _
      clear hHeld x0 x1 x2 r0 r1 r2 c5 hne HF HX5 hux hxx
      go_wp2_with fail
      go_loopw [12] (fun i wr => ∃ k : Nat, k ≤ ur.length ∧ i = .int .i64 k ∧ Hid (∃ q, wr = w6.drewN q)) (fun i _ => ur.length - (intOf i).toNat)
      case atStart => exact ⟨0, Nat.zero_le _, rfl, 0, rfl⟩
      case round =>
        obtain ⟨k, hk, rfl, HQ⟩ := hrel
        obtain ⟨q, hq⟩ := HQ.out
        subst hq
        clear HQ
        by_cases hlt : k < ur.length
        · go_wp2_with fail
          go_loopw [13, 14] (fun b i wr => ∃ (j : Nat) (f : Bool), j ≤ l.length ∧ i = .int .i64 j ∧ b = .bool f ∧ Hid (SetOf l k j f) ∧ Hid (wr = w6.drewN q)) (fun _ i _ => l.length - (intOf i).toNat)
          case atStart => exact ⟨0, false, Nat.zero_le _, rfl, rfl, SetOf.zero _ _, rfl⟩
          case round =>
            obtain ⟨j, f, hj, rfl, rfl, HT, HQ⟩ := hrel
            have hq := HQ.out
            subst hq
            clear HQ
            by_cases hjl : j < l.length
            · obtain ⟨bs, os, rfl, d0, d1⟩ := (HSI.out.below HB6.out).at j hjl
              clear d1
              cases f
              · have HN : Hid (SetOf l k (j + 1) (l[j].col == (k : Int))) := HT.out.next hjl
                go_wp2_with fail
                go_roundw
                case rel => exact ⟨j + 1, _, by omega, by go_num, rfl, HN, True.intro⟩
                case measure => simp [intOf]; omega
              · have HN : Hid (SetOf l k (j + 1) true) := HT.out.yes
                go_wp2_with fail
                go_roundw
                case rel => exact ⟨j + 1, true, by omega, by go_num, rfl, HN, True.intro⟩
                case measure => simp [intOf]; omega
            · cases f
              · have hk2 : k < xs.length := by rw [← HLEN.out]; exact hlt
                have e := HST.out k hk2 hlt (HT.out.no (by omega))
                obtain ⟨b1, o1, e1, x0, x1, x2⟩ := HX6.out.at k hlt
                cases e1
                obtain ⟨b2, o2, e2, r0, r1, r2⟩ := (HR.out.below HB6.out).at k hk2
                cases e2
                rw [e] at x0 x1 x2
                have hne := eql_self xs[k]
                have u0 : (k : Int) < (ur.length : Int) := by omega
                have u1 : (k : Int) < (xs.length : Int) := by omega
                clear e
                generalize xs[k] = y at *
                go_wp2_with fail
                go_quiet (fail)
                go_wp2_with fail
                go_roundw
                case rel => exact ⟨k + 1, by omega, by go_num, _, rfl⟩
                case measure => simp [intOf]; omega
              · go_wp2_with fail
                go_quiet (fail)
                go_wp2_with fail
                go_roundw
                case rel => exact ⟨k + 1, by omega, by go_num, _, rfl⟩
                case measure => simp [intOf]; omega
        · go_wp2_with fail
          go_ret
          exact ⟨rfl, below_drewN HB6.out _⟩
    · rcases h with rfl | rfl | rfl
      all_goals
        go_wp2_with fail
        go_ret
        exact ⟨rfl, HK5.out.2⟩
  · go_wp2_with fail
    go_ret
    exact ⟨rfl, HK2.out.2⟩
end Go.Proofs.Ytncefhjegkhamaa.Val
