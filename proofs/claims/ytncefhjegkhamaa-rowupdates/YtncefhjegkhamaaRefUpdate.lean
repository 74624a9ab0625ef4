/- What the reference's Update answers: the same as the program's. -/
import Derived.Test.YtncefhjegkhamaaRowUpdate
import Derived.Test.YtncefhjegkhamaaRefSets
import Derived.Test.YtncefhjegkhamaaRefTo
namespace Go.Proofs.Ytncefhjegkhamaa.Val
open Go.RowKit

set_option maxHeartbeats 400000 in
theorem rupdate_unfit (vc vr vs : Value) (w : World)
    (HF : Hid (∀ w1, Below w.heap.size w w1 → Calls Try.prog 16 #[.agg #[vc], vr] w1 fun e w' => e = .returned (.bool false) ∧ Below w1.heap.size w1 w')) :
    Calls Try.prog 19 #[.agg #[vc], vr, vs] w fun e w' => e = .returned (.tuple #[.slice none 0 0, .int .i64 1]) ∧ Below w.heap.size w w' := by
  go_enter Try.func19, Try.ntmps19
  go_wp2_with fail
  refine Calls.mono (HF.out _ ((Below.refl _ _).alloc (Nat.le_refl _) _)) ?_
  rintro e w1 ⟨rfl, hb1⟩
  go_wp2_with fail
  go_ret2
  exact ⟨rfl, back1' hb1⟩
set_option maxHeartbeats 400000 in
theorem rupdate_set (vc vr vs : Value) (w : World)
    (HF : Hid (∀ w1, Below w.heap.size w w1 → Calls Try.prog 16 #[.agg #[vc], vr] w1 fun e w' => e = .returned (.bool true) ∧ Below w1.heap.size w1 w'))
    (HS : Hid (∀ w1, Below w.heap.size w w1 → Calls Try.prog 17 #[.agg #[vc], vs] w1 fun e w' => e = .returned (.bool false) ∧ Below w1.heap.size w1 w')) :
    Calls Try.prog 19 #[.agg #[vc], vr, vs] w fun e w' => e = .returned (.tuple #[.slice none 0 0, .int .i64 20]) ∧ Below w.heap.size w w' := by
  go_enter Try.func19, Try.ntmps19
  go_wp2_with fail
  refine Calls.mono (HF.out _ ((Below.refl _ _).alloc (Nat.le_refl _) _)) ?_
  rintro e w1 ⟨rfl, hb1⟩
  have c0 := in1' hb1
  have HB1 : Hid (Below w.heap.size w w1) := back1' hb1
  clear hb1
  go_wp2_with fail
  refine Calls.mono (HS.out _ HB1.out) ?_
  rintro e w2 ⟨rfl, hb2⟩
  have HB2 : Hid (Below w.heap.size w w2) := HB1.out.trans (hb2.mono HB1.out.size)
  clear hb2
  go_wp2_with fail
  go_ret2
  exact ⟨rfl, HB2.out⟩
set_option maxHeartbeats 2000000 in
theorem rupdate_runs (vc vr vs : Value) (cols : List Bool) (xs : List Val) (l : List SetP) (w : World) (hr : RowIn w vr xs) (hs : SetsIn w vs l) (ho : RowOk xs) (hso : SetsOk l) (hl : xs.length ≤ 1000) (hn : 0 < xs.length) (hcl : xs.length = cols.length) (hok : OkTo cols l l.length)
    (HF : Hid (∀ w1, Below w.heap.size w w1 → Calls Try.prog 16 #[.agg #[vc], vr] w1 fun e w' => e = .returned (.bool true) ∧ Below w1.heap.size w1 w'))
    (HS : Hid (∀ w1, Below w.heap.size w w1 → Calls Try.prog 17 #[.agg #[vc], vs] w1 fun e w' => e = .returned (.bool true) ∧ Below w1.heap.size w1 w')) :
    Calls Try.prog 19 #[.agg #[vc], vr, vs] w fun e w' => ∃ v' out n, e = .returned (.tuple #[v', .int .i64 n]) ∧ OwnRow w' w.heap.size 40 v' out ∧ (runSets xs l xs = some out ∧ n = 0 ∨ runSets xs l xs = none ∧ out = [] ∧ n = 21) ∧ Below w.heap.size w w' := by
  obtain ⟨i0, hi, hz0, hz1, hz2⟩ := info_parts info_V
  have hlen : (xs.flatMap Val.cells).length = xs.length * 3 := flat_length Val.cells 3 (fun _ => rfl) xs
  have HLen : Hid ((xs.flatMap Val.cells).length = xs.length * 3) := hlen
  have HOne : Hid (∀ u ∈ xs.flatMap Val.cells, u.oneCell' = true) := cells_one xs
  have HL1000 : Hid (xs.length ≤ 1000) := hl
  have HCo : Hid (∀ w1 (k : Nat) (h : k < l.length), Below w.heap.size w w1 → Calls Try.prog 28 #[vr, SV l[k].col l[k].op l[k].src l[k].other l[k].v.t l[k].v.n l[k].v.s] w1 fun e w' => e = .returned (.tuple #[V (comes xs l[k]).1.t (comes xs l[k]).1.n (comes xs l[k]).1.s, .bool (comes xs l[k]).2]) ∧ Below w1.heap.size w1 w') :=
    fun w1 k h hb => rto_any vr cols xs l[k] w1 (hr.below hb) ho (hso _ (List.getElem_mem _)).1 (setOk_parts (hok k h h).1).2 hcl
  have HCol : Hid (∀ (k : Nat) (h : k < l.length), ∃ c : Nat, l[k].col = c ∧ c < xs.length) := fun k h => by
    obtain ⟨c, h1, h2, _⟩ := (setOk_parts (hok k h h).1).1
    exact ⟨c, h1, by omega⟩
  obtain ⟨ar, cr, rfl, lr⟩ := hr.slice
  obtain ⟨br, pr, rfl, hr0⟩ := hr.at 0 hn
  clear hr0
  have HLies : Hid (∀ w1, Below w.heap.size w w1 → ∀ j u, (xs.flatMap Val.cells)[j]? = some u → w1.cell? ((⟨br, pr, none⟩ : Addr).add j) = some u) := fun w1 hb j u hj => by
    obtain ⟨ao, c', e, _, _, _, h3⟩ := hr.below hb
    cases e
    rcases h3 with h3 | ⟨b, o, e, h3⟩
    · rw [h3] at hj; simp at hj
    · cases e; rw [Addr.add_lit]; exact h3 j u hj
  obtain ⟨as', cs, rfl, ls⟩ := hs.slice
  have HSI : Hid (SetsIn w (.slice as' l.length cs) l) := hs
  have HN : Hid (0 < xs.length) := hn
  clear hr hs ho hso hl hcl hok hn hlen
  go_enter Try.func19, Try.ntmps19
  go_wp2_with fail
  refine Calls.mono (HF.out _ ((Below.refl _ _).alloc (Nat.le_refl _) _)) ?_
  rintro e w1 ⟨rfl, hb1⟩
  have c0 := in1' hb1
  have HB1 : Hid (Below w.heap.size w w1) := back1' hb1
  clear hb1
  go_wp2_with fail
  refine Calls.mono (HS.out _ HB1.out) ?_
  rintro e w2 ⟨rfl, hb2⟩
  have HB2 : Hid (Below w.heap.size w w2) := HB1.out.trans (hb2.mono HB1.out.size)
  clear hb2 c0
  have hcell := HLies.out w2 HB2.out
  have hlen := HLen.out
  have hone := HOne.out
  have hl := HL1000.out
  go_wp2_with (at_builtin; refine wpList_append_own _ rfl _ _ _ rfl w.heap.size 40 i0 _ 3 32 Try.underlying26 hi hz0 hz1 hz2 rfl (by decide) _ 0 [] rfl (World.ownsRow_nil w2 w.heap.size _ 3) ⟨br, pr, none⟩ xs.length cr (xs.flatMap Val.cells) rfl hlen hcell hone ?_ ?_ HB2.out.size ?_)
  · unfold maxLen; omega
  · omega
  intro v' w3 hown0 hgrow _
  have hown : OwnRow w3 w.heap.size 40 v' xs := hown0
  have HB3 : Hid (Below w.heap.size w w3) := HB2.out.grown hgrow HB2.out.size (fun k hk => by cases hk)
  obtain ⟨g, cap, rfl, hg1, hg2⟩ := hown.place HN.out
  have HO3 : Hid (OwnRow w3 w.heap.size 40 (.slice (some ⟨g, 0, none⟩) xs.length cap) xs) := hown
  have HG : Hid (w.heap.size ≤ g) := hg1
  clear hown hown0 hgrow hg1 hg2 hcell hlen hone hl
  go_wp2_with fail
  go_loopw [11] (fun i wr => ∃ (k : Nat) (cur : List Val), k ≤ l.length ∧ i = .int .i64 k ∧ Hid (cur.length = xs.length ∧ runSets xs l xs = runSets xs (l.drop k) cur) ∧ Hid (OwnRow wr w.heap.size 40 (.slice (some ⟨g, 0, none⟩) xs.length cap) cur ∧ Below w.heap.size w wr)) (fun i _ => l.length - (intOf i).toNat)
  case atStart => exact ⟨0, xs, Nat.zero_le _, rfl, ⟨rfl, rfl⟩, HO3.out, HB3.out⟩
  case round =>
    obtain ⟨k, cur, hk, rfl, HT, HW⟩ := hrel
    clear HO3 HB3 HB1 HB2 HF HS HLies HLen HOne HL1000
    by_cases hlt : k < l.length
    · obtain ⟨b, o, rfl, d0, d1, d2, d3, d4, d5, d6⟩ := (HSI.out.below HW.out.2).at k hlt
      have HR : Hid (runSets xs l xs = if (comes xs l[k]).2 = true then runSets xs (l.drop (k + 1)) (cur.set l[k].col.toNat (comes xs l[k]).1) else none) := HT.out.2.trans (runSets_step hlt cur)
      have HCk : Hid (∀ w1, Below w.heap.size w w1 → Calls Try.prog 28 #[.slice (some ⟨br, pr, none⟩) xs.length cr, SV l[k].col l[k].op l[k].src l[k].other l[k].v.t l[k].v.n l[k].v.s] w1 fun e w' => e = .returned (.tuple #[V (comes xs l[k]).1.t (comes xs l[k]).1.n (comes xs l[k]).1.s, .bool (comes xs l[k]).2]) ∧ Below w1.heap.size w1 w') := fun w1 => HCo.out w1 k hlt
      have HBW : Hid (b < w.heap.size) := by obtain ⟨b', o', e', h, _⟩ := HSI.out.at k hlt; cases e'; exact World.block_lt_of_cell? _ _ h
      obtain ⟨c, hc, hcl⟩ := HCol.out k hlt
      have HC : Hid (l[k].col = (c : Int)) := hc
      have hz : w.heap.size ≤ wr.heap.size := HW.out.2.size
      clear hc HCo HCol
      go_wp2_with fail
      refine Calls.mono (HCk.out _ HW.out.2) ?_
      rintro e w4 ⟨rfl, hb4⟩
      have HB4 : Hid (Below w.heap.size w w4) := HW.out.2.trans (hb4.mono hz)
      have HO4 : Hid (OwnRow w4 w.heap.size 40 (.slice (some ⟨g, 0, none⟩) xs.length cap) cur) := HW.out.1.below hb4
      obtain ⟨b', o', e', q0, q1⟩ := (HSI.out.below HB4.out).at k hlt
      cases e'
      rw [HC.out] at q0
      have hb0 : b < w4.heap.size := World.block_lt_of_cell? _ _ q0
      have q2 : ∀ ob, (w4.alloc ob).cell? ⟨b, o + k * 7, none⟩ = some (.int .i64 c) := fun ob => by rw [World.cell?_alloc_some _ _ _ (by rw [q0]; rfl)]; exact q0
      clear q0 q1
      clear hb4 d0 d1 d2 d3 d4 d5 d6 HCk
      generalize comes xs l[k] = cm at *
      obtain ⟨⟨ct, cn, cs'⟩, cb⟩ := cm
      cases cb
      · go_wp2_with fail
        go_ret2
        exact ⟨_, [], 21, rfl, OwnRow.nil _ _ _, .inr ⟨HR.out, rfl, rfl⟩, HB4.out.alloc (Nat.le_trans HB4.out.size (Nat.le_refl _)) _⟩
      · have hcc : c < cur.length := by rw [HT.out.1]; exact hcl
        obtain ⟨r0, r1, r2⟩ := own_cells HO4.out c hcc
        obtain ⟨s0, s1, s2⟩ := own_free HO4.out c
        have i0 : (0 : Int) ≤ (c : Int) := by omega
        have i1 : (c : Int) < (xs.length : Int) := by omega
        have HNx : Hid ((cur.set c ⟨ct, cn, cs'⟩).length = xs.length ∧ runSets xs l xs = runSets xs (l.drop (k + 1)) (cur.set c ⟨ct, cn, cs'⟩)) := ⟨by rw [List.length_set]; exact HT.out.1, by
          have h := HR.out
          rw [HC.out, Int.toNat_natCast] at h
          simpa using h⟩
        have HON : Hid (∀ ob, OwnRow ((((w4.alloc ob).setCell ⟨g, c * 3, none⟩ (.bool ct)).setCell ⟨g, c * 3 + 1, none⟩ (.int .i64 cn)).setCell ⟨g, c * 3 + 2, none⟩ (.string cs')) w.heap.size 40 (.slice (some ⟨g, 0, none⟩) xs.length cap) (cur.set c ⟨ct, cn, cs'⟩)) :=
          fun ob => (HO4.out.below ((Below.refl _ _).alloc (Nat.le_refl _) ob)).store c hcc ⟨ct, cn, cs'⟩
        have HBN : Hid (∀ ob, Below w.heap.size w ((((w4.alloc ob).setCell ⟨g, c * 3, none⟩ (.bool ct)).setCell ⟨g, c * 3 + 1, none⟩ (.int .i64 cn)).setCell ⟨g, c * 3 + 2, none⟩ (.string cs'))) :=
          fun ob => (((HB4.out.alloc HB4.out.size ob).setCell HG.out _).setCell HG.out _).setCell HG.out _
        have k0 : (0 : Int) ≤ (k : Int) := by omega
        have k1 : (k : Int) < (l.length : Int) := by omega
        have gb : g ≠ b := by have h1 := HG.out; have h2 := HBW.out; omega
        have gw : g ≠ w4.heap.size := by obtain ⟨b', o', e', h, _⟩ := HO4.out.isIn.at c hcc; cases e'; have := World.block_lt_of_cell? _ _ h; simp only at this; omega
        go_wp2_with fail
        refine wp_region_held_drew (S := fun w' => w'.cell? ⟨b, o + k * 7, none⟩ = some (.int .i64 c) ∧ w'.cell? ⟨w4.heap.size, 0, none⟩ = some (.bool ct) ∧ w'.cell? ⟨w4.heap.size, 1, none⟩ = some (.int .i64 cn) ∧ w'.cell? ⟨w4.heap.size, 2, none⟩ = some (.string cs')) (by kernel_rfl) ?_ (fun hHeld => ?_)
        · exact ⟨q2 _, by simp, by simp, by simp⟩
        (try clear hK K)
        refine wpAnyH_take (i := 0) (v := ?_) rfl (by kernel_rfl) (by kernel_rfl) (by kernel_rfl) (fun _ _ _ h => h) (Or.inl ⟨by rfl, ?_⟩) (by assumption) ?_
        rotate_left
        · intro w hSw; (try dsimp only at hSw); go_simp; (try with_reducible rfl)
        (try simp only [Act.put, List.getElem_toArray, List.getElem_cons_zero, List.setIfInBounds_toArray, List.set_cons_zero, List.set_cons_succ])
        refine wpAnyH_take (i := 1) (v := ?_) rfl (by kernel_rfl) (by kernel_rfl) (by kernel_rfl) (fun _ _ _ h => h) (Or.inl ⟨by rfl, ?_⟩) (by assumption) ?_
        rotate_left
        · intro w hSw; (try dsimp only at hSw); go_simp; (try with_reducible rfl)
        (try simp only [Act.put, List.getElem_toArray, List.getElem_cons_succ, List.getElem_cons_zero, List.setIfInBounds_toArray, List.set_cons_zero, List.set_cons_succ])
        refine wpAnyH_take (i := 2) (v := ?_) rfl (by kernel_rfl) (by kernel_rfl) (by kernel_rfl) (fun _ _ _ h => h) (Or.inl ⟨by rfl, ?_⟩) (by assumption) ?_
        rotate_left
        · intro w hSw; (try dsimp only at hSw); go_simp; (try with_reducible rfl)
        (try simp only [Act.put, List.getElem_toArray, List.getElem_cons_succ, List.getElem_cons_zero, List.setIfInBounds_toArray, List.set_cons_zero, List.set_cons_succ])
        refine wpAnyH_take (i := 3) (v := ?_) rfl (by kernel_rfl) (by kernel_rfl) (by kernel_rfl) (fun _ _ _ h => h) (Or.inl ⟨by rfl, ?_⟩) (by assumption) ?_
        rotate_left
        · intro w hSw; (try dsimp only at hSw); go_simp; (try with_reducible rfl)
        (try simp only [Act.put, List.getElem_toArray, List.getElem_cons_succ, List.getElem_cons_zero, List.setIfInBounds_toArray, List.set_cons_zero, List.set_cons_succ])
        refine wpAnyH_take (i := 4) (v := ?_) rfl (by kernel_rfl) (by kernel_rfl) (by kernel_rfl) (fun _ _ _ h => h) (Or.inl ⟨by rfl, ?_⟩) (by assumption) ?_
        rotate_left
        · intro w hSw; (try dsimp only at hSw); go_simp; (try with_reducible rfl)
        (try simp only [Act.put, List.getElem_toArray, List.getElem_cons_succ, List.getElem_cons_zero, List.setIfInBounds_toArray, List.set_cons_zero, List.set_cons_succ])
        refine wpAnyH_take (i := 5) (v := ?_) rfl (by kernel_rfl) (by kernel_rfl) (by kernel_rfl) (fun _ _ _ h => h) (Or.inl ⟨by rfl, ?_⟩) (by assumption) ?_
        rotate_left
        · intro w hSw; (try dsimp only at hSw); go_simp; (try with_reducible rfl)
        (try simp only [Act.put, List.getElem_toArray, List.getElem_cons_succ, List.getElem_cons_zero, List.setIfInBounds_toArray, List.set_cons_zero, List.set_cons_succ])
        refine wpAnyH_take (i := 6) (v := ?_) rfl (by kernel_rfl) (by kernel_rfl) (by kernel_rfl) (fun _ _ _ h => h) (Or.inl ⟨by rfl, ?_⟩) (by assumption) ?_
        rotate_left
        · intro w hSw; (try dsimp only at hSw); go_simp; (try with_reducible rfl)
        (try simp only [Act.put, List.getElem_toArray, List.getElem_cons_succ, List.getElem_cons_zero, List.setIfInBounds_toArray, List.set_cons_zero, List.set_cons_succ])
        refine wpAnyH_take (i := 7) (v := ?_) rfl (by kernel_rfl) (by kernel_rfl) (by kernel_rfl) (fun _ _ _ h => h) (Or.inl ⟨by rfl, ?_⟩) (by assumption) ?_
        rotate_left
        · intro w hSw; (try dsimp only at hSw); go_simp; (try with_reducible rfl)
        (try simp only [Act.put, List.getElem_toArray, List.getElem_cons_succ, List.getElem_cons_zero, List.setIfInBounds_toArray, List.set_cons_zero, List.set_cons_succ])
        (try clear hK K)
        refine wpAnyH_ready (rs := [8]) (by kernel_rfl) (by simp) ?_
        refine AllReadyH.cons rfl (fun K hK => ?_) AllReadyH.nil
        go_simp
        refine hK.out _ _ ?_ (fun hHeld => ?_)
        · refine ⟨?_, ?_, ?_, ?_⟩
          · rw [World.cell?_drew, far3 gb]; exact hHeld.1
          · rw [World.cell?_drew, far3 gw]; exact hHeld.2.1
          · rw [World.cell?_drew, far3 gw]; exact hHeld.2.2.1
          · rw [World.cell?_drew, far3 gw]; exact hHeld.2.2.2
        (try clear hK K)
        refine wpAnyH_done (by kernel_rfl) ?_ _
        go_wp2_with fail
        go_roundw
        case rel => exact ⟨k + 1, _, by omega, by go_num, HNx, HON.out _, (HBN.out _).drew⟩
        case measure => simp [intOf]; omega
    · have HR : Hid (runSets xs l xs = some cur) := HT.out.2.trans (runSets_done (by omega) cur)
      go_wp2_with fail
      go_ret2
      exact ⟨_, cur, 0, rfl, HW.out.1, .inl ⟨HR.out, rfl⟩, HW.out.2⟩
theorem rupdate_any (vc vr vs : Value) (cols : List Bool) (xs : List Val) (l : List SetP) (w : World) (hc : BoolsIn w vc cols) (hr : RowIn w vr xs) (hs : SetsIn w vs l) (ho : RowOk xs) (hso : SetsOk l) :
    Calls Try.prog 19 #[.agg #[vc], vr, vs] w fun e w' => ∃ v', e = .returned (.tuple #[v', .int .i64 (upd cols xs l).2]) ∧ OwnRow w' w.heap.size 40 v' (upd cols xs l).1 ∧ Below w.heap.size w w' := by
  have HF : Hid (∀ w1, Below w.heap.size w w1 → Calls Try.prog 16 #[.agg #[vc], vr] w1 fun e w' => e = .returned (.bool (fitsRow cols xs)) ∧ Below w1.heap.size w1 w') := fun w1 hb => rfits_any vc vr cols xs w1 (hc.below hb) (hr.below hb) ho
  have HS : Hid (∀ w1, Below w.heap.size w w1 → Calls Try.prog 17 #[.agg #[vc], vs] w1 fun e w' => e = .returned (.bool (setsB cols l)) ∧ Below w1.heap.size w1 w') := fun w1 hb => rsets_all vc vs cols l w1 (hc.below hb) (hs.below hb) fun s h => (hso s h).2
  cases hf : fitsRow cols xs
  · rw [hf] at HF
    rw [upd_unfit hf]
    refine (rupdate_unfit vc vr vs w HF).mono ?_
    rintro e w' ⟨rfl, hb⟩
    exact ⟨_, rfl, OwnRow.nil _ _ _, hb⟩
  · obtain ⟨hm, hcl, _⟩ := fitsRow_parts hf
    rw [hf] at HF
    cases hb : setsB cols l
    · rw [hb] at HS
      rw [upd_set hf hb]
      refine (rupdate_set vc vr vs w HF HS).mono ?_
      rintro e w' ⟨rfl, hb⟩
      exact ⟨_, rfl, OwnRow.nil _ _ _, hb⟩
    · rw [hb] at HS
      have hm' := mayT_iff.1 hm
      refine (rupdate_runs vc vr vs cols xs l w hr hs ho hso (by omega) (by omega) hcl (setsB_iff.1 hb).2 HF HS).mono ?_
      rintro e w' ⟨v', out, n, rfl, hown, hres, hb'⟩
      rcases hres with ⟨h1, rfl⟩ | ⟨h1, rfl, rfl⟩
      · rw [upd_ok hf hb h1]; exact ⟨_, rfl, hown, hb'⟩
      · rw [upd_over hf hb h1]; exact ⟨_, rfl, hown, hb'⟩
end Go.Proofs.Ytncefhjegkhamaa.Val
