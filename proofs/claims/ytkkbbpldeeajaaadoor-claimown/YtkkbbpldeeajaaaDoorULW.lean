/- The walk of the law ClaimOwn. -/
import Derived.Test.YtkkbbpldeeajaaaDoorUT1
import Derived.Test.YtkkbbpldeeajaaaDoorULr
import Derived.Test.YtkkbbpldeeajaaaDoorUE2
import Derived.Deep.RegionHeld3
import Derived.Test.YtkkbbpldeeajaaaDoorUF
import Derived.Test.YtkkbbpldeeajaaaDoorUC2
namespace Go.Proofs.YtkkbbpldeeajaaaDoor.Val
open Go.RowKit
set_option maxRecDepth 100000

theorem like_equal {a d : CP} (h : LikeC a d) : equalC true a d = true := by
  unfold equalC
  rw [h.rows, h.kind, h.table, h.mode, h.key, eqRows_iff.2 rfl, eqV_iff.2 rfl]
  simp
set_option maxHeartbeats 16000000 in
theorem cown_walk (a b : CP) (v : Val) (w : World) (hT : TabC w) (ha : CIn w a) (hb : CIn w b) : Tells 7 #[a.val, b.val, V v.t v.n v.s] w (.bool true) := by
  obtain ⟨s, hs⟩ := some_b (a.p.bare = b.p.bare)
  have HW : Hid (∀ w1, Below w.heap.size w w1 → Tells 11 #[] w1 (.bool true)) := fun w1 h => awake_any w1 (hT.below h)
  have HA : Hid (∀ w1, Below w.heap.size w w1 → Calls Tryd.prog 12 #[a.val] w1 fun e w' => ∃ q, e = .returned (.bool q) ∧ (q = true → FewC a) ∧ Below w1.heap.size w1 w') := fun w1 h => few_any a w1 (ha.below h)
  have HB : Hid (∀ w1, Below w.heap.size w w1 → Calls Tryd.prog 12 #[b.val] w1 fun e w' => ∃ q, e = .returned (.bool q) ∧ (q = true → FewC b) ∧ Below w1.heap.size w1 w') := fun w1 h => few_any b w1 (hb.below h)
  have HC : Hid (FewC a → ∀ w1, Below w.heap.size w w1 → Calls Tryd.prog 24 #[a.val] w1 fun e w' => ∃ d, e = .returned d.val ∧ LikeC a d ∧ NewC w' w1.heap.size d ∧ Below w1.heap.size w1 w') := fun hf w1 h => cclone_any a w1 (ha.below h) hf
  have HT : Hid (FewC a → ∀ w1, Below w.heap.size w w1 → Calls Tryd.prog 25 #[a.val] w1 fun e w' => ∃ d, e = .returned d.val ∧ LikeC a d ∧ NewC w' w1.heap.size d ∧ Below w1.heap.size w1 w') := fun hf w1 h => ctwin_any a w1 (ha.below h) hf
  have HJ : Hid (FewC a → FewC b → ∀ w1, Below w.heap.size w w1 → Calls Tryd.prog 22 #[a.val, b.val] w1 fun e w' => ∃ d, e = .returned d.val ∧ JoinC s a b d ∧ NewC w' w1.heap.size d ∧ Below w1.heap.size w1 w') := fun h1 h2 w1 h => cjoin_any a b s hs w1 (hT.below h) (ha.below h) (hb.below h) h1 h2
  have HQ : Hid (∀ d w1, LikeC a d → Below w.heap.size w w1 → CIn w1 d → Tells 21 #[a.val, d.val] w1 (.bool true)) := fun d w1 hl h hd => by
    have := rcequal_any a d true (by rw [hl.p]; simp) w1 (ha.below h) hd
    rwa [like_equal hl] at this
  have HN : Hid (OB w (((w.alloc (cobj a TC)).alloc (cobj b TC)).alloc (.cells #[.bool v.t, .int .i64 v.n, .string v.s] TVa)) a b v) := OB.new w a b v
  clear hs hT ha hb
  unfold cobj at HN
  unfold CP.val
  go_enter Tryd.func7, Tryd.ntmps7
  go_wp2_with fail
  refine Calls.mono (HW.out _ HN.out.ab.bel) ?_
  rintro e w1 ⟨rfl, hb1⟩
  have H1 : Hid (OB w w1 a b v) := HN.out.below hb1
  clear hb1 HN HW
  go_wp2_with (first | (refine step_cload rfl _ rfl w.heap.size a rfl H1.out.ab.ca ?_) | fail)
  refine Calls.mono (HA.out _ H1.out.ab.bel) ?_
  rintro e w2 ⟨qa, rfl, hfa, hb2⟩
  have HFA : Hid (qa = true → FewC a) := hfa
  have H2 : Hid (OB w w2 a b v) := H1.out.below hb2
  clear hb2 H1 HA hfa
  go_wp2_with (first | (refine step_cload rfl _ rfl (w.heap.size + 1) b rfl H2.out.ab.cb ?_) | fail)
  refine Calls.mono (HB.out _ H2.out.ab.bel) ?_
  rintro e w3 ⟨qb, rfl, hfb, hb3⟩
  have HFB : Hid (qb = true → FewC b) := hfb
  have H3 : Hid (OB w w3 a b v) := H2.out.below hb3
  clear hb3 H2 HB hfb
  cases qa
  · go_wp2_with fail
    go_ret
    exact ⟨rfl, H3.out.ab.bel⟩
  cases qb
  · go_wp2_with fail
    go_ret
    exact ⟨rfl, H3.out.ab.bel⟩
  have HF : Hid (FewC a ∧ FewC b) := ⟨HFA.out rfl, HFB.out rfl⟩
  clear HFA HFB
  go_wp2_with (first | (refine step_cload rfl _ rfl w.heap.size a rfl H3.out.ab.ca ?_) | fail)
  refine Calls.mono (HC.out HF.out.1 _ H3.out.ab.bel) ?_
  rintro e w4 ⟨c, rfl, hl, hn, hb⟩
  have HLC : Hid (LikeC a c ∧ OneC c) := ⟨hl, hn.isIn.one⟩
  have H4 : Hid (∀ w5, CB w5 w4.heap.size c → Sv (fun k => k = w4.heap.size) (w4.alloc (cobj zeroC TC)) w5 → OB w w5 a b v ∧ CB w5 w4.heap.size c ∧ NewC w5 w3.heap.size c ∧ Shp w5 w3.heap.size w4.heap.size c) := fun w5 h1 h2 => by
    have hs := new_store h2
    exact ⟨(H3.out.below hb).below hs, h1, hn.below hs, hn.shp.below hs⟩
  have HNU : Hid (w.heap.size + 3 ≤ w3.heap.size ∧ w3.heap.size ≤ w4.heap.size) := ⟨H3.out.lt, hb.size⟩
  clear hl hn hb H3 HC
  generalize w3.heap.size = A at *
  go_wp2_with (first
    | (refine step_cstore rfl _ _ rfl w4.heap.size c zeroC rfl rfl HLC.out.2 (CB.new w4 zeroC) ?_; intro w5 h1 h2
       have H5 : Hid (OB w w5 a b v ∧ CB w5 w4.heap.size c ∧ NewC w5 A c ∧ Shp w5 A w4.heap.size c) := H4.out w5 h1 h2
       clear h1 h2 H4)
    | (refine step_cload rfl _ rfl w.heap.size a rfl H5.out.1.ab.ca ?_)
    | (refine step_cload rfl _ rfl w4.heap.size c rfl H5.out.2.1 ?_)
    | fail)
  generalize w4.heap.size = C at *
  refine Calls.mono (HQ.out c _ HLC.out.1 H5.out.1.ab.bel H5.out.2.2.1.isIn) ?_
  rintro e w6 ⟨rfl, hb⟩
  have H6 : Hid (OB w w6 a b v ∧ CB w6 C c ∧ Shp w6 A C c) := ⟨H5.out.1.below hb, H5.out.2.1.below hb, H5.out.2.2.2.below hb⟩
  clear hb H5
  go_wp2_with (first | (refine step_cload rfl _ rfl w.heap.size a rfl H6.out.1.ab.ca ?_) | fail)
  refine Calls.mono (HT.out HF.out.1 _ H6.out.1.ab.bel) ?_
  rintro e w7 ⟨o, rfl, hl, hn, hb⟩
  have HLO : Hid (LikeC a o ∧ OneC o) := ⟨hl, hn.isIn.one⟩
  have H7 : Hid (∀ w8, CB w8 w7.heap.size o → Sv (fun k => k = w7.heap.size) (w7.alloc (cobj zeroC TC)) w8 → PE w w8 a b v A C w6.heap.size w7.heap.size c o) := fun w8 h1 h2 => by
    have hs := new_store h2
    have hs' := on hb hs
    exact ⟨H6.out.1.below hs', H6.out.2.1.below hs', H6.out.2.2.below hs', h1, hn.below hs, HNU.out.1, HNU.out.2, Nat.le_of_lt H6.out.2.1.lt, hb.size⟩
  clear hl hn hb HT HNU H6
  generalize w6.heap.size = D at *
  go_wp2_with (first
    | (refine step_cstore rfl _ _ rfl w7.heap.size o zeroC rfl rfl HLO.out.2 (CB.new w7 zeroC) ?_; intro w8 h1 h2
       have HPE : Hid (PE w w8 a b v A C D w7.heap.size c o) := H7.out w8 h1 h2
       clear h1 h2 H7)
    | (refine step_cload rfl _ rfl w.heap.size a rfl HPE.out.ob.ab.ca ?_)
    | (refine step_cload rfl _ rfl (w.heap.size + 1) b rfl HPE.out.ob.ab.cb ?_)
    | fail)
  generalize w7.heap.size = O at *
  refine Calls.mono (HJ.out HF.out.1 HF.out.2 _ HPE.out.ob.ab.bel) ?_
  rintro e w9 ⟨j, rfl, -, hn, hb⟩
  have HOJ : Hid (OneC j) := hn.isIn.one
  have H9 : Hid (∀ w10, CB w10 w9.heap.size j → Sv (fun k => k = w9.heap.size) (w9.alloc (cobj zeroC TC)) w10 → Below w8.heap.size w8 w10 ∧ OY w w10 a b v w9.heap.size j w8.heap.size ∧ Shp w10 w8.heap.size w9.heap.size j) := fun w10 h1 h2 => HPE.out.joined hn hb h1 h2
  clear hn hb HJ HF
  go_wp2_with (first
    | (refine step_cstore rfl _ _ rfl w9.heap.size j zeroC rfl rfl HOJ.out (CB.new w9 zeroC) ?_; intro w10 h1 h2
       have H10 : Hid (Below w8.heap.size w8 w10 ∧ OY w w10 a b v w9.heap.size j w8.heap.size ∧ Shp w10 w8.heap.size w9.heap.size j) := H9.out w10 h1 h2
       clear h1 h2 H9)
    | fail)
  generalize w9.heap.size = J at *
  have HS1 : Hid (Below w8.heap.size w8 w10) := H10.out.1
  have HY1 : Hid (OY w w10 a b v J j w8.heap.size ∧ Shp w10 w8.heap.size J j) := H10.out.2
  clear H10
  obtain ⟨ai1, ci1, hiv1⟩ := HY1.out.2.ivs
  obtain ⟨ap1, cp1, hlv1⟩ := HY1.out.2.lvs
  have HIV1 : Hid (j.iv = .slice ai1 j.ims.length ci1) := hiv1
  have HLV1 : Hid (j.p.lv = .slice ap1 j.p.l.length cp1) := hlv1
  have HC61 : Hid (∀ w', Ph w10 w' (w8.heap.size) J j → w'.cell? ⟨J, 6, none⟩ = some (.slice ai1 j.ims.length ci1)) := fun w' h => by
    have := (HY1.out.1.ph h).cb.cell 6
    rwa [show (ccells j)[6]? = some j.iv from rfl, HIV1.out] at this
  have HC151 : Hid (∀ w', Ph w10 w' (w8.heap.size) J j → w'.cell? ⟨J, 15, none⟩ = some (.slice ap1 j.p.l.length cp1)) := fun w' h => by
    have := (HY1.out.1.ph h).cb.cell 15
    rwa [show (ccells j)[15]? = some j.p.lv from rfl, HLV1.out] at this
  clear hiv1 hlv1
  go_loopw [13, 14] (fun i _ wr => ∃ k : Nat, k ≤ j.ims.length ∧ i = .int .i64 k ∧ Hid (Ph w10 wr (w8.heap.size) J j))
    (fun i _ _ => j.ims.length - (intOf i).toNat)
  case atStart => exact ⟨0, Nat.zero_le _, rfl, Ph.start HY1.out.2⟩
  case round =>
    obtain ⟨k, hk, rfl, HX⟩ := hrel
    have c6 : wr.cell? ⟨J, 6, none⟩ = some (.slice ai1 j.ims.length ci1) := HC61.out _ HX.out
    by_cases h1 : k < j.ims.length
    · have k0 : (0 : Int) ≤ (k : Int) := by omega
      have k1 : (k : Int) < (j.ims.length : Int) := by omega
      obtain ⟨b1, hb1, hat⟩ := HY1.out.2.at HIV1.out h1
      obtain ⟨ar, cr, hrv, hrow⟩ := HY1.out.2.row h1
      have HAT : Hid (∀ w', Shp w' (w8.heap.size) J j → w'.cell? ⟨b1, k, none⟩ = some (.slice ar j.ims[k].r.length cr)) := fun w' h => by rw [← hrv]; exact hat w' h
      have HRW : Hid (0 < j.ims[k].r.length → ∃ g, ar = some ⟨g, 0, none⟩ ∧ w8.heap.size ≤ g ∧ g < J ∧ ∀ w', Shp w' (w8.heap.size) J j → Room w' g TVa (j.ims[k].r.length * 3)) := hrow
      have HKN : Hid (k + 1 ≤ j.ims.length) := h1
      have hkb : k < 9223372036854775807 := by have := HY1.out.2.le.1; omega
      have hmb : j.ims[k].r.length ≤ 9223372036854775807 := HY1.out.2.le.2.1 _ (List.getElem_mem h1)
      clear hat hrv hrow
      generalize j.ims[k].r.length = m at *
      subst hb1
      go_wp2_with fail
      go_loopw [14] (fun i wr => ∃ k2 : Nat, k2 ≤ m ∧ i = .int .i64 k2 ∧ Hid (Ph w10 wr (w8.heap.size) J j)) (fun i _ => m - (intOf i).toNat)
      case atStart => exact ⟨0, Nat.zero_le _, rfl, HX.out⟩
      case round =>
        clear HX c6
        obtain ⟨k2, hk2, rfl, HZ⟩ := hrel
        have c6 : wr.cell? ⟨J, 6, none⟩ = some (.slice (some ⟨b1, 0, none⟩) j.ims.length ci1) := HC61.out _ HZ.out
        have e1 : wr.cell? ⟨b1, k, none⟩ = some (.slice ar m cr) := HAT.out _ HZ.out.sh
        by_cases h2 : k2 < m
        · obtain ⟨g, rfl, hg1, hg2, hroom⟩ := HRW.out (by omega)
          have k20 : (0 : Int) ≤ (k2 : Int) := by omega
          have k21 : (k2 : Int) < (m : Int) := by omega
          have HSS : Hid (∀ w', Ph w10 w' (w8.heap.size) J j → w'.cell? ⟨J, 6, none⟩ = some (.slice (some ⟨b1, 0, none⟩) j.ims.length ci1) ∧ w'.cell? ⟨b1, k, none⟩ = some (.slice (some ⟨g, 0, none⟩) m cr) ∧ w'.cell? ⟨w.heap.size + 2, 0, none⟩ = some (.bool v.t) ∧ w'.cell? ⟨w.heap.size + 2, 1, none⟩ = some (.int .i64 v.n) ∧ w'.cell? ⟨w.heap.size + 2, 2, none⟩ = some (.string v.s)) := fun w' h => ⟨HC61.out _ h, HAT.out _ h.sh, (HY1.out.1.ph h).ob.v0, (HY1.out.1.ph h).ob.v1, (HY1.out.1.ph h).ob.v2⟩
          have HD0 : Hid (Ph w10 wr.drew (w8.heap.size) J j) := HZ.out.drew
          have HRM : Hid (w8.heap.size ≤ g ∧ g < J ∧ ∀ w', Shp w' (w8.heap.size) J j → Room w' g TVa (m * 3)) := ⟨hg1, hg2, hroom⟩
          have HK2 : Hid (k2 + 1 ≤ m) := h2
          clear HZ hg1 hg2 hroom
          go_wp2_with fail
          refine wp_region_held_drew (S := fun w' => w'.cell? ⟨J, 6, none⟩ = some (.slice (some ⟨b1, 0, none⟩) j.ims.length ci1) ∧ w'.cell? ⟨b1, k, none⟩ = some (.slice (some ⟨g, 0, none⟩) m cr) ∧ w'.cell? ⟨w.heap.size + 2, 0, none⟩ = some (.bool v.t) ∧ w'.cell? ⟨w.heap.size + 2, 1, none⟩ = some (.int .i64 v.n) ∧ w'.cell? ⟨w.heap.size + 2, 2, none⟩ = some (.string v.s)) (by kernel_rfl) ?_ (fun hHeld => ?_)
          · exact HSS.out _ HD0.out
          generalize wr.drew = wd at *
          have hr := HRM.out.2.2 _ HD0.out.sh
          obtain ⟨u0, r0⟩ := hr.cell (k2 * 3) (by have := HK2.out; omega)
          obtain ⟨u1, r1⟩ := hr.cell (k2 * 3 + 1) (by have := HK2.out; omega)
          obtain ⟨u2, r2⟩ := hr.cell (k2 * 3 + 2) (by have := HK2.out; omega)
          have f0 : ∀ j, wd.frozen? ⟨g, j, none⟩ = false := fun j => hr.free j
          have HP : Hid (Ph w10 (((wd.setCell ⟨g, k2 * 3, none⟩ (.bool v.t)).setCell ⟨g, k2 * 3 + 1, none⟩ (.int .i64 v.n)).setCell ⟨g, k2 * 3 + 2, none⟩ (.string v.s)) (w8.heap.size) J j) := HD0.out.wr (Wr.three hr _ _ _ _ _ _) HRM.out.1 HRM.out.2.1 (by decide)
          clear hr HD0
          (try clear hK K)
          refine wpAnyH_take (i := 0) (v := ?_) rfl (by kernel_rfl) (by kernel_rfl) (by kernel_rfl) (fun _ _ _ h => h) (Or.inl ⟨by rfl, ?_⟩) (by assumption) ?_
          rotate_left
          · intro w hSw; (try dsimp only at hSw); go_simp; (try with_reducible rfl)
          (try simp only [Act.put, List.getElem_toArray, List.getElem_cons_zero, List.setIfInBounds_toArray, List.set_cons_zero, List.set_cons_succ])
          refine wpAnyH_take (i := 1) (v := ?_) rfl (by kernel_rfl) (by kernel_rfl) (by kernel_rfl) (fun _ _ _ h => h) (Or.inl ⟨by rfl, ?_⟩) (by assumption) ?_
          rotate_left
          · intro w hSw; (try dsimp only at hSw); go_simp; (try with_reducible rfl)
          (try simp only [Act.put, List.getElem_toArray, List.getElem_cons_succ, List.getElem_cons_zero, List.setIfInBounds_toArray, List.set_cons_zero, List.set_cons_succ])
          refine wpAnyH_take (i := 2) (v := ?_) rfl (by kernel_rfl) (by kernel_rfl) (by kernel_rfl) (fun _ _ _ h => h) (Or.inl ⟨by rfl, ?_⟩) (by assumption) ?_
          rotate_left
          · intro w hSw; (try dsimp only at hSw); go_simp; (try with_reducible rfl)
          (try simp only [Act.put, List.getElem_toArray, List.getElem_cons_succ, List.getElem_cons_zero, List.setIfInBounds_toArray, List.set_cons_zero, List.set_cons_succ])
          refine wpAnyH_take (i := 3) (v := ?_) rfl (by kernel_rfl) (by kernel_rfl) (by kernel_rfl) (fun _ _ _ h => h) (Or.inl ⟨by rfl, ?_⟩) (by assumption) ?_
          rotate_left
          · intro w hSw; (try dsimp only at hSw); go_simp; (try with_reducible rfl)
          (try simp only [Act.put, List.getElem_toArray, List.getElem_cons_succ, List.getElem_cons_zero, List.setIfInBounds_toArray, List.set_cons_zero, List.set_cons_succ])
          refine wpAnyH_take (i := 4) (v := ?_) rfl (by kernel_rfl) (by kernel_rfl) (by kernel_rfl) (fun _ _ _ h => h) (Or.inl ⟨by rfl, ?_⟩) (by assumption) ?_
          rotate_left
          · intro w hSw; (try dsimp only at hSw); go_simp; (try with_reducible rfl)
          (try simp only [Act.put, List.getElem_toArray, List.getElem_cons_succ, List.getElem_cons_zero, List.setIfInBounds_toArray, List.set_cons_zero, List.set_cons_succ])
          refine wpAnyH_take (i := 5) (v := ?_) rfl (by kernel_rfl) (by kernel_rfl) (by kernel_rfl) (fun _ _ _ h => h) (Or.inl ⟨by rfl, ?_⟩) (by assumption) ?_
          rotate_left
          · intro w hSw; (try dsimp only at hSw); go_simp; (try with_reducible rfl)
          (try simp only [Act.put, List.getElem_toArray, List.getElem_cons_succ, List.getElem_cons_zero, List.setIfInBounds_toArray, List.set_cons_zero, List.set_cons_succ])
          refine wpAnyH_take (i := 6) (v := ?_) rfl (by kernel_rfl) (by kernel_rfl) (by kernel_rfl) (fun _ _ _ h => h) (Or.inl ⟨by rfl, ?_⟩) (by assumption) ?_
          rotate_left
          · intro w hSw; (try dsimp only at hSw); go_simp; (try with_reducible rfl)
          (try simp only [Act.put, List.getElem_toArray, List.getElem_cons_succ, List.getElem_cons_zero, List.setIfInBounds_toArray, List.set_cons_zero, List.set_cons_succ])
          refine wpAnyH_take (i := 7) (v := ?_) rfl (by kernel_rfl) (by kernel_rfl) (by kernel_rfl) (fun _ _ _ h => h) (Or.inl ⟨by rfl, ?_⟩) (by assumption) ?_
          rotate_left
          · intro w hSw; (try dsimp only at hSw); go_simp; (try with_reducible rfl)
          (try simp only [Act.put, List.getElem_toArray, List.getElem_cons_succ, List.getElem_cons_zero, List.setIfInBounds_toArray, List.set_cons_zero, List.set_cons_succ])
          (try clear hK K)
          refine wpAnyH_ready (rs := [8]) (by kernel_rfl) (by simp) ?_
          refine AllReadyH.cons rfl (fun K hK => ?_) AllReadyH.nil
          go_simp
          refine hK.out _ _ ?_ (fun hHeld => ?_)
          · exact HSS.out _ HP.out
          (try clear hK K)
          refine wpAnyH_done (by kernel_rfl) ?_ _
          clear r0 r1 r2 f0 HSS hHeld
          generalize ((wd.setCell ⟨g, k2 * 3, none⟩ (.bool v.t)).setCell ⟨g, k2 * 3 + 1, none⟩ (.int .i64 v.n)).setCell ⟨g, k2 * 3 + 2, none⟩ (.string v.s) = w5 at *
          go_wp2_with fail
          go_roundw
          case rel => exact ⟨k2 + 1, HK2.out, by go_num, HP⟩
          case measure => simp [intOf]; omega
        · have k21 : decide ((k2 : Int) < (m : Int)) = false := by simp; omega
          have k22 : decide (k2 < m) = false := decide_eq_false h2
          go_wp2_with fail
          go_roundw
          case rel => exact ⟨k + 1, HKN.out, by go_num, HZ⟩
          case measure => simp [intOf]; omega
    · have k1 : decide ((k : Int) < (j.ims.length : Int)) = false := by simp; omega
      have k2 : decide (k < j.ims.length) = false := decide_eq_false h1
      clear hk h1
      go_wp2_with fail
      go_loopw [15] (fun i wr => ∃ k : Nat, k ≤ j.p.l.length ∧ i = .int .i64 k ∧ Hid (Ph w10 wr (w8.heap.size) J j))
        (fun i _ => j.p.l.length - (intOf i).toNat)
      case atStart => exact ⟨0, Nat.zero_le _, rfl, HX.out⟩
      case round =>
        clear HX c6
        obtain ⟨k, hk, rfl, HX⟩ := hrel
        have c15 : wr.cell? ⟨J, 15, none⟩ = some (.slice ap1 j.p.l.length cp1) := HC151.out _ HX.out
        by_cases h1 : k < j.p.l.length
        · have k0 : (0 : Int) ≤ (k : Int) := by omega
          have k1 : (k : Int) < (j.p.l.length : Int) := by omega
          obtain ⟨g, rfl, hg1, hg2, hroom⟩ := HY1.out.2.part HLV1.out (by omega)
          have hr := hroom _ HX.out.sh
          obtain ⟨u0, r0⟩ := hr.cell (k * 9) (by omega)
          have f0 : ∀ j, wr.frozen? ⟨g, j, none⟩ = false := fun j => hr.free j
          have HP : Hid (Ph w10 (wr.setCell ⟨g, k * 9, none⟩ (.int .i64 77)) (w8.heap.size) J j) := HX.out.wr (Wr.one hr _ _) hg1 hg2 (by decide)
          have HKN : Hid (k + 1 ≤ j.p.l.length) := h1
          have hkb : k < 9223372036854775807 := by have := HY1.out.2.le.2.2; omega
          clear hr hroom hg1 hg2 HX
          go_wp2_with fail
          go_roundw
          case rel => exact ⟨k + 1, HKN.out, by go_num, HP⟩
          case measure => simp [intOf]; omega
        · have k1 : decide ((k : Int) < (j.p.l.length : Int)) = false := by simp; omega
          have k2 : decide (k < j.p.l.length) = false := decide_eq_false h1
          clear hk h1
          have HPF : Hid (PE w wr a b v A C D O c o) := (HPE.out.second HS1.out HX.out).1
          have HY2 : Hid (OY w wr a b v C c A ∧ Shp wr A C c) := (HPE.out.second HS1.out HX.out).2
          clear HX HPE HS1 HY1
          go_wp2_with fail
          clear c15
          generalize wr = wF at *
          obtain ⟨ai2, ci2, hiv2⟩ := HY2.out.2.ivs
          obtain ⟨ap2, cp2, hlv2⟩ := HY2.out.2.lvs
          have HIV2 : Hid (c.iv = .slice ai2 c.ims.length ci2) := hiv2
          have HLV2 : Hid (c.p.lv = .slice ap2 c.p.l.length cp2) := hlv2
          have HC62 : Hid (∀ w', Ph wF w' (A) C c → w'.cell? ⟨C, 6, none⟩ = some (.slice ai2 c.ims.length ci2)) := fun w' h => by
            have := (HY2.out.1.ph h).cb.cell 6
            rwa [show (ccells c)[6]? = some c.iv from rfl, HIV2.out] at this
          have HC152 : Hid (∀ w', Ph wF w' (A) C c → w'.cell? ⟨C, 15, none⟩ = some (.slice ap2 c.p.l.length cp2)) := fun w' h => by
            have := (HY2.out.1.ph h).cb.cell 15
            rwa [show (ccells c)[15]? = some c.p.lv from rfl, HLV2.out] at this
          clear hiv2 hlv2
          go_loopw [16, 17] (fun i _ wr => ∃ k : Nat, k ≤ c.ims.length ∧ i = .int .i64 k ∧ Hid (Ph wF wr (A) C c))
            (fun i _ _ => c.ims.length - (intOf i).toNat)
          case atStart => exact ⟨0, Nat.zero_le _, rfl, Ph.start HY2.out.2⟩
          case round =>
            obtain ⟨k, hk, rfl, HX⟩ := hrel
            have c6 : wr.cell? ⟨C, 6, none⟩ = some (.slice ai2 c.ims.length ci2) := HC62.out _ HX.out
            by_cases h1 : k < c.ims.length
            · have k0 : (0 : Int) ≤ (k : Int) := by omega
              have k1 : (k : Int) < (c.ims.length : Int) := by omega
              obtain ⟨b1, hb1, hat⟩ := HY2.out.2.at HIV2.out h1
              obtain ⟨ar, cr, hrv, hrow⟩ := HY2.out.2.row h1
              have HAT : Hid (∀ w', Shp w' (A) C c → w'.cell? ⟨b1, k, none⟩ = some (.slice ar c.ims[k].r.length cr)) := fun w' h => by rw [← hrv]; exact hat w' h
              have HRW : Hid (0 < c.ims[k].r.length → ∃ g, ar = some ⟨g, 0, none⟩ ∧ A ≤ g ∧ g < C ∧ ∀ w', Shp w' (A) C c → Room w' g TVa (c.ims[k].r.length * 3)) := hrow
              have HKN : Hid (k + 1 ≤ c.ims.length) := h1
              have hkb : k < 9223372036854775807 := by have := HY2.out.2.le.1; omega
              have hmb : c.ims[k].r.length ≤ 9223372036854775807 := HY2.out.2.le.2.1 _ (List.getElem_mem h1)
              clear hat hrv hrow
              generalize c.ims[k].r.length = m at *
              subst hb1
              go_wp2_with fail
              go_loopw [17] (fun i wr => ∃ k2 : Nat, k2 ≤ m ∧ i = .int .i64 k2 ∧ Hid (Ph wF wr (A) C c)) (fun i _ => m - (intOf i).toNat)
              case atStart => exact ⟨0, Nat.zero_le _, rfl, HX.out⟩
              case round =>
                clear HX c6
                obtain ⟨k2, hk2, rfl, HZ⟩ := hrel
                have c6 : wr.cell? ⟨C, 6, none⟩ = some (.slice (some ⟨b1, 0, none⟩) c.ims.length ci2) := HC62.out _ HZ.out
                have e1 : wr.cell? ⟨b1, k, none⟩ = some (.slice ar m cr) := HAT.out _ HZ.out.sh
                by_cases h2 : k2 < m
                · obtain ⟨g, rfl, hg1, hg2, hroom⟩ := HRW.out (by omega)
                  have k20 : (0 : Int) ≤ (k2 : Int) := by omega
                  have k21 : (k2 : Int) < (m : Int) := by omega
                  have HSS : Hid (∀ w', Ph wF w' (A) C c → w'.cell? ⟨C, 6, none⟩ = some (.slice (some ⟨b1, 0, none⟩) c.ims.length ci2) ∧ w'.cell? ⟨b1, k, none⟩ = some (.slice (some ⟨g, 0, none⟩) m cr) ∧ w'.cell? ⟨w.heap.size + 2, 0, none⟩ = some (.bool v.t) ∧ w'.cell? ⟨w.heap.size + 2, 1, none⟩ = some (.int .i64 v.n) ∧ w'.cell? ⟨w.heap.size + 2, 2, none⟩ = some (.string v.s)) := fun w' h => ⟨HC62.out _ h, HAT.out _ h.sh, (HY2.out.1.ph h).ob.v0, (HY2.out.1.ph h).ob.v1, (HY2.out.1.ph h).ob.v2⟩
                  have HD0 : Hid (Ph wF wr.drew (A) C c) := HZ.out.drew
                  have HRM : Hid (A ≤ g ∧ g < C ∧ ∀ w', Shp w' (A) C c → Room w' g TVa (m * 3)) := ⟨hg1, hg2, hroom⟩
                  have HK2 : Hid (k2 + 1 ≤ m) := h2
                  clear HZ hg1 hg2 hroom
                  go_wp2_with fail
                  refine wp_region_held_drew (S := fun w' => w'.cell? ⟨C, 6, none⟩ = some (.slice (some ⟨b1, 0, none⟩) c.ims.length ci2) ∧ w'.cell? ⟨b1, k, none⟩ = some (.slice (some ⟨g, 0, none⟩) m cr) ∧ w'.cell? ⟨w.heap.size + 2, 0, none⟩ = some (.bool v.t) ∧ w'.cell? ⟨w.heap.size + 2, 1, none⟩ = some (.int .i64 v.n) ∧ w'.cell? ⟨w.heap.size + 2, 2, none⟩ = some (.string v.s)) (by kernel_rfl) ?_ (fun hHeld => ?_)
                  · exact HSS.out _ HD0.out
                  generalize wr.drew = wd at *
                  have hr := HRM.out.2.2 _ HD0.out.sh
                  obtain ⟨u0, r0⟩ := hr.cell (k2 * 3) (by have := HK2.out; omega)
                  obtain ⟨u1, r1⟩ := hr.cell (k2 * 3 + 1) (by have := HK2.out; omega)
                  obtain ⟨u2, r2⟩ := hr.cell (k2 * 3 + 2) (by have := HK2.out; omega)
                  have f0 : ∀ j, wd.frozen? ⟨g, j, none⟩ = false := fun j => hr.free j
                  have HP : Hid (Ph wF (((wd.setCell ⟨g, k2 * 3, none⟩ (.bool v.t)).setCell ⟨g, k2 * 3 + 1, none⟩ (.int .i64 v.n)).setCell ⟨g, k2 * 3 + 2, none⟩ (.string v.s)) (A) C c) := HD0.out.wr (Wr.three hr _ _ _ _ _ _) HRM.out.1 HRM.out.2.1 (by decide)
                  clear hr HD0
                  (try clear hK K)
                  refine wpAnyH_take (i := 0) (v := ?_) rfl (by kernel_rfl) (by kernel_rfl) (by kernel_rfl) (fun _ _ _ h => h) (Or.inl ⟨by rfl, ?_⟩) (by assumption) ?_
                  rotate_left
                  · intro w hSw; (try dsimp only at hSw); go_simp; (try with_reducible rfl)
                  (try simp only [Act.put, List.getElem_toArray, List.getElem_cons_zero, List.setIfInBounds_toArray, List.set_cons_zero, List.set_cons_succ])
                  refine wpAnyH_take (i := 1) (v := ?_) rfl (by kernel_rfl) (by kernel_rfl) (by kernel_rfl) (fun _ _ _ h => h) (Or.inl ⟨by rfl, ?_⟩) (by assumption) ?_
                  rotate_left
                  · intro w hSw; (try dsimp only at hSw); go_simp; (try with_reducible rfl)
                  (try simp only [Act.put, List.getElem_toArray, List.getElem_cons_succ, List.getElem_cons_zero, List.setIfInBounds_toArray, List.set_cons_zero, List.set_cons_succ])
                  refine wpAnyH_take (i := 2) (v := ?_) rfl (by kernel_rfl) (by kernel_rfl) (by kernel_rfl) (fun _ _ _ h => h) (Or.inl ⟨by rfl, ?_⟩) (by assumption) ?_
                  rotate_left
                  · intro w hSw; (try dsimp only at hSw); go_simp; (try with_reducible rfl)
                  (try simp only [Act.put, List.getElem_toArray, List.getElem_cons_succ, List.getElem_cons_zero, List.setIfInBounds_toArray, List.set_cons_zero, List.set_cons_succ])
                  refine wpAnyH_take (i := 3) (v := ?_) rfl (by kernel_rfl) (by kernel_rfl) (by kernel_rfl) (fun _ _ _ h => h) (Or.inl ⟨by rfl, ?_⟩) (by assumption) ?_
                  rotate_left
                  · intro w hSw; (try dsimp only at hSw); go_simp; (try with_reducible rfl)
                  (try simp only [Act.put, List.getElem_toArray, List.getElem_cons_succ, List.getElem_cons_zero, List.setIfInBounds_toArray, List.set_cons_zero, List.set_cons_succ])
                  refine wpAnyH_take (i := 4) (v := ?_) rfl (by kernel_rfl) (by kernel_rfl) (by kernel_rfl) (fun _ _ _ h => h) (Or.inl ⟨by rfl, ?_⟩) (by assumption) ?_
                  rotate_left
                  · intro w hSw; (try dsimp only at hSw); go_simp; (try with_reducible rfl)
                  (try simp only [Act.put, List.getElem_toArray, List.getElem_cons_succ, List.getElem_cons_zero, List.setIfInBounds_toArray, List.set_cons_zero, List.set_cons_succ])
                  refine wpAnyH_take (i := 5) (v := ?_) rfl (by kernel_rfl) (by kernel_rfl) (by kernel_rfl) (fun _ _ _ h => h) (Or.inl ⟨by rfl, ?_⟩) (by assumption) ?_
                  rotate_left
                  · intro w hSw; (try dsimp only at hSw); go_simp; (try with_reducible rfl)
                  (try simp only [Act.put, List.getElem_toArray, List.getElem_cons_succ, List.getElem_cons_zero, List.setIfInBounds_toArray, List.set_cons_zero, List.set_cons_succ])
                  refine wpAnyH_take (i := 6) (v := ?_) rfl (by kernel_rfl) (by kernel_rfl) (by kernel_rfl) (fun _ _ _ h => h) (Or.inl ⟨by rfl, ?_⟩) (by assumption) ?_
                  rotate_left
                  · intro w hSw; (try dsimp only at hSw); go_simp; (try with_reducible rfl)
                  (try simp only [Act.put, List.getElem_toArray, List.getElem_cons_succ, List.getElem_cons_zero, List.setIfInBounds_toArray, List.set_cons_zero, List.set_cons_succ])
                  refine wpAnyH_take (i := 7) (v := ?_) rfl (by kernel_rfl) (by kernel_rfl) (by kernel_rfl) (fun _ _ _ h => h) (Or.inl ⟨by rfl, ?_⟩) (by assumption) ?_
                  rotate_left
                  · intro w hSw; (try dsimp only at hSw); go_simp; (try with_reducible rfl)
                  (try simp only [Act.put, List.getElem_toArray, List.getElem_cons_succ, List.getElem_cons_zero, List.setIfInBounds_toArray, List.set_cons_zero, List.set_cons_succ])
                  (try clear hK K)
                  refine wpAnyH_ready (rs := [8]) (by kernel_rfl) (by simp) ?_
                  refine AllReadyH.cons rfl (fun K hK => ?_) AllReadyH.nil
                  go_simp
                  refine hK.out _ _ ?_ (fun hHeld => ?_)
                  · exact HSS.out _ HP.out
                  (try clear hK K)
                  refine wpAnyH_done (by kernel_rfl) ?_ _
                  clear r0 r1 r2 f0 HSS hHeld
                  generalize ((wd.setCell ⟨g, k2 * 3, none⟩ (.bool v.t)).setCell ⟨g, k2 * 3 + 1, none⟩ (.int .i64 v.n)).setCell ⟨g, k2 * 3 + 2, none⟩ (.string v.s) = w5 at *
                  go_wp2_with fail
                  go_roundw
                  case rel => exact ⟨k2 + 1, HK2.out, by go_num, HP⟩
                  case measure => simp [intOf]; omega
                · have k21 : decide ((k2 : Int) < (m : Int)) = false := by simp; omega
                  have k22 : decide (k2 < m) = false := decide_eq_false h2
                  go_wp2_with fail
                  go_roundw
                  case rel => exact ⟨k + 1, HKN.out, by go_num, HZ⟩
                  case measure => simp [intOf]; omega
            · have k1 : decide ((k : Int) < (c.ims.length : Int)) = false := by simp; omega
              have k2 : decide (k < c.ims.length) = false := decide_eq_false h1
              clear hk h1
              go_wp2_with fail
              go_loopw [18] (fun i wr => ∃ k : Nat, k ≤ c.p.l.length ∧ i = .int .i64 k ∧ Hid (Ph wF wr (A) C c))
                (fun i _ => c.p.l.length - (intOf i).toNat)
              case atStart => exact ⟨0, Nat.zero_le _, rfl, HX.out⟩
              case round =>
                clear HX c6
                obtain ⟨k, hk, rfl, HX⟩ := hrel
                have c15 : wr.cell? ⟨C, 15, none⟩ = some (.slice ap2 c.p.l.length cp2) := HC152.out _ HX.out
                by_cases h1 : k < c.p.l.length
                · have k0 : (0 : Int) ≤ (k : Int) := by omega
                  have k1 : (k : Int) < (c.p.l.length : Int) := by omega
                  obtain ⟨g, rfl, hg1, hg2, hroom⟩ := HY2.out.2.part HLV2.out (by omega)
                  have hr := hroom _ HX.out.sh
                  obtain ⟨u0, r0⟩ := hr.cell (k * 9) (by omega)
                  have f0 : ∀ j, wr.frozen? ⟨g, j, none⟩ = false := fun j => hr.free j
                  have HP : Hid (Ph wF (wr.setCell ⟨g, k * 9, none⟩ (.int .i64 78)) (A) C c) := HX.out.wr (Wr.one hr _ _) hg1 hg2 (by decide)
                  have HKN : Hid (k + 1 ≤ c.p.l.length) := h1
                  have hkb : k < 9223372036854775807 := by have := HY2.out.2.le.2.2; omega
                  clear hr hroom hg1 hg2 HX
                  go_wp2_with fail
                  go_roundw
                  case rel => exact ⟨k + 1, HKN.out, by go_num, HP⟩
                  case measure => simp [intOf]; omega
                · have k1 : decide ((k : Int) < (c.p.l.length : Int)) = false := by simp; omega
                  have k2 : decide (k < c.p.l.length) = false := decide_eq_false h1
                  clear hk h1
                  have HZ : Hid (OB w wr a b v ∧ CB wr O o ∧ NewC wr D o) := HPF.out.last HX.out
                  clear HX HPF
                  go_wp2_with (first | (refine step_cload rfl _ rfl w.heap.size a rfl HZ.out.1.ab.ca ?_) | (refine step_cload rfl _ rfl O o rfl HZ.out.2.1 ?_) | fail)
                  refine Calls.mono (HQ.out o _ HLO.out.1 HZ.out.1.ab.bel HZ.out.2.2.isIn) ?_
                  rintro e w12 ⟨rfl, hb⟩
                  have HE : Hid (Below w.heap.size w w12) := on HZ.out.1.ab.bel hb
                  clear hb HZ
                  go_wp2_with fail
                  go_ret
                  exact ⟨rfl, HE.out⟩
end Go.Proofs.YtkkbbpldeeajaaaDoor.Val
/- The law ClaimOwn holds: a clone is the same and new memory at all depths, and so is what is joined. Conditions: the listed package-level variables lie as the program's text lays them (the card ties them). -/
namespace Go.Proofs.YtkkbbpldeeajaaaDoor.Val
open Go.ChangeShapes Go.WideShapes Go.ChangeAt Go.RowKit
open Go.ChangeMaps (open_string)

theorem cown_contract (H : Type) (enc : TypeId × Value → H) (W : World) (base : Nat) (args : Array Value) (ds gs : List (DataW H)) (before : List MemPlace)
    (hval : ∀ (j : Nat) t v, Tryd.f7.params[j]? = some t → args[j]? = some v → Value.okWide Tryd.prog W .any base t v)
    (hW : DataW.Whole enc Tryd.prog Tryd.f7.params.toList Rows.claimOwnSpec.vars false W args.toList ds gs before) (hL : laidMetH Tryd.prog Rows.claimOwnRow.laid W) :
    Calls Tryd.prog 7 args W fun e W' => ∃ v, e = .returned v ∧ Rows.claimOwnSpec.post enc Tryd.prog Tryd.f7 false true false false W args v W' := by
  have hW' := hW
  obtain ⟨p, q, hA0, hV, rfl, hfz, hnd⟩ := hW
  have hA : DataW.TrodAll enc Tryd.prog W 0 (fun _ => true) true Tryd.f7.params.toList args.toList ds p := hA0
  rw [Tryd.params7] at hA hval
  obtain ⟨v0, vs0, d0, ds0, p0, q0, hargs, rfl, rfl, h0, r0⟩ := trodAll_cons hA
  obtain ⟨v1, vs1, d1, ds1, p1, q1, rfl, rfl, rfl, h1, r1⟩ := trodAll_cons r0
  obtain ⟨v2, vs2, d2, ds2, p2, q2, rfl, rfl, rfl, h2, r2⟩ := trodAll_cons r1
  obtain ⟨rfl, rfl, rfl⟩ := trodAll_nil r2
  obtain rfl : args = #[v0, v1, v2] := by cases args; simp_all
  obtain ⟨rfl, rfl⟩ := trodVars_none hV
  have k0 := h0
  have lt0 : ∀ x ∈ p0, x.block < W.heap.size := by obtain ⟨m, hm⟩ := k0; exact DataW.trod_lt m _ _ _ hm
  obtain ⟨x0, rfl, o0⟩ := open_claim (hval 0 31 v0 rfl rfl) h0
  have k1 := h1
  have lt1 : ∀ x ∈ p1, x.block < W.heap.size := by obtain ⟨m, hm⟩ := k1; exact DataW.trod_lt m _ _ _ hm
  obtain ⟨x1, rfl, o1⟩ := open_claim (hval 1 31 v1 rfl rfl) h1
  have k2 := h2
  have lt2 : ∀ x ∈ p2, x.block < W.heap.size := by obtain ⟨m, hm⟩ := k2; exact DataW.trod_lt m _ _ _ hm
  obtain ⟨x2, rfl, o2⟩ := open_value (hval 2 25 v2 rfl rfl) h2
  clear hA0
  have hT := tabOf hL
  refine (cown_walk x0 x1 x2 W hT o0.isIn o1.isIn).mono fun e W' ⟨he, bel⟩ => ?_
  subst he
  exact ⟨_, rfl, _, _, _, [], _, [], hW', trodAll_mk1 (shut_bool Tryd.underlying4 _), (trodAll_cons_mk (Below.trod laidOut (by kernel_rfl) (of_decide_eq_true (by kernel_rfl)) k0 bel lt0) (trodAll_cons_mk (Below.trod laidOut (by kernel_rfl) (of_decide_eq_true (by kernel_rfl)) k1 bel lt1) (trodAll_cons_mk (Below.trod laidOut (by kernel_rfl) (of_decide_eq_true (by kernel_rfl)) k2 bel lt2) trodAll_mk0))), rfl, bel.frame _, fun h => by cases h⟩

set_option maxRecDepth 100000 in
theorem cown_lifted (os : Os) (started : os.Started) (H : Type) (enc : TypeId × Value → H) (F : Stop.Interp) :
    ReturnsInHanded {} Tryd.checked os 7 .any ((OpenSpec.ofChange Rows.claimOwnSpec).preRow enc Tryd.prog Tryd.f7 Rows.claimOwnRow.domain false Rows.claimOwnRow.laid) (((OpenSpec.ofChange Rows.claimOwnSpec).at F).post enc Tryd.prog Tryd.f7 false true false false) := by
  refine returnsInHanded_of_row (C := Tryd.checked) (s := OpenSpec.ofChange Rows.claimOwnSpec) own started (by kernel_rfl) Tryd.func7
    (witness_row_at (enc := enc) (C := Tryd.checked) false
      { World.holding Tryd.prog os ⟨#[], #[], []⟩ with heap := ((World.holding Tryd.prog os ⟨#[], #[], []⟩).heap.modify 0 (putCells (dataCells .u8 clashT))) }
      #[.agg #[.int .i64 0, .int .i64 0, .int .i64 0, .bool false, .int .i64 0, .string ⟨#[]⟩, .slice none 0 0, .int .i64 0, .int .i64 0, .bool false, .int .i64 0, .string ⟨#[]⟩, .bool false, .int .i64 0, .string ⟨#[]⟩, .slice none 0 0], .agg #[.int .i64 0, .int .i64 0, .int .i64 0, .bool false, .int .i64 0, .string ⟨#[]⟩, .slice none 0 0, .int .i64 0, .int .i64 0, .bool false, .int .i64 0, .string ⟨#[]⟩, .bool false, .int .i64 0, .string ⟨#[]⟩, .slice none 0 0], .agg #[.bool false, .int .i64 0, .string ⟨#[]⟩]] rfl (by kernel_rfl) (by kernel_rfl) (by kernel_rfl)
      (OpenSpec.preRow_of_cond 8 (x := ([.agg [.lit (.int .i64 0), .lit (.int .i64 0), .lit (.int .i64 0), .agg [.lit (.bool false), .lit (.int .i64 0), .lit (.string [])], .nil, .agg [.lit (.int .i64 0), .lit (.int .i64 0), .agg [.lit (.bool false), .lit (.int .i64 0), .lit (.string [])], .agg [.lit (.bool false), .lit (.int .i64 0), .lit (.string [])], .nil]], .agg [.lit (.int .i64 0), .lit (.int .i64 0), .lit (.int .i64 0), .agg [.lit (.bool false), .lit (.int .i64 0), .lit (.string [])], .nil, .agg [.lit (.int .i64 0), .lit (.int .i64 0), .agg [.lit (.bool false), .lit (.int .i64 0), .lit (.string [])], .agg [.lit (.bool false), .lit (.int .i64 0), .lit (.string [])], .nil]], .agg [.lit (.bool false), .lit (.int .i64 0), .lit (.string [])]], [], [])) (by kernel_rfl) (by kernel_rfl) (fun k hk => by cases hk) (by kernel_rfl) (laidMet_of_run' 8 (by kernel_rfl) (by kernel_rfl)))) ?_
  intro W base args ds gs before hval hW _ _ _ hL _ _
  exact cown_contract H enc W base args ds gs before hval hW hL

theorem cown_said : Rows.ClaimOwnSaid :=
  OpenClaim.holds_of_cond 7 Tryd.f7 rfl rfl rfl rfl rfl rfl rfl ⟨rfl, rfl, rfl, rfl, rfl⟩ rfl rfl rfl rfl rfl (by kernel_rfl) Tryd.func7 (by kernel_rfl)
    (of_decide_eq_true (by kernel_rfl)) (by unfold Func.isWrapper; first | (rw [if_pos (by decide +kernel)]; kernel_rfl) | (rw [if_neg (by decide +kernel)]; exact ⟨rfl, rfl⟩))
    (fun os started H enc _ F => by rw [OpenClaim.pre_eq_preRow]; exact cown_lifted os started H enc F)

theorem cown_plain (f : FuncId) (fn : Func) (hf : Tryd.pinned.checked.prog.funcNamed "ratline/ratlinelaw09.ClaimOwn" = some f) (hfn : Tryd.pinned.checked.prog.funcs[f]? = some fn) :
    false = Tryd.pinned.checked.prog.looks [] ∧ ∀ (j : Nat) t, fn.params[j]? = some t → Tryd.pinned.checked.prog.wantsStandIn t = false := by
  obtain rfl : f = 7 := Option.some.inj ((show Tryd.prog.funcNamed "ratline/ratlinelaw09.ClaimOwn" = some 7 by kernel_rfl).symm.trans hf) |>.symm
  obtain rfl : fn = Tryd.f7 := (Option.some.inj (Tryd.func7.symm.trans hfn)).symm
  refine ⟨by kernel_rfl, fun j t ht => ?_⟩
  rw [Tryd.params7] at ht
  have hm : t = 31 ∨ t = 31 ∨ t = 25 := by simpa using Array.mem_of_getElem? ht
  rcases hm with rfl | rfl | rfl
  · exact (show Tryd.prog.wantsStandIn 31 = false by kernel_rfl)
  · exact (show Tryd.prog.wantsStandIn 31 = false by kernel_rfl)
  · exact (show Tryd.prog.wantsStandIn 25 = false by kernel_rfl)

/-- The card. -/
theorem cown_card : Rows.ClaimOwnCardSaid :=
  Claim7.holds_tied_plain_at .later [] _ _ _ _ cown_said (fun _ h => by cases h) (by kernel_rfl) (fun _ h => by cases h) claimOwn_row_tie rfl ⟨rfl, rfl⟩ (by kernel_rfl) rfl cown_plain (by kernel_rfl)
end Go.Proofs.YtkkbbpldeeajaaaDoor.Val
