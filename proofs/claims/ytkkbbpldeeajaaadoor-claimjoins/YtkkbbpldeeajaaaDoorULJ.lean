/- The walk of the law ClaimJoins. -/
import Derived.Test.YtkkbbpldeeajaaaDoorUC5
import Derived.Test.YtkkbbpldeeajaaaDoorUJ
import Derived.Test.YtkkbbpldeeajaaaDoorUE7
import Derived.Test.YtkkbbpldeeajaaaDoorUC2
import Derived.Deep.RegionHeld3
import Derived.Test.YtkkbbpldeeajaaaDoorUF
namespace Go.Proofs.YtkkbbpldeeajaaaDoor.Val
open Go.RowKit
set_option maxRecDepth 100000

theorem lies_range {w : World} {ao : Option Addr} {c n : Nat} {l : List CP} (h : Lies w (.slice ao n c) l.length (l.flatMap ccells)) (k : Nat) (hk : k < l.length) : ∃ b o, ao = some ⟨b, o, none⟩ ∧ w.rangeAt b (o + k * 16) (ccells l[k]) := by
  obtain ⟨ao', c', e, h1, h2, h0, h3⟩ := h
  cases e
  rcases h3 with h3 | ⟨b, o, rfl, h3⟩
  · have := flat_length ccells 16 ccells_len l; rw [h3] at this; simp at this; omega
  · refine ⟨b, o, rfl, fun r u hr => ?_⟩
    have hr' : r < 16 := by have := (List.getElem?_eq_some_iff.1 hr).1; rwa [ccells_len] at this
    rw [Nat.add_assoc]
    exact h3 (k * 16 + r) u (by rw [flat_at _ 16 ccells_len l k r hk hr']; exact hr)
theorem range_keep {w w' : World} {b o : Nat} {cs : List Value} (h : w.rangeAt b o cs) (hb : Below w.heap.size w w') : w'.rangeAt b o cs := fun j u hj => by
  have := h j u hj
  rw [hb.cell (World.block_lt_of_cell? w _ this)]; exact this
/-- One of a row of claims is loaded. -/
theorem step_eload {ops : Array Oper} {rest : List Oper} {op : Oper} {a : Act} {w : World} {Q : Exit → Act → World → Prop} (hgd : op.guard = none) (x : Operand) (ho : op.op = .load 31 x) (b o : Nat) (c : CP) (hx : a.eval x = .pointer (some ⟨b, o, none⟩)) (hc : w.rangeAt b o (ccells c))
    (h : wpList Tryd.prog ops Q rest (a.put op.dst c.val) w) : wpList Tryd.prog ops Q (op :: rest) a w :=
  wpList_load_mid hgd 31 x ho b o hx (ccells c) _ hc Tryd.underlying31 rfl isize_C h
structure JX (w0 w : World) (a b : CP) (B : Nat) : Prop where
  ca : CB w w0.heap.size a
  cb : CB w B b
  bel : Below w0.heap.size w0 w
theorem JX.below {w0 w w' : World} {a b : CP} {B : Nat} (h : JX w0 w a b B) (hb : Below w.heap.size w w') : JX w0 w' a b B := ⟨h.ca.below hb, h.cb.below hb, on h.bel hb⟩
structure JY (w0 w : World) (a b : CP) (B J : Nat) (j : CP) : Prop where
  x : JX w0 w a b B
  cj : CB w J j
  ij : CIn w j
theorem JY.below {w0 w w' : World} {a b : CP} {B J : Nat} {j : CP} (h : JY w0 w a b B J j) (hb : Below w.heap.size w w') : JY w0 w' a b B J j := ⟨h.x.below hb, h.cj.below hb, h.ij.below hb⟩
theorem store_new {w w2 : World} {o : Obj} (h : Sv (fun k => k = w.heap.size) (w.alloc o) w2) : Below w.heap.size w w2 := (alloc1 w o).trans (h.below (by simp) fun k hk e => by omega)
set_option maxHeartbeats 16000000 in
theorem cjoins_walk (tv : Value) (t : List (Value × List Bool)) (a : CP) (lv : Value) (l : List CP) (w : World) (hT : TabC w) (ht : TbsIn w tv t) (ha : GoodC w a) (hl : Lies w lv l.length (l.flatMap ccells) ∧ ∀ c ∈ l, GoodC w c) : Tells 6 #[tv, a.val, lv] w (.bool true) := by
  have HW : Hid (∀ w1, Below w.heap.size w w1 → Tells 11 #[] w1 (.bool true)) := fun w1 h => awake_any w1 (hT.below h)
  have HA : Hid (∀ c w1, GoodC w c → Below w.heap.size w w1 → Calls Tryd.prog 12 #[c.val] w1 fun e w' => ∃ q, e = .returned (.bool q) ∧ (q = true → FewC c) ∧ Below w1.heap.size w1 w') := fun c w1 hc h => few_any c w1 (hc.isIn.below h)
  have HM : Hid (∀ c w1, GoodC w c → FewC c → Below w.heap.size w w1 → Tells 13 #[tv, c.val] w1 (.bool (mayA t c))) := fun c w1 hc hf h => rcmay_any tv t c w1 (ht.below h) (hc.isIn.below h) hc.ok (by have := hf.p; omega)
  have HS : Hid (∀ c d w1 s, (s = true ↔ c.p.bare = d.p.bare) → CIn w1 c → CIn w1 d → Tells 15 #[c.val, d.val] w1 (.bool (sameC s c d))) := fun c d w1 s hs h1 h2 => csame_any c d s hs w1 h1 h2
  have HC : Hid (∀ c d w1, Below w.heap.size w w1 → CIn w1 c → CIn w1 d → Tells 17 #[c.val, d.val] w1 (.bool (conflictC c d))) := fun c d w1 h h1 h2 => conflict_any c d w1 (hT.below h) h1 h2
  have HV : Hid (∀ c d w1 s, (s = true ↔ c.p.bare = d.p.bare) → Below w.heap.size w w1 → CIn w1 c → CIn w1 d → Tells 19 #[c.val, d.val] w1 (.bool (coversC s c d))) := fun c d w1 s hs h h1 h2 => ccovers_any c d s hs w1 (hT.below h) h1 h2
  have HJ : Hid (∀ c d w1 s, (s = true ↔ c.p.bare = d.p.bare) → FewC c → FewC d → Below w.heap.size w w1 → CIn w1 c → CIn w1 d → Calls Tryd.prog 22 #[c.val, d.val] w1 fun e w' => ∃ j, e = .returned j.val ∧ JoinC s c d j ∧ NewC w' w1.heap.size j ∧ Below w1.heap.size w1 w') := fun c d w1 s hs h1 h2 h h3 h4 => cjoin_any c d s hs w1 (hT.below h) h3 h4 h1 h2
  have HK : Hid (∀ c w1, OkC c → c.p.size ≤ 1000000 → Below w.heap.size w w1 → CIn w1 c → Tells 14 #[tv, c.val] w1 (.int .i64 (if mayA t c then 0 else 111))) := fun c w1 ho hs h h1 => cchk_any tv t c w1 (ht.below h) h1 ho hs
  have HG : Hid (GoodC w a ∧ ∀ c ∈ l, GoodC w c) := ⟨ha, hl.2⟩
  have HL : Hid (Lies w lv l.length (l.flatMap ccells)) := hl.1
  have HN : Hid (CB (w.alloc (cobj a TC)) w.heap.size a ∧ Below w.heap.size w (w.alloc (cobj a TC))) := ⟨CB.new w a, alloc1 _ _⟩
  obtain ⟨at', ct, rfl, hnt⟩ := ht.1.slice
  obtain ⟨al, cl, rfl, hnl⟩ := hl.1.slice
  clear hT ht ha hl
  unfold cobj at HN
  unfold CP.val
  go_enter Tryd.func6, Tryd.ntmps6
  go_wp2_with fail
  refine Calls.mono (HW.out _ HN.out.2) ?_
  rintro e w1 ⟨rfl, hb⟩
  have H1 : Hid (CB w1 w.heap.size a ∧ Below w.heap.size w w1) := ⟨HN.out.1.below hb, on HN.out.2 hb⟩
  clear hb HN HW
  by_cases g1 : l.length < 2
  · have i1 : (l.length : Int) < 2 := by omega
    go_wp2_with fail
    go_ret
    exact ⟨rfl, H1.out.2⟩
  have i1 : decide ((l.length : Int) < 2) = false := decide_eq_false (by omega)
  have i1n : decide (l.length < 2) = false := decide_eq_false g1
  by_cases g2 : 10 < l.length
  · have i2 : (10 : Int) < (l.length : Int) := by omega
    go_wp2_with fail
    go_ret
    exact ⟨rfl, H1.out.2⟩
  have i2 : decide ((10 : Int) < (l.length : Int)) = false := decide_eq_false (by omega)
  by_cases g3 : 20 < t.length
  · have i3 : (20 : Int) < (t.length : Int) := by omega
    go_wp2_with fail
    go_ret
    exact ⟨rfl, H1.out.2⟩
  have i3 : decide ((20 : Int) < (t.length : Int)) = false := decide_eq_false (by omega)
  have hl0 : 0 < l.length := by omega
  have hl0I : (0 : Int) < (l.length : Int) := by omega
  obtain ⟨bl, ol, rfl, hr0⟩ := lies_range HL.out 0 hl0
  have hr0' : w.rangeAt bl ol (ccells l[0]) := by simpa using hr0
  have HR0 : Hid (w.rangeAt bl ol (ccells l[0])) := hr0'
  clear hr0'
  obtain ⟨b, hbe⟩ : ∃ b, l[0] = b := ⟨_, rfl⟩
  have HGB : Hid (GoodC w b) := hbe ▸ HG.out.2 _ (List.getElem_mem hl0)
  rw [hbe] at HR0
  clear hr0 hbe
  go_wp2_with (first
    | (refine step_eload rfl _ rfl bl ol b rfl (range_keep HR0.out H1.out.2) ?_)
    | (refine step_cstore rfl _ _ rfl w1.heap.size b zeroC rfl rfl HGB.out.isIn.one (CB.new w1 zeroC) ?_; intro w2 h21 h22
       have H2 : Hid (JX w w2 a b w1.heap.size) := ⟨H1.out.1.below (store_new h22), h21, on H1.out.2 (store_new h22)⟩
       clear h21 h22 H1)
    | (refine step_cload rfl _ rfl w.heap.size a rfl H2.out.ca ?_)
    | fail)
  generalize w1.heap.size = B at *
  refine Calls.mono (HA.out a _ HG.out.1 H2.out.bel) ?_
  rintro e w3 ⟨qa, rfl, hf, hb⟩
  have HFA : Hid (qa = true → FewC a) := hf
  have H3 : Hid (JX w w3 a b B) := H2.out.below hb
  clear hb hf H2
  go_wp2_with (first | (refine step_cload rfl _ rfl B b rfl H3.out.cb ?_) | fail)
  refine Calls.mono (HA.out b _ HGB.out H3.out.bel) ?_
  rintro e w4 ⟨qb, rfl, hf, hb⟩
  have HFB : Hid (qb = true → FewC b) := hf
  have H4 : Hid (JX w w4 a b B) := H3.out.below hb
  clear hb hf H3
  cases qa
  · go_wp2_with fail
    go_ret
    exact ⟨rfl, H4.out.bel⟩
  cases qb
  · go_wp2_with fail
    go_ret
    exact ⟨rfl, H4.out.bel⟩
  have HF : Hid (FewC a ∧ FewC b) := ⟨HFA.out rfl, HFB.out rfl⟩
  clear HFA HFB
  go_wp2_with (first | (refine step_cloadG _ rfl w.heap.size a rfl H4.out.ca rfl ?_) | fail)
  obtain ⟨ma, hma⟩ : ∃ m, mayA t a = m := ⟨_, rfl⟩
  refine Calls.mono (HM.out a _ HG.out.1 HF.out.1 H4.out.bel) ?_
  rw [hma]
  have HMA : Hid (mayA t a = ma) := hma
  rintro e w5 ⟨rfl, hb⟩
  have H5 : Hid (JX w w5 a b B) := H4.out.below hb
  clear hb H4 hma
  cases ma
  · go_wp2_with fail
    go_ret
    exact ⟨rfl, H5.out.bel⟩
  go_wp2_with (first | (refine step_cloadG _ rfl B b rfl H5.out.cb rfl ?_) | fail)
  obtain ⟨mb, hmb⟩ : ∃ m, mayA t b = m := ⟨_, rfl⟩
  refine Calls.mono (HM.out b _ HGB.out HF.out.2 H5.out.bel) ?_
  rw [hmb]
  have HMB : Hid (mayA t b = mb) := hmb
  rintro e w6 ⟨rfl, hb⟩
  have H6 : Hid (JX w w6 a b B) := H5.out.below hb
  clear hb H5 hmb
  cases mb
  · go_wp2_with fail
    go_ret
    exact ⟨rfl, H6.out.bel⟩
  go_wp2_with (first | (refine step_cloadG _ rfl w.heap.size a rfl H6.out.ca rfl ?_) | (refine step_cloadG _ rfl B b rfl H6.out.cb rfl ?_) | fail)
  obtain ⟨s, hs⟩ := some_b (a.p.bare = b.p.bare)
  obtain ⟨sm, hsm⟩ : ∃ m, sameC s a b = m := ⟨_, rfl⟩
  refine Calls.mono (HS.out a b _ s hs (HG.out.1.isIn.below H6.out.bel) (HGB.out.isIn.below H6.out.bel)) ?_
  rw [hsm]
  have HSM : Hid (sameC s a b = sm ∧ (s = true ↔ a.p.bare = b.p.bare)) := ⟨hsm, hs⟩
  rintro e w7 ⟨rfl, hb⟩
  have H7 : Hid (JX w w7 a b B) := H6.out.below hb
  clear hb H6 hsm hs
  cases sm
  · go_wp2_with fail
    go_ret
    exact ⟨rfl, H7.out.bel⟩
  go_wp2_with (first | (refine step_cload rfl _ rfl w.heap.size a rfl H7.out.ca ?_) | (refine step_cload rfl _ rfl B b rfl H7.out.cb ?_) | fail)
  refine Calls.mono (HJ.out a b _ s HSM.out.2 HF.out.1 HF.out.2 H7.out.bel (HG.out.1.isIn.below H7.out.bel) (HGB.out.isIn.below H7.out.bel)) ?_
  rintro e w8 ⟨j, rfl, hj, hn, hb⟩
  have HJO : Hid (JoinC s a b j ∧ OneC j ∧ OkC j ∧ j.p.size ≤ 1000000 ∧ mayA t j = true) := by
    refine ⟨hj, hn.isIn.one, fun i hi => ?_, ?_, join_may HMA.out HMB.out HSM.out.1 hj⟩
    · have hm : i.r ∈ j.rows := List.mem_map.2 ⟨i, hi, rfl⟩
      rw [hj.rows, HSM.out.1, if_pos rfl, mem_joinI] at hm
      rcases hm with hm | hm
      · obtain ⟨i', hi', e⟩ := List.mem_map.1 hm
        rw [← e]; exact HG.out.1.ok i' hi'
      · obtain ⟨i', hi', e⟩ := List.mem_map.1 hm
        rw [← e]; exact HGB.out.ok i' hi'
    · have := size_of_bare hj.p
      have := HF.out.1.p
      omega
  have H8 : Hid (∀ w9, CB w9 w8.heap.size j → Sv (fun k => k = w8.heap.size) (w8.alloc (cobj zeroC TC)) w9 → JY w w9 a b B w8.heap.size j) := fun w9 h1 h2 => ⟨(H7.out.below hb).below (store_new h2), h1, hn.isIn.below (store_new h2)⟩
  clear hj hn hb H7
  go_wp2_with (first
    | (refine step_cstore rfl _ _ rfl w8.heap.size j zeroC rfl rfl HJO.out.2.1 (CB.new w8 zeroC) ?_; intro w9 h1 h2
       have H9 : Hid _ := H8.out w9 h1 h2
       clear h1 h2 H8)
    | (refine step_cload rfl _ rfl w8.heap.size j rfl H9.out.cj ?_)
    | fail)
  generalize w8.heap.size = J at *
  refine Calls.mono (HK.out j _ HJO.out.2.2.1 HJO.out.2.2.2.1 H9.out.x.bel H9.out.ij) ?_
  rw [HJO.out.2.2.2.2, if_pos rfl]
  rintro e w10 ⟨rfl, hb⟩
  have H10 : Hid (JY w w10 a b B J j) := H9.out.below hb
  clear hb H9
  obtain ⟨s1, hs1⟩ := some_b (j.p.bare = a.p.bare)
  obtain ⟨s2, hs2⟩ := some_b (j.p.bare = b.p.bare)
  have HCV : Hid ((coversC s1 j a = true ∧ coversC s2 j b = true ∧ sameC s1 j a = true) ∧ (s1 = true ↔ j.p.bare = a.p.bare) ∧ (s2 = true ↔ j.p.bare = b.p.bare)) := ⟨join_covers HMA.out HMB.out HSM.out.1 HSM.out.2 HJO.out.1 s1 s2 hs1 hs2, hs1, hs2⟩
  clear hs1 hs2
  go_wp2_with (first | (refine step_cloadG _ rfl J j rfl H10.out.cj rfl ?_) | (refine step_cloadG _ rfl w.heap.size a rfl H10.out.x.ca rfl ?_) | fail)
  refine Calls.mono (HV.out j a _ s1 HCV.out.2.1 H10.out.x.bel H10.out.ij (HG.out.1.isIn.below H10.out.x.bel)) ?_
  rw [HCV.out.1.1]
  rintro e w11 ⟨rfl, hb⟩
  have H11 : Hid (JY w w11 a b B J j) := H10.out.below hb
  clear hb H10
  go_wp2_with (first | (refine step_cloadG _ rfl J j rfl H11.out.cj rfl ?_) | (refine step_cloadG _ rfl B b rfl H11.out.x.cb rfl ?_) | fail)
  refine Calls.mono (HV.out j b _ s2 HCV.out.2.2 H11.out.x.bel H11.out.ij (HGB.out.isIn.below H11.out.x.bel)) ?_
  rw [HCV.out.1.2.1]
  rintro e w12 ⟨rfl, hb⟩
  have H12 : Hid (JY w w12 a b B J j) := H11.out.below hb
  clear hb H11
  go_wp2_with (first | (refine step_cloadG _ rfl J j rfl H12.out.cj rfl ?_) | (refine step_cloadG _ rfl w.heap.size a rfl H12.out.x.ca rfl ?_) | fail)
  refine Calls.mono (HS.out j a _ s1 HCV.out.2.1 H12.out.ij (HG.out.1.isIn.below H12.out.x.bel)) ?_
  rw [HCV.out.1.2.2]
  rintro e w13 ⟨rfl, hb⟩
  have H13 : Hid (JY w w13 a b B J j) := H12.out.below hb
  have HCC : Hid (∀ c, conflictC j c = (conflictC a c || conflictC b c)) := fun c => by
    obtain ⟨ra, _⟩ := may_right HMA.out
    obtain ⟨rb, _⟩ := may_right HMB.out
    exact conflict_join HSM.out.1 HSM.out.2 HJO.out.1 ra rb (fun h1 h2 => may_rows HMA.out h1 h2) fun h1 h2 => may_rows HMB.out h1 h2
  clear hb H12 HCV HV HK HJ HS HMA HMB HSM HF HR0
  go_wp2_with fail
  go_loopw [12, 13, 14] (fun i _ _ wr => ∃ k : Nat, k ≤ l.length ∧ i = .int .i64 k ∧ Hid (JY w wr a b B J j))
    (fun i _ _ _ => l.length - (intOf i).toNat)
  case atStart => exact ⟨1, by omega, rfl, H13.out⟩
  case round =>
    clear H13
    obtain ⟨k, hk, rfl, HY⟩ := hrel
    by_cases h1 : k < l.length
    · have k0 : (0 : Int) ≤ (k : Int) := by omega
      have k1 : (k : Int) < (l.length : Int) := by omega
      obtain ⟨bl', ol', e9, hrk⟩ := lies_range HL.out k h1
      cases e9
      obtain ⟨c, hce⟩ : ∃ c, l[k] = c := ⟨_, rfl⟩
      have HGC : Hid (GoodC w c) := hce ▸ HG.out.2 _ (List.getElem_mem h1)
      rw [hce] at hrk
      have HRK : Hid (w.rangeAt bl (ol + k * 16) (ccells c)) := hrk
      clear hrk hce
      go_wp2_with (first
        | (refine step_eload rfl _ rfl bl (ol + k * 16) c rfl (range_keep HRK.out HY.out.x.bel) ?_)
        | (refine step_cstore rfl _ _ rfl wr.heap.size c zeroC rfl rfl HGC.out.isIn.one (CB.new wr zeroC) ?_; intro w14 h1 h2
           have H14 : Hid (JY w w14 a b B J j ∧ CB w14 wr.heap.size c) := ⟨HY.out.below (store_new h2), h1⟩
           clear h1 h2 HY)
        | (refine step_cload rfl _ rfl wr.heap.size c rfl H14.out.2 ?_)
        | fail)
      generalize wr.heap.size = C at *
      refine Calls.mono (HA.out c _ HGC.out H14.out.1.x.bel) ?_
      rintro e w15 ⟨qc, rfl, hf, hb⟩
      have HFC : Hid (qc = true → FewC c) := hf
      have H15 : Hid (JY w w15 a b B J j ∧ CB w15 C c) := ⟨H14.out.1.below hb, H14.out.2.below hb⟩
      clear hb hf H14
      cases qc
      · go_wp2_with fail
        go_roundw
        case rel => exact ⟨k + 1, by omega, by go_num, (H15.out.1 : JY w _ a b B J j)⟩
        case measure => simp [intOf]; omega
      go_wp2_with (first | (refine step_cloadG _ rfl C c rfl H15.out.2 rfl ?_) | fail)
      obtain ⟨mc, hmc⟩ : ∃ m, mayA t c = m := ⟨_, rfl⟩
      refine Calls.mono (HM.out c _ HGC.out (HFC.out (by trivial)) H15.out.1.x.bel) ?_
      rw [hmc]
      rintro e w16 ⟨rfl, hb⟩
      have H16 : Hid (JY w w16 a b B J j ∧ CB w16 C c) := ⟨H15.out.1.below hb, H15.out.2.below hb⟩
      clear hb H15 hmc
      cases mc
      · go_wp2_with fail
        go_roundw
        case rel => exact ⟨k + 1, by omega, by go_num, (H16.out.1 : JY w _ a b B J j)⟩
        case measure => simp [intOf]; omega
      obtain ⟨va, hva⟩ : ∃ v, conflictC a c = v := ⟨_, rfl⟩
      obtain ⟨vb, hvb⟩ : ∃ v, conflictC b c = v := ⟨_, rfl⟩
      have HV1 : Hid (∀ w1, JY w w1 a b B J j → Tells 17 #[j.val, c.val] w1 (.bool (va || vb))) := fun w1 h => by rw [← hva, ← hvb, ← HCC.out c]; exact HC.out j c w1 h.x.bel h.ij (HGC.out.isIn.below h.x.bel)
      have HV2 : Hid (∀ w1, JY w w1 a b B J j → Tells 17 #[a.val, c.val] w1 (.bool va)) := fun w1 h => by rw [← hva]; exact HC.out a c w1 h.x.bel (HG.out.1.isIn.below h.x.bel) (HGC.out.isIn.below h.x.bel)
      have HV3 : Hid (∀ w1, JY w w1 a b B J j → Tells 17 #[b.val, c.val] w1 (.bool vb)) := fun w1 h => by rw [← hvb]; exact HC.out b c w1 h.x.bel (HGB.out.isIn.below h.x.bel) (HGC.out.isIn.below h.x.bel)
      have HD : Hid (JY w w16.drew a b B J j ∧ CB w16.drew C c) := ⟨H16.out.1.below (Below.refl _ _).drew, H16.out.2.below (Below.refl _ _).drew⟩
      clear hva hvb H16 HC HA HM HL HRK
      go_wp2_with fail
      refine wp_region_held_drew (S := fun w' => JY w w' a b B J j ∧ CB w' C c) (by kernel_rfl) ?_ (fun hHeld => ?_)
      · exact HD.out
      (try clear hK K)
      refine wpAnyH_take (i := 0) (v := (j).val) rfl (by kernel_rfl) (by kernel_rfl) (by kernel_rfl) (fun _ _ _ h => h) (yieldsIf_load_mid (by rfl) 31 _ rfl (J) 0 rfl (ccells j) _ (fun _ h => (h.1.cj).range) Tryd.underlying31 rfl isize_C) (by assumption) ?_
      (try simp only [Act.put, List.getElem_toArray, List.getElem_cons_zero, List.setIfInBounds_toArray, List.set_cons_zero, List.set_cons_succ])
      (try clear hK K)
      refine wpAnyH_take (i := 1) (v := (c).val) rfl (by kernel_rfl) (by kernel_rfl) (by kernel_rfl) (fun _ _ _ h => h) (yieldsIf_load_mid (by rfl) 31 _ rfl (C) 0 rfl (ccells c) _ (fun _ h => (h.2).range) Tryd.underlying31 rfl isize_C) (by assumption) ?_
      (try simp only [Act.put, List.getElem_toArray, List.getElem_cons_succ, List.getElem_cons_zero, List.setIfInBounds_toArray, List.set_cons_zero, List.set_cons_succ])
      (try clear hK K)
      refine wpAnyH_take (i := 3) (v := (a).val) rfl (by kernel_rfl) (by kernel_rfl) (by kernel_rfl) (fun _ _ _ h => h) (yieldsIf_load_mid (by rfl) 31 _ rfl (w.heap.size) 0 rfl (ccells a) _ (fun _ h => (h.1.x.ca).range) Tryd.underlying31 rfl isize_C) (by assumption) ?_
      (try simp only [Act.put, List.getElem_toArray, List.getElem_cons_succ, List.getElem_cons_zero, List.setIfInBounds_toArray, List.set_cons_zero, List.set_cons_succ])
      (try clear hK K)
      refine wpAnyH_take (i := 4) (v := (c).val) rfl (by kernel_rfl) (by kernel_rfl) (by kernel_rfl) (fun _ _ _ h => h) (yieldsIf_load_mid (by rfl) 31 _ rfl (C) 0 rfl (ccells c) _ (fun _ h => (h.2).range) Tryd.underlying31 rfl isize_C) (by assumption) ?_
      (try simp only [Act.put, List.getElem_toArray, List.getElem_cons_succ, List.getElem_cons_zero, List.setIfInBounds_toArray, List.set_cons_zero, List.set_cons_succ])
      (try clear hK K)
      refine wpAnyH_ready (rs := [2]) (by kernel_rfl) (by simp) ?_
      refine AllReadyH.cons rfl (fun K hK => ?_) AllReadyH.nil
      go_simp
      (refine Calls.mono (HV1.out _ HD.out.1) ?_; rintro e w17 ⟨rfl, hb⟩)
      refine hK.out _ _ ?_ (fun hHeld => ?_)
      · exact ⟨HD.out.1.below hb, HD.out.2.below hb⟩
      have H17 : Hid (JY w w17 a b B J j ∧ CB w17 C c) := ⟨HD.out.1.below hb, HD.out.2.below hb⟩
      clear hb
      (try clear hK K)
      refine wpAnyH_ready (rs := [5]) (by kernel_rfl) (by simp) ?_
      refine AllReadyH.cons rfl (fun K hK => ?_) AllReadyH.nil
      go_simp
      (refine Calls.mono (HV2.out _ H17.out.1) ?_; rintro e w18 ⟨rfl, hb⟩)
      refine hK.out _ _ ?_ (fun hHeld => ?_)
      · exact ⟨H17.out.1.below hb, H17.out.2.below hb⟩
      have H18 : Hid (JY w w18 a b B J j ∧ CB w18 C c) := ⟨H17.out.1.below hb, H17.out.2.below hb⟩
      clear hb
      cases va
      · skip
        (try clear hK K)
        refine wpAnyH_take (i := 6) (v := ?_) rfl (by kernel_rfl) (by kernel_rfl) (by kernel_rfl) (fun _ _ _ h => h) (Or.inl ⟨by rfl, ?_⟩) (by assumption) ?_
        rotate_left
        · intro w hSw; (try dsimp only at hSw); go_simp; (try with_reducible rfl)
        (try simp only [Act.put, List.getElem_toArray, List.getElem_cons_succ, List.getElem_cons_zero, List.setIfInBounds_toArray, List.set_cons_zero, List.set_cons_succ])
        (try clear hK K)
        refine wpAnyH_take (i := 7) (v := (b).val) rfl (by kernel_rfl) (by kernel_rfl) (by kernel_rfl) (fun _ _ _ h => h) (yieldsIf_load_mid (by rfl) 31 _ rfl (B) 0 rfl (ccells b) _ (fun _ h => (h.1.x.cb).range) Tryd.underlying31 rfl isize_C) (by assumption) ?_
        (try simp only [Act.put, List.getElem_toArray, List.getElem_cons_succ, List.getElem_cons_zero, List.setIfInBounds_toArray, List.set_cons_zero, List.set_cons_succ])
        (try clear hK K)
        refine wpAnyH_take (i := 8) (v := (c).val) rfl (by kernel_rfl) (by kernel_rfl) (by kernel_rfl) (fun _ _ _ h => h) (yieldsIf_load_mid (by rfl) 31 _ rfl (C) 0 rfl (ccells c) _ (fun _ h => (h.2).range) Tryd.underlying31 rfl isize_C) (by assumption) ?_
        (try simp only [Act.put, List.getElem_toArray, List.getElem_cons_succ, List.getElem_cons_zero, List.setIfInBounds_toArray, List.set_cons_zero, List.set_cons_succ])
        (try clear hK K)
        refine wpAnyH_ready (rs := [9]) (by kernel_rfl) (by simp) ?_
        refine AllReadyH.cons rfl (fun K hK => ?_) AllReadyH.nil
        go_simp
        (refine Calls.mono (HV3.out _ H18.out.1) ?_; rintro e w19 ⟨rfl, hb⟩)
        refine hK.out _ _ ?_ (fun hHeld => ?_)
        · exact ⟨H18.out.1.below hb, H18.out.2.below hb⟩
        have H19 : Hid (JY w w19 a b B J j) := H18.out.1.below hb
        clear hb
        (try clear hK K)
        refine wpAnyH_take (i := 10) (v := ?_) rfl (by kernel_rfl) (by kernel_rfl) (by kernel_rfl) (fun _ _ _ h => h) (Or.inl ⟨by rfl, ?_⟩) (by assumption) ?_
        rotate_left
        · intro w hSw; (try dsimp only at hSw); go_simp; (try with_reducible rfl)
        (try simp only [Act.put, List.getElem_toArray, List.getElem_cons_succ, List.getElem_cons_zero, List.setIfInBounds_toArray, List.set_cons_zero, List.set_cons_succ])
        refine wpAnyH_take (i := 11) (v := ?_) rfl (by kernel_rfl) (by kernel_rfl) (by kernel_rfl) (fun _ _ _ h => h) (Or.inl ⟨by rfl, ?_⟩) (by assumption) ?_
        rotate_left
        · intro w hSw; (try dsimp only at hSw); go_simp; (try with_reducible rfl)
        (try simp only [Act.put, List.getElem_toArray, List.getElem_cons_succ, List.getElem_cons_zero, List.setIfInBounds_toArray, List.set_cons_zero, List.set_cons_succ])
        (try clear hK K)
        refine wpAnyH_done (by kernel_rfl) ?_ _
        cases vb
        · go_wp2_with fail
          go_roundw
          case rel => exact ⟨k + 1, by omega, by go_num, H19⟩
          case measure => simp [intOf]; omega
        · go_wp2_with fail
          go_roundw
          case rel => exact ⟨k + 1, by omega, by go_num, H19⟩
          case measure => simp [intOf]; omega
      · skip
        (try clear hK K)
        refine wpAnyH_take (i := 6) (v := ?_) rfl (by kernel_rfl) (by kernel_rfl) (by kernel_rfl) (fun _ _ _ h => h) (Or.inl ⟨by rfl, ?_⟩) (by assumption) ?_
        rotate_left
        · intro w hSw; (try dsimp only at hSw); go_simp; (try with_reducible rfl)
        (try simp only [Act.put, List.getElem_toArray, List.getElem_cons_succ, List.getElem_cons_zero, List.setIfInBounds_toArray, List.set_cons_zero, List.set_cons_succ])
        (try clear hK K)
        refine wpAnyH_take (i := 7) (v := undef) rfl (by kernel_rfl) (by kernel_rfl) (by kernel_rfl) (fun _ _ _ h => h) (Or.inr ⟨by rfl, rfl⟩) (by assumption) ?_
        (try simp only [Act.put, List.getElem_toArray, List.getElem_cons_succ, List.getElem_cons_zero, List.setIfInBounds_toArray, List.set_cons_zero, List.set_cons_succ])
        refine wpAnyH_take (i := 8) (v := undef) rfl (by kernel_rfl) (by kernel_rfl) (by kernel_rfl) (fun _ _ _ h => h) (Or.inr ⟨by rfl, rfl⟩) (by assumption) ?_
        (try simp only [Act.put, List.getElem_toArray, List.getElem_cons_succ, List.getElem_cons_zero, List.setIfInBounds_toArray, List.set_cons_zero, List.set_cons_succ])
        refine wpAnyH_take (i := 9) (v := undef) rfl (by kernel_rfl) (by kernel_rfl) (by kernel_rfl) (fun _ _ _ h => h) (Or.inr ⟨by rfl, rfl⟩) (by assumption) ?_
        (try simp only [Act.put, List.getElem_toArray, List.getElem_cons_succ, List.getElem_cons_zero, List.setIfInBounds_toArray, List.set_cons_zero, List.set_cons_succ])
        (try clear hK K)
        refine wpAnyH_take (i := 10) (v := ?_) rfl (by kernel_rfl) (by kernel_rfl) (by kernel_rfl) (fun _ _ _ h => h) (Or.inl ⟨by rfl, ?_⟩) (by assumption) ?_
        rotate_left
        · intro w hSw; (try dsimp only at hSw); go_simp; (try with_reducible rfl)
        (try simp only [Act.put, List.getElem_toArray, List.getElem_cons_succ, List.getElem_cons_zero, List.setIfInBounds_toArray, List.set_cons_zero, List.set_cons_succ])
        refine wpAnyH_take (i := 11) (v := ?_) rfl (by kernel_rfl) (by kernel_rfl) (by kernel_rfl) (fun _ _ _ h => h) (Or.inl ⟨by rfl, ?_⟩) (by assumption) ?_
        rotate_left
        · intro w hSw; (try dsimp only at hSw); go_simp; (try with_reducible rfl)
        (try simp only [Act.put, List.getElem_toArray, List.getElem_cons_succ, List.getElem_cons_zero, List.setIfInBounds_toArray, List.set_cons_zero, List.set_cons_succ])
        (try clear hK K)
        refine wpAnyH_done (by kernel_rfl) ?_ _
        have H19 : Hid (JY w w18 a b B J j) := H18.out.1
        go_wp2_with fail
        go_roundw
        case rel => exact ⟨k + 1, by omega, by go_num, H19⟩
        case measure => simp [intOf]; omega
    · have k1 : decide ((k : Int) < (l.length : Int)) = false := decide_eq_false (by omega)
      have k2 : ¬ k < l.length := h1
      go_wp2_with fail
      go_ret
      exact ⟨rfl, HY.out.x.bel⟩
end Go.Proofs.YtkkbbpldeeajaaaDoor.Val
/- The law ClaimJoins holds: of claims that may be about one thing, what is in conflict with one of them is so with what they join to, and the other way round, and that covers both. Conditions: the listed package-level variables lie as the program's text lays them (the card ties them). -/
namespace Go.Proofs.YtkkbbpldeeajaaaDoor.Val
open Go.ChangeShapes Go.WideShapes Go.ChangeAt Go.RowKit
open Go.ChangeMaps (open_string)

theorem cjoins_contract (H : Type) (enc : TypeId × Value → H) (W : World) (base : Nat) (args : Array Value) (ds gs : List (DataW H)) (before : List MemPlace)
    (hval : ∀ (j : Nat) t v, Tryd.f6.params[j]? = some t → args[j]? = some v → Value.okWide Tryd.prog W .any base t v)
    (hW : DataW.Whole enc Tryd.prog Tryd.f6.params.toList Rows.claimJoinsSpec.vars false W args.toList ds gs before) (hL : laidMetH Tryd.prog Rows.claimJoinsRow.laid W) :
    Calls Tryd.prog 6 args W fun e W' => ∃ v, e = .returned v ∧ Rows.claimJoinsSpec.post enc Tryd.prog Tryd.f6 false true false false W args v W' := by
  have hW' := hW
  obtain ⟨p, q, hA0, hV, rfl, hfz, hnd⟩ := hW
  have hA : DataW.TrodAll enc Tryd.prog W 0 (fun _ => true) true Tryd.f6.params.toList args.toList ds p := hA0
  rw [Tryd.params6] at hA hval
  obtain ⟨v0, vs0, d0, ds0, p0, q0, hargs, rfl, rfl, h0, r0⟩ := trodAll_cons hA
  obtain ⟨v1, vs1, d1, ds1, p1, q1, rfl, rfl, rfl, h1, r1⟩ := trodAll_cons r0
  obtain ⟨v2, vs2, d2, ds2, p2, q2, rfl, rfl, rfl, h2, r2⟩ := trodAll_cons r1
  obtain ⟨rfl, rfl, rfl⟩ := trodAll_nil r2
  obtain rfl : args = #[v0, v1, v2] := by cases args; simp_all
  obtain ⟨rfl, rfl⟩ := trodVars_none hV
  have k0 := h0
  have lt0 : ∀ x ∈ p0, x.block < W.heap.size := by obtain ⟨m, hm⟩ := k0; exact DataW.trod_lt m _ _ _ hm
  obtain ⟨a0, len0, cap0, rfl⟩ := okWide_slice Tryd.underlying22 (hval 0 22 v0 rfl rfl)
  obtain ⟨l0, o0⟩ := open_tables h0 rfl
  have k1 := h1
  have lt1 : ∀ x ∈ p1, x.block < W.heap.size := by obtain ⟨m, hm⟩ := k1; exact DataW.trod_lt m _ _ _ hm
  obtain ⟨x1, rfl, o1⟩ := open_claim (hval 1 31 v1 rfl rfl) h1
  have k2 := h2
  have lt2 : ∀ x ∈ p2, x.block < W.heap.size := by obtain ⟨m, hm⟩ := k2; exact DataW.trod_lt m _ _ _ hm
  obtain ⟨a2, len2, cap2, rfl⟩ := okWide_slice Tryd.underlying39 (hval 2 39 v2 rfl rfl)
  obtain ⟨l2, o2⟩ := open_claims h2 rfl
  clear hA0
  have hT := tabOf hL
  refine (cjoins_walk _ _ x1 _ _ W hT o0 o1 o2).mono fun e W' ⟨he, bel⟩ => ?_
  subst he
  exact ⟨_, rfl, _, _, _, [], _, [], hW', trodAll_mk1 (shut_bool Tryd.underlying4 _), (trodAll_cons_mk (Below.trod laidOut (by kernel_rfl) (of_decide_eq_true (by kernel_rfl)) k0 bel lt0) (trodAll_cons_mk (Below.trod laidOut (by kernel_rfl) (of_decide_eq_true (by kernel_rfl)) k1 bel lt1) (trodAll_cons_mk (Below.trod laidOut (by kernel_rfl) (of_decide_eq_true (by kernel_rfl)) k2 bel lt2) trodAll_mk0))), rfl, bel.frame _, fun h => by cases h⟩

set_option maxRecDepth 100000 in
theorem cjoins_lifted (os : Os) (started : os.Started) (H : Type) (enc : TypeId × Value → H) (F : Stop.Interp) :
    ReturnsInHanded {} Tryd.checked os 6 .any ((OpenSpec.ofChange Rows.claimJoinsSpec).preRow enc Tryd.prog Tryd.f6 Rows.claimJoinsRow.domain false Rows.claimJoinsRow.laid) (((OpenSpec.ofChange Rows.claimJoinsSpec).at F).post enc Tryd.prog Tryd.f6 false true false false) := by
  refine returnsInHanded_of_row (C := Tryd.checked) (s := OpenSpec.ofChange Rows.claimJoinsSpec) own started (by kernel_rfl) Tryd.func6
    (witness_row_at (enc := enc) (C := Tryd.checked) false
      { World.holding Tryd.prog os ⟨#[], #[], []⟩ with heap := ((World.holding Tryd.prog os ⟨#[], #[], []⟩).heap.modify 0 (putCells (dataCells .u8 clashT))) }
      #[.slice none 0 0, .agg #[.int .i64 0, .int .i64 0, .int .i64 0, .bool false, .int .i64 0, .string ⟨#[]⟩, .slice none 0 0, .int .i64 0, .int .i64 0, .bool false, .int .i64 0, .string ⟨#[]⟩, .bool false, .int .i64 0, .string ⟨#[]⟩, .slice none 0 0], .slice none 0 0] rfl (by kernel_rfl) (by kernel_rfl) (by kernel_rfl)
      (OpenSpec.preRow_of_cond 8 (x := ([.nil, .agg [.lit (.int .i64 0), .lit (.int .i64 0), .lit (.int .i64 0), .agg [.lit (.bool false), .lit (.int .i64 0), .lit (.string [])], .nil, .agg [.lit (.int .i64 0), .lit (.int .i64 0), .agg [.lit (.bool false), .lit (.int .i64 0), .lit (.string [])], .agg [.lit (.bool false), .lit (.int .i64 0), .lit (.string [])], .nil]], .nil], [], [])) (by kernel_rfl) (by kernel_rfl) (fun k hk => by cases hk) (by kernel_rfl) (laidMet_of_run' 8 (by kernel_rfl) (by kernel_rfl)))) ?_
  intro W base args ds gs before hval hW _ _ _ hL _ _
  exact cjoins_contract H enc W base args ds gs before hval hW hL

theorem cjoins_said : Rows.ClaimJoinsSaid :=
  OpenClaim.holds_of_cond 6 Tryd.f6 rfl rfl rfl rfl rfl rfl rfl ⟨rfl, rfl, rfl, rfl, rfl⟩ rfl rfl rfl rfl rfl (by kernel_rfl) Tryd.func6 (by kernel_rfl)
    (of_decide_eq_true (by kernel_rfl)) (by unfold Func.isWrapper; first | (rw [if_pos (by decide +kernel)]; kernel_rfl) | (rw [if_neg (by decide +kernel)]; exact ⟨rfl, rfl⟩))
    (fun os started H enc _ F => by rw [OpenClaim.pre_eq_preRow]; exact cjoins_lifted os started H enc F)

theorem cjoins_plain (f : FuncId) (fn : Func) (hf : Tryd.pinned.checked.prog.funcNamed "ratline/ratlinelaw09.ClaimJoins" = some f) (hfn : Tryd.pinned.checked.prog.funcs[f]? = some fn) :
    false = Tryd.pinned.checked.prog.looks [] ∧ ∀ (j : Nat) t, fn.params[j]? = some t → Tryd.pinned.checked.prog.wantsStandIn t = false := by
  obtain rfl : f = 6 := Option.some.inj ((show Tryd.prog.funcNamed "ratline/ratlinelaw09.ClaimJoins" = some 6 by kernel_rfl).symm.trans hf) |>.symm
  obtain rfl : fn = Tryd.f6 := (Option.some.inj (Tryd.func6.symm.trans hfn)).symm
  refine ⟨by kernel_rfl, fun j t ht => ?_⟩
  rw [Tryd.params6] at ht
  have hm : t = 22 ∨ t = 31 ∨ t = 39 := by simpa using Array.mem_of_getElem? ht
  rcases hm with rfl | rfl | rfl
  · exact (show Tryd.prog.wantsStandIn 22 = false by kernel_rfl)
  · exact (show Tryd.prog.wantsStandIn 31 = false by kernel_rfl)
  · exact (show Tryd.prog.wantsStandIn 39 = false by kernel_rfl)

/-- The card. -/
theorem cjoins_card : Rows.ClaimJoinsCardSaid :=
  Claim7.holds_tied_plain_at .later [] _ _ _ _ cjoins_said (fun _ h => by cases h) (by kernel_rfl) (fun _ h => by cases h) claimJoins_row_tie rfl ⟨rfl, rfl⟩ (by kernel_rfl) rfl cjoins_plain (by kernel_rfl)
end Go.Proofs.YtkkbbpldeeajaaaDoor.Val
