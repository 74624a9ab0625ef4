/- What the reference's part and May answer. -/
import Derived.Test.YtnfageikacfdoaaRefPPart
import Derived.Test.YtnfageikacfdoaaPredCheck
namespace Go.Proofs.Ytnfageikacfdoaa.Val
open Go.RowKit

/-- A table's box and a predicate's. -/
structure TB (N : Nat) (vc : Value) (p : PT) (w : World) : Prop where
  t : w.cell? ⟨N, 0, none⟩ = some vc
  pb : Box w (N + 1) p
theorem TB.below {N : Nat} {vc : Value} {p : PT} {w w' : World} (h : TB N vc p w) (hb : Below w.heap.size w w') : TB N vc p w' := ⟨cell_below h.t hb, h.pb.below hb⟩
theorem TB.new (w : World) (vc : Value) (p : PT) (T1 T2 : TypeId) : TB w.heap.size vc p ((w.alloc (.cells #[vc] T1)).alloc (pobj p T2)) := by
  refine ⟨cell_alloc (by simp [go_sem]) _, ?_⟩
  have := Box.new (w.alloc (.cells #[vc] T1)) p T2; simpa using this
def RPartOk (vc : Value) (cols : List Bool) (p : PT) : Prop := ∀ w, BoolsIn w vc cols → In w p → Calls Try.prog 34 #[.agg #[vc], p.val] w fun e w' => e = .returned (.bool (okP (suitP cols) p)) ∧ Below w.heap.size w w'
theorem ok_all {s : PT → Bool} {p : PT} (h : ∀ (j : Nat) (hj : j < p.l.length), okP s p.l[j] = true) : okP s p = s p := by
  rw [okP_mk]
  have : (p.l.map (okP s)).all id = true := by
    rw [List.all_eq_true]
    intro x hx
    obtain ⟨q, hq, rfl⟩ := List.mem_map.1 hx
    obtain ⟨i, hi, rfl⟩ := List.mem_iff_getElem.1 hq
    exact h i hi
  rw [this, Bool.and_true]
theorem ok_not {s : PT → Bool} {p : PT} {k : Nat} (hk : k < p.l.length) (h : okP s p.l[k] = false) : okP s p = false := by
  rw [okP_mk]
  have : (p.l.map (okP s)).all id = false := by
    rw [← Bool.not_eq_true, List.all_eq_true]
    intro h'
    have := h' (okP s p.l[k]) (List.mem_map.2 ⟨_, List.getElem_mem hk, rfl⟩)
    simp [h] at this
  rw [this, Bool.and_false]
set_option maxHeartbeats 8000000 in
theorem rpart_step (vc : Value) (cols : List Bool) (p : PT) (ih : ∀ q ∈ p.l, RPartOk vc cols q) : RPartOk vc cols p := by
  intro w hbo hi
  obtain ⟨ao, c, hlv, hln⟩ := hi.lies.slice
  obtain ⟨ans, hans⟩ : ∃ b, okP (suitP cols) p = b := ⟨_, rfl⟩
  have HI : Hid (In w p ∧ BoolsIn w vc cols ∧ ∀ q ∈ p.l, RPartOk vc cols q) := ⟨hi, hbo, ih⟩
  have HLV : Hid (p.lv = .slice ao p.l.length c) := hlv
  have HANS : Hid (okP (suitP cols) p = ans) := hans
  have HT : Hid _ := TB.new w vc p 34 26
  rw [pobj, hlv] at HT
  rw [hans]
  clear hi hbo ih hans
  unfold PT.val
  rw [hlv]
  clear hlv
  go_enter Try.func34, Try.ntmps34
  go_wp2_with fail
  go_loopw [5] (fun i wr => ∃ k : Nat, k ≤ p.l.length ∧ i = .int .i64 k ∧ Hid (∀ (j : Nat) (hj : j < p.l.length), j < k → okP (suitP cols) p.l[j] = true) ∧ Hid (Below w.heap.size w wr ∧ TB w.heap.size vc p wr))
    (fun i _ => p.l.length - (intOf i).toNat)
  case atStart => exact ⟨0, Nat.zero_le _, rfl, fun j hj h => by omega, back1 (alloc1 _ _), HT.out⟩
  case round =>
    clear HT
    obtain ⟨k, hk, rfl, HP, HB⟩ := hrel
    have hc := HB.out.2.pb.c8
    rw [HLV.out] at hc
    have hlt : w.heap.size + 1 < wr.heap.size := World.block_lt_of_cell? _ _ hc
    by_cases h1 : k < p.l.length
    · have i0 : (0 : Int) ≤ (k : Int) := by omega
      have i1 : (k : Int) < (p.l.length : Int) := by omega
      have hin : In wr p := HI.out.1.keep HB.out.1
      have hl := hin.lies
      rw [HLV.out] at hl
      obtain ⟨b, o, rfl, hat⟩ := lies_at hl k h1
      have hm := List.getElem_mem h1
      obtain ⟨g, hg⟩ : ∃ g, okP (suitP cols) p.l[k] = g := ⟨_, rfl⟩
      have HQ : Hid (∀ w1, Below w.heap.size w w1 → Calls Try.prog 34 #[.agg #[vc], p.l[k].val] w1 fun e w' => e = .returned (.bool g) ∧ Below w1.heap.size w1 w') := fun w1 hb => by
        rw [← hg]; exact HI.out.2.2 _ hm w1 (HI.out.2.1.below hb) ((HI.out.1.part _ hm).keep hb)
      have HG : Hid (okP (suitP cols) p.l[k] = g) := hg
      have hat' := hat.below (w' := wr.drew) (Below.refl _ _).drew
      have TBd : TB w.heap.size vc p wr.drew := HB.out.2.below (Below.refl _ _).drew
      have HBd : Below w.heap.size w wr.drew := HB.out.1.drew
      have hc8 : ∀ w1, TB w.heap.size vc p w1 → w1.cell? ⟨w.heap.size + 1, 8, none⟩ = some (.slice (some ⟨b, o, none⟩) p.l.length c) := fun w1 h => by rw [h.pb.c8, HLV.out]
      clear hm hl hin hg hat
      unfold PT.val at HQ
      go_wp2_with fail
      refine wp_region_held_drew (S := fun w' => w'.cell? ⟨w.heap.size, 0, none⟩ = some vc ∧ w'.cell? ⟨w.heap.size + 1, 8, none⟩ = some (.slice (some ⟨b, o, none⟩) p.l.length c) ∧ (w'.cell? ⟨b, o + k * 9, none⟩ = some (.int .i64 p.l[k].op) ∧ w'.cell? ⟨b, o + k * 9 + 1, none⟩ = some (.int .i64 p.l[k].col) ∧ w'.cell? ⟨b, o + k * 9 + 2, none⟩ = some (.bool p.l[k].v.t) ∧ w'.cell? ⟨b, o + k * 9 + 3, none⟩ = some (.int .i64 p.l[k].v.n) ∧ w'.cell? ⟨b, o + k * 9 + 4, none⟩ = some (.string p.l[k].v.s) ∧ w'.cell? ⟨b, o + k * 9 + 5, none⟩ = some (.bool p.l[k].w.t) ∧ w'.cell? ⟨b, o + k * 9 + 6, none⟩ = some (.int .i64 p.l[k].w.n) ∧ w'.cell? ⟨b, o + k * 9 + 7, none⟩ = some (.string p.l[k].w.s) ∧ w'.cell? ⟨b, o + k * 9 + 8, none⟩ = some p.l[k].lv)) (by kernel_rfl) ?_ (fun hHeld => ?_)
      · exact ⟨TBd.t, hc8 _ TBd, hat'.c0, hat'.c1, hat'.c2, hat'.c3, hat'.c4, hat'.c5, hat'.c6, hat'.c7, hat'.c8⟩
      (try clear hK K)
      refine wpAnyH_take (i := 0) (v := ?_) rfl (by kernel_rfl) (by kernel_rfl) (by kernel_rfl) (fun _ _ _ h => h) (Or.inl ⟨by rfl, ?_⟩) (by assumption) ?_
      rotate_left
      · intro w hSw; (try dsimp only at hSw); go_simp; (try with_reducible rfl)
      (try simp only [Act.put, List.getElem_toArray, List.getElem_cons_zero, List.setIfInBounds_toArray, List.set_cons_zero, List.set_cons_succ])
      refine wpAnyH_take (i := 1) (v := ?_) rfl (by kernel_rfl) (by kernel_rfl) (by kernel_rfl) (fun _ _ _ h => h) (Or.inl ⟨by rfl, ?_⟩) (by assumption) ?_
      rotate_left
      · intro w hSw; (try dsimp only at hSw); go_simp; (try with_reducible rfl)
      (try simp only [Act.put, List.getElem_toArray, List.getElem_cons_succ, List.getElem_cons_zero, List.setIfInBounds_toArray, List.set_cons_zero, List.set_cons_succ])
      refine wpAnyH_take (i := 2) (v := ?_) rfl (by kernel_rfl) (by kernel_rfl) (by kernel_rfl) (fun _ _ _ h => h) (Or.inl ⟨by rfl, ?_⟩) (by assumption) ?_
      rotate_left
      · intro w hSw; (try dsimp only at hSw); go_simp; (try with_reducible rfl)
      (try simp only [Act.put, List.getElem_toArray, List.getElem_cons_succ, List.getElem_cons_zero, List.setIfInBounds_toArray, List.set_cons_zero, List.set_cons_succ])
      refine wpAnyH_take (i := 3) (v := ?_) rfl (by kernel_rfl) (by kernel_rfl) (by kernel_rfl) (fun _ _ _ h => h) (Or.inl ⟨by rfl, ?_⟩) (by assumption) ?_
      rotate_left
      · intro w hSw; (try dsimp only at hSw); go_simp; (try with_reducible rfl)
      (try simp only [Act.put, List.getElem_toArray, List.getElem_cons_succ, List.getElem_cons_zero, List.setIfInBounds_toArray, List.set_cons_zero, List.set_cons_succ])
      refine wpAnyH_take (i := 4) (v := ?_) rfl (by kernel_rfl) (by kernel_rfl) (by kernel_rfl) (fun _ _ _ h => h) (Or.inl ⟨by rfl, ?_⟩) (by assumption) ?_
      rotate_left
      · intro w hSw; (try dsimp only at hSw); go_simp; (try with_reducible rfl)
      (try simp only [Act.put, List.getElem_toArray, List.getElem_cons_succ, List.getElem_cons_zero, List.setIfInBounds_toArray, List.set_cons_zero, List.set_cons_succ])
      refine wpAnyH_take (i := 5) (v := ?_) rfl (by kernel_rfl) (by kernel_rfl) (by kernel_rfl) (fun _ _ _ h => h) (Or.inl ⟨by rfl, ?_⟩) (by assumption) ?_
      rotate_left
      · intro w hSw; (try dsimp only at hSw); go_simp; (try with_reducible rfl)
      (try simp only [Act.put, List.getElem_toArray, List.getElem_cons_succ, List.getElem_cons_zero, List.setIfInBounds_toArray, List.set_cons_zero, List.set_cons_succ])
      (try clear hK K)
      refine wpAnyH_ready (rs := [6]) (by kernel_rfl) (by simp) ?_
      refine AllReadyH.cons rfl (fun K hK => ?_) AllReadyH.nil
      go_simp
      (refine Calls.mono (HQ.out _ HBd) ?_; rintro e w1 ⟨rfl, hb⟩; have TB1 := TBd.below hb; have HB1 := on HBd hb; have hat1 := hat'.below hb)
      refine hK.out _ _ ?_ (fun hHeld => ?_)
      · exact ⟨TB1.t, hc8 _ TB1, hat1.c0, hat1.c1, hat1.c2, hat1.c3, hat1.c4, hat1.c5, hat1.c6, hat1.c7, hat1.c8⟩
      (try clear hK K)
      refine wpAnyH_take (i := 7) (v := ?_) rfl (by kernel_rfl) (by kernel_rfl) (by kernel_rfl) (fun _ _ _ h => h) (Or.inl ⟨by rfl, ?_⟩) (by assumption) ?_
      rotate_left
      · intro w hSw; (try dsimp only at hSw); go_simp; (try with_reducible rfl)
      (try simp only [Act.put, List.getElem_toArray, List.getElem_cons_succ, List.getElem_cons_zero, List.setIfInBounds_toArray, List.set_cons_zero, List.set_cons_succ])
      (try clear hK K)
      refine wpAnyH_done (by kernel_rfl) ?_ _
      have HX : Hid (Below w.heap.size w w1 ∧ TB w.heap.size vc p w1) := ⟨HB1, TB1⟩
      clear hb HB1 TB1 hat1 hat' TBd HBd hc8 HB HQ hc hlt
      cases g
      · have HF : Hid (ans = false) := by rw [Hid, ← HANS.out]; exact ok_not h1 HG.out
        clear HP HI HG HANS
        go_wp2_with fail
        go_ret
        exact ⟨ret_b2 HF.out.symm, HX.out.1⟩
      · have HP1 : Hid (∀ (j : Nat) (hj : j < p.l.length), j < k + 1 → okP (suitP cols) p.l[j] = true) := fun j hj h => by
          rcases Nat.lt_succ_iff_lt_or_eq.1 h with h | rfl
          · exact HP.out j hj h
          · exact HG.out
        clear HP HG
        go_wp2_with fail
        go_roundw
        case rel => exact ⟨k + 1, by omega, by go_num, HP1, HX⟩
        case measure => simp [intOf]; omega
    · have i1 : decide ((k : Int) < (p.l.length : Int)) = false := by simp; omega
      obtain rfl : k = p.l.length := by omega
      have hA : ans = suitO cols p.op p.col p.v p.w p.l.length := by rw [← HANS.out, ok_all fun j hj => HP.out j hj hj]; rfl
      obtain ⟨op, hop⟩ : ∃ op, p.op = op := ⟨_, rfl⟩
      rw [hop] at hA
      have HO : Hid (p.op = op) := hop
      have CV : Hid (∀ w1, Below w.heap.size w w1 → Calls Try.prog 45 #[.agg #[vc], .int .i64 p.col, V p.v.t p.v.n p.v.s] w1 fun e w' => e = .returned (.bool (ofB cols p.col p.v)) ∧ Below w1.heap.size w1 w') := fun w1 hb => rcol_any vc cols p.col p.v w1 (HI.out.2.1.below hb) HI.out.1.sv
      have CW : Hid (∀ w1, Below w.heap.size w w1 → Calls Try.prog 45 #[.agg #[vc], .int .i64 p.col, V p.w.t p.w.n p.w.s] w1 fun e w' => e = .returned (.bool (ofB cols p.col p.w)) ∧ Below w1.heap.size w1 w') := fun w1 hb => rcol_any vc cols p.col p.w w1 (HI.out.2.1.below hb) HI.out.1.sw
      unfold suitO at hA
      have HA : Hid _ := hA
      obtain ⟨fv, hfv⟩ : ∃ b, ofB cols p.col p.v = b := ⟨_, rfl⟩
      obtain ⟨fw, hfw⟩ : ∃ b, ofB cols p.col p.w = b := ⟨_, rfl⟩
      rw [hfv, hfw] at HA
      rw [hfv] at CV
      rw [hfw] at CW
      have HTB : Hid (TB w.heap.size vc p wr) := HB.out.2
      have HBe : Hid (Below w.heap.size w wr) := HB.out.1
      clear hA hfv hfw HI HP HANS HB hop
      obtain ⟨t0, ⟨b0, b1, b2, b3, b4, b5, b6, b7, b8⟩⟩ := HTB.out
      rw [HO.out] at b0
      clear b8
      by_cases e12 : op = 1 ∨ op = 2
      · rw [if_pos e12] at HA
        clear CV CW
        rcases e12 with rfl | rfl
        · go_wp2_with fail
          go_ret
          exact ⟨ret_b2 (by rw [HA.out, Bool.eq_iff_iff]; simp), HBe.out⟩
        · go_wp2_with fail
          go_ret
          exact ⟨ret_b2 (by rw [HA.out, Bool.eq_iff_iff]; simp), HBe.out⟩
      rw [if_neg e12] at HA
      by_cases e38 : 3 ≤ op ∧ op ≤ 8
      · rw [if_pos e38] at HA
        have e38' : op = 3 ∨ op = 4 ∨ op = 5 ∨ op = 6 ∨ op = 7 ∨ op = 8 := by omega
        clear CW e12 e38
        by_cases h0 : p.l.length = 0
        · have h1 : ((p.l.length : Int) == 0) = true := by rw [h0]; rfl
          have HD : Hid (decide (p.l.length = 0) = true) := by rw [Hid]; simpa using h0
          clear h0
          rcases e38' with rfl | rfl | rfl | rfl | rfl | rfl <;>
          · go_wp2_with fail
            refine Calls.mono (CV.out _ HBe.out) ?_
            rintro e w1 ⟨rfl, hb⟩
            have HBf : Hid (Below w.heap.size w w1) := on HBe.out hb
            clear hb
            go_wp2_with fail
            go_ret
            exact ⟨ret_b2 (by rw [HA.out, HD.out]; rfl), HBf.out⟩
        · have h1 : ((p.l.length : Int) == 0) = false := by rw [beq_eq_false_iff_ne]; omega
          have HD : Hid (decide (p.l.length = 0) = false) := by rw [Hid]; simpa using h0
          clear h0 CV
          rcases e38' with rfl | rfl | rfl | rfl | rfl | rfl <;>
          · go_wp2_with fail
            go_ret
            exact ⟨ret_b2 (by rw [HA.out, HD.out]; rfl), HBe.out⟩
      rw [if_neg e38] at HA
      by_cases e9 : op = 9
      · rw [if_pos e9] at HA
        subst e9
        clear e12 e38
        by_cases h0 : p.l.length = 0
        · have h1 : ((p.l.length : Int) == 0) = true := by rw [h0]; rfl
          have HD : Hid (decide (p.l.length = 0) = true) := by rw [Hid]; simpa using h0
          clear h0
          go_wp2_with fail
          refine Calls.mono (CV.out _ HBe.out) ?_
          rintro e w1 ⟨rfl, hb⟩
          have HBf : Hid (Below w.heap.size w w1) := on HBe.out hb
          have HTf := HTB.out.below hb
          clear hb t0 b0 b1 b2 b3 b4 b5 b6 b7 CV
          obtain ⟨t0, ⟨b0, b1, b2, b3, b4, b5, b6, b7, b8⟩⟩ := HTf
          clear b8 b0
          cases fv
          · clear CW
            go_wp2_with fail
            go_ret
            exact ⟨ret_b2 (by rw [HA.out, HD.out]; rfl), HBf.out⟩
          · go_wp2_with fail
            refine Calls.mono (CW.out _ HBf.out) ?_
            rintro e w2 ⟨rfl, hb⟩
            have HBg : Hid (Below w.heap.size w w2) := on HBf.out hb
            clear hb
            go_wp2_with fail
            go_ret
            exact ⟨ret_b2 (by rw [HA.out, HD.out]; rfl), HBg.out⟩
        · have h1 : ((p.l.length : Int) == 0) = false := by rw [beq_eq_false_iff_ne]; omega
          have HD : Hid (decide (p.l.length = 0) = false) := by rw [Hid]; simpa using h0
          clear h0 CV CW
          go_wp2_with fail
          go_ret
          exact ⟨ret_b2 (by rw [HA.out, HD.out]; rfl), HBe.out⟩
      rw [if_neg e9] at HA
      clear CV CW
      by_cases e10 : op = 10
      · rw [if_pos e10] at HA
        subst e10
        go_wp2_with fail
        go_ret
        exact ⟨ret_b2 (by rw [HA.out, Bool.eq_iff_iff]; simp; omega), HBe.out⟩
      rw [if_neg e10] at HA
      by_cases e11 : op = 11 ∨ op = 12
      · rw [if_pos e11] at HA
        rcases e11 with rfl | rfl
        · go_wp2_with fail
          go_ret
          exact ⟨ret_b2 (by rw [HA.out, Bool.eq_iff_iff]), HBe.out⟩
        · go_wp2_with fail
          go_ret
          exact ⟨ret_b2 (by rw [HA.out, Bool.eq_iff_iff]), HBe.out⟩
      rw [if_neg e11] at HA
      have hne : ∀ k : Int, op ≠ k → (op == k) = false := fun k hk => by simpa using hk
      have f1 := hne 1 (by omega)
      have f2 := hne 2 (by omega)
      have f3 := hne 3 (by omega)
      have f4 := hne 4 (by omega)
      have f5 := hne 5 (by omega)
      have f6 := hne 6 (by omega)
      have f7 := hne 7 (by omega)
      have f8 := hne 8 (by omega)
      have f9 := hne 9 (by omega)
      have f10 := hne 10 (by omega)
      have f11 := hne 11 (by omega)
      have f12 := hne 12 (by omega)
      clear hne e12 e38 e9 e10 e11
      go_wp2_with fail
      go_ret
      exact ⟨ret_b2 HA.out.symm, HBe.out⟩
theorem rpart_any (vc : Value) (cols : List Bool) (p : PT) : RPartOk vc cols p := by
  induction p using PT.ind with
  | h p ih => exact rpart_step vc cols p ih
set_option maxHeartbeats 2000000 in
theorem rmayP_any (vc : Value) (cols : List Bool) (p : PT) (w : World) (hbo : BoolsIn w vc cols) (hi : In w p) (hs : p.size ≤ 1000000) :
    Calls Try.prog 15 #[.agg #[vc], p.val] w fun e w' => e = .returned (.bool (mayT cols && mayP cols p)) ∧ Below w.heap.size w w' := by
  obtain ⟨t, ht⟩ : ∃ t, mayT cols = t := ⟨_, rfl⟩
  obtain ⟨g, hg⟩ : ∃ g, okP (suitP cols) p = g := ⟨_, rfl⟩
  have H1 : Hid (∀ w1, Below w.heap.size w w1 → Calls Try.prog 16 #[.agg #[vc]] w1 fun e w' => e = .returned (.bool t) ∧ Below w1.heap.size w1 w') := fun w1 hb => by rw [← ht]; exact rmay_any vc cols w1 (hbo.below hb)
  have H2 : Hid (∀ w1, Below w.heap.size w w1 → Calls Try.prog 19 #[p.val] w1 fun e w' => e = .returned (.int .i64 (p.size : Int)) ∧ Below w1.heap.size w1 w') := fun w1 hb => rsize_any p w1 (hi.keep hb) hs
  have H3 : Hid (∀ w1, Below w.heap.size w w1 → Calls Try.prog 34 #[.agg #[vc], p.val] w1 fun e w' => e = .returned (.bool g) ∧ Below w1.heap.size w1 w') := fun w1 hb => by rw [← hg]; exact rpart_any vc cols p w1 (hbo.below hb) (hi.keep hb)
  have HM : Hid (mayP cols p = (decide (p.size ≤ 15) && g)) := by rw [Hid, mayP, hg]
  rw [HM.out, ht]
  have HT : Hid _ := TB.new w vc p 34 26
  clear hbo hi hs ht hg HM
  unfold PT.val at *
  go_enter Try.func15, Try.ntmps15
  go_wp2_with fail
  refine Calls.mono (H1.out _ (back1 (alloc1 _ _))) ?_
  rintro e w1 ⟨rfl, hb⟩
  have T1 : Hid (TB w.heap.size vc p w1) := HT.out.below hb
  have HB1 : Hid (Below w.heap.size w w1) := back2 hb
  clear hb HT H1
  cases t
  · clear H2 H3
    go_wp2_with fail
    go_ret
    exact ⟨rfl, HB1.out⟩
  obtain ⟨t0, ⟨b0, b1, b2, b3, b4, b5, b6, b7, b8⟩⟩ := T1.out
  go_wp2_with fail
  refine Calls.mono (H2.out _ HB1.out) ?_
  rintro e w2 ⟨rfl, hb⟩
  have T2' : Hid (TB w.heap.size vc p w2) := T1.out.below hb
  have HB2 : Hid (Below w.heap.size w w2) := on HB1.out hb
  clear hb T1 HB1 H2 t0 b0 b1 b2 b3 b4 b5 b6 b7 b8
  by_cases h15 : p.size ≤ 15
  · have j1 : (p.size : Int) ≤ 15 := by omega
    have HD : Hid (decide (p.size ≤ 15) = true) := decide_eq_true h15
    obtain ⟨t0, ⟨b0, b1, b2, b3, b4, b5, b6, b7, b8⟩⟩ := T2'.out
    clear h15
    go_wp2_with fail
    refine Calls.mono (H3.out _ HB2.out) ?_
    rintro e w3 ⟨rfl, hb⟩
    have HB3 : Hid (Below w.heap.size w w3) := on HB2.out hb
    clear hb H3 HB2 T2' t0 b0 b1 b2 b3 b4 b5 b6 b7 b8
    go_wp2_with fail
    go_ret
    exact ⟨ret_b2 (by rw [HD.out]; simp), HB3.out⟩
  · have j1 : decide ((p.size : Int) ≤ 15) = false := by simp; omega
    have HD : Hid (decide (p.size ≤ 15) = false) := decide_eq_false h15
    clear h15 H3
    go_wp2_with fail
    go_ret
    exact ⟨ret_b2 (by rw [HD.out]; simp), HB2.out⟩
end Go.Proofs.Ytnfageikacfdoaa.Val
