/- What row.Update answers. -/
import Derived.Test.YtncefhjegkhamaaUpdPlain
import Derived.Test.YtncefhjegkhamaaRowClone
namespace Go.Proofs.Ytncefhjegkhamaa.Val
open Go.RowKit

theorem own_cells {w : World} {base g n cap : Nat} {T : TypeId} {cur : List Val} (h : OwnRow w base T (.slice (some ⟨g, 0, none⟩) n cap) cur) (c : Nat) (hc : c < cur.length) :
    (∀ ob, (w.alloc ob).cell? ⟨g, c * 3, none⟩ = some (.bool cur[c].t)) ∧ (∀ ob, (w.alloc ob).cell? ⟨g, c * 3 + 1, none⟩ = some (.int .i64 cur[c].n)) ∧ (∀ ob, (w.alloc ob).cell? ⟨g, c * 3 + 2, none⟩ = some (.string cur[c].s)) := by
  have key : ∀ ob, ∃ b o, some (⟨g, 0, none⟩ : Addr) = some ⟨b, o, none⟩ ∧ (w.alloc ob).cell? ⟨b, o + c * 3, none⟩ = some (.bool cur[c].t) ∧ (w.alloc ob).cell? ⟨b, o + c * 3 + 1, none⟩ = some (.int .i64 cur[c].n) ∧ (w.alloc ob).cell? ⟨b, o + c * 3 + 2, none⟩ = some (.string cur[c].s) :=
    fun ob => (h.below ((Below.refl _ _).alloc (Nat.le_refl _) ob)).isIn.at c hc
  refine ⟨fun ob => ?_, fun ob => ?_, fun ob => ?_⟩
  · obtain ⟨b, o, e, h1, h2, h3⟩ := key ob; cases e; simpa using h1
  · obtain ⟨b, o, e, h1, h2, h3⟩ := key ob; cases e; simpa using h2
  · obtain ⟨b, o, e, h1, h2, h3⟩ := key ob; cases e; simpa using h3
theorem own_free {w : World} {base g n cap : Nat} {T : TypeId} {cur : List Val} (h : OwnRow w base T (.slice (some ⟨g, 0, none⟩) n cap) cur) (c : Nat) :
    (∀ ob, (w.alloc ob).frozen? ⟨g, c * 3, none⟩ = false) ∧ (∀ ob, (w.alloc ob).frozen? ⟨g, c * 3 + 1, none⟩ = false) ∧ (∀ ob, (w.alloc ob).frozen? ⟨g, c * 3 + 2, none⟩ = false) :=
  ⟨fun ob => (h.below ((Below.refl _ _).alloc (Nat.le_refl _) ob)).free _, fun ob => (h.below ((Below.refl _ _).alloc (Nat.le_refl _) ob)).free _, fun ob => (h.below ((Below.refl _ _).alloc (Nat.le_refl _) ob)).free _⟩
set_option maxHeartbeats 400000 in
theorem update_unfit (vc vr vs : Value) (w : World)
    (HF : Hid (∀ w1, Below w.heap.size w w1 → Calls Try.prog 15 #[.agg #[vc], vr] w1 fun e w' => e = .returned (.bool false) ∧ Below w1.heap.size w1 w')) :
    Calls Try.prog 18 #[.agg #[vc], vr, vs] w fun e w' => e = .returned (.tuple #[.slice none 0 0, .int .i64 1]) ∧ Below w.heap.size w w' := by
  go_enter Try.func18, Try.ntmps18
  go_wp2_with fail
  refine Calls.mono (HF.out _ ((Below.refl _ _).alloc (Nat.le_refl _) _)) ?_
  rintro e w1 ⟨rfl, hb1⟩
  go_wp2_with fail
  go_ret2
  exact ⟨rfl, back1' hb1⟩
set_option maxHeartbeats 400000 in
theorem update_set (vc vr vs : Value) (w : World)
    (HF : Hid (∀ w1, Below w.heap.size w w1 → Calls Try.prog 15 #[.agg #[vc], vr] w1 fun e w' => e = .returned (.bool true) ∧ Below w1.heap.size w1 w'))
    (HS : Hid (∀ w1, Below w.heap.size w w1 → Calls Try.prog 14 #[.agg #[vc], vs] w1 fun e w' => e = .returned (.int .i64 20) ∧ Below w1.heap.size w1 w')) :
    Calls Try.prog 18 #[.agg #[vc], vr, vs] w fun e w' => e = .returned (.tuple #[.slice none 0 0, .int .i64 20]) ∧ Below w.heap.size w w' := by
  go_enter Try.func18, Try.ntmps18
  go_wp2_with fail
  refine Calls.mono (HF.out _ ((Below.refl _ _).alloc (Nat.le_refl _) _)) ?_
  rintro e w1 ⟨rfl, hb1⟩
  have c0 := in1' hb1
  have HB1 : Hid (Below w.heap.size w w1) := back1' hb1
  clear hb1
  go_wp2_with fail
  refine Calls.mono (HS.out _ HB1.out) ?_
  rintro e w2 ⟨rfl, hb2⟩
  have HB2 : Hid (Below w.heap.size w w2) := HB1.out.trans (hb2.mono HB1.out.size)
  clear hb2
  go_wp2_with fail
  go_ret2
  exact ⟨rfl, HB2.out⟩
set_option maxHeartbeats 2000000 in
theorem update_runs (vc vr vs : Value) (cols : List Bool) (xs : List Val) (l : List SetP) (w : World) (hr : RowIn w vr xs) (hs : SetsIn w vs l) (ho : RowOk xs) (hso : SetsOk l) (hl : xs.length ≤ 1000) (hn : 0 < xs.length) (hcl : xs.length = cols.length) (hok : OkTo cols l l.length)
    (HF : Hid (∀ w1, Below w.heap.size w w1 → Calls Try.prog 15 #[.agg #[vc], vr] w1 fun e w' => e = .returned (.bool true) ∧ Below w1.heap.size w1 w'))
    (HS : Hid (∀ w1, Below w.heap.size w w1 → Calls Try.prog 14 #[.agg #[vc], vs] w1 fun e w' => e = .returned (.int .i64 0) ∧ Below w1.heap.size w1 w')) :
    Calls Try.prog 18 #[.agg #[vc], vr, vs] w fun e w' => ∃ v' out n, e = .returned (.tuple #[v', .int .i64 n]) ∧ OwnRow w' w.heap.size 40 v' out ∧ (runSets xs l xs = some out ∧ n = 0 ∨ runSets xs l xs = none ∧ out = [] ∧ n = 21) ∧ Below w.heap.size w w' := by
  have HCl : Hid (∀ w1, Below w.heap.size w w1 → Calls Try.prog 21 #[vr] w1 fun e w' => ∃ v', e = .returned v' ∧ OwnRow w' w1.heap.size 40 v' xs ∧ Below w1.heap.size w1 w') := fun w1 hb => clone_any vr xs w1 (hr.below hb) hl
  have HCo : Hid (∀ w1 (k : Nat) (h : k < l.length), Below w.heap.size w w1 → Calls Try.prog 27 #[vr, SV l[k].col l[k].op l[k].src l[k].other l[k].v.t l[k].v.n l[k].v.s] w1 fun e w' => e = .returned (.tuple #[V (comes xs l[k]).1.t (comes xs l[k]).1.n (comes xs l[k]).1.s, .bool (comes xs l[k]).2]) ∧ Below w1.heap.size w1 w') :=
    fun w1 k h hb => comesTo_any vr cols xs l[k] w1 (hr.below hb) ho (hso _ (List.getElem_mem _)).1 (setOk_parts (hok k h h).1).2 hcl
  have HCol : Hid (∀ (k : Nat) (h : k < l.length), ∃ c : Nat, l[k].col = c ∧ c < xs.length) := fun k h => by
    obtain ⟨c, h1, h2, _⟩ := (setOk_parts (hok k h h).1).1
    exact ⟨c, h1, by omega⟩
  obtain ⟨as', cs, rfl, ls⟩ := hs.slice
  have HSI : Hid (SetsIn w (.slice as' l.length cs) l) := hs
  have HN : Hid (0 < xs.length) := hn
  clear hr hs ho hso hl hcl hok hn
  go_enter Try.func18, Try.ntmps18
  go_wp2_with fail
  refine Calls.mono (HF.out _ ((Below.refl _ _).alloc (Nat.le_refl _) _)) ?_
  rintro e w1 ⟨rfl, hb1⟩
  have c0 := in1' hb1
  have HB1 : Hid (Below w.heap.size w w1) := back1' hb1
  clear hb1
  go_wp2_with fail
  refine Calls.mono (HS.out _ HB1.out) ?_
  rintro e w2 ⟨rfl, hb2⟩
  have HB2 : Hid (Below w.heap.size w w2) := HB1.out.trans (hb2.mono HB1.out.size)
  clear hb2 c0
  go_wp2_with fail
  refine Calls.mono (HCl.out _ HB2.out) ?_
  rintro e w3 ⟨v', rfl, hown, hb3⟩
  have HB3 : Hid (Below w.heap.size w w3) := HB2.out.trans (hb3.mono HB2.out.size)
  obtain ⟨g, cap, rfl, hg1, hg2⟩ := hown.place HN.out
  have HO3 : Hid (OwnRow w3 w.heap.size 40 (.slice (some ⟨g, 0, none⟩) xs.length cap) xs) := hown.mono HB2.out.size
  have HG : Hid (w.heap.size ≤ g) := Nat.le_trans HB2.out.size hg1
  clear hb3 hown hg1 hg2
  go_wp2_with fail
  go_loopw [28] (fun i wr => ∃ (k : Nat) (cur : List Val), k ≤ l.length ∧ i = .int .i64 k ∧ Hid (cur.length = xs.length ∧ runSets xs l xs = runSets xs (l.drop k) cur) ∧ Hid (OwnRow wr w.heap.size 40 (.slice (some ⟨g, 0, none⟩) xs.length cap) cur ∧ Below w.heap.size w wr)) (fun i _ => l.length - (intOf i).toNat)
  case atStart => exact ⟨0, xs, Nat.zero_le _, rfl, ⟨rfl, rfl⟩, HO3.out, HB3.out⟩
  case round =>
    obtain ⟨k, cur, hk, rfl, HT, HW⟩ := hrel
    clear HO3 HB3 HB1 HB2 HF HS HCl
    by_cases hlt : k < l.length
    · obtain ⟨b, o, rfl, d0, d1, d2, d3, d4, d5, d6⟩ := (HSI.out.below HW.out.2).at k hlt
      have HR : Hid (runSets xs l xs = if (comes xs l[k]).2 = true then runSets xs (l.drop (k + 1)) (cur.set l[k].col.toNat (comes xs l[k]).1) else none) := HT.out.2.trans (runSets_step hlt cur)
      have HCk : Hid (∀ w1, Below w.heap.size w w1 → Calls Try.prog 27 #[vr, SV l[k].col l[k].op l[k].src l[k].other l[k].v.t l[k].v.n l[k].v.s] w1 fun e w' => e = .returned (.tuple #[V (comes xs l[k]).1.t (comes xs l[k]).1.n (comes xs l[k]).1.s, .bool (comes xs l[k]).2]) ∧ Below w1.heap.size w1 w') := fun w1 => HCo.out w1 k hlt
      obtain ⟨c, hc, hcl⟩ := HCol.out k hlt
      have HC : Hid (l[k].col = (c : Int)) := hc
      have hz : w.heap.size ≤ wr.heap.size := HW.out.2.size
      clear hc HCo HCol
      go_wp2_with fail
      refine Calls.mono (HCk.out _ (HW.out.2.alloc hz _)) ?_
      rintro e w4 ⟨rfl, hb4⟩
      have HB4 : Hid (Below w.heap.size w w4) := (HW.out.2.alloc hz _).trans (hb4.mono (by simp; omega))
      have HO4 : Hid (OwnRow w4 w.heap.size 40 (.slice (some ⟨g, 0, none⟩) xs.length cap) cur) := (HW.out.1.below ((Below.refl _ _).alloc (Nat.le_refl _) _)).below hb4
      have hsb := SB.next (SB.new wr l[k].col l[k].op l[k].src l[k].other l[k].v.t l[k].v.n l[k].v.s _) hb4
      rw [HC.out] at hsb
      unfold SB at hsb
      have hz4 : wr.heap.size < w4.heap.size := by have := hb4.size; simp at this; omega
      clear hb4 d0 d1 d2 d3 d4 d5 d6 HCk
      generalize comes xs l[k] = cm at *
      obtain ⟨⟨ct, cn, cs'⟩, cb⟩ := cm
      cases cb
      · go_wp2_with fail
        go_ret2
        exact ⟨_, [], 21, rfl, OwnRow.nil _ _ _, .inr ⟨HR.out, rfl, rfl⟩, HB4.out.alloc (Nat.le_trans HB4.out.size (Nat.le_refl _)) _⟩
      · have hcc : c < cur.length := by rw [HT.out.1]; exact hcl
        obtain ⟨r0, r1, r2⟩ := own_cells HO4.out c hcc
        obtain ⟨s0, s1, s2⟩ := own_free HO4.out c
        have i0 : (0 : Int) ≤ (c : Int) := by omega
        have i1 : (c : Int) < (xs.length : Int) := by omega
        have HNx : Hid ((cur.set c ⟨ct, cn, cs'⟩).length = xs.length ∧ runSets xs l xs = runSets xs (l.drop (k + 1)) (cur.set c ⟨ct, cn, cs'⟩)) := ⟨by rw [List.length_set]; exact HT.out.1, by
          have h := HR.out
          rw [HC.out, Int.toNat_natCast] at h
          simpa using h⟩
        have HON : Hid (∀ ob, OwnRow ((((w4.alloc ob).setCell ⟨g, c * 3, none⟩ (.bool ct)).setCell ⟨g, c * 3 + 1, none⟩ (.int .i64 cn)).setCell ⟨g, c * 3 + 2, none⟩ (.string cs')) w.heap.size 40 (.slice (some ⟨g, 0, none⟩) xs.length cap) (cur.set c ⟨ct, cn, cs'⟩)) :=
          fun ob => (HO4.out.below ((Below.refl _ _).alloc (Nat.le_refl _) ob)).store c hcc ⟨ct, cn, cs'⟩
        have HBN : Hid (∀ ob, Below w.heap.size w ((((w4.alloc ob).setCell ⟨g, c * 3, none⟩ (.bool ct)).setCell ⟨g, c * 3 + 1, none⟩ (.int .i64 cn)).setCell ⟨g, c * 3 + 2, none⟩ (.string cs'))) :=
          fun ob => (((HB4.out.alloc HB4.out.size ob).setCell HG.out _).setCell HG.out _).setCell HG.out _
        go_wp2_with fail
        go_roundw
        case rel => exact ⟨k + 1, _, by omega, by go_num, HNx, HON.out _, HBN.out _⟩
        case measure => simp [intOf]; omega
    · have HR : Hid (runSets xs l xs = some cur) := HT.out.2.trans (runSets_done (by omega) cur)
      go_wp2_with fail
      go_ret2
      exact ⟨_, cur, 0, rfl, HW.out.1, .inl ⟨HR.out, rfl⟩, HW.out.2⟩
theorem update_any (vc vr vs : Value) (cols : List Bool) (xs : List Val) (l : List SetP) (w : World) (hc : BoolsIn w vc cols) (hr : RowIn w vr xs) (hs : SetsIn w vs l) (ho : RowOk xs) (hso : SetsOk l) :
    Calls Try.prog 18 #[.agg #[vc], vr, vs] w fun e w' => ∃ v', e = .returned (.tuple #[v', .int .i64 (upd cols xs l).2]) ∧ OwnRow w' w.heap.size 40 v' (upd cols xs l).1 ∧ Below w.heap.size w w' := by
  have HF : Hid (∀ w1, Below w.heap.size w w1 → Calls Try.prog 15 #[.agg #[vc], vr] w1 fun e w' => e = .returned (.bool (fitsRow cols xs)) ∧ Below w1.heap.size w1 w') := fun w1 hb => fits_any vc vr cols xs w1 (hc.below hb) (hr.below hb) ho
  have HS : Hid (∀ w1, Below w.heap.size w w1 → Calls Try.prog 14 #[.agg #[vc], vs] w1 fun e w' => e = .returned (.int .i64 (checkSetsN cols l)) ∧ Below w1.heap.size w1 w') := fun w1 hb => checkSets_any vc vs cols l w1 (hc.below hb) (hs.below hb) fun s h => (hso s h).2
  cases hf : fitsRow cols xs
  · rw [hf] at HF
    rw [upd_unfit hf]
    refine (update_unfit vc vr vs w HF).mono ?_
    rintro e w' ⟨rfl, hb⟩
    exact ⟨_, rfl, OwnRow.nil _ _ _, hb⟩
  · obtain ⟨hm, hcl, _⟩ := fitsRow_parts hf
    rw [hf] at HF
    rw [checkSetsN_of hm] at HS
    cases hb : setsB cols l
    · rw [hb] at HS
      rw [upd_set hf hb]
      refine (update_set vc vr vs w HF HS).mono ?_
      rintro e w' ⟨rfl, hb⟩
      exact ⟨_, rfl, OwnRow.nil _ _ _, hb⟩
    · rw [hb] at HS
      have hm' := mayT_iff.1 hm
      refine (update_runs vc vr vs cols xs l w hr hs ho hso (by omega) (by omega) hcl (setsB_iff.1 hb).2 HF HS).mono ?_
      rintro e w' ⟨v', out, n, rfl, hown, hres, hb'⟩
      rcases hres with ⟨h1, rfl⟩ | ⟨h1, rfl, rfl⟩
      · rw [upd_ok hf hb h1]; exact ⟨_, rfl, hown, hb'⟩
      · rw [upd_over hf hb h1]; exact ⟨_, rfl, hown, hb'⟩
end Go.Proofs.Ytncefhjegkhamaa.Val
