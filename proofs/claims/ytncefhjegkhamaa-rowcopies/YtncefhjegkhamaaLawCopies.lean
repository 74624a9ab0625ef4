/- The law RowCopies answers true for any table, row and set. -/
import Derived.Test.YtncefhjegkhamaaLawSame
import Derived.Test.YtncefhjegkhamaaTurnPlain
import Derived.Test.YtncefhjegkhamaaLawRBack
namespace Go.Proofs.Ytncefhjegkhamaa.Val
open Go.RowKit

def cTo (c : Int) (v : Val) : List SetP := [⟨c, 1, 0, 0, v⟩]
def cCopy (c : Int) : List SetP := [⟨c, 2, c, 0, num 0⟩]
theorem c_sets (cols : List Bool) (c : Int) (v : Val) : setsB cols (cTo c v) = (isCol cols c && decide (c ≠ 0) && suitV (colAt cols c) v) := by
  simp [setsB, cTo, setsFrom, setOk, goesB]
theorem c_bad {cols : List Bool} {xs : List Val} {c : Int} {v : Val} (h : fitsRow cols xs = true) (hs : (isCol cols c && decide (c ≠ 0) && suitV (colAt cols c) v) = false) : upd cols xs (cTo c v) = ([], 20) :=
  upd_set h (by rw [c_sets]; exact hs)
theorem c_ok {cols : List Bool} {xs : List Val} {c : Nat} {v : Val} (h : fitsRow cols xs = true) (hs : (isCol cols c && decide ((c : Int) ≠ 0) && suitV (colAt cols c) v) = true) : upd cols xs (cTo c v) = (xs.set c v, 0) :=
  upd_ok h (by rw [c_sets]; exact hs) (by simp [runSets, cTo, comes])
theorem c_fits {cols : List Bool} {xs : List Val} {c : Nat} {v : Val} (h : fitsRow cols xs = true) (hc : c < cols.length) (ht : v.t = cols[c]) : fitsRow cols (xs.set c v) = rightV v.t v.n v.s := by
  obtain ⟨hm, hl, hf⟩ := fitsRow_parts h
  rw [fitsRow_of hm (by rw [List.length_set]; exact hl)]
  cases hr : rightV v.t v.n v.s
  · refine fitsL_no hc (by rw [List.length_set, hl]; exact hc) ?_
    rw [List.getElem_set_self]
    exact suitV_no hr
  · refine fitsL_set hf fun _ => ?_
    rw [suitV_yes hr, ht]
    exact beq_self_eq_true _
theorem c_copy {cols : List Bool} {xs : List Val} {c : Nat} (h : fitsRow cols xs = true) (hc : c < cols.length) (h0 : 0 < c) : upd cols xs (cCopy c) = (xs, 0) := by
  obtain ⟨hm, hl, hf⟩ := fitsRow_parts h
  have hi : isCol cols c = true := isCol_iff.2 ⟨by omega, by omega⟩
  have h0' : ¬ c = 0 := by omega
  refine upd_ok h ?_ ?_
  · simp [setsB, cCopy, setsFrom, setOk, goesB, hi, h0']
  · have e : comes xs ⟨c, 2, c, 0, num 0⟩ = (xs[c], true) := by unfold comes; rw [getD_of (by omega)]; rfl
    simp [runSets, cCopy, e]
theorem c_toOk {c : Int} {v : Val} (h : fits v.n = true ∧ v.s.size ≤ maxLen) : SetsOk (cTo c v) := by intro x hx; simp only [cTo, List.mem_cons, List.not_mem_nil, or_false] at hx; subst hx; exact h
theorem c_copyOk {c : Int} : SetsOk (cCopy c) := by intro x hx; simp only [cCopy, List.mem_cons, List.not_mem_nil, or_false] at hx; subst hx; exact ⟨(by decide : fits 0 = true), Nat.zero_le _⟩
set_option maxHeartbeats 1000000 in
theorem copies_big (vc vr : Value) (cols : List Bool) (xs : List Val) (c op f o : Int) (v : Val) (w : World) (hc : BoolsIn w vc cols) (hr : RowIn w vr xs) (hb : 100 < cols.length ∨ 100 < xs.length) :
    Calls Try.prog 9 #[.agg #[vc], vr, SV c op f o v.t v.n v.s] w fun e w' => e = .returned (.bool true) ∧ Below w.heap.size w w' := by
  obtain ⟨ac, cc, rfl, lc⟩ := hc.slice
  obtain ⟨ar, cr, rfl, lr⟩ := hr.slice
  clear hc hr
  by_cases h1 : 100 < cols.length
  · go_enter Try.func9, Try.ntmps9
    go_wp2_with fail
    refine Calls.mono (awake_any _) ?_
    rintro e w1 ⟨rfl, hb1⟩
    have HB1 : Hid (Below w.heap.size w w1) := back2 hb1
    have ht := TS.next (TS.new w (.slice ac cols.length cc) c op f o v.t v.n v.s _ _) hb1
    unfold TS at ht
    clear hb1
    go_wp2_with fail
    go_ret
    exact ⟨rfl, HB1.out⟩
  · have h2 : 100 < xs.length := by omega
    go_enter Try.func9, Try.ntmps9
    go_wp2_with fail
    refine Calls.mono (awake_any _) ?_
    rintro e w1 ⟨rfl, hb1⟩
    have HB1 : Hid (Below w.heap.size w w1) := back2 hb1
    have ht := TS.next (TS.new w (.slice ac cols.length cc) c op f o v.t v.n v.s _ _) hb1
    unfold TS at ht
    clear hb1
    go_wp2_with fail
    go_ret
    exact ⟨rfl, HB1.out⟩
set_option maxHeartbeats 2000000 in
theorem copies_small (vc vr : Value) (cols : List Bool) (xs : List Val) (c op f o : Int) (v : Val) (w : World) (hc : BoolsIn w vc cols) (hr : RowIn w vr xs) (ho : RowOk xs) (hv : fits v.n = true ∧ v.s.size ≤ maxLen) (h1 : cols.length ≤ 100) (h2 : xs.length ≤ 100) :
    Calls Try.prog 9 #[.agg #[vc], vr, SV c op f o v.t v.n v.s] w fun e w' => e = .returned (.bool true) ∧ Below w.heap.size w w' := by
  have HC : Hid (BoolsIn w vc cols) := hc
  have HR : Hid (RowIn w vr xs) := hr
  have HO : Hid (RowOk xs) := ho
  have HV : Hid (fits v.n = true ∧ v.s.size ≤ maxLen) := hv
  have H5 : Hid (∀ w1, Below w.heap.size w w1 → Calls Try.prog 15 #[.agg #[vc], vr] w1 fun e w' => e = .returned (.bool (fitsRow cols xs)) ∧ Below w1.heap.size w1 w') := fun w1 hb => fits_any vc vr cols xs w1 (hc.below hb) (hr.below hb) ho
  obtain ⟨ac, cc, rfl, lc⟩ := hc.slice
  obtain ⟨ar, cr, rfl, lr⟩ := hr.slice
  obtain ⟨u, hu⟩ : ∃ u, upd cols xs (cTo c v) = u := ⟨_, rfl⟩
  have HU : Hid (upd cols xs (cTo c v) = u) := hu
  clear hc hr ho hv hu
  have d1 : decide ((100 : Int) < (cols.length : Int)) = false := by simp; omega
  have d2 : decide ((100 : Int) < (xs.length : Int)) = false := by simp; omega
  go_enter Try.func9, Try.ntmps9
  go_wp2_with fail
  refine Calls.mono (awake_any _) ?_
  rintro e w1 ⟨rfl, hb1⟩
  have HB1 : Hid (Below w.heap.size w w1) := back2 hb1
  have ht := TS.next (TS.new w (.slice ac cols.length cc) c op f o v.t v.n v.s _ _) hb1
  have HT1 : Hid (TS w1 w.heap.size (.slice ac cols.length cc) c op f o v.t v.n v.s) := ht
  unfold TS at ht
  have hz : w.heap.size + 1 < w1.heap.size := World.block_lt_of_cell? _ _ ht.2.1
  have hz0 : w.heap.size < w1.heap.size := by omega
  clear hb1
  go_wp2_with fail
  refine Calls.mono (update_any _ _ _ cols xs (cTo c v) _ (HC.out.below (HB1.out.alloc HB1.out.size _)) (HR.out.below (HB1.out.alloc HB1.out.size _)) ?hs HO.out (c_toOk HV.out)) ?_
  case hs => exact lies_new _ _ rfl ((cTo c v).flatMap SetP.cells) 1 _ (by decide)
  rintro e w2 ⟨vx, rfl, hown, hb2⟩
  rw [HU.out] at hown ⊢
  have hb21 : Below w1.heap.size w1 w2 := ((Below.refl _ _).alloc (Nat.le_refl _) _).trans (hb2.mono (by simp))
  have HB2 : Hid (Below w.heap.size w w2) := HB1.out.trans (hb21.mono HB1.out.size)
  have HT2 : Hid (TS w2 w.heap.size (.slice ac cols.length cc) c op f o v.t v.n v.s) := HT1.out.next hb21
  have HX2 : Hid (RowIn w2 vx u.1) := hown.isIn
  clear ht hb2 hown hb21 hz hz0
  have ht := HT2.out
  unfold TS at ht
  go_wp2_with fail
  refine Calls.mono (H5.out _ HB2.out) ?_
  rintro e w3 ⟨rfl, hb3⟩
  have HB3 : Hid (Below w.heap.size w w3) := HB2.out.trans (hb3.mono HB2.out.size)
  have HT3 : Hid (TS w3 w.heap.size (.slice ac cols.length cc) c op f o v.t v.n v.s) := HT2.out.next hb3
  have HX3 : Hid (RowIn w3 vx u.1) := HX2.out.below hb3
  clear ht hb3
  have ht := HT3.out
  unfold TS at ht
  cases hfit : fitsRow cols xs
  · have hu := HU.out
    rw [upd_unfit hfit] at hu
    subst hu
    clear hfit
    go_wp2_with fail
    go_ret
    exact ⟨rfl, HB3.out⟩
  · have HFIT : Hid (fitsRow cols xs = true) := hfit
    clear hfit
    obtain ⟨ax, cx, rfl, lx⟩ := HX3.out.slice
    by_cases c1 : c < 1
    · have hu := HU.out
      rw [c_bad HFIT.out (by cases h : isCol cols c <;> simp_all [isCol_iff]; omega)] at hu
      subst hu
      have e1 : decide (c < 1) = true := by simpa using c1
      go_wp2_with fail
      go_quiet (fail)
      go_wp2_with fail
      go_ret
      exact ⟨rfl, below_drewN HB3.out _⟩
    · by_cases c2 : (cols.length : Int) ≤ c
      · have hu := HU.out
        rw [c_bad HFIT.out (by rw [isCol_no (by omega)]; rfl)] at hu
        subst hu
        have e1 : decide (c < 1) = false := by simpa using c1
        go_wp2_with fail
        go_quiet (fail)
        go_wp2_with fail
        go_ret
        exact ⟨rfl, below_drewN HB3.out _⟩
      · obtain ⟨k, rfl⟩ : ∃ k : Nat, c = k := ⟨c.toNat, by omega⟩
        have hk : k < cols.length := by omega
        have hk0 : 0 < k := by omega
        have HK : Hid (isCol cols (k : Int) = true ∧ decide ((k : Int) ≠ 0) = true) := ⟨isCol_iff.2 ⟨by omega, by omega⟩, by simp; omega⟩
        obtain ⟨bc, oc, rfl, dc⟩ := (HC.out.below HB3.out).at k hk
        have e1 : decide ((k : Int) < 1) = false := by simp; omega
        have k0 : (0 : Int) ≤ (k : Int) := by omega
        have k1 : (k : Int) < (cols.length : Int) := by omega
        cases hte : (v.t == cols[k])
        · have hu := HU.out
          rw [c_bad HFIT.out (by rw [colAt_nat hk]; unfold suitV; rw [hte, Bool.and_false, Bool.and_false])] at hu
          subst hu
          go_wp2_with fail
          go_quiet (fail)
          go_wp2_with fail
          go_ret
          exact ⟨rfl, below_drewN HB3.out _⟩
        · have HTE : Hid (v.t = cols[k]) := eq_of_beq hte
          have HL : Hid (xs.length ≤ 1000) := by show _ ≤ _; omega
          have HLC : Hid (xs.length = cols.length) := (fitsRow_parts HFIT.out).2.1
          go_wp2_with fail
          go_quiet (fail)
          have hr4 := HR.out.below (below_drewN HB3.out nq)
          have hl4 := HL.out
          go_wp2_with (at_builtin; refine wpList_append_row rfl _ _ _ rfl Try.underlying26 _ xs rfl rfl hr4 hl4 ?_)
          intro vo w5 hown hb5
          have hkx : k < xs.length := by rw [HLC.out]; exact hk
          obtain ⟨g, cap, rfl, hg1, hg2⟩ := hown.place (by omega)
          have HG : Hid (w3.heap.size ≤ g) := hg1
          have HB35 : Hid (Below w3.heap.size w3 w5) := (below_drewN (Below.refl _ _) nq).trans hb5
          have HO5 : Hid (OwnRow w5 w3.heap.size 40 (.slice (some ⟨g, 0, none⟩) xs.length cap) xs) := hown
          obtain ⟨r0, r1, r2⟩ := own_here hown k hkx
          obtain ⟨s0, s1, s2⟩ := own_free_here hown k
          have HT5 : Hid _ := HT3.out.next HB35.out
          clear ht dc hr4 hl4 hg1 hg2 hown hb5 hte
          have ht := HT5.out
          unfold TS at ht
          have j1 : (k : Int) < (xs.length : Int) := by omega
          have HB36 : Hid (Below w3.heap.size w3 (((w5.setCell ⟨g, k * 3, none⟩ (.bool v.t)).setCell ⟨g, k * 3 + 1, none⟩ (.int .i64 v.n)).setCell ⟨g, k * 3 + 2, none⟩ (.string v.s))) := ((HB35.out.setCell HG.out _).setCell HG.out _).setCell HG.out _
          have HO6 : Hid (OwnRow (((w5.setCell ⟨g, k * 3, none⟩ (.bool v.t)).setCell ⟨g, k * 3 + 1, none⟩ (.int .i64 v.n)).setCell ⟨g, k * 3 + 2, none⟩ (.string v.s)) w3.heap.size 40 (.slice (some ⟨g, 0, none⟩) xs.length cap) (xs.set k v)) := HO5.out.store k hkx v
          generalize hW6 : (((w5.setCell ⟨g, k * 3, none⟩ (.bool v.t)).setCell ⟨g, k * 3 + 1, none⟩ (.int .i64 v.n)).setCell ⟨g, k * 3 + 2, none⟩ (.string v.s)) = w6 at HB36 HO6
          have HE6 : Hid ((((w5.setCell ⟨g, k * 3, none⟩ (.bool v.t)).setCell ⟨g, k * 3 + 1, none⟩ (.int .i64 v.n)).setCell ⟨g, k * 3 + 2, none⟩ (.string v.s)) = w6) := hW6
          clear hW6
          have HB6 : Hid (Below w.heap.size w w6) := HB3.out.trans (HB36.out.mono HB3.out.size)
          have HT6 : Hid (TS w6 w.heap.size (.slice (some ⟨bc, oc, none⟩) cols.length cc) k op f o v.t v.n v.s) := HT3.out.next HB36.out
          have HX6 : Hid _ := HX3.out.below HB36.out
          have hf := fits_any _ _ cols (xs.set k v) w6 (HC.out.below HB6.out) HO6.out.isIn (HO.out.set HV.out k)
          rw [c_fits HFIT.out hk HTE.out] at hf
          have HF : Hid _ := hf
          clear hf
          have gw0 : g ≠ w.heap.size := by have h1 := HG.out; have h2 := World.block_lt_of_cell? _ _ HT3.out.2.1; simp only at h2; omega
          have gw1 : g ≠ w.heap.size + 1 := by have h1 := HG.out; have h2 := World.block_lt_of_cell? _ _ HT3.out.2.1; simp only at h2; omega
          go_wp2_with fail
          rw [HE6.out]
          refine Calls.mono HF.out ?_
          rintro e w7 ⟨rfl, hb7⟩
          have HB7 : Hid (Below w.heap.size w w7) := HB6.out.trans (hb7.mono HB6.out.size)
          have HT7 : Hid (TS w7 w.heap.size (.slice (some ⟨bc, oc, none⟩) cols.length cc) k op f o v.t v.n v.s) := HT6.out.next hb7
          have HX7 : Hid (RowIn w7 (.slice ax u.1.length cx) u.1) := HX6.out.below hb7
          have HO7 : Hid (RowIn w7 (.slice (some ⟨g, 0, none⟩) xs.length cap) (xs.set k v)) := HO6.out.isIn.below hb7
          clear hb7 ht r0 r1 r2 s0 s1 s2 HF HT5 HT6
          have ht := HT7.out
          unfold TS at ht
          cases hr : rightV v.t v.n v.s
          · have hu := HU.out
            rw [c_bad HFIT.out (by rw [colAt_nat hk]; unfold suitV; rw [hr]; simp)] at hu
            subst hu
            clear hr
            go_wp2_with fail
            go_ret
            exact ⟨rfl, HB7.out⟩
          · have hu := HU.out
            rw [c_ok HFIT.out (by rw [HK.out.1, HK.out.2, colAt_nat hk]; unfold suitV; rw [hr, HTE.out]; simp)] at hu
            subst hu
            have HFS : Hid (fitsRow cols (xs.set k v) = true) := by show _ = _; rw [c_fits HFIT.out hk HTE.out]; exact hr
            have hz : w.heap.size + 1 < w7.heap.size := World.block_lt_of_cell? _ _ ht.2.1
            have hz0 : w.heap.size < w7.heap.size := by omega
            clear hr
            go_wp2_with fail
            refine Calls.mono (update_any _ _ _ cols (xs.set k v) (cCopy k) _ (HC.out.below (HB7.out.alloc HB7.out.size _)) (HO7.out.below ((Below.refl _ _).alloc (Nat.le_refl _) _)) ?hs (HO.out.set HV.out k) c_copyOk) ?_
            case hs => exact lies_new _ _ rfl ((cCopy k).flatMap SetP.cells) 1 _ (by decide)
            rintro e w8 ⟨vy, rfl, hown, hb8⟩
            rw [c_copy HFS.out hk hk0] at hown ⊢
            have hb78 : Below w7.heap.size w7 w8 := ((Below.refl _ _).alloc (Nat.le_refl _) _).trans (hb8.mono (by simp))
            have HB8 : Hid (Below w.heap.size w w8) := HB7.out.trans (hb78.mono HB7.out.size)
            have HX8 : Hid (RowIn w8 (.slice ax xs.length cx) (xs.set k v)) := by have h := HX7.out.below hb78; simp only [List.length_set] at h; exact h
            have HO8 : Hid (RowIn w8 (.slice (some ⟨g, 0, none⟩) xs.length cap) (xs.set k v)) := HO7.out.below hb78
            have HY8 : Hid (RowIn w8 vy (xs.set k v)) := hown.isIn
            have hsm := rsame_any _ _ _ _ w8 HX8.out HO8.out
            rw [eqRow_self] at hsm
            have HSM : Hid _ := hsm
            clear hb8 hown hb78 hsm ht hz hz0
            go_wp2_with fail
            refine Calls.mono HSM.out ?_
            rintro e w9 ⟨rfl, hb9⟩
            have HB9 : Hid (Below w.heap.size w w9) := HB8.out.trans (hb9.mono HB8.out.size)
            have hsm := rsame_any _ _ _ _ w9 (HY8.out.below hb9) (HO8.out.below hb9)
            rw [eqRow_self] at hsm
            have HSM2 : Hid _ := hsm
            clear hb9 hsm HSM
            go_wp2_with fail
            refine Calls.mono HSM2.out ?_
            rintro e w10 ⟨rfl, hb10⟩
            have HB10 : Hid (Below w.heap.size w w10) := HB9.out.trans (hb10.mono HB9.out.size)
            clear hb10
            go_wp2_with fail
            go_ret
            exact ⟨rfl, HB10.out⟩
theorem copies_walk (vc vr : Value) (cols : List Bool) (xs : List Val) (s : SetP) (w : World) (hc : BoolsIn w vc cols) (hr : RowIn w vr xs) (ho : RowOk xs) (hv : fits s.v.n = true ∧ s.v.s.size ≤ maxLen) :
    Calls Try.prog 9 #[.agg #[vc], vr, SV s.col s.op s.src s.other s.v.t s.v.n s.v.s] w fun e w' => e = .returned (.bool true) ∧ Below w.heap.size w w' := by
  by_cases h : 100 < cols.length ∨ 100 < xs.length
  · exact copies_big vc vr cols xs s.col s.op s.src s.other s.v w hc hr h
  · exact copies_small vc vr cols xs s.col s.op s.src s.other s.v w hc hr ho hv (by omega) (by omega)
end Go.Proofs.Ytncefhjegkhamaa.Val
