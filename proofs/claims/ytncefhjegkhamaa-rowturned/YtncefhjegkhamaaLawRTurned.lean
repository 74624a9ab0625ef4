/- The law RowTurned answers true for any table, row and sets. -/
import Derived.Test.YtncefhjegkhamaaLawSame
import Derived.Test.YtncefhjegkhamaaTurnPlain
import Derived.Test.YtncefhjegkhamaaOwnSets
namespace Go.Proofs.Ytncefhjegkhamaa.Val
open Go.RowKit

theorem info_Set : (Try.prog.info? 44).map (fun i => (i.zero, i.size, i.bytes)) = some (some (SV 0 0 0 0 false 0 ⟨#[]⟩), 7, 64) := by kernel_rfl
theorem SetsOk.reverse {l : List SetP} (h : SetsOk l) : SetsOk l.reverse := fun s hs => h s (List.mem_reverse.1 hs)
theorem take_rev {l : List SetP} {k : Nat} (hk : k < l.length) (j : Nat) (hj : j + k + 1 = l.length) (hj' : j < l.length) : l.reverse.take (k + 1) = l.reverse.take k ++ [l[j]] := by
  rw [List.take_succ_eq_append_getElem (by simpa using hk)]
  congr 2
  rw [List.getElem_reverse]
  congr 1
  omega
set_option maxHeartbeats 2000000 in
theorem rturned_walk (vc vr vs : Value) (cols : List Bool) (xs : List Val) (l : List SetP) (w : World) (hc : BoolsIn w vc cols) (hr : RowIn w vr xs) (hs : SetsIn w vs l) (ho : RowOk xs) (hso : SetsOk l) :
    Calls Try.prog 7 #[.agg #[vc], vr, vs] w fun e w' => e = .returned (.bool true) ∧ Below w.heap.size w w' := by
  have H0 : Hid (∀ w1, Calls Try.prog 10 #[] w1 fun e w' => e = .returned (.bool true) ∧ Below w1.heap.size w1 w') := awake_any
  obtain ⟨lg, hlg⟩ : ∃ lg, (decide (1000 < cols.length) || decide (1000 < xs.length) || decide (1000 < l.length)) = lg := ⟨_, rfl⟩
  have H1 : Hid (∀ w1, Below w.heap.size w w1 → Calls Try.prog 11 #[.agg #[vc], vr, vs] w1 fun e w' => e = .returned (.bool lg) ∧ Below w1.heap.size w1 w') := fun w1 hb => by
    have := long_any vc vr vs cols xs l w1 (hc.below hb) (hr.below hb) (hs.below hb); rw [hlg] at this; exact this
  have HL : Hid (lg = false → l.length ≤ 1000) := fun h => by rw [h] at hlg; simp at hlg; omega
  have H2 : Hid (∀ w1, Below w.heap.size w w1 → Calls Try.prog 18 #[.agg #[vc], vr, vs] w1 fun e w' => ∃ v', e = .returned (.tuple #[v', .int .i64 (upd cols xs l).2]) ∧ OwnRow w' w1.heap.size 40 v' (upd cols xs l).1 ∧ Below w1.heap.size w1 w') := fun w1 hb => update_any vc vr vs cols xs l w1 (hc.below hb) (hr.below hb) (hs.below hb) ho hso
  have H3 : Hid (∀ w1 v2, Below w.heap.size w w1 → SetsIn w1 v2 l.reverse → Calls Try.prog 18 #[.agg #[vc], vr, v2] w1 fun e w' => ∃ v', e = .returned (.tuple #[v', .int .i64 (upd cols xs l).2]) ∧ OwnRow w' w1.heap.size 40 v' (upd cols xs l).1 ∧ Below w1.heap.size w1 w') := fun w1 v2 hb h => by
    have := update_any vc vr v2 cols xs l.reverse w1 (hc.below hb) (hr.below hb) h ho hso.reverse; rw [upd_reverse] at this; exact this
  have H4 : Hid (∀ w1, Below w.heap.size w w1 → Calls Try.prog 18 #[.agg #[vc], vr, .slice none 0 0] w1 fun e w' => ∃ v', e = .returned (.tuple #[v', .int .i64 (upd cols xs []).2]) ∧ OwnRow w' w1.heap.size 40 v' (upd cols xs []).1 ∧ Below w1.heap.size w1 w') := fun w1 hb =>
    update_any vc vr (.slice none 0 0) cols xs [] w1 (hc.below hb) (hr.below hb) (OwnSets.nil w1 0 44).isIn ho (fun s h => (by simp at h))
  have H5 : Hid (∀ w1 v1 v2 ys, RowIn w1 v1 ys → RowIn w1 v2 ys → Calls Try.prog 20 #[v1, v2] w1 fun e w' => e = .returned (.bool true) ∧ Below w1.heap.size w1 w') := fun w1 v1 v2 ys h1 h2 => by
    have := rsame_any v1 v2 ys ys w1 h1 h2; rw [eqRow_self] at this; exact this
  have H6 : Hid (∀ w1, Below w.heap.size w w1 → Calls Try.prog 15 #[.agg #[vc], vr] w1 fun e w' => e = .returned (.bool (fitsRow cols xs)) ∧ Below w1.heap.size w1 w') := fun w1 hb => fits_any vc vr cols xs w1 (hc.below hb) (hr.below hb) ho
  have HR : Hid (RowIn w vr xs) := hr
  have HSI : Hid (SetsIn w vs l) := hs
  have HU : Hid ((fitsRow cols xs = true ∧ upd cols xs [] = (xs, 0)) ∨ (fitsRow cols xs = false ∧ upd cols xs [] = ([], 1))) := by
    cases h : fitsRow cols xs
    · exact .inr ⟨rfl, upd_unfit h⟩
    · exact .inl ⟨rfl, upd_none_fit h⟩
  obtain ⟨i0, hi, hz0, hz1, hz2⟩ := info_parts info_Set
  obtain ⟨as', cs, rfl, ls⟩ := hs.slice
  clear hc hr hs ho hso hlg
  generalize upd cols xs l = u at *
  generalize upd cols xs [] = u0 at *
  generalize fitsRow cols xs = ft at *
  obtain ⟨ur, un⟩ := u
  go_enter Try.func7, Try.ntmps7
  go_wp2_with fail
  refine Calls.mono (H0.out _) ?_
  rintro e w1 ⟨rfl, hb⟩
  have HK1 : Hid _ := kept_box hb
  have c1 := HK1.out.1
  clear hb
  go_wp2_with fail
  refine Calls.mono (H1.out _ HK1.out.2) ?_
  rintro e w2 ⟨rfl, hb⟩
  have HK2 : Hid _ := cell_on HK1.out hb
  clear hb c1
  cases lg
  · have HL2 : Hid (l.length ≤ 1000) := HL.out rfl
    go_wp2_with fail
    go_loopw [9, 10] (fun v i wr => ∃ k : Nat, k ≤ l.length ∧ i = .int .i64 ((l.length : Int) - 1 - k) ∧ Hid (wr.ownsRow (w.heap.size + 1) 44 7 v k ((l.reverse.take k).flatMap SetP.cells)) ∧ Hid (wr.cell? ⟨w.heap.size, 0, none⟩ = some vc ∧ Below w.heap.size w wr)) (fun _ i _ => ((intOf i) + 1).toNat)
    case atStart => exact ⟨0, Nat.zero_le _, by go_num, World.ownsRow_nil _ _ _ _, HK2⟩
    case round =>
      obtain ⟨k, hk, rfl, HO, HW⟩ := hrel
      by_cases hlt : k < l.length
      · obtain ⟨j, hj⟩ : ∃ j : Nat, j + k + 1 = l.length := ⟨l.length - 1 - k, by omega⟩
        have hj' : j < l.length := by omega
        have e : ((l.length : Int) - 1 - k) = (j : Int) := by omega
        rw [e]
        obtain ⟨b, o, rfl, d0, d1, d2, d3, d4, d5, d6⟩ := (HSI.out.below HW.out.2).at j hj'
        have j0 : (0 : Int) ≤ (j : Int) := by omega
        have j1 : (j : Int) < (l.length : Int) := by omega
        have hown := HO.out
        have hz : w.heap.size + 1 ≤ wr.heap.size := World.block_lt_of_cell? _ _ HW.out.1
        have hl2 := HL2.out
        go_wp2_with (at_builtin; refine wpList_append_own _ rfl _ _ _ rfl (w.heap.size + 1) 44 i0 _ 7 64 Try.underlying27 hi hz0 hz1 hz2 rfl (by decide) _ k _ rfl (hown.alloc _) ⟨wr.heap.size, 0, none⟩ 1 1 (l[j]).cells rfl rfl (new_cells wr (l[j]).cells _) ?_ ?_ ?_ ?_ ?_)
        · exact fun u hu => sets_one [l[j]] u (by simpa using hu)
        · unfold maxLen; omega
        · omega
        · simp; omega
        · intro v' w3 hown' hgrow _
          have HON : Hid (w3.ownsRow (w.heap.size + 1) 44 7 v' (k + 1) ((l.reverse.take (k + 1)).flatMap SetP.cells)) := by
            show World.ownsRow _ _ _ _ _ _ _
            rw [take_rev hlt j hj hj', List.flatMap_append]
            simpa using hown'
          have hne : some w.heap.size ≠ u9.ownBlock := fun e => by have := (hown.lt _ e.symm).1; omega
          have HKN : Hid (w3.cell? ⟨w.heap.size, 0, none⟩ = some vc ∧ Below w.heap.size w w3) := ⟨hgrow.cell (a := ⟨w.heap.size, 0, none⟩) (by rw [World.cell?_alloc_some _ _ _ (by rw [HW.out.1]; rfl)]; exact HW.out.1) hne, (HW.out.2.alloc (by omega) _).grown hgrow (by simp; omega) (fun q hq => by have := (hown.lt q hq).1; omega)⟩
          have ek : ((l.length : Int) - 1 - ((k + 1 : Nat) : Int)) = (j : Int) - 1 := by omega
          have EK : Hid (((l.length : Int) - 1 - ((k + 1 : Nat) : Int)) = (j : Int) - 1) := ek
          clear hown hown' hgrow d0 d1 d2 d3 d4 d5 d6 ek e hne
          go_wp2_with fail
          go_roundw
          case rel => exact ⟨k + 1, by omega, by rw [EK.out], HON, HKN⟩
          case measure => simp [intOf]
      · have hkl : k = l.length := by omega
        subst hkl
        have hown := HO.out
        rw [List.take_of_length_le (by simp)] at hown
        have HT : Hid (SetsIn wr u9 l.reverse) := OwnSets.isIn (by unfold OwnSets; rw [List.length_reverse]; exact hown)
        clear hown HO
        have e : ((l.length : Int) - 1 - (l.length : Int)) = -1 := by omega
        rw [e]
        have c3 := HW.out.1
        go_wp2_with fail
        refine Calls.mono (H2.out _ HW.out.2) ?_
        rintro e w4 ⟨vx, rfl, hown, hb⟩
        have HK4 : Hid _ := cell_on HW.out hb
        have c4 := HK4.out.1
        have HX4 : Hid (RowIn w4 vx ur) := hown.isIn
        have HT4 : Hid (SetsIn w4 u9 l.reverse) := HT.out.below hb
        clear hb hown c3
        go_wp2_with fail
        refine Calls.mono (H3.out _ _ HK4.out.2 HT4.out) ?_
        rintro e w5 ⟨vy, rfl, hown, hb⟩
        have HK5 : Hid _ := cell_on HK4.out hb
        have c5 := HK5.out.1
        have HX5 : Hid (RowIn w5 vx ur) := HX4.out.below hb
        have HY5 : Hid (RowIn w5 vy ur) := hown.isIn
        clear hb hown c4
        go_wp2_with fail
        refine Calls.mono (H4.out _ HK5.out.2) ?_
        rintro e w6 ⟨vz, rfl, hown, hb⟩
        have HK6 : Hid _ := cell_on HK5.out hb
        have c6 := HK6.out.1
        have HX6 : Hid (RowIn w6 vx ur) := HX5.out.below hb
        have HY6 : Hid (RowIn w6 vy ur) := HY5.out.below hb
        have HZ6 : Hid (RowIn w6 vz u0.1) := hown.isIn
        clear hb hown c5
        go_wp2_with fail
        refine Calls.mono (H5.out _ _ _ _ HX6.out HY6.out) ?_
        rintro e w7 ⟨rfl, hb⟩
        have HK7 : Hid _ := cell_on HK6.out hb
        have c7 := HK7.out.1
        have HZ7 : Hid (RowIn w7 vz u0.1) := HZ6.out.below hb
        clear hb c6
        rcases HU.out with ⟨rfl, rfl⟩ | ⟨rfl, rfl⟩
        · go_wp2_with fail
          refine Calls.mono (H6.out _ HK7.out.2) ?_
          rintro e w8 ⟨rfl, hb⟩
          have HK8 : Hid _ := cell_on HK7.out hb
          have HZ8 : Hid (RowIn w8 vz xs) := HZ7.out.below hb
          clear hb c7
          go_wp2_with fail
          refine Calls.mono (H5.out _ _ _ _ HZ8.out (HR.out.below HK8.out.2)) ?_
          rintro e w9 ⟨rfl, hb⟩
          have HB9 : Hid (Below w.heap.size w w9) := HK8.out.2.trans (hb.mono HK8.out.2.size)
          clear hb
          go_wp2_with fail
          go_ret
          exact ⟨rfl, HB9.out⟩
        · obtain ⟨az, cz, rfl, lz⟩ := HZ7.out.slice
          go_wp2_with fail
          refine Calls.mono (H6.out _ HK7.out.2) ?_
          rintro e w8 ⟨rfl, hb⟩
          have HB8 : Hid (Below w.heap.size w w8) := HK7.out.2.trans (hb.mono HK7.out.2.size)
          clear hb c7
          go_wp2_with fail
          go_ret
          exact ⟨rfl, HB8.out⟩
  · go_wp2_with fail
    go_ret
    exact ⟨rfl, HK2.out.2⟩
end Go.Proofs.Ytncefhjegkhamaa.Val
