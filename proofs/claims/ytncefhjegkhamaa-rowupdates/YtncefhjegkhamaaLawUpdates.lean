/- The law RowUpdates answers true for any table, row and sets. -/
import Derived.Test.YtncefhjegkhamaaLawFits
import Derived.Test.YtncefhjegkhamaaRefUpdate
import Derived.Test.YtncefhjegkhamaaEqual
namespace Go.Proofs.Ytncefhjegkhamaa.Val
open Go.RowKit

set_option maxHeartbeats 1000000 in
theorem updates_walk (vc vr vs : Value) (cols : List Bool) (xs : List Val) (l : List SetP) (w : World) (hc : BoolsIn w vc cols) (hr : RowIn w vr xs) (hs : SetsIn w vs l) (ho : RowOk xs) (hso : SetsOk l) :
    Calls Try.prog 4 #[.agg #[vc], vr, vs] w fun e w' => e = .returned (.bool true) ∧ Below w.heap.size w w' := by
  have H0 : Hid (∀ w1, Calls Try.prog 10 #[] w1 fun e w' => e = .returned (.bool true) ∧ Below w1.heap.size w1 w') := awake_any
  obtain ⟨lg, hlg⟩ : ∃ lg, (decide (1000 < cols.length) || decide (1000 < xs.length) || decide (1000 < l.length)) = lg := ⟨_, rfl⟩
  have H1 : Hid (∀ w1, Below w.heap.size w w1 → Calls Try.prog 11 #[.agg #[vc], vr, vs] w1 fun e w' => e = .returned (.bool lg) ∧ Below w1.heap.size w1 w') := fun w1 hb => by
    have := long_any vc vr vs cols xs l w1 (hc.below hb) (hr.below hb) (hs.below hb); rw [hlg] at this; exact this
  have H2 : Hid (∀ w1, Below w.heap.size w w1 → Calls Try.prog 18 #[.agg #[vc], vr, vs] w1 fun e w' => ∃ v', e = .returned (.tuple #[v', .int .i64 (upd cols xs l).2]) ∧ OwnRow w' w1.heap.size 40 v' (upd cols xs l).1 ∧ Below w1.heap.size w1 w') := fun w1 hb => update_any vc vr vs cols xs l w1 (hc.below hb) (hr.below hb) (hs.below hb) ho hso
  have H3 : Hid (∀ w1, Below w.heap.size w w1 → Calls Try.prog 19 #[.agg #[vc], vr, vs] w1 fun e w' => ∃ v', e = .returned (.tuple #[v', .int .i64 (upd cols xs l).2]) ∧ OwnRow w' w1.heap.size 40 v' (upd cols xs l).1 ∧ Below w1.heap.size w1 w') := fun w1 hb => rupdate_any vc vr vs cols xs l w1 (hc.below hb) (hr.below hb) (hs.below hb) ho hso
  clear hc hr hs ho hso hlg
  generalize upd cols xs l = u at *
  obtain ⟨ur, un⟩ := u
  go_enter Try.func4, Try.ntmps4
  go_wp2_with fail
  refine Calls.mono (H0.out _) ?_
  rintro e w1 ⟨rfl, hb⟩
  have HK1 : Hid _ := kept_box hb
  have c1 := HK1.out.1
  clear hb
  go_wp2_with fail
  refine Calls.mono (H1.out _ HK1.out.2) ?_
  rintro e w2 ⟨rfl, hb⟩
  have HK2 : Hid _ := cell_on HK1.out hb
  have c2 := HK2.out.1
  clear hb c1
  cases lg
  · go_wp2_with fail
    refine Calls.mono (H2.out _ HK2.out.2) ?_
    rintro e w3 ⟨v1, rfl, hown1, hb⟩
    have HK3 : Hid _ := cell_on HK2.out hb
    have c3 := HK3.out.1
    have HO1 : Hid (RowIn w3 v1 ur) := hown1.isIn
    clear hb c2 hown1
    go_wp2_with fail
    refine Calls.mono (H3.out _ HK3.out.2) ?_
    rintro e w4 ⟨v2, rfl, hown2, hb⟩
    have HK4 : Hid _ := cell_on HK3.out hb
    have HO2 : Hid (RowIn w4 v1 ur) := HO1.out.below hb
    have HO3 : Hid (RowIn w4 v2 ur) := hown2.isIn
    clear hb c3 hown2
    have hsame := rsame_any v1 v2 ur ur w4 HO2.out HO3.out
    rw [eqRow_self] at hsame
    have HS : Hid _ := hsame
    clear hsame
    go_wp2_with fail
    refine Calls.mono HS.out ?_
    rintro e w5 ⟨rfl, hb⟩
    have HB5 : Hid (Below w.heap.size w w5) := HK4.out.2.trans (hb.mono HK4.out.2.size)
    clear hb
    go_wp2_with fail
    go_ret
    exact ⟨rfl, HB5.out⟩
  · go_wp2_with fail
    go_ret
    exact ⟨rfl, HK2.out.2⟩
end Go.Proofs.Ytncefhjegkhamaa.Val
