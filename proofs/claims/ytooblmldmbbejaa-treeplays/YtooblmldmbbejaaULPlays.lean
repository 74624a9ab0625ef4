/- TreePlays: the walk. -/
import Derived.Test.YtooblmldmbbejaaU23
import Derived.Test.YtooblmldmbbejaaUO
namespace Go.Proofs.Ytooblmldmbbejaa.Val
open Go Go.RowKit

set_option maxRecDepth 100000 in
set_option maxHeartbeats 16000000 in
theorem tplays_walk (v : Value) (xs : List AcP) (w : World) (hin : ActsIn w v xs) (hok : ∀ a ∈ xs, a.k.s.size ≤ maxLen) : Calls Try.prog 3 #[v] w fun e w' => e = .returned (.bool true) ∧ Below w.heap.size w w' := by
  obtain ⟨ao, cap, rfl, hmx⟩ := Lies.slice hin
  have HA : Hid (∀ w1, Calls Try.prog 7 #[] w1 fun e w' => e = .returned (.bool true) ∧ Below w1.heap.size w1 w') := awake_any
  have HN : Hid (∀ w1, Calls Try.prog 8 #[] w1 fun e w' => e = .returned (.pointer (some ⟨w1.heap.size, 0, none⟩)) ∧ Tr w' ⟨w1.heap.size, .slice none 0 0, .slice none 0 0, .slice none 0 0⟩ [] ∧ Below w1.heap.size w1 w') := tr_new
  have HIN : Hid (ActsIn w (.slice ao xs.length cap) xs ∧ ∀ a ∈ xs, a.k.s.size ≤ maxLen) := ⟨hin, hok⟩
  clear hin hok
  go_enter Try.func3, Try.ntmps3
  go_wp2_with fail
  refine Calls.mono (HA.out _) ?_
  rintro e w0 ⟨rfl, hb⟩
  have HB0 : Hid (Below w.heap.size w w0) := hb
  clear hb HA
  go_wp2_with fail
  refine Calls.mono (HN.out _) ?_
  rintro e w1 ⟨rfl, T1, hb⟩
  have HO1 : Hid (∃ l, QP w0 l (.slice none 0 0) l w1 ∧ l.length ≤ 0) := ⟨[], qp_new T1 hb, by simp⟩
  clear T1 hb HN
  go_wp2_with fail
  go_loopw [5, 6] (fun lv ai wr => ∃ j : Nat, j ≤ xs.length ∧ j ≤ 120 ∧ ai = .int .i64 j ∧ Hid (∃ l, QP w0 l lv l wr ∧ l.length ≤ j)) (fun _ ai _ => xs.length - (intOf ai).toNat)
  case atStart => exact ⟨0, Nat.zero_le _, by omega, rfl, HO1.out⟩
  case round =>
    obtain ⟨j, hj, hj2, rfl, HO⟩ := hrel
    clear HO1
    by_cases h1 : j < xs.length ∧ j < 120
    · obtain ⟨l, q, hl⟩ := HO.out
      have HIR : ActsIn wr (.slice ao xs.length cap) xs := HIN.out.1.below (on HB0.out (q.blw.mono (Nat.le_refl _)))
      obtain ⟨b, oo, rfl, c0, c1, c2, c3, c4⟩ := HIR.at j h1.1
      have hs := HIN.out.2 xs[j] (List.getElem_mem h1.1)
      have HCB : Hid (∀ w3, Below w0.heap.size w0 w3 → w3.cell? ⟨b, oo + j * 5 + 1, none⟩ = some (.bool xs[j].k.t) ∧ w3.cell? ⟨b, oo + j * 5 + 2, none⟩ = some (.int .i64 xs[j].k.n) ∧ w3.cell? ⟨b, oo + j * 5 + 3, none⟩ = some (.string xs[j].k.s)) := fun w3 hb => by
        have hR : ActsIn w3 (.slice (some ⟨b, oo, none⟩) xs.length cap) xs := HIN.out.1.below (on HB0.out hb)
        obtain ⟨b', oo', e, _, q1, q2, q3, q4⟩ := hR.at j h1.1
        cases e
        exact ⟨q1, q2, q3⟩
      have HD : Hid (Calls Try.prog 9 #[.pointer (some ⟨w0.heap.size, 0, none⟩), u5, .agg #[.bool xs[j].del, .bool xs[j].k.t, .int .i64 xs[j].k.n, .string xs[j].k.s, .int .i64 xs[j].v]] wr fun e w' => ∃ lv', e = .returned (.tuple #[lv', .bool true]) ∧ QP w0 (actP xs[j] l) lv' (actP xs[j] l) w') := done_any q (by omega) xs[j] hs
      have hla : (actP xs[j] l).length ≤ j + 1 := Nat.le_trans (actP_len q.rises.1 q.rises.2 xs[j]) (by omega)
      have hl1 : (actP xs[j] l).length ≤ 121 := by omega
      have HK : Hid (xs[j].k.s.size ≤ maxLen) := hs
      have HJ : Hid (j + 1 ≤ xs.length ∧ j < 120 ∧ (actP xs[j] l).length ≤ j + 1) := ⟨h1.1, h1.2, hla⟩
      have j0 : (0 : Int) ≤ (j : Int) := by omega
      have j1 : (j : Int) < (xs.length : Int) := by omega
      have j2 : (j : Int) < 120 := by omega
      have j3 : j ≤ 120 := by omega
      clear HIR q hl hs HO hla
      generalize xs[j] = x at *
      clear h1 hj hj2
      generalize actP x l = l1 at *
      go_wp2_with fail
      refine Calls.mono HD.out ?_
      rintro e w2 ⟨lv1, rfl, q1⟩
      obtain ⟨la, lc, rfl, _⟩ := q1.pairs.slice
      obtain ⟨gv, gb, hg⟩ : ∃ gv gb, getP x.k l1 = (gv, gb) := ⟨_, _, rfl⟩
      have HQ1 : Hid (QP w0 l1 (.slice la l1.length lc) l1 w2) := q1
      have CG : Hid (∀ W, QP w0 l1 (.slice la l1.length lc) l1 W → Calls Try.prog 10 #[.pointer (some ⟨w0.heap.size, 0, none⟩), V x.k.t x.k.n x.k.s] W fun e w' => e = .returned (.tuple #[.int .i64 gv, .bool gb]) ∧ QP w0 l1 (.slice la l1.length lc) l1 w') := fun W q => by have := qp_get q (by omega) x.k HK.out; rwa [hg] at this
      have CR : Hid (∀ W, QP w0 l1 (.slice la l1.length lc) l1 W → Calls Try.prog 11 #[.slice la l1.length lc, V x.k.t x.k.n x.k.s] W fun e w' => e = .returned (.tuple #[.int .i64 gv, .bool gb]) ∧ QP w0 l1 (.slice la l1.length lc) l1 w') := fun W q => by
        have := pget_any _ l1 x.k W q.pairs
        rw [hg] at this
        exact this.mono fun e w' ⟨he, hb⟩ => ⟨he, q.below hb⟩
      have CL : Hid (∀ W, QP w0 l1 (.slice la l1.length lc) l1 W → Calls Try.prog 12 #[.pointer (some ⟨w0.heap.size, 0, none⟩)] W fun e w' => e = .returned (.int .i64 l1.length) ∧ QP w0 l1 (.slice la l1.length lc) l1 w') := fun W q => qp_len q
      have CP : Hid (∀ W, QP w0 l1 (.slice la l1.length lc) l1 W → Calls Try.prog 14 #[.pointer (some ⟨w0.heap.size, 0, none⟩), .agg #[.bool false, .bool false, .bool false, .bool false, .int .i64 0, .string ⟨#[]⟩, .bool false, .bool false, .bool false, .int .i64 0, .string ⟨#[]⟩]] W fun e w' => ∃ v, e = .returned v ∧ PairsIn w' v l1 ∧ QP w0 l1 (.slice la l1.length lc) l1 w') := fun W q => by
        have := qp_pairs q (by omega) Sp.all
        rwa [range_all] at this
      have CS : Hid (∀ W v, PairsIn W v l1 → QP w0 l1 (.slice la l1.length lc) l1 W → Calls Try.prog 13 #[v, .slice la l1.length lc] W fun e w' => e = .returned (.bool true) ∧ QP w0 l1 (.slice la l1.length lc) l1 w') := fun W v hp q => (psame_any v _ l1 W hp q.pairs).mono fun e w' ⟨he, hb⟩ => ⟨he, q.below hb⟩
      clear q1 hg HD c0 c1 c2 c3 c4
      obtain ⟨c1, c2, c3⟩ := HCB.out _ HQ1.out.blw
      go_wp2_with fail
      refine Calls.mono (CG.out _ HQ1.out) ?_
      rintro e w3 ⟨rfl, q2⟩
      have HQ2 : Hid (QP w0 l1 (.slice la l1.length lc) l1 w3) := q2
      clear q2 HQ1 CG c1 c2 c3
      obtain ⟨c1, c2, c3⟩ := HCB.out _ HQ2.out.blw
      go_wp2_with fail
      refine Calls.mono (CR.out _ HQ2.out) ?_
      rintro e w4 ⟨rfl, q2⟩
      have HQ3 : Hid (QP w0 l1 (.slice la l1.length lc) l1 w4) := q2
      clear q2 HQ2 CR c1 c2 c3 HCB
      have n0 : (0 : Int) ≤ (l1.length : Int) := by omega
      cases gb
      · go_wp2_with fail
        refine Calls.mono (CL.out _ HQ3.out) ?_
        rintro e w5 ⟨rfl, q2⟩
        have HQ4 : Hid (QP w0 l1 (.slice la l1.length lc) l1 w5) := q2
        clear q2 HQ3 CL
        go_wp2_with fail
        refine Calls.mono (CP.out _ HQ4.out) ?_
        rintro e w6 ⟨pv, rfl, hp, q2⟩
        have HQ5 : Hid (PairsIn w6 pv l1 ∧ QP w0 l1 (.slice la l1.length lc) l1 w6) := ⟨hp, q2⟩
        clear hp q2 HQ4 CP
        go_wp2_with fail
        refine Calls.mono (CS.out _ _ HQ5.out.1 HQ5.out.2) ?_
        rintro e w7 ⟨rfl, q2⟩
        have HQ6 : Hid (QP w0 l1 (.slice la l1.length lc) l1 w7) := q2
        clear q2 HQ5 CS
        go_wp2_with fail
        go_roundw
        case rel => exact ⟨j + 1, HJ.out.1, by have := HJ.out.2.1; omega, by go_num, l1, HQ6.out, HJ.out.2.2⟩
        case measure => have := HJ.out.1; simp [intOf]; omega
      · go_wp2_with fail
        refine Calls.mono (CL.out _ HQ3.out) ?_
        rintro e w5 ⟨rfl, q2⟩
        have HQ4 : Hid (QP w0 l1 (.slice la l1.length lc) l1 w5) := q2
        clear q2 HQ3 CL
        go_wp2_with fail
        refine Calls.mono (CP.out _ HQ4.out) ?_
        rintro e w6 ⟨pv, rfl, hp, q2⟩
        have HQ5 : Hid (PairsIn w6 pv l1 ∧ QP w0 l1 (.slice la l1.length lc) l1 w6) := ⟨hp, q2⟩
        clear hp q2 HQ4 CP
        go_wp2_with fail
        refine Calls.mono (CS.out _ _ HQ5.out.1 HQ5.out.2) ?_
        rintro e w7 ⟨rfl, q2⟩
        have HQ6 : Hid (QP w0 l1 (.slice la l1.length lc) l1 w7) := q2
        clear q2 HQ5 CS
        go_wp2_with fail
        go_roundw
        case rel => exact ⟨j + 1, HJ.out.1, by have := HJ.out.2.1; omega, by go_num, l1, HQ6.out, HJ.out.2.2⟩
        case measure => have := HJ.out.1; simp [intOf]; omega
    · by_cases h2 : j < xs.length
      · obtain rfl : j = 120 := by omega
        have j1 : ((120 : Nat) : Int) < (xs.length : Int) := by omega
        have j1' : (120 : Int) < (xs.length : Int) := by omega
        have j1'' : 120 < xs.length := by omega
        clear h1 h2 hj hj2
        have HE : Hid (Below w.heap.size w wr) := by
          obtain ⟨l, q, _⟩ := HO.out
          exact on HB0.out q.blw
        clear HO
        go_wp2_with fail
        go_ret
        exact ⟨rfl, HE.out⟩
      · obtain rfl : j = xs.length := by omega
        have hj3 : xs.length ≤ 120 := hj2
        clear h1 h2 hj hj2
        have HE : Hid (Below w.heap.size w wr) := by
          obtain ⟨l, q, _⟩ := HO.out
          exact on HB0.out q.blw
        clear HO
        go_wp2_with fail
        go_ret
        exact ⟨rfl, HE.out⟩
end Go.Proofs.Ytooblmldmbbejaa.Val
/- The statement of TreePlays (P5.1, P5.2): a tree under any script has the keys that the document says, in order, and at each what was put there last. No conditions. -/
namespace Go.Proofs.Ytooblmldmbbejaa.Val
open Go.ChangeShapes Go.WideShapes Go.ChangeAt Go.RowKit
open Go.ChangeMaps (open_string)

set_option maxRecDepth 100000 in
theorem tplays_lifted (os : Os) (started : os.Started) (H : Type) (enc : TypeId × Value → H) :
    ReturnsInHanded {} Try.checked os 3 .any (Rows.treePlaysSpec.pre6 enc Try.prog Try.f3 Rows.treePlaysRow.domain false) (Rows.treePlaysSpec.post enc Try.prog Try.f3 false true false false) := by
  refine returnsInHanded_of_change (C := Try.checked) own started (by kernel_rfl) Try.func3
    (ChangeSpec.witness6 (enc := enc) (C := Try.checked) false ⟨#[], #[.slice none 0 0], []⟩ 8 (by kernel_rfl) (by kernel_rfl) (by kernel_rfl) (by kernel_rfl)) ?_
  intro W base args ds gs before hval0 hW _ _
  have hval : ∀ (j : Nat) t v, Try.f3.params[j]? = some t → args[j]? = some v → Value.okWide Try.prog W .any base t v := hval0
  have hW' := hW
  obtain ⟨p, q, hA0, hV, rfl, hfz, hnd⟩ := hW
  have hA : DataW.TrodAll enc Try.prog W 0 (fun _ => true) true Try.f3.params.toList args.toList ds p := hA0
  rw [Try.params3] at hA hval
  obtain ⟨v0, vs0, d0, ds0, p0, q0, hargs, rfl, rfl, h0, r0⟩ := trodAll_cons hA
  obtain ⟨rfl, rfl, rfl⟩ := trodAll_nil r0
  obtain rfl : args = #[v0] := by cases args; simp_all
  obtain ⟨rfl, rfl⟩ := trodVars_none hV
  have k0 := h0
  have lt0 : ∀ x ∈ p0, x.block < W.heap.size := by obtain ⟨m, hm⟩ := k0; exact DataW.trod_lt m _ _ _ hm
  obtain ⟨a0, len0, cap0, rfl⟩ := okWide_slice Try.underlying22 (hval 0 22 v0 rfl rfl)
  obtain ⟨l0, w0, o0⟩ := open_acts h0 rfl
  clear hA0 hval0
  refine (tplays_walk _ l0 W w0 o0).mono fun e W' ⟨he, bel⟩ => ?_
  subst he
  exact ⟨_, rfl, _, _, _, [], _, [], hW', trodAll_mk1 (shut_bool Try.underlying4 _), (trodAll_cons_mk (Below.trod laidOut (by kernel_rfl) (of_decide_eq_true (by kernel_rfl)) k0 bel lt0) trodAll_mk0), rfl, bel.frame _, fun h => by cases h⟩

/-- The statement. -/
theorem tplays_said : Rows.TreePlaysSaid :=
  OpenClaim.holds_of_wide 3 Try.f3 rfl rfl rfl rfl rfl rfl rfl ⟨rfl, rfl, rfl, rfl, rfl⟩ rfl rfl rfl rfl rfl (by kernel_rfl) Try.func3 (by kernel_rfl)
    (of_decide_eq_true (by kernel_rfl)) (by unfold Func.isWrapper; first | (rw [if_pos (by decide +kernel)]; kernel_rfl) | (rw [if_neg (by decide +kernel)]; exact ⟨rfl, rfl⟩))
    (fun os started H enc _ => tplays_lifted os started H enc)
end Go.Proofs.Ytooblmldmbbejaa.Val
