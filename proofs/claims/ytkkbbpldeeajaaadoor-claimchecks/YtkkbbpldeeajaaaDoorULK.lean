/- The walk of the law ClaimChecks. -/
import Derived.Test.YtkkbbpldeeajaaaDoorUC5
import Derived.Test.YtkkbbpldeeajaaaDoorUE7
import Derived.Test.YtkkbbpldeeajaaaDoorUC2
import Derived.Test.YtkkbbpldeeajaaaDoorUF
namespace Go.Proofs.YtkkbbpldeeajaaaDoor.Val
open Go.RowKit
set_option maxRecDepth 100000

set_option maxHeartbeats 4000000 in
theorem cchecks_walk (tv : Value) (l : List (Value × List Bool)) (c : CP) (w : World) (hT : TabC w) (ht : TbsIn w tv l) (hc : GoodC w c) : Tells 3 #[tv, c.val] w (.bool true) := by
  have HW : Hid (∀ w1, Below w.heap.size w w1 → Tells 11 #[] w1 (.bool true)) := fun w1 h => awake_any w1 (hT.below h)
  have HA : Hid (∀ w1, Below w.heap.size w w1 → Calls Tryd.prog 12 #[c.val] w1 fun e w' => ∃ q, e = .returned (.bool q) ∧ (q = true → FewC c) ∧ Below w1.heap.size w1 w') := fun w1 h => few_any c w1 (hc.isIn.below h)
  have HM : Hid (FewC c → ∀ w1, Below w.heap.size w w1 → Tells 13 #[tv, c.val] w1 (.bool (mayA l c))) := fun hf w1 h => rcmay_any tv l c w1 (ht.below h) (hc.isIn.below h) hc.ok (by have := hf.p; omega)
  have HK : Hid (FewC c → ∀ w1, Below w.heap.size w w1 → Tells 14 #[tv, c.val] w1 (.int .i64 (if mayA l c then 0 else 111))) := fun hf w1 h => cchk_any tv l c w1 (ht.below h) (hc.isIn.below h) hc.ok (by have := hf.p; omega)
  have HN : Hid (CB (w.alloc (cobj c TC)) w.heap.size c ∧ Below w.heap.size w (w.alloc (cobj c TC))) := ⟨CB.new w c, alloc1 _ _⟩
  obtain ⟨at', ct, rfl, hn⟩ := ht.1.slice
  obtain ⟨m, hm⟩ : ∃ m, mayA l c = m := ⟨_, rfl⟩
  rw [hm] at HM HK
  clear hT ht hc hm
  unfold cobj at HN
  unfold CP.val
  go_enter Tryd.func3, Tryd.ntmps3
  go_wp2_with fail
  refine Calls.mono (HW.out _ HN.out.2) ?_
  rintro e w1 ⟨rfl, hb⟩
  have H1 : Hid (CB w1 w.heap.size c ∧ Below w.heap.size w w1) := ⟨HN.out.1.below hb, on HN.out.2 hb⟩
  clear hb HN HW
  go_wp2_with (first | (refine step_cload rfl _ rfl w.heap.size c rfl H1.out.1 ?_) | fail)
  refine Calls.mono (HA.out _ H1.out.2) ?_
  rintro e w2 ⟨q, rfl, hf, hb⟩
  have H2 : Hid (CB w2 w.heap.size c ∧ Below w.heap.size w w2) := ⟨H1.out.1.below hb, on H1.out.2 hb⟩
  have HF : Hid (q = true → FewC c) := hf
  clear hb hf H1 HA
  cases q
  · go_wp2_with fail
    go_ret
    exact ⟨rfl, H2.out.2⟩
  have HG : Hid (FewC c) := HF.out rfl
  clear HF
  by_cases h20 : 20 < l.length
  · have l1 : (20 : Int) < (l.length : Int) := by omega
    go_wp2_with fail
    go_ret
    exact ⟨rfl, H2.out.2⟩
  have l1 : decide ((20 : Int) < (l.length : Int)) = false := decide_eq_false (by omega)
  have l2 : decide (20 < l.length) = false := decide_eq_false h20
  go_wp2_with (first | (refine step_cload rfl _ rfl w.heap.size c rfl H2.out.1 ?_) | fail)
  refine Calls.mono (HM.out HG.out _ H2.out.2) ?_
  rintro e w3 ⟨rfl, hb⟩
  have H3 : Hid (CB w3 w.heap.size c ∧ Below w.heap.size w w3) := ⟨H2.out.1.below hb, on H2.out.2 hb⟩
  clear hb H2 HM
  cases m
  · go_wp2_with (first | (refine step_cload rfl _ rfl w.heap.size c rfl H3.out.1 ?_) | fail)
    refine Calls.mono (HK.out HG.out _ H3.out.2) ?_
    rintro e w4 ⟨rfl, hb⟩
    have H4 : Hid (Below w.heap.size w w4) := on H3.out.2 hb
    clear hb H3 HK HG
    go_wp2_with fail
    go_ret
    exact ⟨rfl, H4.out⟩
  · go_wp2_with (first | (refine step_cload rfl _ rfl w.heap.size c rfl H3.out.1 ?_) | fail)
    refine Calls.mono (HK.out HG.out _ H3.out.2) ?_
    rintro e w4 ⟨rfl, hb⟩
    have H4 : Hid (Below w.heap.size w w4) := on H3.out.2 hb
    clear hb H3 HK HG
    go_wp2_with fail
    go_ret
    exact ⟨rfl, H4.out⟩
end Go.Proofs.YtkkbbpldeeajaaaDoor.Val
/- The law ClaimChecks holds: whether any claim may be is what the document tells. Conditions: the listed package-level variables lie as the program's text lays them (the card ties them). -/
namespace Go.Proofs.YtkkbbpldeeajaaaDoor.Val
open Go.ChangeShapes Go.WideShapes Go.ChangeAt Go.RowKit
open Go.ChangeMaps (open_string)

theorem cchecks_contract (H : Type) (enc : TypeId × Value → H) (W : World) (base : Nat) (args : Array Value) (ds gs : List (DataW H)) (before : List MemPlace)
    (hval : ∀ (j : Nat) t v, Tryd.f3.params[j]? = some t → args[j]? = some v → Value.okWide Tryd.prog W .any base t v)
    (hW : DataW.Whole enc Tryd.prog Tryd.f3.params.toList Rows.claimChecksSpec.vars false W args.toList ds gs before) (hL : laidMetH Tryd.prog Rows.claimChecksRow.laid W) :
    Calls Tryd.prog 3 args W fun e W' => ∃ v, e = .returned v ∧ Rows.claimChecksSpec.post enc Tryd.prog Tryd.f3 false true false false W args v W' := by
  have hW' := hW
  obtain ⟨p, q, hA0, hV, rfl, hfz, hnd⟩ := hW
  have hA : DataW.TrodAll enc Tryd.prog W 0 (fun _ => true) true Tryd.f3.params.toList args.toList ds p := hA0
  rw [Tryd.params3] at hA hval
  obtain ⟨v0, vs0, d0, ds0, p0, q0, hargs, rfl, rfl, h0, r0⟩ := trodAll_cons hA
  obtain ⟨v1, vs1, d1, ds1, p1, q1, rfl, rfl, rfl, h1, r1⟩ := trodAll_cons r0
  obtain ⟨rfl, rfl, rfl⟩ := trodAll_nil r1
  obtain rfl : args = #[v0, v1] := by cases args; simp_all
  obtain ⟨rfl, rfl⟩ := trodVars_none hV
  have k0 := h0
  have lt0 : ∀ x ∈ p0, x.block < W.heap.size := by obtain ⟨m, hm⟩ := k0; exact DataW.trod_lt m _ _ _ hm
  obtain ⟨a0, len0, cap0, rfl⟩ := okWide_slice Tryd.underlying22 (hval 0 22 v0 rfl rfl)
  obtain ⟨l0, o0⟩ := open_tables h0 rfl
  have k1 := h1
  have lt1 : ∀ x ∈ p1, x.block < W.heap.size := by obtain ⟨m, hm⟩ := k1; exact DataW.trod_lt m _ _ _ hm
  obtain ⟨x1, rfl, o1⟩ := open_claim (hval 1 31 v1 rfl rfl) h1
  clear hA0
  have hT := tabOf hL
  refine (cchecks_walk _ _ x1 W hT o0 o1).mono fun e W' ⟨he, bel⟩ => ?_
  subst he
  exact ⟨_, rfl, _, _, _, [], _, [], hW', trodAll_mk1 (shut_bool Tryd.underlying4 _), (trodAll_cons_mk (Below.trod laidOut (by kernel_rfl) (of_decide_eq_true (by kernel_rfl)) k0 bel lt0) (trodAll_cons_mk (Below.trod laidOut (by kernel_rfl) (of_decide_eq_true (by kernel_rfl)) k1 bel lt1) trodAll_mk0)), rfl, bel.frame _, fun h => by cases h⟩

set_option maxRecDepth 100000 in
theorem cchecks_lifted (os : Os) (started : os.Started) (H : Type) (enc : TypeId × Value → H) (F : Stop.Interp) :
    ReturnsInHanded {} Tryd.checked os 3 .any ((OpenSpec.ofChange Rows.claimChecksSpec).preRow enc Tryd.prog Tryd.f3 Rows.claimChecksRow.domain false Rows.claimChecksRow.laid) (((OpenSpec.ofChange Rows.claimChecksSpec).at F).post enc Tryd.prog Tryd.f3 false true false false) := by
  refine returnsInHanded_of_row (C := Tryd.checked) (s := OpenSpec.ofChange Rows.claimChecksSpec) own started (by kernel_rfl) Tryd.func3
    (witness_row_at (enc := enc) (C := Tryd.checked) false
      { World.holding Tryd.prog os ⟨#[], #[], []⟩ with heap := ((World.holding Tryd.prog os ⟨#[], #[], []⟩).heap.modify 0 (putCells (dataCells .u8 clashT))) }
      #[.slice none 0 0, .agg #[.int .i64 0, .int .i64 0, .int .i64 0, .bool false, .int .i64 0, .string ⟨#[]⟩, .slice none 0 0, .int .i64 0, .int .i64 0, .bool false, .int .i64 0, .string ⟨#[]⟩, .bool false, .int .i64 0, .string ⟨#[]⟩, .slice none 0 0]] rfl (by kernel_rfl) (by kernel_rfl) (by kernel_rfl)
      (OpenSpec.preRow_of_cond 8 (x := ([.nil, .agg [.lit (.int .i64 0), .lit (.int .i64 0), .lit (.int .i64 0), .agg [.lit (.bool false), .lit (.int .i64 0), .lit (.string [])], .nil, .agg [.lit (.int .i64 0), .lit (.int .i64 0), .agg [.lit (.bool false), .lit (.int .i64 0), .lit (.string [])], .agg [.lit (.bool false), .lit (.int .i64 0), .lit (.string [])], .nil]]], [], [])) (by kernel_rfl) (by kernel_rfl) (fun k hk => by cases hk) (by kernel_rfl) (laidMet_of_run' 8 (by kernel_rfl) (by kernel_rfl)))) ?_
  intro W base args ds gs before hval hW _ _ _ hL _ _
  exact cchecks_contract H enc W base args ds gs before hval hW hL

theorem cchecks_said : Rows.ClaimChecksSaid :=
  OpenClaim.holds_of_cond 3 Tryd.f3 rfl rfl rfl rfl rfl rfl rfl ⟨rfl, rfl, rfl, rfl, rfl⟩ rfl rfl rfl rfl rfl (by kernel_rfl) Tryd.func3 (by kernel_rfl)
    (of_decide_eq_true (by kernel_rfl)) (by unfold Func.isWrapper; first | (rw [if_pos (by decide +kernel)]; kernel_rfl) | (rw [if_neg (by decide +kernel)]; exact ⟨rfl, rfl⟩))
    (fun os started H enc _ F => by rw [OpenClaim.pre_eq_preRow]; exact cchecks_lifted os started H enc F)

theorem cchecks_plain (f : FuncId) (fn : Func) (hf : Tryd.pinned.checked.prog.funcNamed "ratline/ratlinelaw09.ClaimChecks" = some f) (hfn : Tryd.pinned.checked.prog.funcs[f]? = some fn) :
    false = Tryd.pinned.checked.prog.looks [] ∧ ∀ (j : Nat) t, fn.params[j]? = some t → Tryd.pinned.checked.prog.wantsStandIn t = false := by
  obtain rfl : f = 3 := Option.some.inj ((show Tryd.prog.funcNamed "ratline/ratlinelaw09.ClaimChecks" = some 3 by kernel_rfl).symm.trans hf) |>.symm
  obtain rfl : fn = Tryd.f3 := (Option.some.inj (Tryd.func3.symm.trans hfn)).symm
  refine ⟨by kernel_rfl, fun j t ht => ?_⟩
  rw [Tryd.params3] at ht
  have hm : t = 22 ∨ t = 31 := by simpa using Array.mem_of_getElem? ht
  rcases hm with rfl | rfl
  · exact (show Tryd.prog.wantsStandIn 22 = false by kernel_rfl)
  · exact (show Tryd.prog.wantsStandIn 31 = false by kernel_rfl)

/-- The card. -/
theorem cchecks_card : Rows.ClaimChecksCardSaid :=
  Claim7.holds_tied_plain_at .later [] _ _ _ _ cchecks_said (fun _ h => by cases h) (by kernel_rfl) (fun _ h => by cases h) claimChecks_row_tie rfl ⟨rfl, rfl⟩ (by kernel_rfl) rfl cchecks_plain (by kernel_rfl)
end Go.Proofs.YtkkbbpldeeajaaaDoor.Val
