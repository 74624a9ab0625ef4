/- The walk of the law ClaimTurned. -/
import Derived.Test.YtkkbbpldeeajaaaDoorUC5
import Derived.Deep.QuietTactic
import Derived.Test.YtkkbbpldeeajaaaDoorUF
import Derived.Test.YtkkbbpldeeajaaaDoorUC2
namespace Go.Proofs.YtkkbbpldeeajaaaDoor.Val
open Go.RowKit
set_option maxRecDepth 100000

set_option maxHeartbeats 8000000 in
theorem cturned_walk (a b : CP) (w : World) (hT : TabC w) (ha : CIn w a) (hb : CIn w b) : Tells 5 #[a.val, b.val] w (.bool true) := by
  obtain ⟨s, hs⟩ := some_b (a.p.bare = b.p.bare)
  have hs' : s = true ↔ b.p.bare = a.p.bare := hs.trans eq_comm
  have HW : Hid (∀ w1, Below w.heap.size w w1 → Tells 11 #[] w1 (.bool true)) := fun w1 h => awake_any w1 (hT.below h)
  have HA : Hid (∀ w1, Below w.heap.size w w1 → Calls Tryd.prog 12 #[a.val] w1 fun e w' => ∃ q, e = .returned (.bool q) ∧ (q = true → FewC a) ∧ Below w1.heap.size w1 w') := fun w1 h => few_any a w1 (ha.below h)
  have HB : Hid (∀ w1, Below w.heap.size w w1 → Calls Tryd.prog 12 #[b.val] w1 fun e w' => ∃ q, e = .returned (.bool q) ∧ (q = true → FewC b) ∧ Below w1.heap.size w1 w') := fun w1 h => few_any b w1 (hb.below h)
  have HC1 : Hid (∀ w1, Below w.heap.size w w1 → Tells 17 #[a.val, b.val] w1 (.bool (conflictC a b))) := fun w1 h => conflict_any a b w1 (hT.below h) (ha.below h) (hb.below h)
  have HC2 : Hid (∀ w1, Below w.heap.size w w1 → Tells 17 #[b.val, a.val] w1 (.bool (conflictC a b))) := fun w1 h => by rw [conflict_symm]; exact conflict_any b a w1 (hT.below h) (hb.below h) (ha.below h)
  have HS1 : Hid (∀ w1, Below w.heap.size w w1 → Tells 15 #[a.val, b.val] w1 (.bool (sameC s a b))) := fun w1 h => csame_any a b s hs w1 (ha.below h) (hb.below h)
  have HS2 : Hid (∀ w1, Below w.heap.size w w1 → Tells 15 #[b.val, a.val] w1 (.bool (sameC s a b))) := fun w1 h => by rw [same_symm]; exact csame_any b a s hs' w1 (hb.below h) (ha.below h)
  have HN : Hid (AB w ((w.alloc (cobj a TC)).alloc (cobj b TC)) a b) := AB.new w a b
  generalize conflictC a b = v at *
  generalize sameC s a b = u at *
  clear hs hs' hT ha hb
  unfold cobj at HN
  unfold CP.val
  go_enter Tryd.func5, Tryd.ntmps5
  go_wp2_with fail
  refine Calls.mono (HW.out _ HN.out.bel) ?_
  rintro e w1 ⟨rfl, hb1⟩
  have H1 : Hid (AB w w1 a b) := HN.out.below hb1
  clear hb1 HN HW
  go_wp2_with (first | (refine step_cload rfl _ rfl w.heap.size a rfl H1.out.ca ?_) | fail)
  refine Calls.mono (HA.out _ H1.out.bel) ?_
  rintro e w2 ⟨qa, rfl, -, hb2⟩
  have H2 : Hid (AB w w2 a b) := H1.out.below hb2
  clear hb2 H1 HA
  go_wp2_with (first | (refine step_cload rfl _ rfl (w.heap.size + 1) b rfl H2.out.cb ?_) | fail)
  refine Calls.mono (HB.out _ H2.out.bel) ?_
  rintro e w3 ⟨qb, rfl, -, hb3⟩
  have H3 : Hid (AB w w3 a b) := H2.out.below hb3
  clear hb3 H2 HB
  cases qa
  · go_wp2_with fail
    go_ret
    exact ⟨rfl, H3.out.bel⟩
  cases qb
  · go_wp2_with fail
    go_ret
    exact ⟨rfl, H3.out.bel⟩
  go_wp2_with fail
  (try simp only [List.append])
  refine region_cls (C := fun w' => AB w w' a b) (by kernel_rfl) (by kernel_rfl) (H3.out.below (Below.refl _ _).drew) ?_
  clear H3
  go_big_quiet_want
  refine ⟨a.val, quiet_cload _ rfl (w.heap.size) a rfl (fun _ h => h.ca), ?_⟩
  simp only [Act.put, List.setIfInBounds_toArray, List.set_cons_zero, List.set_cons_succ]
  go_big_quiet_on
  go_big_quiet_want
  refine ⟨b.val, quiet_cload _ rfl (w.heap.size + 1) b rfl (fun _ h => h.cb), ?_⟩
  simp only [Act.put, List.setIfInBounds_toArray, List.set_cons_zero, List.set_cons_succ]
  go_big_quiet_on
  go_big_quiet_want
  refine ⟨.bool v, fun w' hw' => ?_, ?_⟩
  · go_simp
    exact (HC1.out w' hw'.bel).mono fun e w'' h => ⟨h.1, hw'.below h.2⟩
  simp only [Act.put, List.setIfInBounds_toArray, List.set_cons_zero, List.set_cons_succ]
  go_big_quiet_on
  go_big_quiet_want
  refine ⟨b.val, quiet_cload _ rfl (w.heap.size + 1) b rfl (fun _ h => h.cb), ?_⟩
  simp only [Act.put, List.setIfInBounds_toArray, List.set_cons_zero, List.set_cons_succ]
  go_big_quiet_on
  go_big_quiet_want
  refine ⟨a.val, quiet_cload _ rfl (w.heap.size) a rfl (fun _ h => h.ca), ?_⟩
  simp only [Act.put, List.setIfInBounds_toArray, List.set_cons_zero, List.set_cons_succ]
  go_big_quiet_on
  go_big_quiet_want
  refine ⟨.bool v, fun w' hw' => ?_, ?_⟩
  · go_simp
    exact (HC2.out w' hw'.bel).mono fun e w'' h => ⟨h.1, hw'.below h.2⟩
  simp only [Act.put, List.setIfInBounds_toArray, List.set_cons_zero, List.set_cons_succ]
  go_big_quiet_on
  go_big_quiet_want
  refine ⟨.bool true, fun w' hw' => ?_, ?_⟩
  · go_simp
  simp only [Act.put, List.setIfInBounds_toArray, List.set_cons_zero, List.set_cons_succ]
  go_big_quiet_on
  go_big_quiet_want
  go_big_quiet_op
  go_big_quiet_on
  go_big_quiet_want
  refine ⟨a.val, quiet_cload _ rfl (w.heap.size) a rfl (fun _ h => h.ca), ?_⟩
  simp only [Act.put, List.setIfInBounds_toArray, List.set_cons_zero, List.set_cons_succ]
  go_big_quiet_on
  go_big_quiet_want
  refine ⟨b.val, quiet_cload _ rfl (w.heap.size + 1) b rfl (fun _ h => h.cb), ?_⟩
  simp only [Act.put, List.setIfInBounds_toArray, List.set_cons_zero, List.set_cons_succ]
  go_big_quiet_on
  go_big_quiet_want
  refine ⟨.bool u, fun w' hw' => ?_, ?_⟩
  · go_simp
    exact (HS1.out w' hw'.bel).mono fun e w'' h => ⟨h.1, hw'.below h.2⟩
  simp only [Act.put, List.setIfInBounds_toArray, List.set_cons_zero, List.set_cons_succ]
  go_big_quiet_on
  go_big_quiet_want
  refine ⟨b.val, quiet_cload _ rfl (w.heap.size + 1) b rfl (fun _ h => h.cb), ?_⟩
  simp only [Act.put, List.setIfInBounds_toArray, List.set_cons_zero, List.set_cons_succ]
  go_big_quiet_on
  go_big_quiet_want
  refine ⟨a.val, quiet_cload _ rfl (w.heap.size) a rfl (fun _ h => h.ca), ?_⟩
  simp only [Act.put, List.setIfInBounds_toArray, List.set_cons_zero, List.set_cons_succ]
  go_big_quiet_on
  go_big_quiet_want
  refine ⟨.bool u, fun w' hw' => ?_, ?_⟩
  · go_simp
    exact (HS2.out w' hw'.bel).mono fun e w'' h => ⟨h.1, hw'.below h.2⟩
  simp only [Act.put, List.setIfInBounds_toArray, List.set_cons_zero, List.set_cons_succ]
  go_big_quiet_on
  go_big_quiet_want
  refine ⟨.bool true, fun w' hw' => ?_, ?_⟩
  · go_simp
  simp only [Act.put, List.setIfInBounds_toArray, List.set_cons_zero, List.set_cons_succ]
  go_big_quiet_on
  go_big_quiet_want
  refine ⟨.bool true, fun w' hw' => ?_, ?_⟩
  · go_simp
  simp only [Act.put, List.setIfInBounds_toArray, List.set_cons_zero, List.set_cons_succ]
  go_big_quiet_on
  go_big_quiet_want
  go_big_quiet_op
  go_big_quiet_on
  refine wpQuiet_nil ?_
  intro w' hw'
  have HBz : Hid (Below w.heap.size w w') := hw'.bel
  clear hw'
  go_wp2_with fail
  go_ret
  exact ⟨rfl, HBz.out⟩
end Go.Proofs.YtkkbbpldeeajaaaDoor.Val
/- The law ClaimTurned holds: conflict can be turned about, and so can what is about one thing. Conditions: the listed package-level variables lie as the program's text lays them (the card ties them). -/
namespace Go.Proofs.YtkkbbpldeeajaaaDoor.Val
open Go.ChangeShapes Go.WideShapes Go.ChangeAt Go.RowKit
open Go.ChangeMaps (open_string)

theorem cturned_contract (H : Type) (enc : TypeId × Value → H) (W : World) (base : Nat) (args : Array Value) (ds gs : List (DataW H)) (before : List MemPlace)
    (hval : ∀ (j : Nat) t v, Tryd.f5.params[j]? = some t → args[j]? = some v → Value.okWide Tryd.prog W .any base t v)
    (hW : DataW.Whole enc Tryd.prog Tryd.f5.params.toList Rows.claimTurnedSpec.vars false W args.toList ds gs before) (hL : laidMetH Tryd.prog Rows.claimTurnedRow.laid W) :
    Calls Tryd.prog 5 args W fun e W' => ∃ v, e = .returned v ∧ Rows.claimTurnedSpec.post enc Tryd.prog Tryd.f5 false true false false W args v W' := by
  have hW' := hW
  obtain ⟨p, q, hA0, hV, rfl, hfz, hnd⟩ := hW
  have hA : DataW.TrodAll enc Tryd.prog W 0 (fun _ => true) true Tryd.f5.params.toList args.toList ds p := hA0
  rw [Tryd.params5] at hA hval
  obtain ⟨v0, vs0, d0, ds0, p0, q0, hargs, rfl, rfl, h0, r0⟩ := trodAll_cons hA
  obtain ⟨v1, vs1, d1, ds1, p1, q1, rfl, rfl, rfl, h1, r1⟩ := trodAll_cons r0
  obtain ⟨rfl, rfl, rfl⟩ := trodAll_nil r1
  obtain rfl : args = #[v0, v1] := by cases args; simp_all
  obtain ⟨rfl, rfl⟩ := trodVars_none hV
  have k0 := h0
  have lt0 : ∀ x ∈ p0, x.block < W.heap.size := by obtain ⟨m, hm⟩ := k0; exact DataW.trod_lt m _ _ _ hm
  obtain ⟨x0, rfl, o0⟩ := open_claim (hval 0 31 v0 rfl rfl) h0
  have k1 := h1
  have lt1 : ∀ x ∈ p1, x.block < W.heap.size := by obtain ⟨m, hm⟩ := k1; exact DataW.trod_lt m _ _ _ hm
  obtain ⟨x1, rfl, o1⟩ := open_claim (hval 1 31 v1 rfl rfl) h1
  clear hA0
  have hT := tabOf hL
  refine (cturned_walk x0 x1 W hT o0.isIn o1.isIn).mono fun e W' ⟨he, bel⟩ => ?_
  subst he
  exact ⟨_, rfl, _, _, _, [], _, [], hW', trodAll_mk1 (shut_bool Tryd.underlying4 _), (trodAll_cons_mk (Below.trod laidOut (by kernel_rfl) (of_decide_eq_true (by kernel_rfl)) k0 bel lt0) (trodAll_cons_mk (Below.trod laidOut (by kernel_rfl) (of_decide_eq_true (by kernel_rfl)) k1 bel lt1) trodAll_mk0)), rfl, bel.frame _, fun h => by cases h⟩

set_option maxRecDepth 100000 in
theorem cturned_lifted (os : Os) (started : os.Started) (H : Type) (enc : TypeId × Value → H) (F : Stop.Interp) :
    ReturnsInHanded {} Tryd.checked os 5 .any ((OpenSpec.ofChange Rows.claimTurnedSpec).preRow enc Tryd.prog Tryd.f5 Rows.claimTurnedRow.domain false Rows.claimTurnedRow.laid) (((OpenSpec.ofChange Rows.claimTurnedSpec).at F).post enc Tryd.prog Tryd.f5 false true false false) := by
  refine returnsInHanded_of_row (C := Tryd.checked) (s := OpenSpec.ofChange Rows.claimTurnedSpec) own started (by kernel_rfl) Tryd.func5
    (witness_row_at (enc := enc) (C := Tryd.checked) false
      { World.holding Tryd.prog os ⟨#[], #[], []⟩ with heap := ((World.holding Tryd.prog os ⟨#[], #[], []⟩).heap.modify 0 (putCells (dataCells .u8 clashT))) }
      #[.agg #[.int .i64 0, .int .i64 0, .int .i64 0, .bool false, .int .i64 0, .string ⟨#[]⟩, .slice none 0 0, .int .i64 0, .int .i64 0, .bool false, .int .i64 0, .string ⟨#[]⟩, .bool false, .int .i64 0, .string ⟨#[]⟩, .slice none 0 0], .agg #[.int .i64 0, .int .i64 0, .int .i64 0, .bool false, .int .i64 0, .string ⟨#[]⟩, .slice none 0 0, .int .i64 0, .int .i64 0, .bool false, .int .i64 0, .string ⟨#[]⟩, .bool false, .int .i64 0, .string ⟨#[]⟩, .slice none 0 0]] rfl (by kernel_rfl) (by kernel_rfl) (by kernel_rfl)
      (OpenSpec.preRow_of_cond 8 (x := ([.agg [.lit (.int .i64 0), .lit (.int .i64 0), .lit (.int .i64 0), .agg [.lit (.bool false), .lit (.int .i64 0), .lit (.string [])], .nil, .agg [.lit (.int .i64 0), .lit (.int .i64 0), .agg [.lit (.bool false), .lit (.int .i64 0), .lit (.string [])], .agg [.lit (.bool false), .lit (.int .i64 0), .lit (.string [])], .nil]], .agg [.lit (.int .i64 0), .lit (.int .i64 0), .lit (.int .i64 0), .agg [.lit (.bool false), .lit (.int .i64 0), .lit (.string [])], .nil, .agg [.lit (.int .i64 0), .lit (.int .i64 0), .agg [.lit (.bool false), .lit (.int .i64 0), .lit (.string [])], .agg [.lit (.bool false), .lit (.int .i64 0), .lit (.string [])], .nil]]], [], [])) (by kernel_rfl) (by kernel_rfl) (fun k hk => by cases hk) (by kernel_rfl) (laidMet_of_run' 8 (by kernel_rfl) (by kernel_rfl)))) ?_
  intro W base args ds gs before hval hW _ _ _ hL _ _
  exact cturned_contract H enc W base args ds gs before hval hW hL

theorem cturned_said : Rows.ClaimTurnedSaid :=
  OpenClaim.holds_of_cond 5 Tryd.f5 rfl rfl rfl rfl rfl rfl rfl ⟨rfl, rfl, rfl, rfl, rfl⟩ rfl rfl rfl rfl rfl (by kernel_rfl) Tryd.func5 (by kernel_rfl)
    (of_decide_eq_true (by kernel_rfl)) (by unfold Func.isWrapper; first | (rw [if_pos (by decide +kernel)]; kernel_rfl) | (rw [if_neg (by decide +kernel)]; exact ⟨rfl, rfl⟩))
    (fun os started H enc _ F => by rw [OpenClaim.pre_eq_preRow]; exact cturned_lifted os started H enc F)

theorem cturned_plain (f : FuncId) (fn : Func) (hf : Tryd.pinned.checked.prog.funcNamed "ratline/ratlinelaw09.ClaimTurned" = some f) (hfn : Tryd.pinned.checked.prog.funcs[f]? = some fn) :
    false = Tryd.pinned.checked.prog.looks [] ∧ ∀ (j : Nat) t, fn.params[j]? = some t → Tryd.pinned.checked.prog.wantsStandIn t = false := by
  obtain rfl : f = 5 := Option.some.inj ((show Tryd.prog.funcNamed "ratline/ratlinelaw09.ClaimTurned" = some 5 by kernel_rfl).symm.trans hf) |>.symm
  obtain rfl : fn = Tryd.f5 := (Option.some.inj (Tryd.func5.symm.trans hfn)).symm
  refine ⟨by kernel_rfl, fun j t ht => ?_⟩
  rw [Tryd.params5] at ht
  have hm : t = 31 ∨ t = 31 := by simpa using Array.mem_of_getElem? ht
  rcases hm with rfl | rfl
  · exact (show Tryd.prog.wantsStandIn 31 = false by kernel_rfl)
  · exact (show Tryd.prog.wantsStandIn 31 = false by kernel_rfl)

/-- The card. -/
theorem cturned_card : Rows.ClaimTurnedCardSaid :=
  Claim7.holds_tied_plain_at .later [] _ _ _ _ cturned_said (fun _ h => by cases h) (by kernel_rfl) (fun _ h => by cases h) claimTurned_row_tie rfl ⟨rfl, rfl⟩ (by kernel_rfl) rfl cturned_plain (by kernel_rfl)
end Go.Proofs.YtkkbbpldeeajaaaDoor.Val
