/- The walk of the law NormalTells. -/
import Derived.Test.YtfkhfplibhnceaaDoorU16
import Derived.Test.YtfkhfplibhnceaaDoorU12
import Derived.Test.YtfkhfplibhnceaaDoorU8
namespace Go.Proofs.YtfkhfplibhnceaaDoor.Val
open Go.RowKit

set_option maxRecDepth 100000 in
set_option maxHeartbeats 8000000 in
theorem ntells_walk (vc : Value) (cols : List Bool) (p : PT) (w : World) (hbo : BoolsIn w vc cols) (hi : In w p) (hT : Tab w) :
    Calls Tryd.prog 3 #[.agg #[vc], p.val] w fun e w' => e = .returned (.bool true) ∧ Below w.heap.size w w' := by
  have H0 : Hid (∀ w1, Below w.heap.size w w1 → Calls Tryd.prog 10 #[] w1 fun e w' => e = .returned (.bool true) ∧ Below w1.heap.size w1 w') := fun w1 hb => awake_any w1 (hT.below hb)
  have H1 : Hid (∀ w1, Below w.heap.size w w1 → Calls Tryd.prog 11 #[p.val, .int .i64 0] w1 fun e w' => ∃ b, e = .returned (.bool b) ∧ (b = true → p.size ≤ 100) ∧ Below w1.heap.size w1 w') := fun w1 hb => few_any p w1 (hi.keep hb)
  obtain ⟨k, hk⟩ : ∃ k, keysN cols p = k := ⟨_, rfl⟩
  have H2 : Hid (p.size ≤ 100 → ∀ w1, Below w.heap.size w w1 → Calls Tryd.prog 13 #[.agg #[vc], p.val] w1 fun e w' => ∃ q : PT, e = .returned q.val ∧ (q.bare = normP cols p ∧ In w' q) ∧ Below w1.heap.size w1 w') := fun hs w1 hb => (normal_any vc cols p w1 (hbo.below hb) (hi.keep hb) (hT.below hb) (by omega)).mono fun e w' ⟨q, h1, h2, h3, h4⟩ => ⟨q, h1, ⟨h2, h3.isIn⟩, h4⟩
  have H3 : Hid (p.size ≤ 100 → ∀ w1, Below w.heap.size w w1 → Calls Tryd.prog 14 #[.agg #[vc], p.val] w1 fun e w' => ∃ q : PT, e = .returned q.val ∧ (q.bare = normP cols p ∧ In w' q) ∧ Below w1.heap.size w1 w') := fun hs w1 hb => (rnormal_any vc cols p w1 (hbo.below hb) (hi.keep hb) (by omega)).mono fun e w' ⟨q, h1, h2, h3, h4⟩ => ⟨q, h1, ⟨h2, h3.isIn⟩, h4⟩
  have H4 : Hid (p.size ≤ 100 → ∀ w1, Below w.heap.size w w1 → Calls Tryd.prog 15 #[.agg #[vc], p.val] w1 fun e w' => e = .returned k.val ∧ Below w1.heap.size w1 w') := fun hs w1 hb => by rw [← hk]; exact pkeys_any vc cols p w1 (hbo.below hb) (hi.keep hb) (hT.below hb) (by omega)
  have H5 : Hid (p.size ≤ 100 → ∀ w1, Below w.heap.size w w1 → Calls Tryd.prog 16 #[.agg #[vc], p.val] w1 fun e w' => e = .returned k.val ∧ Below w1.heap.size w1 w') := fun hs w1 hb => by rw [← hk]; exact rkeys_any vc cols p w1 (hbo.below hb) (hi.keep hb) (by omega)
  have H6 : Hid (∀ x y : PT, x.bare = normP cols p → y.bare = normP cols p → ∀ w1, In w1 x → In w1 y → Calls Tryd.prog 12 #[x.val, y.val] w1 fun e w' => e = .returned (.bool true) ∧ Below w1.heap.size w1 w') := fun x y hx hy w1 h1 h2 => (rsame_any x y w1 h1 h2).mono fun e w' ⟨b, h3, h4, h5⟩ => by
    have hb : b = true := h4.2 (hx.trans hy.symm)
    subst hb; exact ⟨h3, h5⟩
  have QE : ∀ w1, (binOp .eql 35 (SV k.no k.hl k.ol k.lo.t k.lo.n k.lo.s k.hh k.oh k.hi.t k.hi.n k.hi.s) (SV k.no k.hl k.ol k.lo.t k.lo.n k.lo.s k.hh k.oh k.hi.t k.hi.n k.hi.s)).run Tryd.prog w1 = .ok (.bool true) w1 := fun w1 => eql_same k w1
  generalize normP cols p = n at *
  obtain ⟨ap, cp, hlp, _⟩ := hi.lies.slice
  obtain ⟨ac, cc, rfl, _⟩ := hbo.slice
  have HLP : Hid (p.lv = .slice ap p.l.length cp) := hlp
  have HPN : Hid (∀ w0 : World, Box (w0.alloc (.cells #[.int .i64 p.op, .int .i64 p.col, .bool p.v.t, .int .i64 p.v.n, .string p.v.s, .bool p.w.t, .int .i64 p.w.n, .string p.w.s, .slice ap p.l.length cp] 29)) w0.heap.size p) := fun w0 => by have := Box.new w0 p 29; rw [pobj, hlp] at this; exact this
  clear hi hbo hT hk
  unfold PT.val Sp.val at *
  rw [hlp] at H1 H2 H3 H4 H5 ⊢
  clear hlp
  go_enter Tryd.func3, Tryd.ntmps3
  go_wp2_with fail
  refine Calls.mono (H0.out _ (back1 (alloc1 _ _))) ?_
  rintro e w1 ⟨rfl, hb⟩
  have Xt : Hid (CBox w1 (w.heap.size) (.slice ac cols.length cc)) := show CBox w1 (w.heap.size) (.slice ac cols.length cc) from ((CBox.new w _ _).alloc _).below hb
  have Xp : Hid (Box w1 (w.heap.size + 1) p) := show Box w1 (w.heap.size + 1) p from by have := (HPN.out _).below hb; simpa using this
  have HB : Hid (Below w.heap.size w w1) := back2 hb
  clear hb
  clear H0 HPN
  obtain ⟨t0⟩ := Xt.out
  have lt := Xt.out.lt
  obtain ⟨p0, p1, p2, p3, p4, p5, p6, p7, p8⟩ := Xp.out
  have lp := Xp.out.lt
  rw [HLP.out] at p8
  go_wp2_with fail
  refine Calls.mono (H1.out _ HB.out) ?_
  rintro e w2 ⟨b, rfl, hsz, hb⟩
  clear t0 lt p0 p1 p2 p3 p4 p5 p6 p7 p8 lp
  replace Xt : Hid (CBox w2 (w.heap.size) (.slice ac cols.length cc)) := Xt.out.below hb
  replace Xp : Hid (Box w2 (w.heap.size + 1) p) := Xp.out.below hb
  replace HB : Hid (Below w.heap.size w w2) := on HB.out hb
  have HS : Hid (b = true → p.size ≤ 100) := hsz
  clear hsz
  clear hb
  clear H1
  cases b
  · clear Xt Xp H2 H3 H4 H5 H6
    go_wp2_with fail
    go_ret
    exact ⟨rfl, HB.out⟩
  have K2 : Hid _ := H2.out (HS.out rfl)
  have K3 : Hid _ := H3.out (HS.out rfl)
  have K4 : Hid _ := H4.out (HS.out rfl)
  have K5 : Hid _ := H5.out (HS.out rfl)
  clear H2 H3 H4 H5 HS
  by_cases h1 : 100 < cols.length
  · have e1 : (100 : Int) < (cols.length : Int) := by omega
    obtain ⟨t0⟩ := Xt.out
    clear Xt Xp K2 K3 K4 K5 H6
    go_wp2_with fail
    go_ret
    exact ⟨rfl, HB.out⟩
  have e1 : decide ((100 : Int) < (cols.length : Int)) = false := by simp; omega
  clear h1
  obtain ⟨t0⟩ := Xt.out
  have lt := Xt.out.lt
  go_wp2_with fail
  clear t0 lt
  have B0 : Box w2.drew (w.heap.size + 1) p := Xp.out.below (Below.refl _ _).drew
  have T0 : CBox w2.drew w.heap.size (.slice ac cols.length cc) := Xt.out.below (Below.refl _ _).drew
  have Z0 : Below w.heap.size w w2.drew := HB.out.drew
  clear Xp Xt HB
  refine wp_region_held_drew (S := fun w' => w'.cell? ⟨w.heap.size + 1, 0, none⟩ = some (.int .i64 p.op) ∧ w'.cell? ⟨w.heap.size + 1, 1, none⟩ = some (.int .i64 p.col) ∧ w'.cell? ⟨w.heap.size + 1, 2, none⟩ = some (.bool p.v.t) ∧ w'.cell? ⟨w.heap.size + 1, 3, none⟩ = some (.int .i64 p.v.n) ∧ w'.cell? ⟨w.heap.size + 1, 4, none⟩ = some (.string p.v.s) ∧ w'.cell? ⟨w.heap.size + 1, 5, none⟩ = some (.bool p.w.t) ∧ w'.cell? ⟨w.heap.size + 1, 6, none⟩ = some (.int .i64 p.w.n) ∧ w'.cell? ⟨w.heap.size + 1, 7, none⟩ = some (.string p.w.s) ∧ w'.cell? ⟨w.heap.size + 1, 8, none⟩ = some (.slice ap p.l.length cp) ∧ w'.cell? ⟨w.heap.size, 0, none⟩ = some (.slice ac cols.length cc)) (by kernel_rfl) ?_ (fun hHeld => ?_)
  · exact ⟨B0.c0, B0.c1, B0.c2, B0.c3, B0.c4, B0.c5, B0.c6, B0.c7, by rw [← HLP.out]; exact B0.c8, T0.c0⟩
  (try clear hK K)
  refine wpAnyH_take (i := 0) (v := ?_) rfl (by kernel_rfl) (by kernel_rfl) (by kernel_rfl) (fun _ _ _ h => h) (Or.inl ⟨by rfl, ?_⟩) (by assumption) ?_
  rotate_left
  · intro w hSw; (try dsimp only at hSw); go_simp; (try with_reducible rfl)
  (try simp only [Act.put, List.getElem_toArray, List.getElem_cons_zero, List.setIfInBounds_toArray, List.set_cons_zero, List.set_cons_succ])
  refine wpAnyH_take (i := 1) (v := ?_) rfl (by kernel_rfl) (by kernel_rfl) (by kernel_rfl) (fun _ _ _ h => h) (Or.inl ⟨by rfl, ?_⟩) (by assumption) ?_
  rotate_left
  · intro w hSw; (try dsimp only at hSw); go_simp; (try with_reducible rfl)
  (try simp only [Act.put, List.getElem_toArray, List.getElem_cons_succ, List.getElem_cons_zero, List.setIfInBounds_toArray, List.set_cons_zero, List.set_cons_succ])
  refine wpAnyH_take (i := 3) (v := ?_) rfl (by kernel_rfl) (by kernel_rfl) (by kernel_rfl) (fun _ _ _ h => h) (Or.inl ⟨by rfl, ?_⟩) (by assumption) ?_
  rotate_left
  · intro w hSw; (try dsimp only at hSw); go_simp; (try with_reducible rfl)
  (try simp only [Act.put, List.getElem_toArray, List.getElem_cons_succ, List.getElem_cons_zero, List.setIfInBounds_toArray, List.set_cons_zero, List.set_cons_succ])
  refine wpAnyH_take (i := 4) (v := ?_) rfl (by kernel_rfl) (by kernel_rfl) (by kernel_rfl) (fun _ _ _ h => h) (Or.inl ⟨by rfl, ?_⟩) (by assumption) ?_
  rotate_left
  · intro w hSw; (try dsimp only at hSw); go_simp; (try with_reducible rfl)
  (try simp only [Act.put, List.getElem_toArray, List.getElem_cons_succ, List.getElem_cons_zero, List.setIfInBounds_toArray, List.set_cons_zero, List.set_cons_succ])
  (try clear hK K)
  refine wpAnyH_ready (rs := [2]) (by kernel_rfl) (by simp) ?_
  refine AllReadyH.cons rfl (fun K hK => ?_) AllReadyH.nil
  go_simp
  (refine Calls.mono (K2.out _ Z0) ?_; rintro e w3 ⟨x, rfl, ⟨hxb, hxi⟩, hb1⟩; have B1 := B0.below hb1; have T1 := T0.below hb1; have Z1 := on Z0 hb1)
  refine hK.out _ _ ?_ (fun hHeld => ?_)
  · exact ⟨B1.c0, B1.c1, B1.c2, B1.c3, B1.c4, B1.c5, B1.c6, B1.c7, by rw [← HLP.out]; exact B1.c8, T1.c0⟩
  (try clear hK K)
  refine wpAnyH_ready (rs := [5]) (by kernel_rfl) (by simp) ?_
  refine AllReadyH.cons rfl (fun K hK => ?_) AllReadyH.nil
  go_simp
  (refine Calls.mono (K3.out _ Z1) ?_; rintro e w4 ⟨y, rfl, ⟨hyb, hyi⟩, hb2⟩; have B2 := B1.below hb2; have T2 := T1.below hb2; have Z2 := on Z1 hb2; have hxi2 := hxi.keep hb2)
  refine hK.out _ _ ?_ (fun hHeld => ?_)
  · exact ⟨B2.c0, B2.c1, B2.c2, B2.c3, B2.c4, B2.c5, B2.c6, B2.c7, by rw [← HLP.out]; exact B2.c8, T2.c0⟩
  have K6 : Hid _ := H6.out x y hxb hyb
  (try clear hK K)
  refine wpAnyH_ready (rs := [6]) (by kernel_rfl) (by simp) ?_
  refine AllReadyH.cons rfl (fun K hK => ?_) AllReadyH.nil
  go_simp
  (refine Calls.mono (K6.out _ hxi2 hyi) ?_; rintro e w5 ⟨rfl, hb3⟩; have B3 := B2.below hb3; have T3 := T2.below hb3; have Z3 := on Z2 hb3)
  refine hK.out _ _ ?_ (fun hHeld => ?_)
  · exact ⟨B3.c0, B3.c1, B3.c2, B3.c3, B3.c4, B3.c5, B3.c6, B3.c7, by rw [← HLP.out]; exact B3.c8, T3.c0⟩
  (try clear hK K)
  refine wpAnyH_take (i := 7) (v := ?_) rfl (by kernel_rfl) (by kernel_rfl) (by kernel_rfl) (fun _ _ _ h => h) (Or.inl ⟨by rfl, ?_⟩) (by assumption) ?_
  rotate_left
  · intro w hSw; (try dsimp only at hSw); go_simp; (try with_reducible rfl)
  (try simp only [Act.put, List.getElem_toArray, List.getElem_cons_succ, List.getElem_cons_zero, List.setIfInBounds_toArray, List.set_cons_zero, List.set_cons_succ])
  refine wpAnyH_take (i := 8) (v := ?_) rfl (by kernel_rfl) (by kernel_rfl) (by kernel_rfl) (fun _ _ _ h => h) (Or.inl ⟨by rfl, ?_⟩) (by assumption) ?_
  rotate_left
  · intro w hSw; (try dsimp only at hSw); go_simp; (try with_reducible rfl)
  (try simp only [Act.put, List.getElem_toArray, List.getElem_cons_succ, List.getElem_cons_zero, List.setIfInBounds_toArray, List.set_cons_zero, List.set_cons_succ])
  refine wpAnyH_take (i := 9) (v := ?_) rfl (by kernel_rfl) (by kernel_rfl) (by kernel_rfl) (fun _ _ _ h => h) (Or.inl ⟨by rfl, ?_⟩) (by assumption) ?_
  rotate_left
  · intro w hSw; (try dsimp only at hSw); go_simp; (try with_reducible rfl)
  (try simp only [Act.put, List.getElem_toArray, List.getElem_cons_succ, List.getElem_cons_zero, List.setIfInBounds_toArray, List.set_cons_zero, List.set_cons_succ])
  refine wpAnyH_take (i := 11) (v := ?_) rfl (by kernel_rfl) (by kernel_rfl) (by kernel_rfl) (fun _ _ _ h => h) (Or.inl ⟨by rfl, ?_⟩) (by assumption) ?_
  rotate_left
  · intro w hSw; (try dsimp only at hSw); go_simp; (try with_reducible rfl)
  (try simp only [Act.put, List.getElem_toArray, List.getElem_cons_succ, List.getElem_cons_zero, List.setIfInBounds_toArray, List.set_cons_zero, List.set_cons_succ])
  refine wpAnyH_take (i := 12) (v := ?_) rfl (by kernel_rfl) (by kernel_rfl) (by kernel_rfl) (fun _ _ _ h => h) (Or.inl ⟨by rfl, ?_⟩) (by assumption) ?_
  rotate_left
  · intro w hSw; (try dsimp only at hSw); go_simp; (try with_reducible rfl)
  (try simp only [Act.put, List.getElem_toArray, List.getElem_cons_succ, List.getElem_cons_zero, List.setIfInBounds_toArray, List.set_cons_zero, List.set_cons_succ])
  (try clear hK K)
  refine wpAnyH_ready (rs := [10]) (by kernel_rfl) (by simp) ?_
  refine AllReadyH.cons rfl (fun K hK => ?_) AllReadyH.nil
  go_simp
  (refine Calls.mono (K4.out _ Z3) ?_; rintro e w6 ⟨rfl, hb4⟩; have B4 := B3.below hb4; have T4 := T3.below hb4; have Z4 := on Z3 hb4)
  refine hK.out _ _ ?_ (fun hHeld => ?_)
  · exact ⟨B4.c0, B4.c1, B4.c2, B4.c3, B4.c4, B4.c5, B4.c6, B4.c7, by rw [← HLP.out]; exact B4.c8, T4.c0⟩
  (try clear hK K)
  refine wpAnyH_ready (rs := [13]) (by kernel_rfl) (by simp) ?_
  refine AllReadyH.cons rfl (fun K hK => ?_) AllReadyH.nil
  go_simp
  (refine Calls.mono (K5.out _ Z4) ?_; rintro e w7 ⟨rfl, hb5⟩; have B5 := B4.below hb5; have T5 := T4.below hb5; have Z5 := on Z4 hb5)
  refine hK.out _ _ ?_ (fun hHeld => ?_)
  · exact ⟨B5.c0, B5.c1, B5.c2, B5.c3, B5.c4, B5.c5, B5.c6, B5.c7, by rw [← HLP.out]; exact B5.c8, T5.c0⟩
  (try clear hK K)
  refine wpAnyH_take (i := 14) (v := ?_) rfl (by kernel_rfl) (by kernel_rfl) (by kernel_rfl) (fun _ _ _ h => h) (Or.inl ⟨by rfl, ?_⟩) (by assumption) ?_
  rotate_left
  · intro w hSw; (try dsimp only at hSw); go_simp; (try with_reducible rfl)
  (try simp only [Act.put, List.getElem_toArray, List.getElem_cons_succ, List.getElem_cons_zero, List.setIfInBounds_toArray, List.set_cons_zero, List.set_cons_succ])
  refine wpAnyH_take (i := 15) (v := ?_) rfl (by kernel_rfl) (by kernel_rfl) (by kernel_rfl) (fun _ _ _ h => h) (Or.inl ⟨by rfl, ?_⟩) (by assumption) ?_
  rotate_left
  · intro w hSw; (try dsimp only at hSw); go_simp; (try with_reducible rfl)
  (try simp only [Act.put, List.getElem_toArray, List.getElem_cons_succ, List.getElem_cons_zero, List.setIfInBounds_toArray, List.set_cons_zero, List.set_cons_succ])
  refine wpAnyH_take (i := 16) (v := ?_) rfl (by kernel_rfl) (by kernel_rfl) (by kernel_rfl) (fun _ _ _ h => h) (Or.inl ⟨by rfl, ?_⟩) (by assumption) ?_
  rotate_left
  · intro w hSw; (try dsimp only at hSw); go_simp; (try with_reducible rfl)
  (try simp only [Act.put, List.getElem_toArray, List.getElem_cons_succ, List.getElem_cons_zero, List.setIfInBounds_toArray, List.set_cons_zero, List.set_cons_succ])
  (try clear hK K)
  refine wpAnyH_done (by kernel_rfl) ?_ _
  go_wp2_with fail
  go_ret
  exact ⟨rfl, Z5⟩
end Go.Proofs.YtfkhfplibhnceaaDoor.Val
/- The law NormalTells holds: any predicate without PNot is the document's, and so is the span of its keys. Conditions: the listed package-level variables lie as the program's text lays them (the card ties them). -/
namespace Go.Proofs.YtfkhfplibhnceaaDoor.Val
open Go.ChangeShapes Go.WideShapes Go.ChangeAt Go.RowKit
open Go.ChangeMaps (open_string)

theorem ntells_contract (H : Type) (enc : TypeId × Value → H) (W : World) (base : Nat) (args : Array Value) (ds gs : List (DataW H)) (before : List MemPlace)
    (hval : ∀ (j : Nat) t v, Tryd.f3.params[j]? = some t → args[j]? = some v → Value.okWide Tryd.prog W .any base t v)
    (hW : DataW.Whole enc Tryd.prog Tryd.f3.params.toList Rows.normalTellsSpec.vars false W args.toList ds gs before) (hL : laidMetH Tryd.prog Rows.normalTellsRow.laid W) :
    Calls Tryd.prog 3 args W fun e W' => ∃ v, e = .returned v ∧ Rows.normalTellsSpec.post enc Tryd.prog Tryd.f3 false true false false W args v W' := by
  have hW' := hW
  obtain ⟨p, q, hA0, hV, rfl, hfz, hnd⟩ := hW
  have hA : DataW.TrodAll enc Tryd.prog W 0 (fun _ => true) true Tryd.f3.params.toList args.toList ds p := hA0
  rw [Tryd.params3] at hA hval
  obtain ⟨v0, vs0, d0, ds0, p0, q0, hargs, rfl, rfl, h0, r0⟩ := trodAll_cons hA
  obtain ⟨v1, vs1, d1, ds1, p1, q1, rfl, rfl, rfl, h1, r1⟩ := trodAll_cons r0
  obtain ⟨rfl, rfl, rfl⟩ := trodAll_nil r1
  obtain rfl : args = #[v0, v1] := by cases args; simp_all
  obtain ⟨rfl, rfl⟩ := trodVars_none hV
  have k0 := h0
  have lt0 : ∀ x ∈ p0, x.block < W.heap.size := by obtain ⟨m, hm⟩ := k0; exact DataW.trod_lt m _ _ _ hm
  obtain ⟨c0, cols0, rfl, w0⟩ := open_table (hval 0 24 v0 rfl rfl) h0
  have k1 := h1
  have lt1 : ∀ x ∈ p1, x.block < W.heap.size := by obtain ⟨m, hm⟩ := k1; exact DataW.trod_lt m _ _ _ hm
  obtain ⟨x1, rfl, o1⟩ := open_pred (hval 1 29 v1 rfl rfl) h1
  clear hA0
  have hT := tabOf hL
  refine (ntells_walk _ _ _ W w0 o1 hT).mono fun e W' ⟨he, bel⟩ => ?_
  subst he
  exact ⟨_, rfl, _, _, _, [], _, [], hW', trodAll_mk1 (shut_bool Tryd.underlying4 _), (trodAll_cons_mk (Below.trod laidOut (by kernel_rfl) (of_decide_eq_true (by kernel_rfl)) k0 bel lt0) (trodAll_cons_mk (Below.trod laidOut (by kernel_rfl) (of_decide_eq_true (by kernel_rfl)) k1 bel lt1) trodAll_mk0)), rfl, bel.frame _, fun h => by cases h⟩

set_option maxRecDepth 100000 in
theorem ntells_lifted (os : Os) (started : os.Started) (H : Type) (enc : TypeId × Value → H) (F : Stop.Interp) :
    ReturnsInHanded {} Tryd.checked os 3 .any ((OpenSpec.ofChange Rows.normalTellsSpec).preRow enc Tryd.prog Tryd.f3 Rows.normalTellsRow.domain false Rows.normalTellsRow.laid) (((OpenSpec.ofChange Rows.normalTellsSpec).at F).post enc Tryd.prog Tryd.f3 false true false false) := by
  refine returnsInHanded_of_row (C := Tryd.checked) (s := OpenSpec.ofChange Rows.normalTellsSpec) own started (by kernel_rfl) Tryd.func3
    (witness_row_at (enc := enc) (C := Tryd.checked) false
      { World.holding Tryd.prog os ⟨#[], #[], []⟩ with heap := ((World.holding Tryd.prog os ⟨#[], #[], []⟩).heap.modify 0 (putCells (dataCells .i64 oppTab))) }
      #[.agg #[.slice none 0 0], .agg #[.int .i64 0, .int .i64 0, .bool false, .int .i64 0, .string ⟨#[]⟩, .bool false, .int .i64 0, .string ⟨#[]⟩, .slice none 0 0]] rfl (by kernel_rfl) (by kernel_rfl) (by kernel_rfl)
      (OpenSpec.preRow_of_cond 8 (x := ([.agg [.nil], .agg [.lit (.int .i64 0), .lit (.int .i64 0), .agg [.lit (.bool false), .lit (.int .i64 0), .lit (.string [])], .agg [.lit (.bool false), .lit (.int .i64 0), .lit (.string [])], .nil]], [], [])) (by kernel_rfl) (by kernel_rfl) (fun k hk => by cases hk) (by kernel_rfl) (laidMet_of_run' 8 (by kernel_rfl) (by kernel_rfl)))) ?_
  intro W base args ds gs before hval hW _ _ _ hL _ _
  exact ntells_contract H enc W base args ds gs before hval hW hL

theorem ntells_said : Rows.NormalTellsSaid :=
  OpenClaim.holds_of_cond 3 Tryd.f3 rfl rfl rfl rfl rfl rfl rfl ⟨rfl, rfl, rfl, rfl, rfl⟩ rfl rfl rfl rfl rfl (by kernel_rfl) Tryd.func3 (by kernel_rfl)
    (of_decide_eq_true (by kernel_rfl)) (by unfold Func.isWrapper; first | (rw [if_pos (by decide +kernel)]; kernel_rfl) | (rw [if_neg (by decide +kernel)]; exact ⟨rfl, rfl⟩))
    (fun os started H enc _ F => by rw [OpenClaim.pre_eq_preRow]; exact ntells_lifted os started H enc F)

theorem ntells_plain (f : FuncId) (fn : Func) (hf : Tryd.pinned.checked.prog.funcNamed "ratline/ratlinelaw04.NormalTells" = some f) (hfn : Tryd.pinned.checked.prog.funcs[f]? = some fn) :
    false = Tryd.pinned.checked.prog.looks [] ∧ ∀ (j : Nat) t, fn.params[j]? = some t → Tryd.pinned.checked.prog.wantsStandIn t = false := by
  obtain rfl : f = 3 := Option.some.inj ((show Tryd.prog.funcNamed "ratline/ratlinelaw04.NormalTells" = some 3 by kernel_rfl).symm.trans hf) |>.symm
  obtain rfl : fn = Tryd.f3 := (Option.some.inj (Tryd.func3.symm.trans hfn)).symm
  refine ⟨by kernel_rfl, fun j t ht => ?_⟩
  rw [Tryd.params3] at ht
  have hm : t = 24 ∨ t = 29 := by simpa using Array.mem_of_getElem? ht
  rcases hm with rfl | rfl
  · exact (show Tryd.prog.wantsStandIn 24 = false by kernel_rfl)
  · exact (show Tryd.prog.wantsStandIn 29 = false by kernel_rfl)

/-- The card. -/
theorem ntells_card : Rows.NormalTellsCardSaid :=
  Claim7.holds_tied_plain_at .later [] _ _ _ _ ntells_said (fun _ h => by cases h) (by kernel_rfl) (fun _ h => by cases h) normalTells_row_tie rfl ⟨rfl, rfl⟩ (by kernel_rfl) rfl ntells_plain (by kernel_rfl)
end Go.Proofs.YtfkhfplibhnceaaDoor.Val
