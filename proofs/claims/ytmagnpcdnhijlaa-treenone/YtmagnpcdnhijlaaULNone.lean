/- TreeNone: the walk. -/
import Derived.Test.YtmagnpcdnhijlaaU20
import Derived.Test.YtmagnpcdnhijlaaU14
import Derived.Test.YtmagnpcdnhijlaaUR
import Derived.Test.YtmagnpcdnhijlaaUO
namespace Go.Proofs.Ytmagnpcdnhijlaa.Val
open Go Go.RowKit

theorem ins_one (k : Val) (v : Int) : insP k v (insP k v []) = [⟨k, v⟩] := by
  show insP k v [⟨k, v⟩] = _
  rw [ins_cons, if_neg (by rw [selfX]; omega), if_pos (selfX k)]
theorem has_one (k : Val) (v : Int) : hasP k [⟨k, v⟩] = true := has_iff.2 ⟨v, by simp⟩
theorem del_one (k : Val) (v : Int) : delP k [⟨k, v⟩] = [] := by
  have : eqV k k = true := eqV_iff.2 rfl
  simp [delP, this]
set_option maxRecDepth 100000 in
set_option maxHeartbeats 16000000 in
theorem tnone_walk (k : Val) (v : Int) (w : World) (hs : k.s.size ≤ maxLen) : Calls Try.prog 8 #[V k.t k.n k.s, .int .i64 v] w fun e w' => e = .returned (.bool true) ∧ Below w.heap.size w w' := by
  have CA : Hid (∀ w1, Calls Try.prog 10 #[] w1 fun e w' => e = .returned (.bool true) ∧ Below w1.heap.size w1 w') := awake_any
  have CG : Hid (∀ w1, Calls Try.prog 13 #[.pointer none, V k.t k.n k.s] w1 fun e w' => e = .returned (.tuple #[.int .i64 0, .bool false]) ∧ Below w1.heap.size w1 w') := fun w1 => get_nil k
  have CP : Hid (∀ w1, Calls Try.prog 19 #[.pointer none, V k.t k.n k.s, .int .i64 v] w1 fun e w' => e = .returned (.bool false) ∧ Below w1.heap.size w1 w') := fun w1 => put_nil k v
  have CD : Hid (∀ w1, Calls Try.prog 21 #[.pointer none, V k.t k.n k.s] w1 fun e w' => e = .returned (.bool false) ∧ Below w1.heap.size w1 w') := fun w1 => del_nil k
  have CL : Hid (∀ w1, Calls Try.prog 15 #[.pointer none] w1 fun e w' => e = .returned (.int .i64 0) ∧ Below w1.heap.size w1 w') := len_nil
  have CE : Hid (∀ w1, Calls Try.prog 22 #[.pointer none] w1 fun e w' => e = .returned (.int .i64 0) ∧ Below w1.heap.size w1 w') := depth_nil
  have CU : Hid (∀ w1, Calls Try.prog 23 #[.pointer none] w1 fun e w' => e = .returned (.int .i64 0) ∧ Below w1.heap.size w1 w') := used_nil
  have CR : Hid (∀ w1, Calls Try.prog 24 #[.pointer none] w1 fun e w' => e = .returned (.int .i64 0) ∧ Below w1.heap.size w1 w') := room_nil
  have CX : Hid (∀ w1, Calls Try.prog 17 #[.pointer none, Sp.all.val] w1 fun e w' => ∃ v, e = .returned v ∧ w'.ownsRow w1.heap.size TPr 4 v 0 [] ∧ Below w1.heap.size w1 w') := fun w1 => pairs_nil w1 Sp.all
  have CN : Hid (∀ w1, Calls Try.prog 11 #[] w1 fun e w' => e = .returned (.pointer (some ⟨w1.heap.size, 0, none⟩)) ∧ TR w' ⟨w1.heap.size, .slice none 0 0, .slice none 0 0, .slice none 0 0⟩ [] 0 0 0 ∧ Below w1.heap.size w1 w') := new_any
  have CT : Hid (∀ w1, Calls Try.prog 26 #[V k.t k.n k.s] w1 fun e w' => e = .returned (.bool (rightX k)) ∧ Below w1.heap.size w1 w') := fun w1 => rright_any k.t k.n k.s w1 hs
  have HS : Hid (k.s.size ≤ maxLen) := hs
  clear hs
  go_enter Try.func8, Try.ntmps8
  go_wp2_with fail
  refine Calls.mono (CA.out _) ?_
  rintro e w1 ⟨rfl, hb⟩
  have HB1 : Hid (Below w.heap.size w w1) := back1 hb
  have HV1 : Hid (VBox w1 w.heap.size k) := (VBox.new w k 30).below hb
  clear hb
  clear CA
  obtain ⟨v0, v1, v2⟩ := HV1.out
  go_wp2_with fail
  refine Calls.mono (CG.out _) ?_
  rintro e w2 ⟨rfl, hb⟩
  have HB2 : Hid (Below w.heap.size w w2) := HB1.out.trans (hb.mono HB1.out.size)
  have HV2 : Hid (VBox w2 w.heap.size k) := HV1.out.below hb
  clear hb HB1 HV1 v0 v1 v2
  clear CG
  obtain ⟨v0, v1, v2⟩ := HV2.out
  go_wp2_with fail
  refine Calls.mono (CP.out _) ?_
  rintro e w3 ⟨rfl, hb⟩
  have HB3 : Hid (Below w.heap.size w w3) := HB2.out.trans (hb.mono HB2.out.size)
  have HV3 : Hid (VBox w3 w.heap.size k) := HV2.out.below hb
  clear hb HB2 HV2 v0 v1 v2
  clear CP
  obtain ⟨v0, v1, v2⟩ := HV3.out
  go_wp2_with fail
  refine Calls.mono (CD.out _) ?_
  rintro e w4 ⟨rfl, hb⟩
  have HB4 : Hid (Below w.heap.size w w4) := HB3.out.trans (hb.mono HB3.out.size)
  have HV4 : Hid (VBox w4 w.heap.size k) := HV3.out.below hb
  clear hb HB3 HV3 v0 v1 v2
  clear CD
  obtain ⟨v0, v1, v2⟩ := HV4.out
  go_wp2_with fail
  refine Calls.mono (CL.out _) ?_
  rintro e w5 ⟨rfl, hb⟩
  have HB5 : Hid (Below w.heap.size w w5) := HB4.out.trans (hb.mono HB4.out.size)
  have HV5 : Hid (VBox w5 w.heap.size k) := HV4.out.below hb
  clear hb HB4 HV4 v0 v1 v2
  clear CL
  obtain ⟨v0, v1, v2⟩ := HV5.out
  go_wp2_with fail
  refine Calls.mono (CE.out _) ?_
  rintro e w6 ⟨rfl, hb⟩
  have HB6 : Hid (Below w.heap.size w w6) := HB5.out.trans (hb.mono HB5.out.size)
  have HV6 : Hid (VBox w6 w.heap.size k) := HV5.out.below hb
  clear hb HB5 HV5 v0 v1 v2
  clear CE
  obtain ⟨v0, v1, v2⟩ := HV6.out
  go_wp2_with fail
  refine Calls.mono (CU.out _) ?_
  rintro e w7 ⟨rfl, hb⟩
  have HB7 : Hid (Below w.heap.size w w7) := HB6.out.trans (hb.mono HB6.out.size)
  have HV7 : Hid (VBox w7 w.heap.size k) := HV6.out.below hb
  clear hb HB6 HV6 v0 v1 v2
  clear CU
  obtain ⟨v0, v1, v2⟩ := HV7.out
  go_wp2_with fail
  refine Calls.mono (CR.out _) ?_
  rintro e w8 ⟨rfl, hb⟩
  have HB8 : Hid (Below w.heap.size w w8) := HB7.out.trans (hb.mono HB7.out.size)
  have HV8 : Hid (VBox w8 w.heap.size k) := HV7.out.below hb
  clear hb HB7 HV7 v0 v1 v2
  clear CR
  obtain ⟨v0, v1, v2⟩ := HV8.out
  go_wp2_with fail
  refine Calls.mono (CX.out _) ?_
  rintro e w9 ⟨vx, rfl, hvx, hb⟩
  obtain ⟨ax, cx, ex⟩ := owns_slice hvx
  subst ex
  clear hvx
  have HB9 : Hid (Below w.heap.size w w9) := HB8.out.trans (hb.mono HB8.out.size)
  have HV9 : Hid (VBox w9 w.heap.size k) := HV8.out.below hb
  clear hb HB8 HV8 v0 v1 v2
  clear CX
  obtain ⟨v0, v1, v2⟩ := HV9.out
  go_wp2_with fail
  refine Calls.mono (CN.out _) ?_
  rintro e w10 ⟨rfl, T1, hb⟩
  have HO : Hid (Own5 w9 w10 [] 10 ⟨w9.heap.size, .slice none 0 0, .slice none 0 0, .slice none 0 0⟩ 0 0 0) := ⟨T1, rfl, new_mine w9, hb, by omega⟩
  have HVK : Hid (∀ {wr l h m u d}, Own5 w9 wr l 10 h m u d → VBox wr w.heap.size k ∧ Below w.heap.size w wr) := fun o => ⟨HV9.out.below o.blw, HB9.out.trans (o.blw.mono HB9.out.size)⟩
  clear T1
  have HB10 : Hid (Below w.heap.size w w10) := HB9.out.trans (hb.mono HB9.out.size)
  have HV10 : Hid (VBox w10 w.heap.size k) := HV9.out.below hb
  clear hb HB9 HV9 v0 v1 v2
  clear CN
  obtain ⟨v0, v1, v2⟩ := HV10.out
  go_wp2_with fail
  refine Calls.mono (CT.out _) ?_
  rintro e w11 ⟨rfl, hb⟩
  replace HO : Hid (Own5 w9 w11 [] 10 ⟨w9.heap.size, .slice none 0 0, .slice none 0 0, .slice none 0 0⟩ 0 0 0) := HO.out.below hb
  have HB11 : Hid (Below w.heap.size w w11) := HB10.out.trans (hb.mono HB10.out.size)
  have HV11 : Hid (VBox w11 w.heap.size k) := HV10.out.below hb
  clear hb HB10 HV10 v0 v1 v2
  clear CT
  have HVN : Hid (∀ {wr l h m u d}, Own5 w9 wr l 10 h m u d → VBox wr w.heap.size k ∧ Below w.heap.size w wr) := HVK.out
  clear HB11 HV11
  cases hk : rightX k
  · obtain ⟨⟨v0, v1, v2⟩, _⟩ := HVN.out HO.out
    go_wp2_with fail
    refine Calls.mono (put_wrong w9.heap.size k v HS.out hk) ?_
    rintro e w12 ⟨rfl, hb⟩
    replace HO : Hid (Own5 w9 w12 [] 10 ⟨w9.heap.size, .slice none 0 0, .slice none 0 0, .slice none 0 0⟩ 0 0 0) := HO.out.below hb
    clear v0 v1 v2
    clear hb
    obtain ⟨⟨v0, v1, v2⟩, _⟩ := HVN.out HO.out
    go_wp2_with fail
    refine Calls.mono (get_any HO.out.tr (by simp) k HS.out) ?_
    rintro e w13 ⟨rfl, hb⟩
    replace HO : Hid (Own5 w9 w13 [] 10 ⟨w9.heap.size, .slice none 0 0, .slice none 0 0, .slice none 0 0⟩ 0 0 0) := HO.out.below hb
    clear v0 v1 v2
    clear hb
    rw [show getP k [] = (0, false) from rfl]
    obtain ⟨⟨v0, v1, v2⟩, _⟩ := HVN.out HO.out
    go_wp2_with fail
    refine Calls.mono (show Calls Try.prog 15 #[.pointer (some ⟨w9.heap.size, 0, none⟩)] w13 fun e w' => e = .returned (.int .i64 0) ∧ Below w13.heap.size w13 w' from len_any HO.out.tr) ?_
    rintro e w14 ⟨rfl, hb⟩
    replace HO : Hid (Own5 w9 w14 [] 10 ⟨w9.heap.size, .slice none 0 0, .slice none 0 0, .slice none 0 0⟩ 0 0 0) := HO.out.below hb
    clear v0 v1 v2
    clear hb
    go_wp2_with fail
    go_ret
    exact ⟨rfl, (HVN.out HO.out).2⟩
  · have HK : Hid (rightX k = true) := hk
    clear hk
    replace HO : Hid (∃ h m u d, Own5 w9 w11 [] 10 h m u d ∧ h.p = w9.heap.size) := ⟨_, _, _, _, HO.out, rfl⟩
    obtain ⟨h, m, u, d, o, hp⟩ := HO.out
    obtain ⟨⟨v0, v1, v2⟩, _⟩ := HVN.out o
    have HC : Hid _ := put_any o.tr (by have := o.room; omega) (by simp) k v HS.out HK.out
    rw [hp] at HC
    have HQ : Hid _ := And.intro o hp
    clear o hp
    go_wp2_with fail
    refine Calls.mono HC.out ?_
    rintro e w12 ⟨rfl, h', m', u', d', t', vv, hmm⟩
    obtain ⟨o, hp⟩ := HQ.out
    replace HO : Hid (∃ h m u d, Own5 w9 w12 [⟨k, v⟩] 10 h m u d ∧ h.p = w9.heap.size) := ⟨h', m', u', d', o.mv vv t' (by have := o.room; have h5 := t'.shape.2.1; simp [insP] at h5; omega), vv.p.trans hp⟩
    clear v0 v1 v2 o hp HC HQ
    rw [show (!hasP k []) = true from rfl]
    clear t' vv hmm
    obtain ⟨h, m, u, d, o, hp⟩ := HO.out
    obtain ⟨⟨v0, v1, v2⟩, _⟩ := HVN.out o
    have HC : Hid _ := get_any o.tr (by simp) k HS.out
    rw [hp] at HC
    have HQ : Hid _ := And.intro o hp
    clear o hp
    go_wp2_with fail
    refine Calls.mono HC.out ?_
    rintro e w13 ⟨rfl, hb⟩
    obtain ⟨o, hp⟩ := HQ.out
    replace HO : Hid (∃ h m u d, Own5 w9 w13 [⟨k, v⟩] 10 h m u d ∧ h.p = w9.heap.size) := ⟨h, m, u, d, o.below hb, hp⟩
    clear v0 v1 v2 o hp HC HQ
    clear hb
    rw [show getP k [⟨k, v⟩] = (v, true) from (get_iff (List.pairwise_singleton _ _)).2 (by simp)]
    obtain ⟨h, m, u, d, o, hp⟩ := HO.out
    obtain ⟨⟨v0, v1, v2⟩, _⟩ := HVN.out o
    have HC : Hid _ := put_any o.tr (by have := o.room; omega) (by simp) k v HS.out HK.out
    rw [hp] at HC
    have HQ : Hid _ := And.intro o hp
    clear o hp
    go_wp2_with fail
    refine Calls.mono HC.out ?_
    rintro e w14 ⟨rfl, h', m', u', d', t', vv, hmm⟩
    obtain ⟨o, hp⟩ := HQ.out
    replace HO : Hid (∃ h m u d, Own5 w9 w14 [⟨k, v⟩] 10 h m u d ∧ h.p = w9.heap.size) := ⟨h', m', u', d', by rw [show insP k v [⟨k, v⟩] = [⟨k, v⟩] from ins_one k v] at t'; exact o.mv vv t' (by have h5 := t'.shape.2.1; have := o.room; simp at h5; omega), vv.p.trans hp⟩
    clear v0 v1 v2 o hp HC HQ
    rw [has_one k v]
    clear t' vv hmm
    obtain ⟨h, m, u, d, o, hp⟩ := HO.out
    obtain ⟨⟨v0, v1, v2⟩, _⟩ := HVN.out o
    have HC : Hid _ := del_any o.tr (by have := o.room; omega) (by simp) k HS.out
    rw [hp] at HC
    have HQ : Hid _ := And.intro o hp
    clear o hp
    go_wp2_with fail
    refine Calls.mono HC.out ?_
    rintro e w15 ⟨rfl, h', u', d', t', vv⟩
    obtain ⟨o, hp⟩ := HQ.out
    replace HO : Hid (∃ h m u d, Own5 w9 w15 [] 10 h m u d ∧ h.p = w9.heap.size) := ⟨h', m, u', d', by rw [del_one k v] at t'; exact o.mv vv t' o.room, vv.p.trans hp⟩
    clear v0 v1 v2 o hp HC HQ
    rw [has_one k v]
    clear t' vv
    obtain ⟨h, m, u, d, o, hp⟩ := HO.out
    obtain ⟨⟨v0, v1, v2⟩, _⟩ := HVN.out o
    have HC : Hid _ := del_any o.tr (by have := o.room; omega) (by simp) k HS.out
    rw [hp] at HC
    have HQ : Hid _ := And.intro o hp
    clear o hp
    go_wp2_with fail
    refine Calls.mono HC.out ?_
    rintro e w16 ⟨rfl, h', u', d', t', vv⟩
    obtain ⟨o, hp⟩ := HQ.out
    replace HO : Hid (∃ h m u d, Own5 w9 w16 [] 10 h m u d ∧ h.p = w9.heap.size) := ⟨h', m, u', d', o.mv vv t' o.room, vv.p.trans hp⟩
    clear v0 v1 v2 o hp HC HQ
    rw [show hasP k [] = false from rfl]
    clear t' vv
    obtain ⟨h, m, u, d, o, hp⟩ := HO.out
    obtain rfl : d = 0 := o.tr.shape.2.2.1.1 rfl
    have HC : Hid (Calls Try.prog 22 #[.pointer (some ⟨w9.heap.size, 0, none⟩)] w16 fun e w' => e = .returned (.int .i64 0) ∧ Below w16.heap.size w16 w') := by
      have := depth_any o.tr
      rw [hp] at this
      exact this
    have HBE : Hid (∀ w', Below w16.heap.size w16 w' → Below w.heap.size w w') := fun w' hb => (HVN.out (o.below hb)).2
    clear o hp HO HVN
    go_wp2_with fail
    refine Calls.mono HC.out ?_
    rintro e w17 ⟨rfl, hb⟩
    have HE : Hid (Below w.heap.size w w17) := HBE.out _ hb
    clear hb HC HBE
    go_wp2_with fail
    go_ret
    exact ⟨rfl, HE.out⟩
end Go.Proofs.Ytmagnpcdnhijlaa.Val
/- A tree that is none answers no to everything and takes nothing; a new one takes a right key, and nothing else, and lets it go. No conditions. -/
namespace Go.Proofs.Ytmagnpcdnhijlaa.Val
open Go.ChangeShapes Go.WideShapes Go.ChangeAt Go.RowKit
open Go.ChangeMaps (open_string)

set_option maxRecDepth 100000 in
theorem tnone_lifted (os : Os) (started : os.Started) (H : Type) (enc : TypeId × Value → H) :
    ReturnsInHanded {} Try.checked os 8 .any (Rows.treeNoneSpec.pre6 enc Try.prog Try.f8 Rows.treeNoneRow.domain false) (Rows.treeNoneSpec.post enc Try.prog Try.f8 false true false false) := by
  refine returnsInHanded_of_change (C := Try.checked) own started (by kernel_rfl) Try.func8
    (ChangeSpec.witness6 (enc := enc) (C := Try.checked) false ⟨#[], #[.agg #[.bool false, .int .i64 0, .string ⟨#[]⟩], .int .i64 0], []⟩ 8 (by kernel_rfl) (by kernel_rfl) (by kernel_rfl) (by kernel_rfl)) ?_
  intro W base args ds gs before hval0 hW _ _
  have hval : ∀ (j : Nat) t v, Try.f8.params[j]? = some t → args[j]? = some v → Value.okWide Try.prog W .any base t v := hval0
  have hW' := hW
  obtain ⟨p, q, hA0, hV, rfl, hfz, hnd⟩ := hW
  have hA : DataW.TrodAll enc Try.prog W 0 (fun _ => true) true Try.f8.params.toList args.toList ds p := hA0
  rw [Try.params8] at hA hval
  obtain ⟨v0, vs0, d0, ds0, p0, q0, hargs, rfl, rfl, h0, r0⟩ := trodAll_cons hA
  obtain ⟨v1, vs1, d1, ds1, p1, q1, rfl, rfl, rfl, h1, r1⟩ := trodAll_cons r0
  obtain ⟨rfl, rfl, rfl⟩ := trodAll_nil r1
  obtain rfl : args = #[v0, v1] := by cases args; simp_all
  obtain ⟨rfl, rfl⟩ := trodVars_none hV
  have k0 := h0
  have lt0 : ∀ x ∈ p0, x.block < W.heap.size := by obtain ⟨m, hm⟩ := k0; exact DataW.trod_lt m _ _ _ hm
  obtain ⟨x0, rfl, o0⟩ := open_value (hval 0 30 v0 rfl rfl) h0
  have k1 := h1
  have lt1 : ∀ x ∈ p1, x.block < W.heap.size := by obtain ⟨m, hm⟩ := k1; exact DataW.trod_lt m _ _ _ hm
  obtain ⟨a1, rfl, rfl, rfl, o1⟩ := open_int Try.underlying3 (hval 1 3 v1 rfl rfl) h1
  clear hA0 hval0
  refine (tnone_walk x0 a1 W o0.2).mono fun e W' ⟨he, bel⟩ => ?_
  subst he
  exact ⟨_, rfl, _, _, _, [], _, [], hW', trodAll_mk1 (shut_bool Try.underlying4 _), (trodAll_cons_mk (Below.trod laidOut (by kernel_rfl) (of_decide_eq_true (by kernel_rfl)) k0 bel lt0) (trodAll_cons_mk (Below.trod laidOut (by kernel_rfl) (of_decide_eq_true (by kernel_rfl)) k1 bel lt1) trodAll_mk0)), rfl, bel.frame _, fun h => by cases h⟩

/-- The statement. -/
theorem tnone_said : Rows.TreeNoneSaid :=
  OpenClaim.holds_of_wide 8 Try.f8 rfl rfl rfl rfl rfl rfl rfl ⟨rfl, rfl, rfl, rfl, rfl⟩ rfl rfl rfl rfl rfl (by kernel_rfl) Try.func8 (by kernel_rfl)
    (of_decide_eq_true (by kernel_rfl)) (by unfold Func.isWrapper; first | (rw [if_pos (by decide +kernel)]; kernel_rfl) | (rw [if_neg (by decide +kernel)]; exact ⟨rfl, rfl⟩))
    (fun os started H enc _ => tnone_lifted os started H enc)
end Go.Proofs.Ytmagnpcdnhijlaa.Val
