/- What the reference's span answers of leaves; texts are as long as texts can be. -/
import Derived.Test.YtfkhfplibhnceaaDoorU13
import Derived.Test.YtfkhfplibhnceaaDoorU7
namespace Go.Proofs.YtfkhfplibhnceaaDoor.Val
open Go.RowKit

theorem En.ok_ite {c : Prop} [Decidable c] {a b : En} (h1 : a.ok) (h2 : b.ok) : (if c then a else b).ok := by split <;> assumption
theorem ok_chosen {a b : En} {side : Int} {o : Bool} (ha : a.ok) (hb : b.ok) : (chosenE a b side o).ok := En.ok_ite ha (En.ok_ite hb ha)
theorem ok_inner {a b : En} {side : Int} (ha : a.ok) (hb : b.ok) : (innerE a b side).ok := En.ok_ite hb (En.ok_ite ha (ok_chosen ha hb))
theorem ok_outer {a b : En} {side : Int} (ha : a.ok) (hb : b.ok) : (outerE a b side).ok := En.ok_ite ok_zero (ok_chosen ha hb)
theorem ok_meet {a b : Sp} (ha : a.ok) (hb : b.ok) : (meetS a b).ok := ok_ite ok_none (ok_btw (ok_inner (ok_low (ok_clean ha)) (ok_low (ok_clean hb))) (ok_inner (ok_upp (ok_clean ha)) (ok_upp (ok_clean hb))))
theorem ok_hull {a b : Sp} (ha : a.ok) (hb : b.ok) : (hullS a b).ok := ok_ite (ok_clean hb) (ok_ite (ok_clean ha) (ok_btw (ok_outer (ok_low (ok_clean ha)) (ok_low (ok_clean hb))) (ok_outer (ok_upp (ok_clean ha)) (ok_upp (ok_clean hb)))))
theorem okS_all : Sp.all.ok := ⟨by decide, by decide⟩
theorem okS_leaf {o : Int} {v w : Val} (hv : v.s.size ≤ maxLen) (hw : w.s.size ≤ maxLen) : (leafS o v w).ok :=
  ok_ite (ok_btw hv hv) (ok_ite (ok_btw ok_zero hv) (ok_ite (ok_btw ok_zero hv) (ok_ite (ok_btw hv ok_zero) (ok_ite (ok_btw hv ok_zero) (ok_ite (ok_btw hv hw) okS_all)))))
theorem ok_foldM (ks : List Sp) : ∀ s : Sp, s.ok → (∀ k ∈ ks, k.ok) → (ks.foldl meetS s).ok := by
  induction ks with
  | nil => intro s h _; exact h
  | cons k ks ih => intro s h hk; exact ih _ (ok_meet h (hk k (by simp))) fun x hx => hk x (by simp [hx])
theorem ok_foldH (ks : List Sp) : ∀ s : Sp, s.ok → (∀ k ∈ ks, k.ok) → (ks.foldl hullS s).ok := by
  induction ks with
  | nil => intro s h _; exact h
  | cons k ks ih => intro s h hk; exact ih _ (ok_hull h (hk k (by simp))) fun x hx => hk x (by simp [hx])
theorem ok_keys {w : World} (p : PT) : In w p → (keysP p).ok := by
  induction p using PT.ind with
  | h p ih =>
    intro hi
    rw [keys_mk]
    have hk : ∀ k ∈ p.l.map keysP, k.ok := fun k hk => by
      obtain ⟨q, hq, rfl⟩ := List.mem_map.1 hk
      exact ih q hq (hi.part q hq)
    exact ok_ite ok_none (ok_ite (ok_foldM _ _ okS_all hk) (ok_ite (ok_foldH _ _ ok_none hk) (ok_ite okS_all (okS_leaf hi.sv hi.sw))))
def RSpanOk (p : PT) : Prop := ∀ w, In w p → Calls Tryd.prog 32 #[p.val] w fun e w' => e = .returned (keysP p).val ∧ Below w.heap.size w w'
set_option maxHeartbeats 2000000 in
theorem rspan_2 (p : PT) (w : World) (hi : In w p) (h : p.op = 2) : Calls Tryd.prog 32 #[p.val] w fun e w' => e = .returned (Sp.none : Sp).val ∧ Below w.heap.size w w' := by
  obtain ⟨ap, cp, hlp, _⟩ := hi.lies.slice
  clear hi
  unfold PT.val
  rw [hlp, h]
  clear hlp h
  go_enter Tryd.func32, Tryd.ntmps32
  go_wp2_with fail
  refine bodyPost_ret (v := (Sp.none : Sp).val) (by simp [results, Tryd.results32, go_sem, Sp.val, Sp.none, Val.zero]) rfl ⟨rfl, ?_⟩
  exact back1 (alloc1 _ _)
set_option maxHeartbeats 2000000 in
theorem rspan_far (p : PT) (w : World) (hi : In w p) (h2 : (p.op == 2) = false) (h11 : (p.op == 11) = false) (h12 : (p.op == 12) = false) (hc : (p.col != 0) = true) : Calls Tryd.prog 32 #[p.val] w fun e w' => e = .returned (Sp.all : Sp).val ∧ Below w.heap.size w w' := by
  obtain ⟨ap, cp, hlp, _⟩ := hi.lies.slice
  clear hi
  unfold PT.val
  rw [hlp]
  clear hlp
  go_enter Tryd.func32, Tryd.ntmps32
  go_wp2_with fail
  refine bodyPost_ret (v := (Sp.all : Sp).val) (by simp [results, Tryd.results32, go_sem, Sp.val, Sp.all, Val.zero]) rfl ⟨rfl, ?_⟩
  exact back1 (alloc1 _ _)
set_option maxHeartbeats 2000000 in
theorem rspan_none (p : PT) (w : World) (hi : In w p) (h2 : (p.op == 2) = false) (h11 : (p.op == 11) = false) (h12 : (p.op == 12) = false) (hc : (p.col != 0) = false) (h3 : (p.op == 3) = false) (h5 : (p.op == 5) = false) (h6 : (p.op == 6) = false) (h7 : (p.op == 7) = false) (h8 : (p.op == 8) = false) (h9 : (p.op == 9) = false) : Calls Tryd.prog 32 #[p.val] w fun e w' => e = .returned (Sp.all : Sp).val ∧ Below w.heap.size w w' := by
  obtain ⟨ap, cp, hlp, _⟩ := hi.lies.slice
  clear hi
  unfold PT.val
  rw [hlp]
  clear hlp
  go_enter Tryd.func32, Tryd.ntmps32
  go_wp2_with fail
  refine bodyPost_ret (v := (Sp.all : Sp).val) (by simp [results, Tryd.results32, go_sem, Sp.val, Sp.all, Val.zero]) rfl ⟨rfl, ?_⟩
  exact back1 (alloc1 _ _)
set_option maxHeartbeats 2000000 in
theorem rspan_3 (p : PT) (w : World) (hi : In w p) (h : p.op = 3) (hc : (p.col != 0) = false) : Calls Tryd.prog 32 #[p.val] w fun e w' => e = .returned (⟨false, true, false, p.v, true, false, p.v⟩ : Sp).val ∧ Below w.heap.size w w' := by
  obtain ⟨ap, cp, hlp, _⟩ := hi.lies.slice
  clear hi
  unfold PT.val
  rw [hlp, h]
  clear hlp h
  go_enter Tryd.func32, Tryd.ntmps32
  go_wp2_with fail
  refine bodyPost_ret (v := (⟨false, true, false, p.v, true, false, p.v⟩ : Sp).val) (by simp [results, Tryd.results32, go_sem, Sp.val]) rfl ⟨rfl, ?_⟩
  exact back1 (alloc1 _ _)
set_option maxHeartbeats 2000000 in
theorem rspan_5 (p : PT) (w : World) (hi : In w p) (h : p.op = 5) (hc : (p.col != 0) = false) : Calls Tryd.prog 32 #[p.val] w fun e w' => e = .returned (⟨false, false, false, Val.zero, true, true, p.v⟩ : Sp).val ∧ Below w.heap.size w w' := by
  obtain ⟨ap, cp, hlp, _⟩ := hi.lies.slice
  clear hi
  unfold PT.val
  rw [hlp, h]
  clear hlp h
  go_enter Tryd.func32, Tryd.ntmps32
  go_wp2_with fail
  refine bodyPost_ret (v := (⟨false, false, false, Val.zero, true, true, p.v⟩ : Sp).val) (by simp [results, Tryd.results32, go_sem, Sp.val, Val.zero]) rfl ⟨rfl, ?_⟩
  exact back1 (alloc1 _ _)
set_option maxHeartbeats 2000000 in
theorem rspan_6 (p : PT) (w : World) (hi : In w p) (h : p.op = 6) (hc : (p.col != 0) = false) : Calls Tryd.prog 32 #[p.val] w fun e w' => e = .returned (⟨false, false, false, Val.zero, true, false, p.v⟩ : Sp).val ∧ Below w.heap.size w w' := by
  obtain ⟨ap, cp, hlp, _⟩ := hi.lies.slice
  clear hi
  unfold PT.val
  rw [hlp, h]
  clear hlp h
  go_enter Tryd.func32, Tryd.ntmps32
  go_wp2_with fail
  refine bodyPost_ret (v := (⟨false, false, false, Val.zero, true, false, p.v⟩ : Sp).val) (by simp [results, Tryd.results32, go_sem, Sp.val, Val.zero]) rfl ⟨rfl, ?_⟩
  exact back1 (alloc1 _ _)
set_option maxHeartbeats 2000000 in
theorem rspan_7 (p : PT) (w : World) (hi : In w p) (h : p.op = 7) (hc : (p.col != 0) = false) : Calls Tryd.prog 32 #[p.val] w fun e w' => e = .returned (⟨false, true, true, p.v, false, false, Val.zero⟩ : Sp).val ∧ Below w.heap.size w w' := by
  obtain ⟨ap, cp, hlp, _⟩ := hi.lies.slice
  clear hi
  unfold PT.val
  rw [hlp, h]
  clear hlp h
  go_enter Tryd.func32, Tryd.ntmps32
  go_wp2_with fail
  refine bodyPost_ret (v := (⟨false, true, true, p.v, false, false, Val.zero⟩ : Sp).val) (by simp [results, Tryd.results32, go_sem, Sp.val, Val.zero]) rfl ⟨rfl, ?_⟩
  exact back1 (alloc1 _ _)
set_option maxHeartbeats 2000000 in
theorem rspan_8 (p : PT) (w : World) (hi : In w p) (h : p.op = 8) (hc : (p.col != 0) = false) : Calls Tryd.prog 32 #[p.val] w fun e w' => e = .returned (⟨false, true, false, p.v, false, false, Val.zero⟩ : Sp).val ∧ Below w.heap.size w w' := by
  obtain ⟨ap, cp, hlp, _⟩ := hi.lies.slice
  clear hi
  unfold PT.val
  rw [hlp, h]
  clear hlp h
  go_enter Tryd.func32, Tryd.ntmps32
  go_wp2_with fail
  refine bodyPost_ret (v := (⟨false, true, false, p.v, false, false, Val.zero⟩ : Sp).val) (by simp [results, Tryd.results32, go_sem, Sp.val, Val.zero]) rfl ⟨rfl, ?_⟩
  exact back1 (alloc1 _ _)
set_option maxHeartbeats 2000000 in
theorem rspan_9 (p : PT) (w : World) (hi : In w p) (h : p.op = 9) (hc : (p.col != 0) = false) : Calls Tryd.prog 32 #[p.val] w fun e w' => e = .returned (cleanS ⟨false, true, false, p.v, true, false, p.w⟩).val ∧ Below w.heap.size w w' := by
  have CF : Hid (∀ w1, Calls Tryd.prog 41 #[(⟨false, true, false, p.v, true, false, p.w⟩ : Sp).val] w1 fun e w' => e = .returned (cleanS ⟨false, true, false, p.v, true, false, p.w⟩).val ∧ Below w1.heap.size w1 w') := fun w1 => rclean_any _ w1 ⟨hi.sv, hi.sw⟩
  generalize cleanS ⟨false, true, false, p.v, true, false, p.w⟩ = r at *
  obtain ⟨ap, cp, hlp, _⟩ := hi.lies.slice
  have HN : Hid _ := PS.new w p 29 35
  clear hi
  unfold PT.val Sp.val at *
  rw [hlp, h]
  rw [pobj, hlp, h] at HN
  clear hlp h
  go_enter Tryd.func32, Tryd.ntmps32
  go_wp2_with fail
  refine Calls.mono (CF.out _) ?_
  rintro e w1 ⟨rfl, hb⟩
  have HX : Hid (PS w p w1) := HN.out.below hb
  obtain ⟨z0, z1, z2, z3, z4, z5, z6, z7, z8, z9, z10⟩ := HX.out.pz
  obtain ⟨lz, fz⟩ := HX.out.fz
  clear hb HN CF
  go_wp2_with fail
  refine bodyPost_ret (v := r.val) (by simp [results, Tryd.results32, go_sem, Sp.val, z0, z1, z2, z3, z4, z5, z6, z7, z8, z9, z10]) rfl ⟨rfl, ?_⟩
  repeat (refine set_below ?_ (by omega) _)
  exact HX.out.be
theorem bf {a b : Int} (h : a ≠ b) : (a == b) = false := by rw [beq_eq_false_iff_ne]; exact h
theorem btw_zz (e : En) : btw En.zero e = ⟨false, false, false, Val.zero, e.has, e.op, e.x⟩ := by unfold btw apartE; rw [isZ_zero]; rfl
theorem btw_z (e : En) : btw e En.zero = ⟨false, e.has, e.op, e.x, false, false, Val.zero⟩ := by unfold btw apartE; rw [isZ_zero, Bool.or_true]; rfl
theorem rspan_leaf (p : PT) (h2 : p.op ≠ 2) (h11 : p.op ≠ 11) (h12 : p.op ≠ 12) (hc : ¬ p.col ≠ 0) (w : World) (hi : In w p) : Calls Tryd.prog 32 #[p.val] w fun e w' => e = .returned (leafS p.op p.v p.w).val ∧ Below w.heap.size w w' := by
  have hc' : (p.col != 0) = false := by simpa using hc
  unfold leafS
  by_cases h3 : p.op = 3
  · have e : btw (closedE p.v) (closedE p.v) = ⟨false, true, false, p.v, true, false, p.v⟩ := by
      unfold btw apartE
      rw [isZ_closed]
      show (if (!(false || false) && sideB (cmpX p.v p.v) false) = true then Sp.none else _) = _
      rw [selfX]; rfl
    rw [if_pos h3, e]; exact rspan_3 p w hi h3 hc'
  rw [if_neg h3]
  by_cases h5 : p.op = 5
  · rw [if_pos h5, btw_zz]; exact rspan_5 p w hi h5 hc'
  rw [if_neg h5]
  by_cases h6 : p.op = 6
  · rw [if_pos h6, btw_zz]; exact rspan_6 p w hi h6 hc'
  rw [if_neg h6]
  by_cases h7 : p.op = 7
  · rw [if_pos h7, btw_z]; exact rspan_7 p w hi h7 hc'
  rw [if_neg h7]
  by_cases h8 : p.op = 8
  · rw [if_pos h8, btw_z]; exact rspan_8 p w hi h8 hc'
  rw [if_neg h8]
  by_cases h9 : p.op = 9
  · rw [if_pos h9]; exact rspan_9 p w hi h9 hc'
  rw [if_neg h9]
  exact rspan_none p w hi (bf h2) (bf h11) (bf h12) hc' (bf h3) (bf h5) (bf h6) (bf h7) (bf h8) (bf h9)
end Go.Proofs.YtfkhfplibhnceaaDoor.Val
/- What the reference's span answers of lists. -/
namespace Go.Proofs.YtfkhfplibhnceaaDoor.Val
open Go.RowKit

/-- A predicate's box, the answer's, and that of what is so far. -/
structure SL (w0 : World) (M : Nat) (p : PT) (s : Sp) (w : World) : Prop where
  pb : Box w w0.heap.size p
  pz : SBox w (w0.heap.size + 1) Sp.all
  fz : Fr w (w0.heap.size + 1)
  sb : SBox w M s
  fs : Fr w M
  lm : w0.heap.size + 1 < M
  be : Below w0.heap.size w0 w
theorem SL.below {w0 w w' : World} {M : Nat} {p : PT} {s : Sp} (h : SL w0 M p s w) (hb : Below w.heap.size w w') : SL w0 M p s w' := ⟨h.pb.below hb, h.pz.below hb, h.fz.below hb, h.sb.below hb, h.fs.below hb, h.lm, on h.be hb⟩
theorem Box.offS {w : World} {b c : Nat} {p : PT} (h : Box w b p) (t : Sp) (hne : c ≠ b) : Box (setS w c t) b p := by
  obtain ⟨c0, c1, c2, c3, c4, c5, c6, c7, c8⟩ := h
  constructor <;> (repeat (refine cell_far ?_ hne)) <;> assumption
theorem SL.put {w0 w : World} {M : Nat} {p : PT} {s : Sp} (h : SL w0 M p s w) (x : Sp) : SL w0 M p x (setS w M x) :=
  ⟨h.pb.offS x (by have := h.lm; omega), h.pz.offS x (by have := h.lm; omega), h.fz.setS x, h.sb.put x, h.fs.setS x, h.lm, below_setS h.be (by have := h.lm; omega) x⟩
theorem fold_take (f : Sp → Sp → Sp) (e : Sp) (ks : List Sp) (k : Nat) (hk : k < ks.length) : (ks.take (k + 1)).foldl f e = f ((ks.take k).foldl f e) ks[k] := by
  rw [List.take_add_one, List.getElem?_eq_getElem hk, List.foldl_append]; rfl
set_option maxRecDepth 100000 in
set_option maxHeartbeats 8000000 in
theorem rspan_11 (p : PT) (h : p.op = 11) (hne : p.l ≠ []) (ih : ∀ q ∈ p.l, RSpanOk q) (w : World) (hi : In w p) : Calls Tryd.prog 32 #[p.val] w fun e w' => e = .returned ((p.l.map keysP).foldl meetS Sp.all).val ∧ Below w.heap.size w w' := by
  have hlie := hi.lies
  obtain ⟨ap, cp, hlp, hln⟩ := hlie.slice
  have hpos : 0 < p.l.length := List.length_pos_iff.2 hne
  have HI : Hid (In w p ∧ ∀ q ∈ p.l, RSpanOk q) := ⟨hi, ih⟩
  have HLV : Hid (p.lv = .slice ap p.l.length cp) := hlp
  have HO : Hid (p.op = 11) := h
  rw [hlp] at hlie
  obtain ⟨b, o, rfl, hat⟩ := lies_at hlie 0 hpos
  rw [Nat.zero_mul, Nat.add_zero] at hat
  have hm := List.getElem_mem hpos
  have HQ : Hid (∀ w1, Below w.heap.size w w1 → Calls Tryd.prog 32 #[p.l[0].val] w1 fun e w' => e = .returned (keysP p.l[0]).val ∧ Below w1.heap.size w1 w') := fun w1 hb => ih _ hm w1 ((hi.part _ hm).keep hb)
  have HN : Hid _ := PS.new w p 29 35
  have A : ∀ o1 o2, At ((w.alloc o1).alloc o2) b o p.l[0] := fun o1 o2 => (hat.below (alloc1 _ _)).below (alloc1 _ _)
  have HA : Hid _ := A
  have HK : Hid ((((p.l.map keysP).take 1).foldl meetS Sp.all) = keysP p.l[0]) := by
    have := fold_take meetS Sp.all (p.l.map keysP) 0 (by simpa using hpos)
    rw [Hid, this]
    simp only [List.take_zero, List.foldl_nil, List.getElem_map]
    rw [meet_all, clean_keys]
  obtain ⟨k0, hk0⟩ : ∃ k0, keysP p.l[0] = k0 := ⟨_, rfl⟩
  rw [hk0] at HQ HK
  have n0 : (0 : Int) < (p.l.length : Int) := by omega
  clear hi hlie hat ih hm A hne hk0
  unfold PT.val Sp.val at *
  rw [hlp, h]
  rw [pobj, hlp, h] at HN
  clear hlp h
  obtain ⟨c0, c1, c2, c3, c4, c5, c6, c7, c8⟩ := HA.out (.cells #[.int .i64 11, .int .i64 p.col, .bool p.v.t, .int .i64 p.v.n, .string p.v.s, .bool p.w.t, .int .i64 p.w.n, .string p.w.s, .slice (some ⟨b, o, none⟩) p.l.length cp] 29) (.cells #[.bool false, .bool false, .bool false, .bool false, .int .i64 0, .string ⟨#[]⟩, .bool false, .bool false, .bool false, .int .i64 0, .string ⟨#[]⟩] 35)
  go_enter Tryd.func32, Tryd.ntmps32
  go_wp2_with fail
  refine Calls.mono (HQ.out _ (back1 (alloc1 _ _))) ?_
  rintro e w1 ⟨rfl, hb⟩
  have HX : Hid (PS w p w1) := HN.out.below hb
  clear hb HN HQ HA c0 c1 c2 c3 c4 c5 c6 c7 c8
  obtain ⟨M, hM⟩ : ∃ M, w1.heap.size = M := ⟨_, rfl⟩
  have HS : Hid (SL w M p k0 (w1.alloc (sobj k0 35))) := by
    subst hM
    exact ⟨HX.out.pb.alloc _, HX.out.pz.alloc _, HX.out.fz.alloc _, SBox.new _ _ _, Fr.new _ _ _, HX.out.pz.lt, on HX.out.be (alloc1 _ _)⟩
  have HMM : Hid (w1.heap.size = M) := hM
  clear HX
  go_wp2_with fail
  (try rw [hM])
  clear hM
  go_loopw [4] (fun i wr => ∃ k : Nat, 1 ≤ k ∧ k ≤ p.l.length ∧ i = .int .i64 k ∧ Hid (SL w M p (((p.l.map keysP).take k).foldl meetS Sp.all) wr))
    (fun i _ => p.l.length - (intOf i).toNat)
  case atStart => exact ⟨1, Nat.le_refl _, hpos, rfl, by rw [HK.out]; exact HS⟩
  case round =>
    obtain ⟨k, hk1, hk, rfl, HB⟩ := hrel
    have hc8 := HB.out.pb.c8
    have hc0 := HB.out.pb.c0
    have hlt := HB.out.pb.lt
    rw [HLV.out] at hc8
    rw [HO.out] at hc0
    by_cases h1 : k < p.l.length
    · have i0 : (0 : Int) ≤ (k : Int) := by omega
      have i1 : (k : Int) < (p.l.length : Int) := by omega
      have hin : In wr p := HI.out.1.keep HB.out.be
      have hl := hin.lies
      rw [HLV.out] at hl
      obtain ⟨b, o, he, hat⟩ := lies_at hl k h1
      cases he
      have hm := List.getElem_mem h1
      obtain ⟨s, hs⟩ : ∃ s, ((p.l.map keysP).take k).foldl meetS Sp.all = s := ⟨_, rfl⟩
      obtain ⟨t, ht⟩ : ∃ t, keysP p.l[k] = t := ⟨_, rfl⟩
      have HQ : Hid (Calls Tryd.prog 32 #[p.l[k].val] wr fun e w' => e = .returned t.val ∧ Below wr.heap.size wr w') := by rw [← ht]; exact HI.out.2 _ hm wr (hin.part _ hm)
      have hsz : s.ok := by
        rw [← hs]
        refine ok_foldM _ _ okS_all fun x hx => ?_
        obtain ⟨q, hq, rfl⟩ := List.mem_map.1 (List.mem_of_mem_take hx)
        exact ok_keys q (HI.out.1.part q hq)
      have htz : t.ok := by rw [← ht]; exact ok_keys _ (hin.part _ hm)
      have HF : Hid (∀ w1, Calls Tryd.prog 20 #[s.val, t.val] w1 fun e w' => e = .returned (meetS s t).val ∧ Below w1.heap.size w1 w') := fun w1 => rmeet_any s t w1 hsz htz
      have HE : Hid (((p.l.map keysP).take (k + 1)).foldl meetS Sp.all = meetS s t) := by
        rw [Hid, fold_take meetS Sp.all (p.l.map keysP) k (by simpa using h1), hs, List.getElem_map, ht]
      rw [hs] at HB
      generalize meetS s t = u at *
      clear hm hl hin hs ht hsz htz
      obtain ⟨c0, c1, c2, c3, c4, c5, c6, c7, c8⟩ := hat
      unfold PT.val at HQ
      unfold Sp.val at HQ HF
      go_wp2_with fail
      refine Calls.mono HQ.out ?_
      rintro e w2 ⟨rfl, hb⟩
      have HB2 : Hid (SL w M p s w2) := HB.out.below hb
      have HT2 : Hid (SBox (w2.alloc (sobj t 35)) w2.heap.size t) := SBox.new _ _ _
      clear hb HB HQ c0 c1 c2 c3 c4 c5 c6 c7 c8 hc8 hc0 hlt
      have d0 := HB2.out.pb.c0
      rw [HO.out] at d0
      obtain ⟨s0, s1, s2, s3, s4, s5, s6, s7, s8, s9, s10⟩ := HB2.out.sb
      have l1 := HB2.out.pb.lt
      have l2 := HB2.out.sb.lt
      go_wp2_with fail
      refine Calls.mono (HF.out _) ?_
      rintro e w3 ⟨rfl, hb⟩
      have HB3 : Hid (SL w M p s w3) := (HB2.out.below (alloc1 _ _)).below hb
      clear hb HB2 HT2 HF d0 s0 s1 s2 s3 s4 s5 s6 s7 s8 s9 s10 l1 l2
      obtain ⟨s0, s1, s2, s3, s4, s5, s6, s7, s8, s9, s10⟩ := HB3.out.sb
      obtain ⟨lz, fz⟩ := HB3.out.fs
      have HB4 : Hid (SL w M p u (setS w3 M u)) := HB3.out.put u
      clear HB3
      go_wp2_with fail
      go_roundw
      case rel => exact ⟨k + 1, by omega, by omega, by go_num, by rw [HE.out]; exact HB4⟩
      case measure => simp [intOf]; omega
    · have i1 : decide ((k : Int) < (p.l.length : Int)) = false := by simp; omega
      obtain rfl : k = p.l.length := by omega
      have e : (p.l.map keysP).take p.l.length = p.l.map keysP := List.take_of_length_le (by simp)
      rw [e] at HB
      obtain ⟨r, hr⟩ : ∃ r, (p.l.map keysP).foldl meetS Sp.all = r := ⟨_, rfl⟩
      rw [hr] at HB
      have HR : Hid ((p.l.map keysP).foldl meetS Sp.all = r) := hr
      clear hr
      obtain ⟨s0, s1, s2, s3, s4, s5, s6, s7, s8, s9, s10⟩ := HB.out.sb
      obtain ⟨z0, z1, z2, z3, z4, z5, z6, z7, z8, z9, z10⟩ := HB.out.pz
      obtain ⟨lz, fz⟩ := HB.out.fz
      have l2 := HB.out.sb.lt
      have HB1 : Hid (Below w.heap.size w wr) := HB.out.be
      clear HI HB HS HK e
      go_wp2_with fail
      refine bodyPost_ret (v := r.val) (by simp [results, Tryd.results32, go_sem, Sp.val, z0, z1, z2, z3, z4, z5, z6, z7, z8, z9, z10]) rfl ⟨by have h := HR.out; subst h; rfl, ?_⟩
      repeat (refine set_below ?_ (by omega) _)
      exact HB1.out
set_option maxRecDepth 100000 in
set_option maxHeartbeats 8000000 in
theorem rspan_12 (p : PT) (h : p.op = 12) (hne : p.l ≠ []) (ih : ∀ q ∈ p.l, RSpanOk q) (w : World) (hi : In w p) : Calls Tryd.prog 32 #[p.val] w fun e w' => e = .returned ((p.l.map keysP).foldl hullS Sp.none).val ∧ Below w.heap.size w w' := by
  have hlie := hi.lies
  obtain ⟨ap, cp, hlp, hln⟩ := hlie.slice
  have hpos : 0 < p.l.length := List.length_pos_iff.2 hne
  have HI : Hid (In w p ∧ ∀ q ∈ p.l, RSpanOk q) := ⟨hi, ih⟩
  have HLV : Hid (p.lv = .slice ap p.l.length cp) := hlp
  have HO : Hid (p.op = 12) := h
  rw [hlp] at hlie
  obtain ⟨b, o, rfl, hat⟩ := lies_at hlie 0 hpos
  rw [Nat.zero_mul, Nat.add_zero] at hat
  have hm := List.getElem_mem hpos
  have HQ : Hid (∀ w1, Below w.heap.size w w1 → Calls Tryd.prog 32 #[p.l[0].val] w1 fun e w' => e = .returned (keysP p.l[0]).val ∧ Below w1.heap.size w1 w') := fun w1 hb => ih _ hm w1 ((hi.part _ hm).keep hb)
  have HN : Hid _ := PS.new w p 29 35
  have A : ∀ o1 o2, At ((w.alloc o1).alloc o2) b o p.l[0] := fun o1 o2 => (hat.below (alloc1 _ _)).below (alloc1 _ _)
  have HA : Hid _ := A
  have HK : Hid ((((p.l.map keysP).take 1).foldl hullS Sp.none) = keysP p.l[0]) := by
    have := fold_take hullS Sp.none (p.l.map keysP) 0 (by simpa using hpos)
    rw [Hid, this]
    simp only [List.take_zero, List.foldl_nil, List.getElem_map]
    rw [hull_none, clean_keys]
  obtain ⟨k0, hk0⟩ : ∃ k0, keysP p.l[0] = k0 := ⟨_, rfl⟩
  rw [hk0] at HQ HK
  have n0 : (0 : Int) < (p.l.length : Int) := by omega
  clear hi hlie hat ih hm A hne hk0
  unfold PT.val Sp.val at *
  rw [hlp, h]
  rw [pobj, hlp, h] at HN
  clear hlp h
  obtain ⟨c0, c1, c2, c3, c4, c5, c6, c7, c8⟩ := HA.out (.cells #[.int .i64 12, .int .i64 p.col, .bool p.v.t, .int .i64 p.v.n, .string p.v.s, .bool p.w.t, .int .i64 p.w.n, .string p.w.s, .slice (some ⟨b, o, none⟩) p.l.length cp] 29) (.cells #[.bool false, .bool false, .bool false, .bool false, .int .i64 0, .string ⟨#[]⟩, .bool false, .bool false, .bool false, .int .i64 0, .string ⟨#[]⟩] 35)
  go_enter Tryd.func32, Tryd.ntmps32
  go_wp2_with fail
  refine Calls.mono (HQ.out _ (back1 (alloc1 _ _))) ?_
  rintro e w1 ⟨rfl, hb⟩
  have HX : Hid (PS w p w1) := HN.out.below hb
  clear hb HN HQ HA c0 c1 c2 c3 c4 c5 c6 c7 c8
  obtain ⟨M, hM⟩ : ∃ M, w1.heap.size = M := ⟨_, rfl⟩
  have HS : Hid (SL w M p k0 (w1.alloc (sobj k0 35))) := by
    subst hM
    exact ⟨HX.out.pb.alloc _, HX.out.pz.alloc _, HX.out.fz.alloc _, SBox.new _ _ _, Fr.new _ _ _, HX.out.pz.lt, on HX.out.be (alloc1 _ _)⟩
  have HMM : Hid (w1.heap.size = M) := hM
  clear HX
  go_wp2_with fail
  (try rw [hM])
  clear hM
  go_loopw [4] (fun i wr => ∃ k : Nat, 1 ≤ k ∧ k ≤ p.l.length ∧ i = .int .i64 k ∧ Hid (SL w M p (((p.l.map keysP).take k).foldl hullS Sp.none) wr))
    (fun i _ => p.l.length - (intOf i).toNat)
  case atStart => exact ⟨1, Nat.le_refl _, hpos, rfl, by rw [HK.out]; exact HS⟩
  case round =>
    obtain ⟨k, hk1, hk, rfl, HB⟩ := hrel
    have hc8 := HB.out.pb.c8
    have hc0 := HB.out.pb.c0
    have hlt := HB.out.pb.lt
    rw [HLV.out] at hc8
    rw [HO.out] at hc0
    by_cases h1 : k < p.l.length
    · have i0 : (0 : Int) ≤ (k : Int) := by omega
      have i1 : (k : Int) < (p.l.length : Int) := by omega
      have hin : In wr p := HI.out.1.keep HB.out.be
      have hl := hin.lies
      rw [HLV.out] at hl
      obtain ⟨b, o, he, hat⟩ := lies_at hl k h1
      cases he
      have hm := List.getElem_mem h1
      obtain ⟨s, hs⟩ : ∃ s, ((p.l.map keysP).take k).foldl hullS Sp.none = s := ⟨_, rfl⟩
      obtain ⟨t, ht⟩ : ∃ t, keysP p.l[k] = t := ⟨_, rfl⟩
      have HQ : Hid (Calls Tryd.prog 32 #[p.l[k].val] wr fun e w' => e = .returned t.val ∧ Below wr.heap.size wr w') := by rw [← ht]; exact HI.out.2 _ hm wr (hin.part _ hm)
      have hsz : s.ok := by
        rw [← hs]
        refine ok_foldH _ _ ok_none fun x hx => ?_
        obtain ⟨q, hq, rfl⟩ := List.mem_map.1 (List.mem_of_mem_take hx)
        exact ok_keys q (HI.out.1.part q hq)
      have htz : t.ok := by rw [← ht]; exact ok_keys _ (hin.part _ hm)
      have HF : Hid (∀ w1, Calls Tryd.prog 22 #[s.val, t.val] w1 fun e w' => e = .returned (hullS s t).val ∧ Below w1.heap.size w1 w') := fun w1 => rhull_any s t w1 hsz htz
      have HE : Hid (((p.l.map keysP).take (k + 1)).foldl hullS Sp.none = hullS s t) := by
        rw [Hid, fold_take hullS Sp.none (p.l.map keysP) k (by simpa using h1), hs, List.getElem_map, ht]
      rw [hs] at HB
      generalize hullS s t = u at *
      clear hm hl hin hs ht hsz htz
      obtain ⟨c0, c1, c2, c3, c4, c5, c6, c7, c8⟩ := hat
      unfold PT.val at HQ
      unfold Sp.val at HQ HF
      go_wp2_with fail
      refine Calls.mono HQ.out ?_
      rintro e w2 ⟨rfl, hb⟩
      have HB2 : Hid (SL w M p s w2) := HB.out.below hb
      have HT2 : Hid (SBox (w2.alloc (sobj t 35)) w2.heap.size t) := SBox.new _ _ _
      clear hb HB HQ c0 c1 c2 c3 c4 c5 c6 c7 c8 hc8 hc0 hlt
      have d0 := HB2.out.pb.c0
      rw [HO.out] at d0
      obtain ⟨s0, s1, s2, s3, s4, s5, s6, s7, s8, s9, s10⟩ := HB2.out.sb
      have l1 := HB2.out.pb.lt
      have l2 := HB2.out.sb.lt
      go_wp2_with fail
      refine Calls.mono (HF.out _) ?_
      rintro e w3 ⟨rfl, hb⟩
      have HB3 : Hid (SL w M p s w3) := (HB2.out.below (alloc1 _ _)).below hb
      clear hb HB2 HT2 HF d0 s0 s1 s2 s3 s4 s5 s6 s7 s8 s9 s10 l1 l2
      obtain ⟨s0, s1, s2, s3, s4, s5, s6, s7, s8, s9, s10⟩ := HB3.out.sb
      obtain ⟨lz, fz⟩ := HB3.out.fs
      have HB4 : Hid (SL w M p u (setS w3 M u)) := HB3.out.put u
      clear HB3
      go_wp2_with fail
      go_roundw
      case rel => exact ⟨k + 1, by omega, by omega, by go_num, by rw [HE.out]; exact HB4⟩
      case measure => simp [intOf]; omega
    · have i1 : decide ((k : Int) < (p.l.length : Int)) = false := by simp; omega
      obtain rfl : k = p.l.length := by omega
      have e : (p.l.map keysP).take p.l.length = p.l.map keysP := List.take_of_length_le (by simp)
      rw [e] at HB
      obtain ⟨r, hr⟩ : ∃ r, (p.l.map keysP).foldl hullS Sp.none = r := ⟨_, rfl⟩
      rw [hr] at HB
      have HR : Hid ((p.l.map keysP).foldl hullS Sp.none = r) := hr
      clear hr
      obtain ⟨s0, s1, s2, s3, s4, s5, s6, s7, s8, s9, s10⟩ := HB.out.sb
      obtain ⟨z0, z1, z2, z3, z4, z5, z6, z7, z8, z9, z10⟩ := HB.out.pz
      obtain ⟨lz, fz⟩ := HB.out.fz
      have l2 := HB.out.sb.lt
      have HB1 : Hid (Below w.heap.size w wr) := HB.out.be
      clear HI HB HS HK e
      go_wp2_with fail
      refine bodyPost_ret (v := r.val) (by simp [results, Tryd.results32, go_sem, Sp.val, z0, z1, z2, z3, z4, z5, z6, z7, z8, z9, z10]) rfl ⟨by have h := HR.out; subst h; rfl, ?_⟩
      repeat (refine set_below ?_ (by omega) _)
      exact HB1.out
theorem rspan_ok {cols : List Bool} (p : PT) : Good cols p → RSpanOk p := by
  induction p using PT.ind with
  | h p ih =>
    intro hg w hi
    have ih' : ∀ q ∈ p.l, RSpanOk q := fun q hq => ih q hq (hg.part q hq)
    have hne : p.op = 11 ∨ p.op = 12 → p.l ≠ [] := fun h => by
      rcases suit_cases hg.suit with ⟨h', hl⟩ | ⟨h', hl, ho⟩ | ⟨h', hl, ho, ho'⟩ | ⟨h', q, hl⟩ | ⟨h', hl⟩
      · omega
      · omega
      · omega
      · omega
      · exact hl
    rw [keys_mk]
    by_cases h2 : p.op = 2
    · rw [if_pos h2]; exact rspan_2 p w hi h2
    rw [if_neg h2]
    by_cases h11 : p.op = 11
    · rw [if_pos h11]; exact rspan_11 p h11 (hne (.inl h11)) ih' w hi
    rw [if_neg h11]
    by_cases h12 : p.op = 12
    · rw [if_pos h12]; exact rspan_12 p h12 (hne (.inr h12)) ih' w hi
    rw [if_neg h12]
    by_cases hc : p.col ≠ 0
    · rw [if_pos hc]; exact rspan_far p w hi (bf h2) (bf h11) (bf h12) (by simpa using hc)
    · rw [if_neg hc]; exact rspan_leaf p h2 h11 h12 hc w hi
end Go.Proofs.YtfkhfplibhnceaaDoor.Val
