/- What keys, Normal and Keys of package normal answer. -/
import Derived.Test.YtfkhfplibhnceaaDoorNormKeysC
namespace Go.Proofs.YtfkhfplibhnceaaDoor.Val
open Go.RowKit

set_option maxHeartbeats 4000000 in
theorem keys_11 (p : PT) (h : p.op = 11) (w : World) (hi : In w p) (r : Sp) (H0 : ∀ w1, Below w.heap.size w w1 → Calls Tryd.prog 52 #[p.lv, Sp.all.val, FV 53 #[] #[]] w1 fun e w' => e = .returned r.val ∧ Below w1.heap.size w1 w') : Calls Tryd.prog 31 #[p.val] w fun e w' => e = .returned r.val ∧ Below w.heap.size w w' := by
  have H1 : Hid _ := H0
  obtain ⟨ap, cp, hlp, _⟩ := hi.lies.slice
  have HN : Hid _ := PS.new w p 29 35
  clear H0 hi
  unfold PT.val Sp.val at *
  simp only [Sp.all, Val.zero] at H1
  rw [hlp, h]
  rw [hlp] at H1
  rw [pobj, hlp, h] at HN
  clear hlp h
  go_enter Tryd.func31, Tryd.ntmps31
  go_wp2_with fail
  refine Calls.mono (H1.out _ (back1 (alloc1 _ _))) ?_
  rintro e w1 ⟨rfl, hb⟩
  have HX : Hid (PS w p w1) := HN.out.below hb
  obtain ⟨z0, z1, z2, z3, z4, z5, z6, z7, z8, z9, z10⟩ := HX.out.pz
  obtain ⟨lz, fz⟩ := HX.out.fz
  clear hb HN H1
  go_wp2_with fail
  refine bodyPost_ret (v := r.val) (by simp [results, Tryd.results31, go_sem, Sp.val, z0, z1, z2, z3, z4, z5, z6, z7, z8, z9, z10]) rfl ⟨rfl, ?_⟩
  repeat (refine set_below ?_ (by omega) _)
  exact HX.out.be
set_option maxHeartbeats 4000000 in
theorem keys_12 (p : PT) (h : p.op = 12) (w : World) (hi : In w p) (r : Sp) (H0 : ∀ w1, Below w.heap.size w w1 → Calls Tryd.prog 52 #[p.lv, Sp.none.val, FV 54 #[] #[]] w1 fun e w' => e = .returned r.val ∧ Below w1.heap.size w1 w') : Calls Tryd.prog 31 #[p.val] w fun e w' => e = .returned r.val ∧ Below w.heap.size w w' := by
  have H1 : Hid _ := H0
  obtain ⟨ap, cp, hlp, _⟩ := hi.lies.slice
  have HN : Hid _ := PS.new w p 29 35
  clear H0 hi
  unfold PT.val Sp.val at *
  simp only [Sp.none, Val.zero] at H1
  rw [hlp, h]
  rw [hlp] at H1
  rw [pobj, hlp, h] at HN
  clear hlp h
  go_enter Tryd.func31, Tryd.ntmps31
  go_wp2_with fail
  refine Calls.mono (H1.out _ (back1 (alloc1 _ _))) ?_
  rintro e w1 ⟨rfl, hb⟩
  have HX : Hid (PS w p w1) := HN.out.below hb
  obtain ⟨z0, z1, z2, z3, z4, z5, z6, z7, z8, z9, z10⟩ := HX.out.pz
  obtain ⟨lz, fz⟩ := HX.out.fz
  clear hb HN H1
  go_wp2_with fail
  refine bodyPost_ret (v := r.val) (by simp [results, Tryd.results31, go_sem, Sp.val, z0, z1, z2, z3, z4, z5, z6, z7, z8, z9, z10]) rfl ⟨rfl, ?_⟩
  repeat (refine set_below ?_ (by omega) _)
  exact HX.out.be
set_option maxHeartbeats 2000000 in
theorem keys_2 (p : PT) (h : p.op = 2) (w : World) (hi : In w p) : Calls Tryd.prog 31 #[p.val] w fun e w' => e = .returned Sp.none.val ∧ Below w.heap.size w w' := by
  obtain ⟨ap, cp, hlp, _⟩ := hi.lies.slice
  clear hi
  unfold PT.val
  rw [hlp, h]
  clear hlp h
  go_enter Tryd.func31, Tryd.ntmps31
  go_wp2_with fail
  refine bodyPost_ret (v := Sp.none.val) (by simp [results, Tryd.results31, go_sem, Sp.val, Sp.none, Val.zero]) rfl ⟨rfl, ?_⟩
  exact back1 (alloc1 _ _)
set_option maxHeartbeats 2000000 in
theorem keys_far (p : PT) (w : World) (hi : In w p) (h2 : (p.op == 2) = false) (h11 : (p.op == 11) = false) (h12 : (p.op == 12) = false) (hc : (p.col != 0) = true) : Calls Tryd.prog 31 #[p.val] w fun e w' => e = .returned Sp.all.val ∧ Below w.heap.size w w' := by
  obtain ⟨ap, cp, hlp, _⟩ := hi.lies.slice
  clear hi
  unfold PT.val
  rw [hlp]
  clear hlp
  go_enter Tryd.func31, Tryd.ntmps31
  go_wp2_with fail
  refine bodyPost_ret (v := Sp.all.val) (by simp [results, Tryd.results31, go_sem, Sp.val, Sp.all, Val.zero]) rfl ⟨rfl, ?_⟩
  exact back1 (alloc1 _ _)
set_option maxHeartbeats 2000000 in
theorem keys_leaf (p : PT) (w : World) (hi : In w p) (h2 : (p.op == 2) = false) (h11 : (p.op == 11) = false) (h12 : (p.op == 12) = false) (hc : (p.col != 0) = false) : Calls Tryd.prog 31 #[p.val] w fun e w' => e = .returned (leafS p.op p.v p.w).val ∧ Below w.heap.size w w' := by
  have H1 : Hid (∀ w1, Below w.heap.size w w1 → Calls Tryd.prog 55 #[p.val] w1 fun e w' => e = .returned (leafS p.op p.v p.w).val ∧ Below w1.heap.size w1 w') := fun w1 hb => leaf_any p w1 (hi.keep hb)
  generalize leafS p.op p.v p.w = r at *
  obtain ⟨ap, cp, hlp, _⟩ := hi.lies.slice
  have HN : Hid _ := PS.new w p 29 35
  clear hi
  unfold PT.val Sp.val at *
  rw [hlp] at H1 ⊢
  rw [pobj, hlp] at HN
  clear hlp
  go_enter Tryd.func31, Tryd.ntmps31
  go_wp2_with fail
  refine Calls.mono (H1.out _ (back1 (alloc1 _ _))) ?_
  rintro e w1 ⟨rfl, hb⟩
  have HX : Hid (PS w p w1) := HN.out.below hb
  obtain ⟨z0, z1, z2, z3, z4, z5, z6, z7, z8, z9, z10⟩ := HX.out.pz
  obtain ⟨lz, fz⟩ := HX.out.fz
  clear hb HN H1
  go_wp2_with fail
  refine bodyPost_ret (v := r.val) (by simp [results, Tryd.results31, go_sem, Sp.val, z0, z1, z2, z3, z4, z5, z6, z7, z8, z9, z10]) rfl ⟨rfl, ?_⟩
  repeat (refine set_below ?_ (by omega) _)
  exact HX.out.be
theorem keys_ok (p : PT) : KeysOk p := by
  induction p using PT.ind with
  | h p ih =>
    intro w hi
    rw [keys_mk]
    by_cases h2 : p.op = 2
    · rw [if_pos h2]; exact keys_2 p h2 w hi
    rw [if_neg h2]
    by_cases h11 : p.op = 11
    · rw [if_pos h11, foldM_map]
      exact keys_11 p h11 w hi _ fun w1 hb => together_any _ enters_k1 (fun s q => meetS s (keysP q)) p.lv p.l Sp.all w1 (hi.list.below hb) fun s q hq w2 hi2 => two_meet s q (ih q hq) w2 hi2
    rw [if_neg h11]
    by_cases h12 : p.op = 12
    · rw [if_pos h12, foldH_map]
      exact keys_12 p h12 w hi _ fun w1 hb => together_any _ enters_k2 (fun s q => hullS s (keysP q)) p.lv p.l Sp.none w1 (hi.list.below hb) fun s q hq w2 hi2 => two_hull s q (ih q hq) w2 hi2
    rw [if_neg h12]
    by_cases hc : p.col ≠ 0
    · rw [if_pos hc]; exact keys_far p w hi (by simpa using h2) (by simpa using h11) (by simpa using h12) (by simpa using hc)
    · rw [if_neg hc]; exact keys_leaf p w hi (by simpa using h2) (by simpa using h11) (by simpa using h12) (by simpa using hc)
/-- A table's box, a predicate's, and the answer's. -/
structure TPZ (w0 : World) (vc : Value) (p : PT) (w : World) : Prop where
  pt : w.cell? ⟨w0.heap.size, 0, none⟩ = some vc
  pb : Box w (w0.heap.size + 1) p
  pz : Box w (w0.heap.size + 1 + 1) PT.zero
  fz : Fr w (w0.heap.size + 1 + 1)
  be : Below w0.heap.size w0 w
theorem TPZ.below {w0 w w' : World} {vc : Value} {p : PT} (h : TPZ w0 vc p w) (hb : Below w.heap.size w w') : TPZ w0 vc p w' := ⟨cell_below h.pt hb, h.pb.below hb, h.pz.below hb, h.fz.below hb, on h.be hb⟩
theorem TPZ.new (w : World) (vc : Value) (p : PT) (T1 T2 T3 : TypeId) : TPZ w vc p (((w.alloc (.cells #[vc] T1)).alloc (pobj p T2)).alloc (pobj PT.zero T3)) := by
  refine ⟨cell_alloc (cell_alloc (cell_new _ _ _) _) _, ?_, ?_, ?_, back2 (alloc1 _ _)⟩
  · have := (Box.new (w.alloc (.cells #[vc] T1)) p T2).alloc (pobj PT.zero T3); simpa using this
  · have := Box.new ((w.alloc (.cells #[vc] T1)).alloc (pobj p T2)) PT.zero T3; simpa using this
  · have := Fr.new ((w.alloc (.cells #[vc] T1)).alloc (pobj p T2)) #[.int .i64 PT.zero.op, .int .i64 PT.zero.col, .bool PT.zero.v.t, .int .i64 PT.zero.v.n, .string PT.zero.v.s, .bool PT.zero.w.t, .int .i64 PT.zero.w.n, .string PT.zero.w.s, PT.zero.lv] T3; simpa using this
set_option maxHeartbeats 4000000 in
theorem normal_any (vc : Value) (cols : List Bool) (p : PT) (w : World) (hbo : BoolsIn w vc cols) (hi : In w p) (hT : Tab w) (hs : p.size ≤ 1000000) :
    Calls Tryd.prog 13 #[.agg #[vc], p.val] w fun e w' => ∃ q : PT, e = .returned q.val ∧ q.bare = normP cols p ∧ Nw w' TP (fun b => w.heap.size ≤ b) q ∧ Below w.heap.size w w' := by
  have H1 : Hid (∀ w1, Below w.heap.size w w1 → Calls Tryd.prog 28 #[.agg #[vc], p.val] w1 fun e w' => e = .returned (.int .i64 (checkN cols p)) ∧ Below w1.heap.size w1 w') := fun w1 hb => pcheck_any vc cols p w1 (hbo.below hb) (hi.keep hb) hs
  have H2 : Hid (checkN cols p = 0 → ∀ w1, Below w.heap.size w w1 → Calls Tryd.prog 29 #[p.val] w1 fun e w' => ∃ q : PT, e = .returned q.val ∧ q.bare = (pushP p false).bare ∧ Nw w' TP (fun b => w1.heap.size ≤ b) q ∧ Below w1.heap.size w1 w') := fun h w1 hb => (push_ok p (check_iff.1 h).2.2 hs).1 w1 (hi.keep hb) (hT.below hb)
  have HM : Hid (normP cols p = if checkN cols p = 0 then pushP p false else lfN 2 0 Val.zero Val.zero) := rfl
  generalize checkN cols p = c at *
  generalize normP cols p = n at *
  obtain ⟨ap, cp, hlp, _⟩ := hi.lies.slice
  obtain ⟨ac, cc, rfl, _⟩ := hbo.slice
  have HN : Hid _ := TPZ.new w (.slice ac cols.length cc) p 24 29 29
  have HLP : Hid (p.lv = .slice ap p.l.length cp) := hlp
  clear hi hbo hT hs
  unfold PT.val at *
  rw [hlp] at H1 H2 ⊢
  rw [pobj, hlp] at HN
  clear hlp
  go_enter Tryd.func13, Tryd.ntmps13
  go_wp2_with fail
  refine Calls.mono (H1.out _ (back2 (alloc1 _ _))) ?_
  rintro e w1 ⟨rfl, hb⟩
  have HX : Hid (TPZ w (.slice ac cols.length cc) p w1) := HN.out.below hb
  clear hb HN H1
  obtain ⟨pt, ⟨b0, b1, b2, b3, b4, b5, b6, b7, b8⟩, ⟨z0, z1, z2, z3, z4, z5, z6, z7, z8⟩, ⟨lz, fz⟩, _⟩ := HX.out
  rw [HLP.out] at b8
  by_cases hc : c = 0
  · subst hc
    have HQ : Hid _ := H2.out rfl w1 HX.out.be
    have HB : Hid (n.bare = (pushP p false).bare) := by rw [Hid, HM.out]; simp
    have HE : Hid ((pushP p false).bare = n) := by rw [Hid, HM.out]; simp [push_bare]
    clear H2 HM HB
    go_wp2_with fail
    refine Calls.mono HQ.out ?_
    rintro e w2 ⟨q, rfl, hqb, hqn, hb⟩
    have HX2 : Hid (TPZ w (.slice ac cols.length cc) p w2) := HX.out.below hb
    have HR : Hid (q.bare = n ∧ Nw w2 TP (fun b => w.heap.size + 1 + 1 < b) q) := ⟨hqb.trans HE.out, hqn.imp fun b h _ => by have := HX.out.fz.1; omega⟩
    obtain ⟨aq, cq, hlq⟩ := hqn.slice
    have HLQ : Hid (q.lv = .slice aq q.l.length cq) := hlq
    rw [hlq]
    clear hlq hqb hqn hb HQ HE HX pt b0 b1 b2 b3 b4 b5 b6 b7 b8 z0 z1 z2 z3 z4 z5 z6 z7 z8 lz fz
    obtain ⟨_, _, ⟨z0, z1, z2, z3, z4, z5, z6, z7, z8⟩, ⟨lz, fz⟩, _⟩ := HX2.out
    go_wp2_with fail
    refine bodyPost_ret (v := q.val) (by simp [results, Tryd.results13, go_sem, PT.val, HLQ.out, z0, z1, z2, z3, z4, z5, z6, z7, z8]) rfl ⟨q, rfl, HR.out.1, ?_, ?_⟩
    · refine Nw.imp (P := fun b => w.heap.size + 1 + 1 < b) ?_ (fun b hb _ => by omega)
      repeat (refine nw_set ?_ (fun x hx => by omega))
      exact HR.out.2
    · repeat (refine set_below ?_ (by omega) _)
      exact HX2.out.be
  · have e1 : (c != 0) = true := by simpa using hc
    have HE : Hid (n = lfN 2 0 Val.zero Val.zero) := by rw [Hid, HM.out]; simp [hc]
    clear H2 HM hc
    go_wp2_with fail
    refine bodyPost_ret (v := (lfN 2 0 Val.zero Val.zero).val) (by simp [results, Tryd.results13, go_sem, PT.val, lfN, Val.zero, z0, z1, z2, z3, z4, z5, z6, z7, z8]) rfl ⟨lfN 2 0 Val.zero Val.zero, rfl, by rw [HE.out, lfN_bare], Nw.leaf _ _ _ _ _ _ _ (by decide) (by decide), ?_⟩
    repeat (refine set_below ?_ (by omega) _)
    exact HX.out.be
set_option maxHeartbeats 4000000 in
theorem pkeys_any (vc : Value) (cols : List Bool) (p : PT) (w : World) (hbo : BoolsIn w vc cols) (hi : In w p) (hT : Tab w) (hs : p.size ≤ 1000000) :
    Calls Tryd.prog 15 #[.agg #[vc], p.val] w fun e w' => e = .returned (keysN cols p).val ∧ Below w.heap.size w w' := by
  have H1 : Hid (∀ w1, Below w.heap.size w w1 → Calls Tryd.prog 13 #[.agg #[vc], p.val] w1 fun e w' => ∃ q : PT, e = .returned q.val ∧ q.bare = normP cols p ∧ Nw w' TP (fun b => w1.heap.size ≤ b) q ∧ Below w1.heap.size w1 w') := fun w1 hb => normal_any vc cols p w1 (hbo.below hb) (hi.keep hb) (hT.below hb) hs
  have HK : Hid (∀ q : PT, q.bare = normP cols p → keysP q = keysN cols p) := fun q hq => by unfold keysN; rw [← norm_bare] at hq; exact keys_of_bare hq
  generalize normP cols p = n at *
  generalize keysN cols p = r at *
  obtain ⟨ap, cp, hlp, _⟩ := hi.lies.slice
  obtain ⟨ac, cc, rfl, _⟩ := hbo.slice
  have HZ : Hid (∀ w0 : World, SBox (w0.alloc (sobj Sp.all 35)) w0.heap.size Sp.all ∧ Fr (w0.alloc (sobj Sp.all 35)) w0.heap.size) := fun w0 => ⟨SBox.new _ _ _, Fr.new _ _ _⟩
  clear hi hbo hT hs
  unfold PT.val Sp.val at *
  rw [hlp] at H1 ⊢
  clear hlp
  go_enter Tryd.func15, Tryd.ntmps15
  go_wp2_with fail
  refine Calls.mono (H1.out _ (back2 (alloc1 _ _))) ?_
  rintro e w1 ⟨q, rfl, hqb, hqn, hb⟩
  have hz := HZ.out ((w.alloc (.cells #[.slice ac cols.length cc] 24)).alloc (.cells #[.int .i64 p.op, .int .i64 p.col, .bool p.v.t, .int .i64 p.v.n, .string p.v.s, .bool p.w.t, .int .i64 p.w.n, .string p.w.s, .slice ap p.l.length cp] 29))
  have HZ1 : Hid (SBox w1 (w.heap.size + 1 + 1) Sp.all ∧ Fr w1 (w.heap.size + 1 + 1) ∧ Below w.heap.size w w1) := ⟨by have := hz.1.below hb; simpa using this, by have := hz.2.below hb; simpa using this, back3 hb⟩
  obtain ⟨aq, cq, hlq⟩ := hqn.slice
  have H2 : Hid (Calls Tryd.prog 31 #[q.val] w1 fun e w' => e = .returned r.val ∧ Below w1.heap.size w1 w') := by
    have := keys_ok q w1 hqn.isIn
    rw [HK.out q hqb] at this
    exact this
  unfold PT.val Sp.val at H2
  rw [hlq] at H2 ⊢
  clear hb hqb hqn hz HZ H1 HK hlq
  go_wp2_with fail
  refine Calls.mono H2.out ?_
  rintro e w2 ⟨rfl, hb⟩
  have HX : Hid (Below w.heap.size w w2) := on HZ1.out.2.2 hb
  obtain ⟨z0, z1, z2, z3, z4, z5, z6, z7, z8, z9, z10⟩ := HZ1.out.1.below hb
  obtain ⟨lz, fz⟩ := HZ1.out.2.1.below hb
  clear hb HZ1 H2
  go_wp2_with fail
  refine bodyPost_ret (v := r.val) (by simp [results, Tryd.results15, go_sem, Sp.val, z0, z1, z2, z3, z4, z5, z6, z7, z8, z9, z10]) rfl ⟨rfl, ?_⟩
  repeat (refine set_below ?_ (by omega) _)
  exact HX.out
end Go.Proofs.YtfkhfplibhnceaaDoor.Val
