/- What the reference's Normal and Keys answer. -/
import Derived.Test.YtfkhfplibhnceaaDoorU14
import Derived.Test.YtfkhfplibhnceaaDoorU15
import Derived.Test.YtfkhfplibhnceaaDoorU12
import Derived.Test.YtfkhfplibhnceaaDoorU11
namespace Go.Proofs.YtfkhfplibhnceaaDoor.Val
open Go.RowKit

theorem rpush_ok {cols : List Bool} (p : PT) : Good cols p → p.size ≤ 1000000 → ∀ b, RPushOk p b := by
  induction p using PT.ind with
  | h p ih =>
    intro hg hs b
    have ih' : ∀ q ∈ p.l, ∀ b, RPushOk q b := fun q hq b => ih q hq (hg.part q hq) (by have := size_part (p := p) hq; omega) b
    rcases suit_cases hg.suit with ⟨h, hl⟩ | ⟨h, hl, ho⟩ | ⟨h, hl, ho, ho'⟩ | ⟨h, q, hl⟩ | ⟨h, hl⟩
    · exact rpush_leaf p b hg (by omega)
    · exact rpush_leaf p b hg (by omega)
    · exact rpush_leaf p b hg (by omega)
    · exact rpush_10 p q b h hl (ih' q (by rw [hl]; simp) _)
    · rcases h with h | h <;> cases b
      · exact rpush_list_11false p h hs fun q hq => ih' q hq _
      · exact rpush_list_11true p h hs fun q hq => ih' q hq _
      · exact rpush_list_12false p h hs fun q hq => ih' q hq _
      · exact rpush_list_12true p h hs fun q hq => ih' q hq _
set_option maxHeartbeats 4000000 in
theorem rnormal_any (vc : Value) (cols : List Bool) (p : PT) (w : World) (hbo : BoolsIn w vc cols) (hi : In w p) (hs : p.size ≤ 1000000) :
    Calls Tryd.prog 14 #[.agg #[vc], p.val] w fun e w' => ∃ q : PT, e = .returned q.val ∧ q.bare = normP cols p ∧ Nw w' TP (fun b => w.heap.size ≤ b) q ∧ Below w.heap.size w w' := by
  obtain ⟨c, hc⟩ : ∃ c, (mayT cols && mayP cols p) = c := ⟨_, rfl⟩
  have H1 : Hid (∀ w1, Below w.heap.size w w1 → Calls Tryd.prog 24 #[.agg #[vc], p.val] w1 fun e w' => e = .returned (.bool c) ∧ Below w1.heap.size w1 w') := fun w1 hb => by rw [← hc]; exact rmayP_any vc cols p w1 (hbo.below hb) (hi.keep hb) hs
  have H2 : Hid (c = true → ∀ w1, Below w.heap.size w w1 → Calls Tryd.prog 30 #[p.val, .bool false] w1 fun e w' => ∃ q : PT, e = .returned q.val ∧ q.bare = (pushP p false).bare ∧ Nw w' TP (fun b => w1.heap.size ≤ b) q ∧ Below w1.heap.size w1 w') := fun h w1 hb => rpush_ok p (check_iff.1 (check_may.2 (hc.trans h))).2.2 hs false w1 (hi.keep hb)
  have HM1 : Hid (c = true → (pushP p false).bare = normP cols p) := fun h => by unfold normP; rw [if_pos (check_may.2 (hc.trans h)), push_bare]
  have HM2 : Hid (c = false → normP cols p = lfN 2 0 Val.zero Val.zero) := fun h => by unfold normP; rw [if_neg fun h' => by rw [check_may.1 h'] at hc; rw [h] at hc; cases hc]
  generalize normP cols p = n at *
  obtain ⟨ap, cp, hlp, _⟩ := hi.lies.slice
  obtain ⟨ac, cc, rfl, _⟩ := hbo.slice
  have HN : Hid _ := TPZ.new w (.slice ac cols.length cc) p 24 29 29
  have HLP : Hid (p.lv = .slice ap p.l.length cp) := hlp
  clear hi hbo hs hc
  unfold PT.val at *
  rw [hlp] at H1 H2 ⊢
  rw [pobj, hlp] at HN
  clear hlp
  go_enter Tryd.func14, Tryd.ntmps14
  go_wp2_with fail
  refine Calls.mono (H1.out _ (back2 (alloc1 _ _))) ?_
  rintro e w1 ⟨rfl, hb⟩
  have HX : Hid (TPZ w (.slice ac cols.length cc) p w1) := HN.out.below hb
  clear hb HN H1
  obtain ⟨pt, ⟨b0, b1, b2, b3, b4, b5, b6, b7, b8⟩, ⟨z0, z1, z2, z3, z4, z5, z6, z7, z8⟩, ⟨lz, fz⟩, _⟩ := HX.out
  rw [HLP.out] at b8
  cases c
  case true =>
    have HQ : Hid _ := H2.out (by trivial) w1 HX.out.be
    have HE : Hid ((pushP p false).bare = n) := HM1.out (by trivial)
    clear H2 HM1 HM2
    go_wp2_with fail
    refine Calls.mono HQ.out ?_
    rintro e w2 ⟨q, rfl, hqb, hqn, hb⟩
    have HX2 : Hid (TPZ w (.slice ac cols.length cc) p w2) := HX.out.below hb
    have HR : Hid (q.bare = n ∧ Nw w2 TP (fun b => w.heap.size + 1 + 1 < b) q) := ⟨hqb.trans HE.out, hqn.imp fun b h _ => by have := HX.out.fz.1; omega⟩
    obtain ⟨aq, cq, hlq⟩ := hqn.slice
    have HLQ : Hid (q.lv = .slice aq q.l.length cq) := hlq
    rw [hlq]
    clear hlq hqb hqn hb HQ HE HX pt b0 b1 b2 b3 b4 b5 b6 b7 b8 z0 z1 z2 z3 z4 z5 z6 z7 z8 lz fz
    obtain ⟨_, _, ⟨z0, z1, z2, z3, z4, z5, z6, z7, z8⟩, ⟨lz, fz⟩, _⟩ := HX2.out
    go_wp2_with fail
    refine bodyPost_ret (v := q.val) (by simp [results, Tryd.results14, go_sem, PT.val, HLQ.out, z0, z1, z2, z3, z4, z5, z6, z7, z8]) rfl ⟨q, rfl, HR.out.1, ?_, ?_⟩
    · refine Nw.imp (P := fun b => w.heap.size + 1 + 1 < b) ?_ (fun b hb _ => by omega)
      repeat (refine nw_set ?_ (fun x hx => by omega))
      exact HR.out.2
    · repeat (refine set_below ?_ (by omega) _)
      exact HX2.out.be
  case false =>
    have HE : Hid (n = lfN 2 0 Val.zero Val.zero) := HM2.out (by trivial)
    clear H2 HM1 HM2
    go_wp2_with fail
    refine bodyPost_ret (v := (lfN 2 0 Val.zero Val.zero).val) (by simp [results, Tryd.results14, go_sem, PT.val, lfN, Val.zero, z0, z1, z2, z3, z4, z5, z6, z7, z8]) rfl ⟨lfN 2 0 Val.zero Val.zero, rfl, by rw [HE.out, lfN_bare], Nw.leaf _ _ _ _ _ _ _ (by decide) (by decide), ?_⟩
    repeat (refine set_below ?_ (by omega) _)
    exact HX.out.be
/-- A table's box, a predicate's, and the answer's. -/
structure TPS (w0 : World) (vc : Value) (p : PT) (w : World) : Prop where
  pt : w.cell? ⟨w0.heap.size, 0, none⟩ = some vc
  pb : Box w (w0.heap.size + 1) p
  pz : SBox w (w0.heap.size + 1 + 1) Sp.all
  fz : Fr w (w0.heap.size + 1 + 1)
  be : Below w0.heap.size w0 w
theorem TPS.below {w0 w w' : World} {vc : Value} {p : PT} (h : TPS w0 vc p w) (hb : Below w.heap.size w w') : TPS w0 vc p w' := ⟨cell_below h.pt hb, h.pb.below hb, h.pz.below hb, h.fz.below hb, on h.be hb⟩
theorem TPS.new (w : World) (vc : Value) (p : PT) (T1 T2 T3 : TypeId) : TPS w vc p (((w.alloc (.cells #[vc] T1)).alloc (pobj p T2)).alloc (sobj Sp.all T3)) := by
  refine ⟨cell_alloc (cell_alloc (cell_new _ _ _) _) _, ?_, ?_, ?_, back2 (alloc1 _ _)⟩
  · have := (Box.new (w.alloc (.cells #[vc] T1)) p T2).alloc (sobj Sp.all T3); simpa using this
  · have := SBox.new ((w.alloc (.cells #[vc] T1)).alloc (pobj p T2)) Sp.all T3; simpa using this
  · have := Fr.new ((w.alloc (.cells #[vc] T1)).alloc (pobj p T2)) #[.bool Sp.all.no, .bool Sp.all.hl, .bool Sp.all.ol, .bool Sp.all.lo.t, .int .i64 Sp.all.lo.n, .string Sp.all.lo.s, .bool Sp.all.hh, .bool Sp.all.oh, .bool Sp.all.hi.t, .int .i64 Sp.all.hi.n, .string Sp.all.hi.s] T3; simpa using this
set_option maxHeartbeats 4000000 in
theorem rkeys_any (vc : Value) (cols : List Bool) (p : PT) (w : World) (hbo : BoolsIn w vc cols) (hi : In w p) (hs : p.size ≤ 1000000) :
    Calls Tryd.prog 16 #[.agg #[vc], p.val] w fun e w' => e = .returned (keysN cols p).val ∧ Below w.heap.size w w' := by
  obtain ⟨c, hc⟩ : ∃ c, (mayT cols && mayP cols p) = c := ⟨_, rfl⟩
  have H1 : Hid (∀ w1, Below w.heap.size w w1 → Calls Tryd.prog 24 #[.agg #[vc], p.val] w1 fun e w' => e = .returned (.bool c) ∧ Below w1.heap.size w1 w') := fun w1 hb => by rw [← hc]; exact rmayP_any vc cols p w1 (hbo.below hb) (hi.keep hb) hs
  have H2 : Hid (c = true → ∀ w1, Below w.heap.size w w1 → Calls Tryd.prog 30 #[p.val, .bool false] w1 fun e w' => ∃ q : PT, e = .returned q.val ∧ (q.bare = normP cols p ∧ In w' q) ∧ Below w1.heap.size w1 w') := fun h w1 hb => by
    have hk := check_may.2 (hc.trans h)
    have e : (pushP p false).bare = normP cols p := by unfold normP; rw [if_pos hk, push_bare]
    have := rpush_ok p (check_iff.1 hk).2.2 hs false w1 (hi.keep hb)
    rw [e] at this
    exact this.mono fun e w' ⟨q, h1, h2, h3, h4⟩ => ⟨q, h1, ⟨h2, h3.isIn⟩, h4⟩
  have H3 : Hid (c = true → ∀ q : PT, q.bare = normP cols p → ∀ w1, In w1 q → Calls Tryd.prog 32 #[q.val] w1 fun e w' => e = .returned (keysN cols p).val ∧ Below w1.heap.size w1 w') := fun h q hq w1 hq1 => by
    have hk := check_may.2 (hc.trans h)
    have hg := (check_iff.1 hk).2.2
    have e : normP cols p = pushP p false := by unfold normP; rw [if_pos hk]
    have hq' : q.bare = (normP cols p).bare := by rw [norm_bare]; exact hq
    have hgq : Good cols q := by
      have h1 := push_good p hg false
      rw [← e] at h1
      unfold Good at h1 ⊢
      rw [ok_of_bare hq']; exact h1
    have hkq : keysP q = keysN cols p := by unfold keysN; exact keys_of_bare hq'
    rw [← hkq]; exact rspan_ok q hgq w1 hq1
  have HM2 : Hid (c = false → keysN cols p = Sp.none) := fun h => keysN_no fun h' => by rw [check_may.1 h'] at hc; rw [h] at hc; cases hc
  generalize normP cols p = n at *
  generalize keysN cols p = r at *
  obtain ⟨ap, cp, hlp, _⟩ := hi.lies.slice
  obtain ⟨ac, cc, rfl, _⟩ := hbo.slice
  have HN : Hid _ := TPS.new w (.slice ac cols.length cc) p 24 29 35
  have HLP : Hid (p.lv = .slice ap p.l.length cp) := hlp
  clear hi hbo hs hc
  unfold PT.val Sp.val at *
  rw [hlp] at H1 H2 ⊢
  rw [pobj, hlp] at HN
  clear hlp
  go_enter Tryd.func16, Tryd.ntmps16
  go_wp2_with fail
  refine Calls.mono (H1.out _ (back2 (alloc1 _ _))) ?_
  rintro e w1 ⟨rfl, hb⟩
  have HX : Hid (TPS w (.slice ac cols.length cc) p w1) := HN.out.below hb
  clear hb HN H1
  obtain ⟨pt, ⟨b0, b1, b2, b3, b4, b5, b6, b7, b8⟩, ⟨z0, z1, z2, z3, z4, z5, z6, z7, z8, z9, z10⟩, ⟨lz, fz⟩, _⟩ := HX.out
  rw [HLP.out] at b8
  cases c
  case true =>
    have HQ : Hid _ := H2.out (by trivial) w1 HX.out.be
    have H3' : Hid _ := H3.out (by trivial)
    clear H2 H3 HM2
    go_wp2_with fail
    refine Calls.mono HQ.out ?_
    rintro e w2 ⟨q, rfl, ⟨hqb, hqi⟩, hb⟩
    have HX2 : Hid (TPS w (.slice ac cols.length cc) p w2) := HX.out.below hb
    have K3 : Hid _ := H3'.out q hqb w2 hqi
    obtain ⟨aq, cq, hlq, _⟩ := hqi.lies.slice
    rw [hlq] at K3 ⊢
    clear hlq hqb hqi hb HQ HX H3' pt b0 b1 b2 b3 b4 b5 b6 b7 b8 z0 z1 z2 z3 z4 z5 z6 z7 z8 z9 z10 lz fz
    go_wp2_with fail
    refine Calls.mono K3.out ?_
    rintro e w3 ⟨rfl, hb⟩
    have HX3 : Hid (TPS w (.slice ac cols.length cc) p w3) := HX2.out.below hb
    clear hb HX2 K3
    obtain ⟨_, _, ⟨z0, z1, z2, z3, z4, z5, z6, z7, z8, z9, z10⟩, ⟨lz, fz⟩, _⟩ := HX3.out
    go_wp2_with fail
    refine bodyPost_ret (v := r.val) (by simp [results, Tryd.results16, go_sem, Sp.val, z0, z1, z2, z3, z4, z5, z6, z7, z8, z9, z10]) rfl ⟨rfl, ?_⟩
    repeat (refine set_below ?_ (by omega) _)
    exact HX3.out.be
  case false =>
    have HE : Hid (r = Sp.none) := HM2.out (by trivial)
    clear H2 H3 HM2
    go_wp2_with fail
    refine bodyPost_ret (v := Sp.none.val) (by simp [results, Tryd.results16, go_sem, Sp.val, Sp.none, Val.zero, z0, z1, z2, z3, z4, z5, z6, z7, z8, z9, z10]) rfl ⟨by rw [HE.out]; rfl, ?_⟩
    repeat (refine set_below ?_ (by omega) _)
    exact HX.out.be
end Go.Proofs.YtfkhfplibhnceaaDoor.Val

