/- Images in memory of the call's own; what the function that claim.Clone and Join go through them with answers. -/
import Derived.Test.YtkkbbpldeeajaaaDoorUC1
import Derived.Test.YtkkbbpldeeajaaaDoorUR
import Derived.Maps.AppendAt
import Derived.Test.YtkkbbpldeeajaaaDoorUQ
import Derived.Test.YtkkbbpldeeajaaaDoorUM
namespace Go.Proofs.YtkkbbpldeeajaaaDoor.Val
open Go.RowKit

abbrev TRo : TypeId := 43
abbrev TVa : TypeId := 25
theorem info_R : (Tryd.prog.info? 43).map (fun i => (i.zero, i.size, i.bytes)) = some (some (.slice none 0 0), 1, 24) := by kernel_rfl
/-- Images in rows of the call's own. -/
def OwnIms (w : World) (B : Nat) (iv : Value) (m : List Im) : Prop := w.ownsRow B TRo 1 iv m.length (m.map Im.v) ∧ ∀ i ∈ m, OwnRow w B TVa i.v i.r
theorem own_types {w : World} {B B' s s' n n' : Nat} {T T' : TypeId} {v v' : Value} {xs xs' : List Value} (h : w.ownsRow B T s v n xs) (h' : w.ownsRow B' T' s' v' n' xs') (hT : T ≠ T') (g : Nat) (hg : v.ownBlock = some g) : v'.ownBlock ≠ some g := by
  intro hg'
  rcases h.2 with ⟨rfl, _⟩ | ⟨k, cap, cur, rfl, _, hk, _⟩
  · cases hg
  rcases h'.2 with ⟨rfl, _⟩ | ⟨k', cap', cur', rfl, _, hk', _⟩
  · cases hg'
  have e1 : k = g := by simpa [Value.ownBlock] using hg
  have e2 : k' = g := by simpa [Value.ownBlock] using hg'
  subst e1; subst e2
  rw [hk] at hk'
  simp at hk'
  exact hT hk'.2
theorem OwnIms.nil (w : World) (B : Nat) : OwnIms w B (.slice none 0 0) [] := ⟨World.ownsRow_nil _ _ _ _, by simp⟩
theorem OwnIms.isIn {w : World} {B : Nat} {iv : Value} {m : List Im} (h : OwnIms w B iv m) : ImsIn w iv m := ⟨owns_lies h.1, fun i hi => (h.2 i hi).isIn⟩
theorem OwnIms.sv {X : Nat → Prop} {w w' : World} {B : Nat} {iv : Value} {m : List Im} (h : OwnIms w B iv m) (hs : Sv X w w') (hx : ∀ k, B ≤ k → ¬ X k) : OwnIms w' B iv m :=
  ⟨owns_sv h.1 hs fun g hg => hx g (World.ownsRow.lt h.1 g hg).1, fun i hi => owns_sv (h.2 i hi) hs fun g hg => hx g (World.ownsRow.lt (h.2 i hi) g hg).1⟩
theorem OwnIms.below {w w' : World} {B : Nat} {iv : Value} {m : List Im} (h : OwnIms w B iv m) (hb : Below w.heap.size w w') : OwnIms w' B iv m :=
  ⟨owns_sv (X := Nothing) h.1 (Sv.of hb) (fun _ _ h => h), fun i hi => (h.2 i hi).below hb⟩
theorem OwnIms.mono {w : World} {B B' : Nat} {iv : Value} {m : List Im} (h : OwnIms w B iv m) (hB : B' ≤ B) : OwnIms w B' iv m :=
  ⟨owns_base h.1 fun g hg => Nat.le_trans hB (World.ownsRow.lt h.1 g hg).1, fun i hi => (h.2 i hi).mono hB⟩
/-- One more image behind all. -/
theorem OwnIms.grown {w w' : World} {B : Nat} {own own' : Value} {m : List Im} {i : Im} (h : OwnIms w B own m) (hi : OwnRow w B TVa i.v i.r) (hg : w.grownBy w' own.ownBlock) (ho : w'.ownsRow B TRo 1 own' (m.length + 1) (m.map Im.v ++ [i.v])) : OwnIms w' B own' (m ++ [i]) := by
  have hsv : Sv (fun b => own.ownBlock = some b) w w' := ⟨hg.os, hg.tape, hg.output, hg.size, fun b hb hx => hg.block b hb fun e => hx e.symm⟩
  refine ⟨by simpa using ho, fun j hj => ?_⟩
  have hj' : OwnRow w B TVa j.v j.r := by
    rcases List.mem_append.1 hj with hj | hj
    · exact h.2 j hj
    · rw [List.mem_singleton] at hj; rw [hj]; exact hi
  exact owns_sv hj' hsv fun g hg' => own_types hj' h.1 (by decide) g hg'
theorem grown_below {w0 w w' : World} {B : Nat} {own : Value} {T : TypeId} {s n : Nat} {xs : List Value} (hb : Below B w0 w) (ho : w.ownsRow B T s own n xs) (hB : B ≤ w.heap.size) (hg : w.grownBy w' own.ownBlock) : Below B w0 w' :=
  hb.grown hg hB fun k hk => (World.ownsRow.lt ho k hk).1
set_option maxHeartbeats 2000000 in
/-- Clone's function. -/
theorem clone1_any (B : Nat) (own : Value) (m : List Im) (q : Im) (w : World) (hB : B ≤ w.heap.size) (ho : OwnIms w B own m) (hq : RowIn w q.v q.r) (hl : q.r.length ≤ 1000) (hm : m.length ≤ 1000) :
    Calls Tryd.prog 51 #[own, q.v] w fun e w' => ∃ own' v', e = .returned own' ∧ OwnIms w' B own' (m ++ [⟨v', q.r⟩]) ∧ Below B w w' := by
  obtain ⟨i0, hi, hz0, hz1, hz2⟩ := info_parts info_R
  have I0 : Hid (Tryd.prog.info? 43 = some i0 ∧ i0.zero = some (.slice none 0 0) ∧ i0.size = 1 ∧ i0.bytes = 24) := ⟨hi, hz0, hz1, hz2⟩
  have H : Hid (Calls Tryd.prog 49 #[q.v] w fun e w' => ∃ v', e = .returned v' ∧ OwnRow w' w.heap.size TVa v' q.r ∧ Below w.heap.size w w') := clone_any q.v q.r w hq hl
  have HO : Hid (B ≤ w.heap.size ∧ OwnIms w B own m ∧ m.length ≤ 1000) := ⟨hB, ho, hm⟩
  obtain ⟨ao, c, hown, _⟩ := ho.isIn.slice
  obtain ⟨aq, cq, hqv, _⟩ := hq.slice
  rw [hqv] at H ⊢
  have HQ : Hid (own = _) := hown
  rw [hown]
  clear hi hz0 hz1 hz2 hB ho hm hq hl hown hqv
  go_enter Tryd.func51, Tryd.ntmps51
  go_wp2_with fail
  refine Calls.mono H.out ?_
  rintro e w1 ⟨v', rfl, hv, hb⟩
  obtain ⟨av, cv, hsl, _⟩ := hv.isIn.slice
  subst hsl
  have HV : Hid (OwnRow w1 w.heap.size TVa (.slice av q.r.length cv) q.r ∧ Below w.heap.size w w1) := ⟨hv, hb⟩
  clear hv hb H
  have HW : Hid (OwnIms (w1.alloc (.cells #[.slice av q.r.length cv] TRo)) B (.slice ao m.length c) m ∧ OwnRow (w1.alloc (.cells #[.slice av q.r.length cv] TRo)) B TVa (.slice av q.r.length cv) q.r ∧ B ≤ (w1.alloc (.cells #[.slice av q.r.length cv] TRo)).heap.size ∧ Below B w (w1.alloc (.cells #[.slice av q.r.length cv] TRo)) ∧ m.length ≤ 1000) := by
    obtain ⟨h1, h2, h3⟩ := HO.out
    obtain ⟨h4, h5⟩ := HV.out
    rw [HQ.out] at h2
    have h6 := h5.trans ((alloc1 w1 (.cells #[.slice av q.r.length cv] TRo)).mono h5.size)
    exact ⟨(h2.below h5).below (alloc1 _ _), (h4.mono h1).below (alloc1 _ _), Nat.le_trans h1 h6.size, h6.mono h1, h3⟩
  have HC : Hid (∀ j u, [Value.slice av q.r.length cv][j]? = some u → (w1.alloc (.cells #[.slice av q.r.length cv] TRo)).cell? ((⟨w1.heap.size, 0, none⟩ : Addr).add j) = some u) := fun j u hj => by
    match j, hj with
    | 0, hj => simpa [Addr.add_lit, go_sem] using hj
  have hlen : m.length ≤ 1000 := HW.out.2.2.2.2
  clear HO HV HQ
  go_wp2_with (at_builtin; refine wpList_append_own_at _ rfl _ _ _ rfl B TRo i0 _ 1 24 Tryd.underlying26 I0.out.1 I0.out.2.1 I0.out.2.2.1 I0.out.2.2.2 rfl (by decide) (.slice ao m.length c) m.length (m.map Im.v) rfl HW.out.1.1 ⟨w1.heap.size, 0, none⟩ 1 1 [.slice av q.r.length cv] rfl rfl HC.out (by simp [Value.oneCell']) ?_ ?_ HW.out.2.2.1 ?_)
  · unfold maxLen; omega
  · omega
  · intro v' w2 hown' hgrow _ _
    have HD : Hid (OwnIms w2 B v' (m ++ [⟨.slice av q.r.length cv, q.r⟩]) ∧ Below B w w2) := ⟨HW.out.1.grown HW.out.2.1 hgrow hown', grown_below HW.out.2.2.2.1 HW.out.1.1 HW.out.2.2.1 hgrow⟩
    clear hown' hgrow HW HC
    go_wp2_with fail
    go_ret
    exact ⟨_, _, rfl, HD.out⟩
end Go.Proofs.YtkkbbpldeeajaaaDoor.Val
/- What claim.Clone answers: the same, in memory of its own. -/
namespace Go.Proofs.YtkkbbpldeeajaaaDoor.Val
open Go.RowKit
set_option maxRecDepth 100000

/-- The same, wherever it lies. -/
structure LikeC (c d : CP) : Prop where
  kind : d.kind = c.kind
  table : d.table = c.table
  mode : d.mode = c.mode
  key : d.key = c.key
  rows : d.rows = c.rows
  p : d.p.bare = c.p.bare
theorem LikeC.refl (c : CP) : LikeC c c := ⟨rfl, rfl, rfl, rfl, rfl, rfl⟩
/-- A claim in memory of the call's own. -/
structure NewC (w : World) (B : Nat) (c : CP) : Prop where
  key : c.key.s.size ≤ maxLen
  ims : OwnIms w B c.iv c.ims
  p : New w TP (fun b => B ≤ b) c.p
theorem NewC.isIn {w : World} {B : Nat} {c : CP} (h : NewC w B c) : CIn w c := ⟨h.key, h.ims.isIn, h.p.isIn⟩
theorem NewC.below {w w' : World} {B : Nat} {c : CP} (h : NewC w B c) (hb : Below w.heap.size w w') : NewC w' B c := ⟨h.key, h.ims.below hb, h.p.keep hb⟩
theorem NewC.sv {X : Nat → Prop} {w w' : World} {B : Nat} {c : CP} (h : NewC w B c) (hs : Sv X w w') (hx : ∀ k, B ≤ k → ¬ X k) : NewC w' B c := ⟨h.key, h.ims.sv hs hx, h.p.sv hs hx⟩
theorem NewC.mono {w : World} {B B' : Nat} {c : CP} (h : NewC w B c) (hB : B' ≤ B) : NewC w B' c := ⟨h.key, h.ims.mono hB, h.p.imp fun _ hb _ => Nat.le_trans hB hb⟩
def zeroC : CP := ⟨0, 0, 0, Val.zero, .slice none 0 0, [], PT.zero⟩
theorem enters_clone1 : Enters 51 := enters_of Tryd.func51 (by decide +kernel) rfl
/-- The images, cloned. -/
theorem thru_clone (c : CP) (w : World) (hc : CIn w c) (hf : FewC c) : Calls Tryd.prog 47 #[c.iv, .slice none 0 0, FV 51 #[] #[]] w fun e w' => ∃ v m, e = .returned v ∧ m.map Im.r = c.rows ∧ OwnIms w' w.heap.size v m ∧ Below w.heap.size w w' := by
  refine Calls.mono (throughR_any c.iv (.slice none 0 0) c.ims _ #[] _ w (fun k a w2 => ∃ m, m.map Im.r = (c.ims.take k).map Im.r ∧ OwnIms w2 w.heap.size a m ∧ Below w.heap.size w w2) ⟨[], by simp, OwnIms.nil _ _, Below.refl _ _⟩ enters_clone1 (fun k a w2 h2 => by obtain ⟨_, _, _, h⟩ := h2; exact hc.ims.below h) fun k hk a w2 h2 => ?_) ?_
  · obtain ⟨m, h1, h2, h3⟩ := h2
    have hml : m.length ≤ 1000 := by
      have := congrArg List.length h1
      simp at this
      have := hf.n
      omega
    have hq := hc.ims.2 _ (List.getElem_mem hk)
    refine Calls.mono (clone1_any w.heap.size a m c.ims[k] w2 h3.size h2 (hq.below h3) (by have := hf.r _ (List.getElem_mem hk); omega) hml) ?_
    rintro e w3 ⟨own', v', rfl, h4, h5⟩
    refine ⟨_, rfl, _, ?_, h4, h3.trans h5⟩
    rw [List.map_append, h1, List.take_add_one, List.getElem?_eq_getElem hk, List.map_append]
    rfl
  · rintro e w2 ⟨a, rfl, m, h1, h2, h3⟩
    exact ⟨a, m, rfl, by rw [h1, List.take_length]; rfl, h2, h3⟩
set_option maxHeartbeats 4000000 in
theorem cclone_any (c : CP) (w : World) (hc : CIn w c) (hf : FewC c) : Calls Tryd.prog 24 #[c.val] w fun e w' => ∃ d, e = .returned d.val ∧ LikeC c d ∧ NewC w' w.heap.size d ∧ Below w.heap.size w w' := by
  have H : Hid (∀ w1, Below w.heap.size w w1 → Calls Tryd.prog 47 #[c.iv, .slice none 0 0, FV 51 #[] #[]] w1 fun e w' => ∃ v m, e = .returned v ∧ m.map Im.r = c.rows ∧ OwnIms w' w1.heap.size v m ∧ Below w1.heap.size w1 w') := fun w1 h => thru_clone c w1 (hc.below h) hf
  have HP : Hid (∀ w1, Below w.heap.size w w1 → Calls Tryd.prog 52 #[c.p.val] w1 fun e w' => ∃ q : PT, e = .returned q.val ∧ q.bare = c.p.bare ∧ New w' TP (fun b => w1.heap.size ≤ b) q ∧ Below w1.heap.size w1 w') := fun w1 h => pclone_any c.p w1 (hc.p.keep h) (by have := hf.p; omega)
  have HK : Hid (c.key.s.size ≤ maxLen ∧ OneC c) := ⟨hc.key, hc.one⟩
  obtain ⟨ai, ci, hiv, _⟩ := hc.ims.slice
  obtain ⟨ap, cp, hlv, _⟩ := hc.p.lies.slice
  have H1 : Hid (∀ w1, Below ((w.alloc (cobj c TC)).alloc (cobj zeroC TC)).heap.size ((w.alloc (cobj c TC)).alloc (cobj zeroC TC)) w1 → CB w1 w.heap.size c ∧ CB w1 (w.heap.size + 1) zeroC ∧ Below w.heap.size w w1) := fun w1 h => by
    refine ⟨((CB.new w c).below (alloc1 _ _)).below h, ?_, back2 h⟩
    have := (CB.new (w.alloc (cobj c TC)) zeroC).below h
    simpa using this
  unfold cobj at H1
  rw [hiv] at H
  have HIV : Hid (c.iv = _) := hiv
  clear hc hf
  unfold CP.val
  rw [hiv, hlv] at H1 ⊢
  clear hiv hlv
  go_enter Tryd.func24, Tryd.ntmps24
  go_wp2_with fail
  refine Calls.mono (H.out _ (back2 (Below.refl _ _))) ?_
  rintro e w1 ⟨v, m, rfl, hm, ho, hb⟩
  obtain ⟨av, cv, hv, _⟩ := ho.isIn.slice
  have HB1 : Hid (CB (w1.setCell ⟨w.heap.size, 6, none⟩ v) w.heap.size { c with iv := v, ims := m } ∧ CB (w1.setCell ⟨w.heap.size, 6, none⟩ v) (w.heap.size + 1) zeroC ∧ OwnIms (w1.setCell ⟨w.heap.size, 6, none⟩ v) (w.heap.size + 2) v m ∧ Below w.heap.size w (w1.setCell ⟨w.heap.size, 6, none⟩ v)) := by
    obtain ⟨g1, g2, g3⟩ := H1.out w1 hb
    have hs : Sv (· = w.heap.size) w1 (w1.setCell ⟨w.heap.size, 6, none⟩ v) := Sv.set (X := (· = w.heap.size)) (Sv.refl _ w1) (a := ⟨w.heap.size, 6, none⟩) rfl v
    exact ⟨g1.set_iv v m, g2.sv hs (by simp), (ho.mono (by simp)).sv hs fun k hk e => by omega, g3.setCell (Nat.le_refl _) _⟩
  have b6 : w1.cell? ⟨w.heap.size, 6, none⟩ = some (.slice ai c.ims.length ci) := by
    have := (H1.out w1 hb).1.box.c6
    rwa [HIV.out] at this
  have f6 : w1.frozen? ⟨w.heap.size, 6, none⟩ = false := (H1.out w1 hb).1.free 6
  have HM : Hid (m.map Im.r = c.rows ∧ v = .slice av m.length cv) := ⟨hm, hv⟩
  rw [hv] at HB1 ⊢
  clear hm ho hb H H1 hv
  go_wp2_with (first | (refine step_cloadP rfl _ rfl w.heap.size { c with iv := .slice av m.length cv, ims := m } rfl HB1.out.1 ?_) | fail)
  refine Calls.mono (HP.out _ HB1.out.2.2.2) ?_
  rintro e w2 ⟨q, rfl, hq, hn, hb⟩
  obtain ⟨aq, cq, hql⟩ := hn.row.slice
  have HB2 : Hid (CB w2 w.heap.size { c with iv := .slice av m.length cv, ims := m } ∧ CB w2 (w.heap.size + 1) zeroC ∧ OwnIms w2 (w.heap.size + 2) (.slice av m.length cv) m ∧ Below w.heap.size w w2 ∧ New w2 TP (fun b => w.heap.size + 2 ≤ b) q ∧ q.bare = c.p.bare ∧ ∃ ao n k, q.lv = .slice ao n k) := by
    obtain ⟨g1, g2, g3, g4⟩ := HB1.out
    have h3 := g2.lt
    exact ⟨g1.below hb, g2.below hb, g3.below hb, on g4 hb, hn.imp fun b h _ => by have := g2.lt; omega, hq, _, _, _, hql⟩
  clear HB1 HP hq hn hb hql b6 f6
  go_wp2_with (first
    | (refine step_cstoreP rfl _ _ rfl w.heap.size q { c with iv := .slice av m.length cv, ims := m } rfl rfl HB2.out.2.2.2.2.2.2 HB2.out.1 ?_; intro w3 h31 h32
       have HB3 : Hid (CB w3 w.heap.size { c with iv := .slice av m.length cv, ims := m, p := q } ∧ CB w3 (w.heap.size + 1) zeroC ∧ NewC w3 (w.heap.size + 2) { c with iv := .slice av m.length cv, ims := m, p := q } ∧ Below w.heap.size w w3) := (by
        obtain ⟨g1, g2, g3, g4, g5, g6, g7⟩ := HB2.out
        exact ⟨h31, g2.sv h32 (by omega), ⟨HK.out.1, g3.sv h32 fun k hk e => by omega, g5.sv h32 fun k hk e => by omega⟩, g4.trans (h32.below g4.size fun k hk e => by omega)⟩)
       clear h31 h32)
    | (refine step_cload rfl _ rfl w.heap.size { c with iv := .slice av m.length cv, ims := m, p := q } rfl HB3.out.1 ?_)
    | (refine step_cstore rfl _ _ rfl (w.heap.size + 1) { c with iv := .slice av m.length cv, ims := m, p := q } zeroC rfl rfl ⟨⟨_, _, _, rfl⟩, HB2.out.2.2.2.2.2.2⟩ HB3.out.2.1 ?_; intro w4 h41 h42)
    | fail)
  refine bodyPost_ret (ret_c Tryd.results24 (w.heap.size + 1) { c with iv := .slice av m.length cv, ims := m, p := q } rfl h41) rfl ⟨_, rfl, ⟨rfl, rfl, rfl, rfl, HM.out.1, HB2.out.2.2.2.2.2.1⟩, ?_, ?_⟩
  · exact (HB3.out.2.2.1.sv h42 fun k hk e => by omega).mono (by omega)
  · exact HB3.out.2.2.2.trans (h42.below HB3.out.2.2.2.size fun k hk e => by omega)
end Go.Proofs.YtkkbbpldeeajaaaDoor.Val
/- What claim.Join answers, its function first. -/
namespace Go.Proofs.YtkkbbpldeeajaaaDoor.Val
open Go.RowKit
set_option maxRecDepth 100000

/-- Nothing old is written but a row's own block. -/
abbrev OnlyB (own : Value) (w w' : World) : Prop := Sv (fun k => own.ownBlock = some k) w w'
/-- A row that was grown: in its block still, or in a new one. -/
abbrev NextB (own : Value) (w : World) (own' : Value) : Prop := own'.ownBlock = own.ownBlock ∨ ∃ g, own'.ownBlock = some g ∧ w.heap.size ≤ g
theorem OnlyB.grown {own : Value} {w w1 w2 : World} (hb : Below w.heap.size w w1) (hg : w1.grownBy w2 own.ownBlock) : OnlyB own w w2 :=
  (Sv.of hb).trans ⟨hg.os, hg.tape, hg.output, hg.size, fun b h hx => hg.block b h fun e => hx e.symm⟩
theorem OnlyB.trans {own a : Value} {w w1 w2 : World} (h : OnlyB own w w1) (hn : NextB own w a) (h2 : OnlyB a w1 w2) : OnlyB own w w2 :=
  ⟨h2.os.trans h.os, h2.tape.trans h.tape, h2.output.trans h.output, Nat.le_trans h.size h2.size, fun k hk hx => (h2.block k (Nat.lt_of_lt_of_le hk h.size) fun e => by
    rcases hn with hn | ⟨g, hg, hg2⟩
    · exact hx (hn ▸ e)
    · rw [hg] at e; have := Option.some.inj e; omega).trans (h.block k hk hx)⟩
theorem NextB.trans {own a b : Value} {w w1 : World} (h : NextB own w a) (hw : w.heap.size ≤ w1.heap.size) (h2 : NextB a w1 b) : NextB own w b := by
  rcases h2 with h2 | ⟨g, hg, hg2⟩
  · exact h.imp (fun e => h2.trans e) fun ⟨g, hg, hg2⟩ => ⟨g, h2.trans hg, hg2⟩
  · exact .inr ⟨g, hg, by omega⟩
theorem OnlyB.below {own : Value} {B B' s n : Nat} {T : TypeId} {xs : List Value} {w w' : World} (h : OnlyB own w w') (ho : w.ownsRow B T s own n xs) (hB : B' ≤ w.heap.size) (hBB : B' ≤ B) : Below B' w w' :=
  Sv.below h hB fun k hk e => by have := (World.ownsRow.lt ho k e).1; omega
set_option maxHeartbeats 2000000 in
/-- Join's function, where the image isn't there yet. -/
theorem join1_no (B : Nat) (own : Value) (m : List Im) (q : Im) (w : World) (hB : B ≤ w.heap.size) (ho : OwnIms w B own m) (hq : RowIn w q.v q.r) (hl : q.r.length ≤ 1000) (hm : m.length ≤ 1000) (hh : hasI (m.map Im.r) q.r = false) :
    Calls Tryd.prog 48 #[own, q.v] w fun e w' => ∃ own' v', e = .returned own' ∧ OwnIms w' B own' (m ++ [⟨v', q.r⟩]) ∧ OnlyB own w w' ∧ NextB own w own' := by
  obtain ⟨i0, hi, hz0, hz1, hz2⟩ := info_parts info_R
  have I0 : Hid (Tryd.prog.info? 43 = some i0 ∧ i0.zero = some (.slice none 0 0) ∧ i0.size = 1 ∧ i0.bytes = 24) := ⟨hi, hz0, hz1, hz2⟩
  have HH : Hid (Calls Tryd.prog 42 #[own, q.v] w fun e w' => e = .returned (.bool false) ∧ Below w.heap.size w w') := by have := has_any own q.v m q.r w ho.isIn hq; rwa [hh] at this
  have H : Hid (∀ w1, Below w.heap.size w w1 → Calls Tryd.prog 49 #[q.v] w1 fun e w' => ∃ v', e = .returned v' ∧ OwnRow w' w.heap.size TVa v' q.r ∧ Below w.heap.size w w') := fun w1 h => (clone_any q.v q.r w1 (hq.below h) hl).mono (by
    rintro e w' ⟨v', rfl, h1, h2⟩
    exact ⟨v', rfl, h1.mono h.size, h.trans (h2.mono h.size)⟩)
  have HO : Hid (B ≤ w.heap.size ∧ OwnIms w B own m ∧ m.length ≤ 1000) := ⟨hB, ho, hm⟩
  obtain ⟨ao, c, hown, _⟩ := ho.isIn.slice
  obtain ⟨aq, cq, hqv, _⟩ := hq.slice
  rw [hqv] at H HH ⊢
  have HQ : Hid (own = _) := hown
  rw [hown] at HH ⊢
  clear hh hi hz0 hz1 hz2 hB ho hm hq hl hown hqv
  go_enter Tryd.func48, Tryd.ntmps48
  go_wp2_with fail
  refine Calls.mono HH.out ?_
  rintro e w0 ⟨rfl, hb0⟩
  have HB0 : Hid (Below w.heap.size w w0) := hb0
  clear hb0 HH
  go_wp2_with fail
  refine Calls.mono (H.out _ HB0.out) ?_
  rintro e w1 ⟨v', rfl, hv, hb⟩
  obtain ⟨av, cv, hsl, _⟩ := hv.isIn.slice
  subst hsl
  have HV : Hid (OwnRow w1 w.heap.size TVa (.slice av q.r.length cv) q.r ∧ Below w.heap.size w w1) := ⟨hv, hb⟩
  clear hv hb H HB0
  have HW : Hid (OwnIms (w1.alloc (.cells #[.slice av q.r.length cv] TRo)) B (.slice ao m.length c) m ∧ OwnRow (w1.alloc (.cells #[.slice av q.r.length cv] TRo)) B TVa (.slice av q.r.length cv) q.r ∧ B ≤ (w1.alloc (.cells #[.slice av q.r.length cv] TRo)).heap.size ∧ Below w.heap.size w (w1.alloc (.cells #[.slice av q.r.length cv] TRo)) ∧ m.length ≤ 1000) := by
    obtain ⟨h1, h2, h3⟩ := HO.out
    obtain ⟨h4, h5⟩ := HV.out
    rw [HQ.out] at h2
    have h6 := h5.trans ((alloc1 w1 (.cells #[.slice av q.r.length cv] TRo)).mono h5.size)
    exact ⟨(h2.below h5).below (alloc1 _ _), (h4.mono h1).below (alloc1 _ _), Nat.le_trans h1 h6.size, h6, h3⟩
  have HC : Hid (∀ j u, [Value.slice av q.r.length cv][j]? = some u → (w1.alloc (.cells #[.slice av q.r.length cv] TRo)).cell? ((⟨w1.heap.size, 0, none⟩ : Addr).add j) = some u) := fun j u hj => by
    match j, hj with
    | 0, hj => simpa [Addr.add_lit, go_sem] using hj
  have hlen : m.length ≤ 1000 := HW.out.2.2.2.2
  clear HO HV HQ
  go_wp2_with (at_builtin; refine wpList_append_own_at _ rfl _ _ _ rfl B TRo i0 _ 1 24 Tryd.underlying26 I0.out.1 I0.out.2.1 I0.out.2.2.1 I0.out.2.2.2 rfl (by decide) (.slice ao m.length c) m.length (m.map Im.v) rfl HW.out.1.1 ⟨w1.heap.size, 0, none⟩ 1 1 [.slice av q.r.length cv] rfl rfl HC.out (by simp [Value.oneCell']) ?_ ?_ HW.out.2.2.1 ?_)
  · unfold maxLen; omega
  · omega
  · intro v' w2 hown' hgrow _ hat
    have HD : Hid (OwnIms w2 B v' (m ++ [⟨.slice av q.r.length cv, q.r⟩]) ∧ OnlyB (.slice ao m.length c) w w2 ∧ NextB (.slice ao m.length c) w v') := ⟨HW.out.1.grown HW.out.2.1 hgrow hown', OnlyB.grown HW.out.2.2.2.1 hgrow, hat.imp id fun e => ⟨_, e, by have := HW.out.2.2.2.1.size; simpa using this⟩⟩
    clear hown' hgrow hat HW HC
    go_wp2_with fail
    go_ret
    exact ⟨_, _, rfl, HD.out⟩
set_option maxHeartbeats 1000000 in
theorem join1_yes (own : Value) (m : List Im) (q : Im) (w : World) (ho : ImsIn w own m) (hq : RowIn w q.v q.r) (hh : hasI (m.map Im.r) q.r = true) :
    Calls Tryd.prog 48 #[own, q.v] w fun e w' => e = .returned own ∧ Below w.heap.size w w' := by
  have HH : Hid (Calls Tryd.prog 42 #[own, q.v] w fun e w' => e = .returned (.bool true) ∧ Below w.heap.size w w') := by have := has_any own q.v m q.r w ho hq; rwa [hh] at this
  obtain ⟨ao, c, hown, _⟩ := ho.slice
  obtain ⟨aq, cq, hqv, _⟩ := hq.slice
  rw [hown, hqv] at HH ⊢
  clear hh ho hq hown hqv
  go_enter Tryd.func48, Tryd.ntmps48
  go_wp2_with fail
  refine Calls.mono HH.out ?_
  rintro e w0 ⟨rfl, hb0⟩
  go_wp2_with fail
  go_ret
  exact ⟨rfl, hb0⟩
theorem join1_any (B : Nat) (own : Value) (m : List Im) (q : Im) (w : World) (hB : B ≤ w.heap.size) (ho : OwnIms w B own m) (hq : RowIn w q.v q.r) (hl : q.r.length ≤ 1000) (hm : m.length ≤ 1000) :
    Calls Tryd.prog 48 #[own, q.v] w fun e w' => ∃ own' m', e = .returned own' ∧ m'.map Im.r = addI (m.map Im.r) q.r ∧ OwnIms w' B own' m' ∧ OnlyB own w w' ∧ NextB own w own' := by
  cases hh : hasI (m.map Im.r) q.r
  · refine Calls.mono (join1_no B own m q w hB ho hq hl hm hh) ?_
    rintro e w' ⟨own', v', rfl, h1, h2⟩
    exact ⟨own', _, rfl, by simp [addI, hh], h1, h2⟩
  · refine Calls.mono (join1_yes own m q w ho.isIn hq hh) ?_
    rintro e w' ⟨rfl, h2⟩
    exact ⟨_, m, rfl, by simp [addI, hh], ho.below h2, Sv.of h2, .inl rfl⟩
theorem enters_join1 : Enters 48 := enters_of Tryd.func48 (by decide +kernel) rfl
theorem joinI_take (l : List (List Val)) (n : List Im) (k : Nat) (hk : k < n.length) : joinI l ((n.take (k + 1)).map Im.r) = addI (joinI l ((n.take k).map Im.r)) n[k].r := by
  rw [List.take_add_one, List.getElem?_eq_getElem hk, List.map_append, joinI, List.foldl_append]
  rfl
/-- The images, joined. -/
theorem thru_join (B : Nat) (own iv : Value) (m n : List Im) (w : World) (hB : B ≤ w.heap.size) (ho : OwnIms w B own m) (hlow : ∀ w', Below B w w' → ImsIn w' iv n) (hl : ∀ i ∈ n, i.r.length ≤ 1000) (hml : m.length + n.length ≤ 1000) :
    Calls Tryd.prog 47 #[iv, own, FV 48 #[] #[]] w fun e w' => ∃ v m', e = .returned v ∧ m'.map Im.r = joinI (m.map Im.r) (n.map Im.r) ∧ OwnIms w' B v m' ∧ OnlyB own w w' := by
  refine Calls.mono (throughR_any iv own n _ #[] _ w (fun k a w2 => ∃ m', m'.map Im.r = joinI (m.map Im.r) ((n.take k).map Im.r) ∧ OwnIms w2 B a m' ∧ OnlyB own w w2 ∧ NextB own w a) ⟨m, by simp [joinI], ho, Sv.refl _ _, .inl rfl⟩ enters_join1 (fun k a w2 h2 => by obtain ⟨_, _, _, h, _⟩ := h2; exact hlow _ (h.below ho.1 hB (Nat.le_refl _))) fun k hk a w2 h2 => ?_) ?_
  · obtain ⟨m', h1, h2, h3, h4⟩ := h2
    have hlen : m'.length ≤ 1000 := by
      have e1 := congrArg List.length h1
      have e2 := joinI_len (m.map Im.r) ((n.take k).map Im.r)
      simp at e1 e2
      omega
    have hq := (hlow _ (h3.below ho.1 hB (Nat.le_refl _))).2 _ (List.getElem_mem hk)
    refine Calls.mono (join1_any B a m' n[k] w2 (Nat.le_trans hB h3.size) h2 hq (hl _ (List.getElem_mem hk)) hlen) ?_
    rintro e w3 ⟨own', m2, rfl, h5, h6, h7, h8⟩
    exact ⟨_, rfl, m2, by rw [h5, h1, joinI_take], h6, h3.trans h4 h7, h4.trans h3.size h8⟩
  · rintro e w2 ⟨a, rfl, m', h1, h2, h3, _⟩
    exact ⟨a, m', rfl, by rw [h1, List.take_length], h2, h3⟩
end Go.Proofs.YtkkbbpldeeajaaaDoor.Val
/- What claim.Join answers: one claim in the place of two, in memory of its own. -/
namespace Go.Proofs.YtkkbbpldeeajaaaDoor.Val
open Go.RowKit
set_option maxRecDepth 100000

structure JoinC (s : Bool) (a b d : CP) : Prop where
  kind : d.kind = a.kind
  table : d.table = a.table
  mode : d.mode = if sameC s a b then joinM a.mode b.mode else a.mode
  key : d.key = a.key
  rows : d.rows = if sameC s a b then joinI a.rows b.rows else a.rows
  p : d.p.bare = a.p.bare
/-- The boxes of a call. -/
structure JB (w : World) (N : Nat) (a b : CP) : Prop where
  a : CB w N a
  b : CB w (N + 1) b
  z : CB w (N + 2) zeroC
theorem JB.below {w w' : World} {N : Nat} {a b : CP} (h : JB w N a b) (hb : Below w.heap.size w w') : JB w' N a b := ⟨h.a.below hb, h.b.below hb, h.z.below hb⟩
theorem JB.sv {X : Nat → Prop} {w w' : World} {N : Nat} {a b : CP} (h : JB w N a b) (hs : Sv X w w') (hx : ∀ k, k < N + 3 → ¬ X k) : JB w' N a b := ⟨h.a.sv hs (hx _ (by omega)), h.b.sv hs (hx _ (by omega)), h.z.sv hs (hx _ (by omega))⟩
theorem JB.lt {w : World} {N : Nat} {a b : CP} (h : JB w N a b) : N + 3 ≤ w.heap.size := by have := h.z.lt; omega
/-- A claim's box is no row's block. -/
theorem CB.notOwn {w : World} {J B n : Nat} {c : CP} {v : Value} {xs : List Value} (h : CB w J c) (ho : w.ownsRow B TRo 1 v n xs) : v.ownBlock ≠ some J := by
  intro e
  rcases ho.2 with ⟨rfl, _⟩ | ⟨g, cap, cur, rfl, _, hg, _⟩
  · cases e
  · have e1 : g = J := by simpa [Value.ownBlock] using e
    subst e1
    unfold CB at h
    rw [hg] at h
    simp at h
    exact absurd h.2 (by decide)
theorem CB.notVal {w : World} {J B n : Nat} {c : CP} {v : Value} {xs : List Value} (h : CB w J c) (ho : w.ownsRow B TVa 3 v n xs) : v.ownBlock ≠ some J := by
  intro e
  rcases ho.2 with ⟨rfl, _⟩ | ⟨g, cap, cur, rfl, _, hg, _⟩
  · cases e
  · have e1 : g = J := by simpa [Value.ownBlock] using e
    subst e1
    unfold CB at h
    rw [hg] at h
    simp at h
    exact absurd h.2 (by decide)
theorem OwnIms.svJ {w w' : World} {B J : Nat} {c : CP} {iv : Value} {m : List Im} (h : OwnIms w B iv m) (hc : CB w J c) (hs : Sv (· = J) w w') : OwnIms w' B iv m :=
  ⟨owns_sv h.1 hs fun _ hg e => hc.notOwn h.1 (e ▸ hg), fun i hi => owns_sv (h.2 i hi) hs fun _ hg e => hc.notVal (h.2 i hi) (e ▸ hg)⟩
theorem New.impT {w : World} {T : TypeId} {P Q : Nat → Prop} {p : PT} (h : New w T P p) (hq : ∀ b cur, P b → w.heap[b]? = some (.cells cur T (0, 0)) → Q b) : New w T Q p := by
  obtain ⟨n, h⟩ := h
  refine ⟨n, ?_⟩
  induction n generalizing p with
  | zero => exact h.elim
  | succ n ih =>
    refine ⟨h.1, h.2.1, h.2.2.1, fun g hg => ?_, fun q hq' => ih (h.2.2.2.2 q hq')⟩
    rcases h.2.2.1.2 with ⟨e, _⟩ | ⟨k, cap, cur, e, _, hk, _⟩
    · rw [e] at hg; cases hg
    · have e1 : k = g := by rw [e] at hg; simpa [Value.ownBlock] using hg
      subst e1
      exact hq _ cur (h.2.2.2.1 _ hg) hk
/-- Behind the clone: the boxes, the joined one's, and what it holds. -/
structure JW (w0 w : World) (a b d : CP) (J : Nat) : Prop where
  jb : JB w w0.heap.size a b
  j : CB w J d
  key : d.key.s.size ≤ maxLen
  ims : OwnIms w (w0.heap.size + 3) d.iv d.ims
  p : New w TP (fun b => w0.heap.size + 3 ≤ b ∧ b ≠ J ∧ d.iv.ownBlock ≠ some b) d.p
  lo : w0.heap.size + 3 ≤ J
  bel : Below w0.heap.size w0 w
theorem JW.below {w0 w w' : World} {a b d : CP} {J : Nat} (h : JW w0 w a b d J) (hb : Below w.heap.size w w') : JW w0 w' a b d J := ⟨h.jb.below hb, h.j.below hb, h.key, h.ims.below hb, h.p.keep hb, h.lo, on h.bel hb⟩
theorem JW.isIn {w0 w : World} {a b d : CP} {J : Nat} (h : JW w0 w a b d J) : CIn w d := ⟨h.key, h.ims.isIn, h.p.isIn⟩
/-- The clone in its box. -/
theorem JW.start {w0 w1 w2 : World} {a b d : CP} {o : Obj} (hb : JB w1 w0.heap.size a b) (hn : NewC w1 (w0.heap.size + 3) d) (hbel : Below w0.heap.size w0 w1) (h2 : CB w2 w1.heap.size d) (hs : Sv (· = w1.heap.size) (w1.alloc o) w2) : JW w0 w2 a b d w1.heap.size := by
  have hs' : Below w1.heap.size w1 w2 := (alloc1 w1 o).trans (hs.below (by simp) fun k hk e => by omega)
  have h3 := hb.lt
  have hn' := hn.below hs'
  refine ⟨hb.below hs', h2, hn.key, hn'.ims, ?_, h3, on hbel hs'⟩
  have hp : New w1 TP (fun b => w0.heap.size + 3 ≤ b ∧ b ≠ w1.heap.size ∧ d.iv.ownBlock ≠ some b) d.p := hn.p.impT fun g cur hg hk => ⟨hg, fun e => by
    have := (Array.getElem?_eq_some_iff.1 hk).1
    omega, fun e => by
    rcases hn.ims.1.2 with ⟨e', _⟩ | ⟨k, cap, cur', e', _, hk', _⟩
    · rw [e'] at e; cases e
    · have e1 : k = g := by rw [e'] at e; simpa [Value.ownBlock] using e
      subst e1
      rw [hk] at hk'
      simp at hk'
      exact absurd hk'.2 (by decide)⟩
  exact hp.keep hs'
theorem JW.setMode {w0 w : World} {a b d : CP} {J : Nat} (h : JW w0 w a b d J) (n : Int) : JW w0 (w.setCell ⟨J, 2, none⟩ (.int .i64 n)) a b { d with mode := n } J := by
  have hs : Sv (· = J) w (w.setCell ⟨J, 2, none⟩ (.int .i64 n)) := Sv.set (X := (· = J)) (Sv.refl _ w) (a := ⟨J, 2, none⟩) rfl _
  have hl := h.lo
  exact ⟨h.jb.sv hs fun k hk e => by omega, h.j.set_mode n, h.key, h.ims.svJ h.j hs, h.p.sv hs fun b hb e => hb.2.1 e, hl, h.bel.setCell (by show _ ≤ J; omega) _⟩
/-- Behind the images, and their store. -/
theorem JW.setIms {w0 w w' : World} {a b d : CP} {J : Nat} {v : Value} {m : List Im} (h : JW w0 w a b d J) (ho : OnlyB d.iv w w') (hm : OwnIms w' (w0.heap.size + 3) v m) :
    JB (w'.setCell ⟨J, 6, none⟩ v) w0.heap.size a b ∧ CB (w'.setCell ⟨J, 6, none⟩ v) J { d with iv := v, ims := m } ∧ NewC (w'.setCell ⟨J, 6, none⟩ v) (w0.heap.size + 3) { d with iv := v, ims := m } ∧ Below w0.heap.size w0 (w'.setCell ⟨J, 6, none⟩ v) ∧ CB w' J d := by
  have hs : Sv (· = J) w' (w'.setCell ⟨J, 6, none⟩ v) := Sv.set (X := (· = J)) (Sv.refl _ w') (a := ⟨J, 6, none⟩) rfl _
  have hl := h.lo
  have hJ : CB w' J d := h.j.sv ho (h.j.notOwn h.ims.1)
  have hown : ∀ g, d.iv.ownBlock = some g → w0.heap.size + 3 ≤ g := fun g hg => (World.ownsRow.lt h.ims.1 g hg).1
  refine ⟨(h.jb.sv ho fun k hk e => by have := hown k e; omega).sv hs fun k hk e => by omega, hJ.set_iv v m, ⟨h.key, hm.svJ hJ hs, ?_⟩, ?_, hJ⟩
  · refine ((h.p.sv ho fun b hb e => hb.2.2 e).sv hs fun b hb e => hb.2.1 e).imp fun b hb _ => hb.1
  · refine Below.setCell (h.bel.trans (ho.below h.ims.1 h.bel.size (by omega))) (by show _ ≤ J; omega) _
end Go.Proofs.YtkkbbpldeeajaaaDoor.Val
/- What claim.Join answers: the walk. -/
namespace Go.Proofs.YtkkbbpldeeajaaaDoor.Val
open Go.RowKit
set_option maxRecDepth 100000

theorem JB.new {w w1 : World} {a b : CP} (h : Below (((w.alloc (cobj a TC)).alloc (cobj b TC)).alloc (cobj zeroC TC)).heap.size (((w.alloc (cobj a TC)).alloc (cobj b TC)).alloc (cobj zeroC TC)) w1) : JB w1 w.heap.size a b ∧ Below w.heap.size w w1 := by
  refine ⟨⟨((((CB.new w a).below (alloc1 _ _)).below (alloc1 _ _)).below h), ?_, ?_⟩, back3 h⟩
  · have := ((CB.new (w.alloc (cobj a TC)) b).below (alloc1 _ (cobj zeroC TC))).below h
    simpa using this
  · have := (CB.new ((w.alloc (cobj a TC)).alloc (cobj b TC)) zeroC).below h
    simpa using this
set_option maxHeartbeats 4000000 in
theorem cjoin_any (a b : CP) (s : Bool) (hs : s = true ↔ a.p.bare = b.p.bare) (w : World) (hT : TabC w) (ha : CIn w a) (hb : CIn w b) (hfa : FewC a) (hfb : FewC b) :
    Calls Tryd.prog 22 #[a.val, b.val] w fun e w' => ∃ d, e = .returned d.val ∧ JoinC s a b d ∧ NewC w' w.heap.size d ∧ Below w.heap.size w w' := by
  have HC : Hid (∀ w1, Below w.heap.size w w1 → Calls Tryd.prog 24 #[a.val] w1 fun e w' => ∃ d, e = .returned d.val ∧ LikeC a d ∧ NewC w' w1.heap.size d ∧ Below w1.heap.size w1 w') := fun w1 h => cclone_any a w1 (ha.below h) hfa
  have HS : Hid (∀ w1, Below w.heap.size w w1 → Tells 15 #[a.val, b.val] w1 (.bool (sameC s a b))) := fun w1 h => csame_any a b s hs w1 (ha.below h) (hb.below h)
  have HF : Hid (∀ w1, Below w.heap.size w w1 → Tells 46 #[.int .i64 a.mode, .int .i64 b.mode] w1 (.int .i64 (joinM a.mode b.mode))) := fun w1 h => (join_any _ _ w1 (hT.below h)).tells
  have HT : Hid (∀ (own : Value) (m : List Im) w1, Below w.heap.size w w1 → w.heap.size + 3 ≤ w1.heap.size → m.map Im.r = a.rows → OwnIms w1 (w.heap.size + 3) own m → Calls Tryd.prog 47 #[b.iv, own, FV 48 #[] #[]] w1 fun e w' => ∃ v m', e = .returned v ∧ m'.map Im.r = joinI a.rows b.rows ∧ OwnIms w' (w.heap.size + 3) v m' ∧ OnlyB own w1 w') := fun own m w1 h h3 hm ho => by
    have hml : m.length ≤ 20 := by
      have := congrArg List.length hm
      simp [CP.rows] at this
      have := hfa.n
      omega
    have := thru_join (w.heap.size + 3) own b.iv m b.ims w1 h3 ho (fun w' h' => hb.ims.below (h.trans (h'.mono (by omega)))) (fun i hi => by have := hfb.r i hi; omega) (by have := hfb.n; omega)
    rw [hm] at this
    exact this
  have HO : Hid (OneC a ∧ OneC b) := ⟨ha.one, hb.one⟩
  have H1 : Hid (∀ w1, Below (((w.alloc (cobj a TC)).alloc (cobj b TC)).alloc (cobj zeroC TC)).heap.size (((w.alloc (cobj a TC)).alloc (cobj b TC)).alloc (cobj zeroC TC)) w1 → JB w1 w.heap.size a b ∧ Below w.heap.size w w1) := fun w1 h => JB.new h
  obtain ⟨ai, ci, hiv, _⟩ := hb.ims.slice
  have HB : Hid (b.iv = _) := hiv
  clear hs hT ha hb hfa hfb hiv
  generalize hv : sameC s a b = v at *
  have HV : Hid (sameC s a b = v) := hv
  clear hv
  have H0 : Hid (∀ w1 : World, w1 = (((w.alloc (cobj a TC)).alloc (cobj b TC)).alloc (cobj zeroC TC)) → Calls Tryd.prog 24 #[a.val] w1 fun e w' => ∃ d, e = .returned d.val ∧ LikeC a d ∧ NewC w' (w.heap.size + 3) d ∧ JB w' w.heap.size a b ∧ Below w.heap.size w w') := fun w1 e => by
    subst e
    refine Calls.mono (HC.out _ (back3 (Below.refl _ _))) ?_
    rintro e w' ⟨d, rfl, h1, h2, h3⟩
    exact ⟨d, rfl, h1, by simpa using h2, (H1.out _ h3).1, (H1.out _ h3).2⟩
  clear H1 HC
  unfold CP.val at H0 ⊢
  unfold cobj at H0
  go_enter Tryd.func22, Tryd.ntmps22
  go_wp2_with fail
  refine Calls.mono (H0.out _ rfl) ?_
  rintro e w1 ⟨d, rfl, hl, hn, hj, hb⟩
  have HD : Hid (OneC d ∧ LikeC a d) := ⟨hn.isIn.one, hl⟩
  have HS1 : Hid (∀ w2, CB w2 w1.heap.size d → Sv (· = w1.heap.size) (w1.alloc (cobj zeroC TC)) w2 → JW w w2 a b d w1.heap.size) := fun w2 h1 h2 => JW.start hj hn hb h1 h2
  clear H0 hl hn hj hb
  go_wp2_with (first
    | (refine step_cstore rfl _ _ rfl w1.heap.size d zeroC rfl rfl HD.out.1 (CB.new w1 zeroC) ?_; intro w2 h21 h22
       have HJ2 : Hid (JW w w2 a b d w1.heap.size) := HS1.out w2 h21 h22
       clear h21 h22)
    | (refine step_cload rfl _ rfl w.heap.size a rfl HJ2.out.jb.a ?_)
    | (refine step_cload rfl _ rfl (w.heap.size + 1) b rfl HJ2.out.jb.b ?_)
    | fail)
  refine Calls.mono (HS.out _ HJ2.out.bel) ?_
  rintro e w3 ⟨rfl, hb⟩
  have HJ3 : Hid (JW w w3 a b d w1.heap.size) := HJ2.out.below hb
  clear hb HS HS1 HJ2
  cases v
  · clear HF HT
    go_wp2_with (first
      | (refine step_cload rfl _ rfl w1.heap.size d rfl HJ3.out.j ?_)
      | (refine step_cstore rfl _ _ rfl (w.heap.size + 2) d zeroC rfl rfl HD.out.1 HJ3.out.jb.z ?_; intro w4 h41 h42)
      | fail)
    refine bodyPost_ret (ret_c Tryd.results22 (w.heap.size + 2) d rfl h41) rfl ⟨_, rfl, ⟨HD.out.2.kind, HD.out.2.table, ?_, HD.out.2.key, ?_, HD.out.2.p⟩, ?_, ?_⟩
    · rw [HV.out]; exact HD.out.2.mode
    · rw [HV.out]; exact HD.out.2.rows
    · have h := HJ3.out
      exact (NewC.sv (B := w.heap.size + 3) ⟨h.key, h.ims, h.p.imp fun b hb _ => hb.1⟩ h42 fun k hk e => by omega).mono (by omega)
    · exact HJ3.out.bel.trans (h42.below HJ3.out.bel.size fun k hk e => by omega)
  · have m1 : w3.cell? ⟨w.heap.size, 2, none⟩ = some (.int .i64 a.mode) := HJ3.out.jb.a.cell 2
    have m2 : w3.cell? ⟨w.heap.size + 1, 2, none⟩ = some (.int .i64 b.mode) := HJ3.out.jb.b.cell 2
    go_wp2_with fail
    refine Calls.mono (HF.out _ HJ3.out.bel) ?_
    rintro e w4 ⟨rfl, hb⟩
    have HJ4 : Hid (JW w w4 a b d w1.heap.size) := HJ3.out.below hb
    clear hb HF HJ3 m1 m2
    have j2 : w4.cell? ⟨w1.heap.size, 2, none⟩ = some (.int .i64 d.mode) := HJ4.out.j.cell 2
    have f2 : ∀ j, w4.frozen? ⟨w1.heap.size, j, none⟩ = false := fun j => HJ4.out.j.free j
    have b6 : w4.cell? ⟨w.heap.size + 1, 6, none⟩ = some (.slice ai b.ims.length ci) := by have := HJ4.out.jb.b.cell 6; rw [show (ccells b)[6]? = some b.iv from rfl, HB.out] at this; exact this
    obtain ⟨aj, cj, hdj, _⟩ := HJ4.out.ims.isIn.slice
    have j6 : w4.cell? ⟨w1.heap.size, 6, none⟩ = some (.slice aj d.ims.length cj) := by have := HJ4.out.j.cell 6; rw [show (ccells d)[6]? = some d.iv from rfl, hdj] at this; exact this
    have hne : w.heap.size + 1 ≠ w1.heap.size := by have := HJ4.out.lo; omega
    have HJ5 : Hid (JW w (w4.setCell ⟨w1.heap.size, 2, none⟩ (.int .i64 (joinM a.mode b.mode))) a b { d with mode := joinM a.mode b.mode } w1.heap.size) := HJ4.out.setMode _
    have HT5 : Hid (Calls Tryd.prog 47 #[.slice ai b.ims.length ci, .slice aj d.ims.length cj, FV 48 #[] #[]] (w4.setCell ⟨w1.heap.size, 2, none⟩ (.int .i64 (joinM a.mode b.mode))) fun e w' => ∃ v m', e = .returned v ∧ m'.map Im.r = joinI a.rows b.rows ∧ OwnIms w' (w.heap.size + 3) v m' ∧ OnlyB (.slice aj d.ims.length cj) (w4.setCell ⟨w1.heap.size, 2, none⟩ (.int .i64 (joinM a.mode b.mode))) w') := by
      have := HT.out d.iv d.ims _ HJ5.out.bel HJ5.out.jb.lt HD.out.2.rows HJ5.out.ims
      rw [HB.out, hdj] at this
      exact this
    have HDJ : Hid (d.iv = _) := hdj
    clear hdj HT HJ4
    go_wp2_with fail
    refine Calls.mono HT5.out ?_
    rintro e w6 ⟨v, m', rfl, hm, ho, hs⟩
    obtain ⟨av, cv, hv, _⟩ := ho.isIn.slice
    subst hv
    have HX : Hid (JB (w6.setCell ⟨w1.heap.size, 6, none⟩ (.slice av m'.length cv)) w.heap.size a b ∧ CB (w6.setCell ⟨w1.heap.size, 6, none⟩ (.slice av m'.length cv)) w1.heap.size { d with mode := joinM a.mode b.mode, iv := .slice av m'.length cv, ims := m' } ∧ NewC (w6.setCell ⟨w1.heap.size, 6, none⟩ (.slice av m'.length cv)) (w.heap.size + 3) { d with mode := joinM a.mode b.mode, iv := .slice av m'.length cv, ims := m' } ∧ Below w.heap.size w (w6.setCell ⟨w1.heap.size, 6, none⟩ (.slice av m'.length cv)) ∧ CB w6 w1.heap.size { d with mode := joinM a.mode b.mode }) := by
      refine HJ5.out.setIms ?_ ho
      rw [show ({ d with mode := joinM a.mode b.mode } : CP).iv = _ from HDJ.out]
      exact hs
    have HM : Hid (m'.map Im.r = joinI a.rows b.rows) := hm
    have k6 : w6.cell? ⟨w1.heap.size, 6, none⟩ = some (.slice aj d.ims.length cj) := by have := HX.out.2.2.2.2.cell 6; rw [show (ccells { d with mode := joinM a.mode b.mode })[6]? = some d.iv from rfl, HDJ.out] at this; exact this
    have l6 : ∀ j, w6.frozen? ⟨w1.heap.size, j, none⟩ = false := fun j => HX.out.2.2.2.2.free j
    clear hm ho hs HT5 HJ5 j2 f2 b6 j6 hne
    go_wp2_with (first
      | (refine step_cload rfl _ rfl w1.heap.size { d with mode := joinM a.mode b.mode, iv := .slice av m'.length cv, ims := m' } rfl HX.out.2.1 ?_)
      | (refine step_cstore rfl _ _ rfl (w.heap.size + 2) { d with mode := joinM a.mode b.mode, iv := .slice av m'.length cv, ims := m' } zeroC rfl rfl HX.out.2.2.1.isIn.one HX.out.1.z ?_; intro w8 h81 h82)
      | fail)
    refine bodyPost_ret (ret_c Tryd.results22 (w.heap.size + 2) { d with mode := joinM a.mode b.mode, iv := .slice av m'.length cv, ims := m' } rfl h81) rfl ⟨_, rfl, ⟨HD.out.2.kind, HD.out.2.table, ?_, HD.out.2.key, ?_, HD.out.2.p⟩, ?_, ?_⟩
    · rw [HV.out]; rfl
    · rw [HV.out]; exact HM.out
    · exact (HX.out.2.2.1.sv h82 fun k hk e => by omega).mono (by omega)
    · exact HX.out.2.2.2.1.trans (h82.below HX.out.2.2.2.1.size fun k hk e => by omega)
end Go.Proofs.YtkkbbpldeeajaaaDoor.Val
