/- What the document's Join of claims answers. -/
import Derived.Test.YtkkbbpldeeajaaaDoorUE4
import Derived.Test.YtkkbbpldeeajaaaDoorUC4
namespace Go.Proofs.YtkkbbpldeeajaaaDoor.Val
open Go.RowKit
set_option maxRecDepth 100000

theorem ims_one {w : World} {iv : Value} {l : List Im} (h : ImsIn w iv l) : ∀ u ∈ l.map Im.v, u.oneCell' = true := by
  intro u hu
  obtain ⟨i, hi, rfl⟩ := List.mem_map.1 hu
  obtain ⟨ao, c, e, _⟩ := (h.2 i hi).slice
  rw [e]; rfl
/-- 'append(nil, l...)' of images: a row of one's own that holds the same rows. -/
theorem wpList_append_ims {w : World} {ops : Array Oper} {rest : List Oper} {o : Oper} {a : Act} {Q : Exit → Act → World → Prop} (hgd : o.guard = none) (s x : Operand) (t : TypeId)
    (ho : o.op = .call { callee := .builtin .append, args := #[s, x], argTypes := #[t, t] }) (ht : Tryd.prog.underlying t = some (.slice 43))
    (iv : Value) (l : List Im) (hs : a.eval s = .slice none 0 0) (hx : a.eval x = iv) (hr : ImsIn w iv l) (hl : l.length ≤ 1000)
    (h : ∀ v' w', w'.ownsRow w.heap.size TRo 1 v' l.length (l.map Im.v) → Below w.heap.size w w' → wpList Tryd.prog ops Q rest (a.put o.dst v') w') : wpList Tryd.prog ops Q (o :: rest) a w := by
  obtain ⟨i0, hi, hz0, hz1, hz2⟩ := info_parts info_R
  have hone := ims_one hr
  obtain ⟨ao, c, rfl, h1, h2, h0, h3⟩ := hr.1
  cases ao with
  | none =>
    obtain ⟨hn, rfl⟩ := h0 rfl
    have hx' : l = [] := List.eq_nil_of_length_eq_zero hn
    subst hx'
    exact wpList_append_own_none hgd s x t ho w.heap.size TRo i0 1 ht hi _ 0 [] hs (World.ownsRow_nil w w.heap.size _ 1) hx (h _ _ (World.ownsRow_nil _ _ _ _) (Below.refl _ _))
  | some ad =>
    have hcell : ∀ j u, (l.map Im.v)[j]? = some u → w.cell? (ad.add j) = some u := by
      rcases h3 with h3 | ⟨b, o, e, h3⟩
      · rw [h3]; intro j u hj; simp at hj
      · cases e; intro j u hj; rw [Addr.add_lit]; exact h3 j u hj
    refine wpList_append_own _ hgd s x t ho w.heap.size TRo i0 _ 1 24 ht hi hz0 hz1 hz2 rfl (by decide) _ 0 [] hs (World.ownsRow_nil w w.heap.size _ 1) ad l.length c (l.map Im.v) hx (by simp) hcell hone ?_ ?_ (Nat.le_refl _) ?_
    · unfold maxLen; omega
    · omega
    · intro v' w' hown hgrow _
      rw [Nat.zero_add, List.nil_append] at hown
      exact h v' w' hown ((Below.refl _ _).grown hgrow (Nat.le_refl _) (fun k hk => by simp [Value.ownBlock] at hk))
/-- The join so far. -/
structure RJ (w0 w : World) (a b : CP) (lv : Value) (k : Nat) (m : List Im) : Prop where
  rows : m.map Im.r = joinI a.rows ((b.ims.take k).map Im.r)
  own : w.ownsRow w0.heap.size TRo 1 lv m.length (m.map Im.v)
  ims : ∀ i ∈ m, RowIn w0 i.v i.r
  jb : JB w w0.heap.size { a with mode := joinM a.mode b.mode } b
  bel : Below w0.heap.size w0 w
theorem RJ.below {w0 w w' : World} {a b : CP} {lv : Value} {k : Nat} {m : List Im} (h : RJ w0 w a b lv k m) (hb : Below w.heap.size w w') : RJ w0 w' a b lv k m :=
  ⟨h.rows, owns_sv (X := Nothing) h.own (Sv.of hb) (fun _ _ h => h), h.ims, h.jb.below hb, on h.bel hb⟩
theorem RJ.isIn {w0 w : World} {a b : CP} {lv : Value} {k : Nat} {m : List Im} (h : RJ w0 w a b lv k m) : ImsIn w lv m := ⟨owns_lies h.own, fun i hi => (h.ims i hi).below h.bel⟩
theorem RJ.len {w0 w : World} {a b : CP} {lv : Value} {k : Nat} {m : List Im} (h : RJ w0 w a b lv k m) (ha : a.ims.length ≤ 20) (hb : b.ims.length ≤ 20) : m.length ≤ 40 := by
  have e1 := congrArg List.length h.rows
  have e2 := joinI_len a.rows ((b.ims.take k).map Im.r)
  simp [CP.rows] at e1 e2
  skip
  omega
theorem joinI_takeR (l : List (List Val)) (n : List Im) (k : Nat) (hk : k < n.length) : joinI l ((n.take (k + 1)).map Im.r) = addI (joinI l ((n.take k).map Im.r)) n[k].r := by
  rw [List.take_add_one, List.getElem?_eq_getElem hk, List.map_append, joinI, List.foldl_append]
  rfl
theorem RJ.skip {w0 w : World} {a b : CP} {lv : Value} {k : Nat} {m : List Im} (h : RJ w0 w a b lv k m) (hk : k < b.ims.length) (hh : hasI (m.map Im.r) b.ims[k].r = true) : RJ w0 w a b lv (k + 1) m :=
  ⟨by rw [joinI_takeR _ _ _ hk, ← h.rows, addI, if_pos hh], h.own, h.ims, h.jb, h.bel⟩
theorem RJ.push {w0 w w' : World} {a b : CP} {lv lv' : Value} {k : Nat} {m : List Im} (h : RJ w0 w a b lv k m) (hk : k < b.ims.length) (hh : hasI (m.map Im.r) b.ims[k].r = false) (hr : RowIn w0 b.ims[k].v b.ims[k].r) (hg : w.grownBy w' lv.ownBlock) (ho : w'.ownsRow w0.heap.size TRo 1 lv' (m.length + 1) (m.map Im.v ++ [b.ims[k].v])) : RJ w0 w' a b lv' (k + 1) (m ++ [b.ims[k]]) := by
  have hsv : Sv (fun x => lv.ownBlock = some x) w w' := ⟨hg.os, hg.tape, hg.output, hg.size, fun b hb hx => hg.block b hb fun e => hx e.symm⟩
  have hb : Below w0.heap.size w0 w' := h.bel.grown hg h.bel.size fun x hx => (World.ownsRow.lt h.own x hx).1
  refine ⟨?_, by simpa using ho, ?_, ⟨h.jb.a.sv hsv (h.jb.a.notOwn h.own), h.jb.b.sv hsv (h.jb.b.notOwn h.own), h.jb.z.sv hsv (h.jb.z.notOwn h.own)⟩, hb⟩
  · rw [joinI_takeR _ _ _ hk, ← h.rows, addI, hh, List.map_append]; rfl
  · intro i hi
    rcases List.mem_append.1 hi with hi | hi
    · exact h.ims i hi
    · rw [List.mem_singleton] at hi; rw [hi]; exact hr
end Go.Proofs.YtkkbbpldeeajaaaDoor.Val
/- What the document's Join of claims answers: the walk. -/
namespace Go.Proofs.YtkkbbpldeeajaaaDoor.Val
open Go.RowKit
set_option maxRecDepth 100000

set_option maxHeartbeats 4000000 in
theorem rcjoin_any (a b : CP) (s : Bool) (hs : s = true ↔ a.p.bare = b.p.bare) (w : World) (ha : CIn w a) (hb : CIn w b) (hfa : a.ims.length ≤ 20) (hfb : b.ims.length ≤ 20) :
    Calls Tryd.prog 23 #[a.val, b.val] w fun e w' => ∃ d, e = .returned d.val ∧ JoinC s a b d ∧ CIn w' d ∧ Below w.heap.size w w' := by
  have HS : Hid (∀ w1, Below w.heap.size w w1 → Tells 16 #[a.val, b.val] w1 (.bool (sameC s a b))) := fun w1 h => rcsame_any a b s hs w1 (ha.below h) (hb.below h)
  have HF : Hid (∀ w1, Tells 50 #[.int .i64 a.mode, .int .i64 b.mode] w1 (.int .i64 (joinM a.mode b.mode))) := fun w1 => rjoin_any _ _ w1
  have HI : Hid (CIn w a ∧ CIn w b) := ⟨ha, hb⟩
  have H1 : Hid (∀ w1, Below (((w.alloc (cobj a TC)).alloc (cobj b TC)).alloc (cobj zeroC TC)).heap.size (((w.alloc (cobj a TC)).alloc (cobj b TC)).alloc (cobj zeroC TC)) w1 → JB w1 w.heap.size a b ∧ Below w.heap.size w w1) := fun w1 h => JB.new h
  have H0 : Hid (∀ w1 : World, w1 = (((w.alloc (cobj a TC)).alloc (cobj b TC)).alloc (cobj zeroC TC)) → Calls Tryd.prog 16 #[a.val, b.val] w1 fun e w' => e = .returned (.bool (sameC s a b)) ∧ JB w' w.heap.size a b ∧ Below w.heap.size w w') := fun w1 e => by
    subst e
    refine Calls.mono (HS.out _ (back3 (Below.refl _ _))) ?_
    rintro e w' ⟨rfl, h3⟩
    exact ⟨rfl, (H1.out _ h3).1, (H1.out _ h3).2⟩
  have HJC : Hid (sameC s a b = false → JoinC s a b a) := fun h => ⟨rfl, rfl, by rw [h]; rfl, rfl, by rw [h]; rfl, rfl⟩
  have HJT : Hid (sameC s a b = true → ∀ (m : List Im) lv, m.map Im.r = joinI a.rows b.rows → JoinC s a b { a with mode := joinM a.mode b.mode, iv := lv, ims := m }) := fun h m lv hm => ⟨rfl, rfl, by rw [h]; rfl, rfl, by rw [h]; exact hm, rfl⟩
  obtain ⟨ai, ci, hiv, hni⟩ := ha.ims.slice
  obtain ⟨aj, cj, hjv, hnj⟩ := hb.ims.slice
  have HE : Hid (a.iv = .slice ai a.ims.length ci ∧ b.iv = .slice aj b.ims.length cj) := ⟨hiv, hjv⟩
  obtain ⟨i0, hi, hz0, hz1, hz2⟩ := info_parts info_R
  have I0 : Hid (Tryd.prog.info? 43 = some i0 ∧ i0.zero = some (.slice none 0 0) ∧ i0.size = 1 ∧ i0.bytes = 24) := ⟨hi, hz0, hz1, hz2⟩
  clear hs ha hb H1 HS hiv hjv hi hz0 hz1 hz2
  generalize sameC s a b = v at *
  unfold CP.val at H0 ⊢
  unfold cobj at H0
  go_enter Tryd.func23, Tryd.ntmps23
  go_wp2_with fail
  refine Calls.mono (H0.out _ rfl) ?_
  rintro e w1 ⟨rfl, hj, hb⟩
  have H1 : Hid (JB w1 w.heap.size a b ∧ Below w.heap.size w w1) := ⟨hj, hb⟩
  clear hj hb H0
  cases v
  · clear HF HE I0 HJT
    go_wp2_with (first
      | (refine step_cload rfl _ rfl w.heap.size a rfl H1.out.1.a ?_)
      | (refine step_cstore rfl _ _ rfl (w.heap.size + 2) a zeroC rfl rfl HI.out.1.one H1.out.1.z ?_; intro w4 h41 h42)
      | fail)
    have hbel : Below w.heap.size w w4 := H1.out.2.trans (h42.below H1.out.2.size fun k hk e => by omega)
    exact bodyPost_ret (ret_c Tryd.results23 (w.heap.size + 2) a rfl h41) rfl ⟨_, rfl, HJC.out (by trivial), HI.out.1.below hbel, hbel⟩
  clear HJC
  have m1 : w1.cell? ⟨w.heap.size, 2, none⟩ = some (.int .i64 a.mode) := H1.out.1.a.cell 2
  have m2 : w1.cell? ⟨w.heap.size + 1, 2, none⟩ = some (.int .i64 b.mode) := H1.out.1.b.cell 2
  go_wp2_with fail
  refine Calls.mono (HF.out _) ?_
  rintro e w2 ⟨rfl, hb⟩
  have H2 : Hid (JB w2 w.heap.size a b ∧ Below w.heap.size w w2) := ⟨H1.out.1.below hb, on H1.out.2 hb⟩
  clear hb H1 HF m1 m2
  have j2 : w2.cell? ⟨w.heap.size, 2, none⟩ = some (.int .i64 a.mode) := H2.out.1.a.cell 2
  have f2 : ∀ j, w2.frozen? ⟨w.heap.size, j, none⟩ = false := fun j => H2.out.1.a.free j
  have j6 : w2.cell? ⟨w.heap.size, 6, none⟩ = some (.slice ai a.ims.length ci) := by have := H2.out.1.a.box.c6; rwa [HE.out.1] at this
  have H3 : Hid (JB (w2.setCell ⟨w.heap.size, 2, none⟩ (.int .i64 (joinM a.mode b.mode))) w.heap.size { a with mode := joinM a.mode b.mode } b ∧ Below w.heap.size w (w2.setCell ⟨w.heap.size, 2, none⟩ (.int .i64 (joinM a.mode b.mode)))) := by
    have hs : Sv (· = w.heap.size) w2 (w2.setCell ⟨w.heap.size, 2, none⟩ (.int .i64 (joinM a.mode b.mode))) := Sv.set (X := (· = w.heap.size)) (Sv.refl _ w2) (a := ⟨w.heap.size, 2, none⟩) rfl _
    have h := H2.out
    exact ⟨⟨h.1.a.set_mode _, h.1.b.sv hs (by omega), h.1.z.sv hs (by omega)⟩, h.2.setCell (Nat.le_refl _) _⟩
  have HA : Hid (ImsIn (w2.setCell ⟨w.heap.size, 2, none⟩ (.int .i64 (joinM a.mode b.mode))) (.slice ai a.ims.length ci) a.ims) := by
    have := (HI.out.1.below H3.out.2).ims
    rwa [HE.out.1] at this
  clear H2
  go_wp2_with (at_builtin; refine wpList_append_ims rfl _ _ _ rfl Tryd.underlying26 (.slice ai a.ims.length ci) a.ims rfl rfl HA.out (by omega) ?_)
  intro lv w4 hown hb4
  have HR : Hid (RJ w w4 a b lv 0 a.ims) := by
    have hbig := H3.out.2
    have hb4' : Below (w2.setCell ⟨w.heap.size, 2, none⟩ (.int .i64 (joinM a.mode b.mode))).heap.size (w2.setCell ⟨w.heap.size, 2, none⟩ (.int .i64 (joinM a.mode b.mode))) w4 := hb4.mono (by simp)
    have hsz : (w2.setCell ⟨w.heap.size, 2, none⟩ (.int .i64 (joinM a.mode b.mode))).heap.size = w2.heap.size := by simp
    refine ⟨by simp [joinI, CP.rows], owns_base hown fun g hg => by have h1 := hbig.size; have h2 := (World.ownsRow.lt hown g hg).1; omega, fun i hi => HI.out.1.ims.2 i hi, H3.out.1.below hb4', on hbig hb4'⟩
  obtain ⟨al, cl, hlv, _⟩ := HR.out.isIn.slice
  subst hlv
  clear hown hb4 HA H3 j2 f2 j6
  go_wp2_with fail
  go_loopw [6, 7, 8] (fun l i _ wr => ∃ (k : Nat) (m : List Im), k ≤ b.ims.length ∧ i = .int .i64 k ∧ Hid (RJ w wr a b l k m))
    (fun _ i _ _ => b.ims.length - (intOf i).toNat)
  case atStart => exact ⟨0, a.ims, Nat.zero_le _, rfl, HR.out⟩
  case round =>
    clear HR
    obtain ⟨k, m, hk, rfl, HR⟩ := hrel
    have c6 : wr.cell? ⟨w.heap.size + 1, 6, none⟩ = some (.slice aj b.ims.length cj) := by have := HR.out.jb.b.box.c6; rwa [HE.out.2] at this
    obtain ⟨al, cl, hlv, _⟩ := HR.out.isIn.slice
    by_cases h1 : k < b.ims.length
    · have k0 : (0 : Int) ≤ (k : Int) := by omega
      have i1 : (k : Int) < (b.ims.length : Int) := by omega
      have hin := (HI.out.2.below HR.out.bel).ims
      rw [HE.out.2] at hin
      obtain ⟨b1, o, rfl, hat⟩ := hin.at k h1
      have hrk := hin.2 _ (List.getElem_mem h1)
      obtain ⟨ak, ck, hvk, _⟩ := hrk.slice
      have HQ : Hid (Calls Tryd.prog 44 #[u6, b.ims[k].v] wr fun e w' => e = .returned (.bool (hasI (m.map Im.r) b.ims[k].r)) ∧ Below wr.heap.size wr w') := rin_any _ _ m _ wr HR.out.isIn hrk
      rw [hvk] at hat HQ
      obtain ⟨q, hq⟩ : ∃ q, hasI (m.map Im.r) b.ims[k].r = q := ⟨_, rfl⟩
      rw [hq] at HQ
      have HU : Hid (hasI (m.map Im.r) b.ims[k].r = q) := hq
      have HVK : Hid (b.ims[k].v = .slice ak b.ims[k].r.length ck) := hvk
      clear hin hrk hvk hq
      subst hlv
      go_wp2_with fail
      refine Calls.mono HQ.out ?_
      rintro e w5 ⟨rfl, hb⟩
      have HR5 : Hid (RJ w w5 a b (.slice al m.length cl) k m) := HR.out.below hb
      have d6 := cell_below c6 hb
      have dat := cell_below hat hb
      clear hb HR HQ c6 hat
      cases q
      · have HW : Hid (RJ w (w5.alloc (.cells #[.slice ak b.ims[k].r.length ck] TRo)) a b (.slice al m.length cl) k m) := HR5.out.below (alloc1 _ _)
        have HC : Hid (∀ j u, [Value.slice ak b.ims[k].r.length ck][j]? = some u → (w5.alloc (.cells #[.slice ak b.ims[k].r.length ck] TRo)).cell? ((⟨w5.heap.size, 0, none⟩ : Addr).add j) = some u) := fun j u hj => by
          match j, hj with
          | 0, hj => simpa [Addr.add_lit, go_sem] using hj
        have hml : m.length ≤ 40 := HR5.out.len hfa hfb
        clear HR5
        go_wp2_with (at_builtin; refine wpList_append_own_at _ rfl _ _ _ rfl w.heap.size TRo i0 _ 1 24 Tryd.underlying26 I0.out.1 I0.out.2.1 I0.out.2.2.1 I0.out.2.2.2 rfl (by decide) (.slice al m.length cl) m.length (m.map Im.v) rfl HW.out.own ⟨w5.heap.size, 0, none⟩ 1 1 [.slice ak b.ims[k].r.length ck] rfl rfl HC.out (by simp [Value.oneCell']) ?_ ?_ HW.out.bel.size ?_)
        · unfold maxLen; omega
        · omega
        · intro v' w6 hown' hgrow _ _
          have HN : Hid (RJ w w6 a b v' (k + 1) (m ++ [b.ims[k]])) := HW.out.push h1 HU.out (HI.out.2.ims.2 _ (List.getElem_mem h1)) hgrow (by rw [HVK.out]; exact hown')
          clear hown' hgrow HW HC HU HVK d6 dat
          go_wp2_with fail
          go_roundw
          case rel => exact ⟨k + 1, _, by omega, by go_num, HN⟩
          case measure => simp [intOf]; omega
      · have HN : Hid (RJ w w5 a b (.slice al m.length cl) (k + 1) m) := HR5.out.skip h1 HU.out
        clear HR5 HU HVK d6 dat
        go_wp2_with fail
        go_roundw
        case rel => exact ⟨k + 1, _, by omega, by go_num, HN⟩
        case measure => simp [intOf]; omega
    · have i1 : decide ((k : Int) < (b.ims.length : Int)) = false := by simp; omega
      obtain rfl : k = b.ims.length := by omega
      subst hlv
      have a6 : wr.cell? ⟨w.heap.size, 6, none⟩ = some (.slice ai a.ims.length ci) := by have := HR.out.jb.a.box.c6; rw [show ({ a with mode := joinM a.mode b.mode } : CP).iv = a.iv from rfl, HE.out.1] at this; exact this
      have g6 : ∀ j, wr.frozen? ⟨w.heap.size, j, none⟩ = false := fun j => HR.out.jb.a.free j
      have HX : Hid (CB (wr.setCell ⟨w.heap.size, 6, none⟩ (.slice al m.length cl)) w.heap.size { a with mode := joinM a.mode b.mode, iv := .slice al m.length cl, ims := m } ∧ CB (wr.setCell ⟨w.heap.size, 6, none⟩ (.slice al m.length cl)) (w.heap.size + 2) zeroC ∧ ((wr.setCell ⟨w.heap.size, 6, none⟩ (.slice al m.length cl)).ownsRow w.heap.size TRo 1 (.slice al m.length cl) m.length (m.map Im.v) ∧ ∀ i ∈ m, RowIn w i.v i.r) ∧ Below w.heap.size w (wr.setCell ⟨w.heap.size, 6, none⟩ (.slice al m.length cl))) := by
        have h := HR.out
        have hs : Sv (· = w.heap.size) wr (wr.setCell ⟨w.heap.size, 6, none⟩ (.slice al m.length cl)) := Sv.set (X := (· = w.heap.size)) (Sv.refl _ wr) (a := ⟨w.heap.size, 6, none⟩) rfl _
        have hb : Below w.heap.size w (wr.setCell ⟨w.heap.size, 6, none⟩ (.slice al m.length cl)) := h.bel.setCell (Nat.le_refl _) _
        exact ⟨h.jb.a.set_iv _ m, h.jb.z.sv hs (by omega), ⟨owns_sv h.own hs fun _ hg e => h.jb.a.notOwn h.own (e ▸ hg), h.ims⟩, hb⟩
      have HM : Hid (JoinC s a b { a with mode := joinM a.mode b.mode, iv := .slice al m.length cl, ims := m }) := HJT.out (by trivial) m _ (by have := HR.out.rows; rw [List.take_length] at this; exact this)
      have HO : Hid (OneC { a with mode := joinM a.mode b.mode, iv := .slice al m.length cl, ims := m }) := ⟨⟨_, _, _, rfl⟩, HI.out.1.one.2⟩
      clear HR HJT HE I0
      go_wp2_with (first
        | (refine step_cload rfl _ rfl w.heap.size { a with mode := joinM a.mode b.mode, iv := .slice al m.length cl, ims := m } rfl HX.out.1 ?_)
        | (refine step_cstore rfl _ _ rfl (w.heap.size + 2) { a with mode := joinM a.mode b.mode, iv := .slice al m.length cl, ims := m } zeroC rfl rfl HO.out HX.out.2.1 ?_; intro w8 h81 h82)
        | fail)
      have hb82 : Below w.heap.size w w8 := HX.out.2.2.2.trans (h82.below HX.out.2.2.2.size fun k hk e => by omega)
      refine bodyPost_ret (ret_c Tryd.results23 (w.heap.size + 2) { a with mode := joinM a.mode b.mode, iv := .slice al m.length cl, ims := m } rfl h81) rfl ⟨_, rfl, HM.out, ?_, hb82⟩
      exact ⟨HI.out.1.key, ⟨owns_lies (owns_sv HX.out.2.2.1.1 h82 fun _ hg e => HX.out.2.1.notOwn HX.out.2.2.1.1 (e ▸ hg)), fun i hi => (HX.out.2.2.1.2 i hi).below hb82⟩, HI.out.1.p.keep hb82⟩
end Go.Proofs.YtkkbbpldeeajaaaDoor.Val
