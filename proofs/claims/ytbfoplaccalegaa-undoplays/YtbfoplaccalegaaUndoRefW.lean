/- What the reference's Save and All answer. -/
import Derived.Test.YtbfoplaccalegaaUndoRefU
namespace Go.Proofs.Ytbfoplaccalegaa.Val
open Go Go.RowKit

variable {R : Value → List Val → Prop}
/-- Boxes of a call that takes a log alone. -/
structure PT2 (w wr : World) (room : Int) (lv sv mv : Value) : Prop where
  lb : LB wr w.heap.size room lv sv mv
  zb : LB wr (w.heap.size + 1) 0 (.slice none 0 0) (.slice none 0 0) (.slice none 0 0)
  bl : Below w.heap.size w wr
  sz : w.heap.size + 2 ≤ wr.heap.size
section
variable {w wr w' : World} {room : Int} {lv sv mv : Value}
theorem PT2.low (p : PT2 w wr room lv sv mv) {B : Nat} (hb : Below B wr w') (hB : w.heap.size + 2 ≤ B) : PT2 w w' room lv sv mv :=
  ⟨p.lb.block (hb.block _ (by omega)), p.zb.block (hb.block _ (by omega)), p.bl.trans (hb.mono (by omega)), Nat.le_trans p.sz hb.size⟩
theorem PT2.below (p : PT2 w wr room lv sv mv) (hb : Below wr.heap.size wr w') : PT2 w w' room lv sv mv := p.low hb p.sz
theorem PT2.set1 (p : PT2 w wr room lv sv mv) (v : Value) : PT2 w (wr.setCell ⟨w.heap.size, 1, none⟩ v) room v sv mv :=
  ⟨p.lb.set1 v, p.zb.block (Below.heap_setCell _ _ _ _ (by simp)), p.bl.setCell (Nat.le_refl _) _, by simp [World.setCell]; exact p.sz⟩
theorem PT2.set2 (p : PT2 w wr room lv sv mv) (v : Value) : PT2 w (wr.setCell ⟨w.heap.size, 2, none⟩ v) room lv v mv :=
  ⟨p.lb.set2 v, p.zb.block (Below.heap_setCell _ _ _ _ (by simp)), p.bl.setCell (Nat.le_refl _) _, by simp [World.setCell]; exact p.sz⟩
theorem PT2.start (w : World) (room : Int) (lv sv mv : Value) : PT2 w ((w.alloc (robj room lv sv mv)).alloc (robj 0 (.slice none 0 0) (.slice none 0 0) (.slice none 0 0))) room lv sv mv := by
  have s1 : (w.alloc (robj room lv sv mv)).heap.size = w.heap.size + 1 := by simp
  refine ⟨(LB.new w room lv sv mv).below (alloc1 _ _), ?_, ((Below.refl _ _).alloc (Nat.le_refl _) _).alloc (by simp) _, by simp⟩
  have := LB.new (w.alloc (robj room lv sv mv)) 0 (.slice none 0 0) (.slice none 0 0) (.slice none 0 0)
  rwa [s1] at this
end
def zsv (L : Lg) : List Int := [-1, svI L.s1, svI L.s2, svI L.s3]
abbrev icells (l : List Int) : List Value := l.map (.int .i64)
theorem info_I : (Try.prog.info? 3).map (fun i => (i.zero, i.size, i.bytes)) = some (some (.int .i64 0), 1, 8) := by kernel_rfl
/-- 'append(nil, l...)' of integers. -/
theorem wpList_append_ints {w : World} {ops : Array Oper} {rest : List Oper} {o : Oper} {a : Act} {Q : Exit → Act → World → Prop} (hgd : o.guard = none) (s x : Operand) (t : TypeId)
    (ho : o.op = .call { callee := .builtin .append, args := #[s, x], argTypes := #[t, t] }) (ht : Try.prog.underlying t = some (.slice 3))
    (vr : Value) (xs : List Int) (n : Nat) (hn : xs.length = n) (hs : a.eval s = .slice none 0 0) (hx : a.eval x = vr) (hr : Lies w vr n (icells xs)) (hl : n ≤ 1000) (h0 : 0 < n)
    (h : ∀ q c w', w'.ownsRow w.heap.size 3 1 (.slice (some ⟨q, 0, none⟩) n c) n (icells xs) → Below w.heap.size w w' → wpList Try.prog ops Q rest (a.put o.dst (.slice (some ⟨q, 0, none⟩) n c)) w') : wpList Try.prog ops Q (o :: rest) a w := by
  subst hn
  obtain ⟨i0, hi, hz0, hz1, hz2⟩ := info_parts info_I
  obtain ⟨ao, c, rfl, h1, h2, _, h3⟩ := hr
  rcases h3 with h3 | ⟨b, o', rfl, h3⟩
  · have : xs = [] := by simpa using h3
    subst this; simp at h0
  · have hcell : ∀ j u, (icells xs)[j]? = some u → w.cell? ((⟨b, o', none⟩ : Addr).add j) = some u := fun j u hj => by rw [Addr.add_lit]; exact h3 j u hj
    refine wpList_append_own _ hgd s x t ho w.heap.size 3 i0 _ 1 8 ht hi hz0 hz1 hz2 rfl (by decide) _ 0 [] hs (World.ownsRow_nil w w.heap.size _ 1) ⟨b, o', none⟩ xs.length c (icells xs) hx (by simp) hcell (fun u hu => by obtain ⟨z, _, rfl⟩ := List.mem_map.1 hu; rfl) ?_ ?_ (Nat.le_refl _) ?_
    · unfold maxLen; omega
    · omega
    · intro v' w' hown hgrow _
      rw [Nat.zero_add, List.nil_append] at hown
      rcases hown.2 with ⟨_, e2⟩ | ⟨q, cap, cur, e1, _⟩
      · omega
      · subst e1
        exact h q cap w' hown ((Below.refl _ _).grown hgrow (Nat.le_refl _) (fun k hk => by simp [Value.ownBlock] at hk))
theorem ints_in {w : World} {B : Nat} {v : Value} {l : List Int} (h : w.ownsRow B 3 1 v l.length (icells l)) : Lies w v l.length (icells l) := by
  rcases h.2 with ⟨rfl, h0⟩ | ⟨q, cap, cur, rfl, hB, hq, c1, c2, c3, c4⟩
  · have : l = [] := List.eq_nil_of_length_eq_zero h0
    subst this
    exact ⟨none, 0, rfl, Nat.le_refl _, Nat.zero_le _, fun _ => ⟨rfl, rfl⟩, .inl rfl⟩
  · refine ⟨_, cap, rfl, c1, c2, (fun e => by cases e), .inr ⟨q, 0, rfl, fun j u hj => ?_⟩⟩
    have := World.ownsRow.cells h (g := q) rfl j u hj
    rwa [Addr.add_lit] at this
theorem iown_block {w : World} {B n : Nat} {v : Value} {xs : List Value} (h : w.ownsRow B 3 1 v n xs) : ∀ k, v.ownBlock = some k → B ≤ k ∧ k < w.heap.size := fun k hk => by
  rcases h.2 with ⟨e1, _⟩ | ⟨q, cap, cur, e1, hB, hq, _⟩
  · rw [e1] at hk; cases hk
  · rw [e1] at hk
    have hqk : q = k := Option.some.inj hk
    subst hqk
    exact ⟨hB, (Array.getElem?_eq_some_iff.1 hq).1⟩
/-- A log whose savepoints are told anew. -/
theorem RL.saved {w wf : World} {lv sv mv v2 : Value} {L L2 : Lg} (h : RL R w lv sv mv L) (hb : Below w.heap.size w wf) (hs : Lies wf v2 4 (icells (zsv L2))) (he : L2.es = L.es) (hm : L2.met = L.met) : RL R wf lv v2 mv L2 := by
  obtain ⟨⟨es, e, hl, hr⟩, _, hmm⟩ := h
  exact ⟨⟨es, by rw [he]; exact e, hl.below hb, hr⟩, hs, by rw [hm]; exact hmm.below hb⟩
theorem iown_other {w w' : World} {B n : Nat} {v : Value} {xs : List Value} (h : w.ownsRow B 3 1 v n xs) (hb : ∀ k, B ≤ k → k < w.heap.size → w'.heap[k]? = w.heap[k]?) : w'.ownsRow B 3 1 v n xs :=
  owns_block h fun k hk => hb k (iown_block h k hk).1 (iown_block h k hk).2
/-- Behind Save's stores. -/
theorem save_done {w w4 : World} {room : Int} {lv sv mv : Value} {q n c : Nat} {z : Int} {zs : List Int} (p : PT2 w w4 room lv sv mv) (ho : w4.ownsRow (w.heap.size + 2) 3 1 (.slice (some ⟨q, 0, none⟩) 4 c) 4 (icells zs)) :
    PT2 w ((w4.setCell ⟨q, n, none⟩ (.int .i64 z)).setCell ⟨w.heap.size, 2, none⟩ (.slice (some ⟨q, 0, none⟩) 4 c)) room lv (.slice (some ⟨q, 0, none⟩) 4 c) mv ∧ ((w4.setCell ⟨q, n, none⟩ (.int .i64 z)).setCell ⟨w.heap.size, 2, none⟩ (.slice (some ⟨q, 0, none⟩) 4 c)).ownsRow (w.heap.size + 2) 3 1 (.slice (some ⟨q, 0, none⟩) 4 c) 4 (icells (zs.set n z)) := by
  have hq := (iown_block ho q rfl).1
  refine ⟨(p.low ((Below.refl (w.heap.size + 2) w4).setCell (p := ⟨q, n, none⟩) hq _) (Nat.le_refl _)).set2 _, ?_⟩
  have h1 := (World.ownsRow.stored ho n (.int .i64 z)).1
  rw [show (icells zs).set n (.int .i64 z) = icells (zs.set n z) by simp [icells, List.map_set]] at h1
  exact iown_other h1 fun k hk _ => Below.heap_setCell _ _ _ _ (by simp only; omega)
theorem rsave_bad (w : World) (lv sv mv : Value) (L : Lg) (h : RL R w lv sv mv L) (n : Int) (hn : n < 1 ∨ 3 < n) :
    Calls Try.prog 21 #[RV L.room lv sv mv, .int .i64 n] w fun x w' => x = .returned (.tuple #[RV L.room lv sv mv, .int .i64 70]) ∧ Below w.heap.size w w' := by
  obtain ⟨es, epe, hes, hrr⟩ := h.l
  obtain ⟨la, lc, rfl, -⟩ := hes.1.slice
  obtain ⟨sa, sc, rfl, -⟩ := h.s.slice
  obtain ⟨ma, mc, rfl, -⟩ := h.m.1.slice
  rw [List.length_map]
  clear h hes hrr epe
  rcases hn with h1 | h1
  · go_enter Try.func21, Try.ntmps21
    go_wp2_with fail
    refine bodyPost_ret (v := .tuple #[RV L.room (.slice la es.length lc) (.slice sa 4 sc) (.slice ma L.met.length mc), .int .i64 70]) (by simp [results, Try.results21, go_sem]) rfl ⟨rfl, ?_⟩
    exact ((Below.refl _ _).alloc (Nat.le_refl _) _).alloc (by simp) _
  · have h2 : ¬ n < 1 := by omega
    go_enter Try.func21, Try.ntmps21
    go_wp2_with fail
    refine bodyPost_ret (v := .tuple #[RV L.room (.slice la es.length lc) (.slice sa 4 sc) (.slice ma L.met.length mc), .int .i64 70]) (by simp [results, Try.results21, go_sem]) rfl ⟨rfl, ?_⟩
    exact ((Below.refl _ _).alloc (Nat.le_refl _) _).alloc (by simp) _
theorem rsave_ok (w : World) (lv sv mv : Value) (L : Lg) (h : RL R w lv sv mv L) (n : Int) (hn : okn n = true) :
    Calls Try.prog 21 #[RV L.room lv sv mv, .int .i64 n] w fun x w' => ∃ sv', x = .returned (.tuple #[RV L.room lv sv' mv, .int .i64 0]) ∧ RL R w' lv sv' mv (L.put n (some L.es.length)) ∧ Below w.heap.size w w' ∧ NewV w sv' := by
  obtain ⟨es, epe, hes, hrr⟩ := h.l
  obtain ⟨la, lc, rfl, -⟩ := hes.1.slice
  obtain ⟨sa, sc, rfl, -⟩ := h.s.slice
  obtain ⟨ma, mc, hma, -⟩ := h.m.1.slice
  rw [List.length_map] at hma
  subst hma
  have HH : Hid (RL R w (.slice la es.length lc) (.slice sa 4 sc) (.slice ma L.met.length mc) L) := h
  have HP : Hid (PT2 w ((w.alloc (robj L.room (.slice la es.length lc) (.slice sa 4 sc) (.slice ma L.met.length mc))).alloc (robj 0 (.slice none 0 0) (.slice none 0 0) (.slice none 0 0))) L.room (.slice la es.length lc) (.slice sa 4 sc) (.slice ma L.met.length mc)) := PT2.start w L.room _ _ _
  have hs2 : Lies ((w.alloc (robj L.room (.slice la es.length lc) (.slice sa 4 sc) (.slice ma L.met.length mc))).alloc (robj 0 (.slice none 0 0) (.slice none 0 0) (.slice none 0 0))) (.slice sa 4 sc) 4 (icells (zsv L)) := h.s.below HP.out.bl
  have HE : Hid (es.length = L.es.length) := pe_len epe
  clear h hes hrr epe
  rcases okn_cases hn with rfl | rfl | rfl
  · clear hn
    go_enter Try.func21, Try.ntmps21
    go_wp2_with (at_builtin; refine wpList_append_ints rfl _ _ _ rfl Try.underlying27 _ (zsv L) 4 rfl rfl rfl hs2 (by decide) (by decide) ?_)
    intro q c w4 ho hb
    have HP4 : Hid _ := HP.out.low hb (by omega)
    have HO4 : Hid (w4.ownsRow (w.heap.size + 2) 3 1 (.slice (some ⟨q, 0, none⟩) 4 c) 4 (icells (zsv L))) := by
      rw [show w.heap.size + 1 + 1 = w.heap.size + 2 by omega] at ho
      exact ho
    have hq := (iown_block HO4.out q rfl).1
    have q1 : w4.cell? ⟨q, 1, none⟩ = some (.int .i64 (svI L.s1)) := World.ownsRow.cellAt HO4.out 1 (by decide)
    have qf := World.ownsRow.frozenAt HO4.out 1
    have hne : w.heap.size ≠ q := by omega
    have hne1 : w.heap.size + 1 ≠ q := by omega
    obtain ⟨⟨x0, x1, x2, x3, xf⟩, ⟨z0, z1, z2, z3, zf⟩, -, -⟩ := HP4.out
    have HD : Hid _ := save_done (n := 1) (z := es.length) HP4.out HO4.out
    clear ho hb hs2 HP hq HP4 HO4
    go_wp2_with fail
    clear q1 qf hne hne1 x0 x1 x2 x3 xf z0 z1 z2 z3 zf
    generalize (w4.setCell ⟨q, 1, none⟩ (.int .i64 es.length)).setCell ⟨w.heap.size, 2, none⟩ (.slice (some ⟨q, 0, none⟩) 4 c) = wz at *
    obtain ⟨-, ⟨z0, z1, z2, z3, zf⟩, bl, sz⟩ := HD.out.1
    refine bodyPost_ret (v := .tuple #[RV L.room (.slice la es.length lc) (.slice (some ⟨q, 0, none⟩) 4 c) (.slice ma L.met.length mc), .int .i64 0]) (by simp [results, Try.results21, go_sem, z0, z1, z2, z3]) rfl ⟨_, rfl, ?_, told_low bl (by omega), NewV.own HD.out.2 (by omega)⟩
    refine HH.out.saved (told_low bl (by omega)) ?_ rfl rfl
    have h2 : (told wz (w.heap.size + 1) L.room (.slice la es.length lc) (.slice (some ⟨q, 0, none⟩) 4 c) (.slice ma L.met.length mc)).ownsRow (w.heap.size + 2) 3 1 (.slice (some ⟨q, 0, none⟩) 4 c) 4 (icells ((zsv L).set 1 es.length)) := iown_other HD.out.2 fun k hk _ => told_far (by omega)
    rw [HE.out] at h2 ⊢
    exact ints_in (l := (zsv L).set 1 L.es.length) h2
  · clear hn
    go_enter Try.func21, Try.ntmps21
    go_wp2_with (at_builtin; refine wpList_append_ints rfl _ _ _ rfl Try.underlying27 _ (zsv L) 4 rfl rfl rfl hs2 (by decide) (by decide) ?_)
    intro q c w4 ho hb
    have HP4 : Hid _ := HP.out.low hb (by omega)
    have HO4 : Hid (w4.ownsRow (w.heap.size + 2) 3 1 (.slice (some ⟨q, 0, none⟩) 4 c) 4 (icells (zsv L))) := by
      rw [show w.heap.size + 1 + 1 = w.heap.size + 2 by omega] at ho
      exact ho
    have hq := (iown_block HO4.out q rfl).1
    have q1 : w4.cell? ⟨q, 2, none⟩ = some (.int .i64 (svI L.s2)) := World.ownsRow.cellAt HO4.out 2 (by decide)
    have qf := World.ownsRow.frozenAt HO4.out 2
    have hne : w.heap.size ≠ q := by omega
    have hne1 : w.heap.size + 1 ≠ q := by omega
    obtain ⟨⟨x0, x1, x2, x3, xf⟩, ⟨z0, z1, z2, z3, zf⟩, -, -⟩ := HP4.out
    have HD : Hid _ := save_done (n := 2) (z := es.length) HP4.out HO4.out
    clear ho hb hs2 HP hq HP4 HO4
    go_wp2_with fail
    clear q1 qf hne hne1 x0 x1 x2 x3 xf z0 z1 z2 z3 zf
    generalize (w4.setCell ⟨q, 2, none⟩ (.int .i64 es.length)).setCell ⟨w.heap.size, 2, none⟩ (.slice (some ⟨q, 0, none⟩) 4 c) = wz at *
    obtain ⟨-, ⟨z0, z1, z2, z3, zf⟩, bl, sz⟩ := HD.out.1
    refine bodyPost_ret (v := .tuple #[RV L.room (.slice la es.length lc) (.slice (some ⟨q, 0, none⟩) 4 c) (.slice ma L.met.length mc), .int .i64 0]) (by simp [results, Try.results21, go_sem, z0, z1, z2, z3]) rfl ⟨_, rfl, ?_, told_low bl (by omega), NewV.own HD.out.2 (by omega)⟩
    refine HH.out.saved (told_low bl (by omega)) ?_ rfl rfl
    have h2 : (told wz (w.heap.size + 1) L.room (.slice la es.length lc) (.slice (some ⟨q, 0, none⟩) 4 c) (.slice ma L.met.length mc)).ownsRow (w.heap.size + 2) 3 1 (.slice (some ⟨q, 0, none⟩) 4 c) 4 (icells ((zsv L).set 2 es.length)) := iown_other HD.out.2 fun k hk _ => told_far (by omega)
    rw [HE.out] at h2 ⊢
    exact ints_in (l := (zsv L).set 2 L.es.length) h2
  · clear hn
    go_enter Try.func21, Try.ntmps21
    go_wp2_with (at_builtin; refine wpList_append_ints rfl _ _ _ rfl Try.underlying27 _ (zsv L) 4 rfl rfl rfl hs2 (by decide) (by decide) ?_)
    intro q c w4 ho hb
    have HP4 : Hid _ := HP.out.low hb (by omega)
    have HO4 : Hid (w4.ownsRow (w.heap.size + 2) 3 1 (.slice (some ⟨q, 0, none⟩) 4 c) 4 (icells (zsv L))) := by
      rw [show w.heap.size + 1 + 1 = w.heap.size + 2 by omega] at ho
      exact ho
    have hq := (iown_block HO4.out q rfl).1
    have q1 : w4.cell? ⟨q, 3, none⟩ = some (.int .i64 (svI L.s3)) := World.ownsRow.cellAt HO4.out 3 (by decide)
    have qf := World.ownsRow.frozenAt HO4.out 3
    have hne : w.heap.size ≠ q := by omega
    have hne1 : w.heap.size + 1 ≠ q := by omega
    obtain ⟨⟨x0, x1, x2, x3, xf⟩, ⟨z0, z1, z2, z3, zf⟩, -, -⟩ := HP4.out
    have HD : Hid _ := save_done (n := 3) (z := es.length) HP4.out HO4.out
    clear ho hb hs2 HP hq HP4 HO4
    go_wp2_with fail
    clear q1 qf hne hne1 x0 x1 x2 x3 xf z0 z1 z2 z3 zf
    generalize (w4.setCell ⟨q, 3, none⟩ (.int .i64 es.length)).setCell ⟨w.heap.size, 2, none⟩ (.slice (some ⟨q, 0, none⟩) 4 c) = wz at *
    obtain ⟨-, ⟨z0, z1, z2, z3, zf⟩, bl, sz⟩ := HD.out.1
    refine bodyPost_ret (v := .tuple #[RV L.room (.slice la es.length lc) (.slice (some ⟨q, 0, none⟩) 4 c) (.slice ma L.met.length mc), .int .i64 0]) (by simp [results, Try.results21, go_sem, z0, z1, z2, z3]) rfl ⟨_, rfl, ?_, told_low bl (by omega), NewV.own HD.out.2 (by omega)⟩
    refine HH.out.saved (told_low bl (by omega)) ?_ rfl rfl
    have h2 : (told wz (w.heap.size + 1) L.room (.slice la es.length lc) (.slice (some ⟨q, 0, none⟩) 4 c) (.slice ma L.met.length mc)).ownsRow (w.heap.size + 2) 3 1 (.slice (some ⟨q, 0, none⟩) 4 c) 4 (icells ((zsv L).set 3 es.length)) := iown_other HD.out.2 fun k hk _ => told_far (by omega)
    rw [HE.out] at h2 ⊢
    exact ints_in (l := (zsv L).set 3 L.es.length) h2
end Go.Proofs.Ytbfoplaccalegaa.Val
