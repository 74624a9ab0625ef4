/- What the law's done answers at a push: both logs go on alike. -/
import Derived.Test.YtbfoplaccalegaaUndoQK
namespace Go.Proofs.Ytbfoplaccalegaa.Val
open Go Go.RowKit

/-- An act, as plain data. -/
structure UA where
  kind : Int
  n : Int
  e : En
abbrev UA.val (a : UA) : Value := .agg #[.int .i64 a.kind, .int .i64 a.n, .int .i64 a.e.t, .bool a.e.k.t, .int .i64 a.e.k.n, .string a.e.k.s, a.e.r]
abbrev TUA : TypeId := 38
abbrev aobj (a : UA) : Obj := .cells #[.int .i64 a.kind, .int .i64 a.n, .int .i64 a.e.t, .bool a.e.k.t, .int .i64 a.e.k.n, .string a.e.k.s, a.e.r] TUA
def kindA (a : UA) : Int := bits BinOp.and IntKind.i64 a.kind 7
abbrev zobj : Obj := robj 0 (.slice none 0 0) (.slice none 0 0) (.slice none 0 0)
/-- What is kept beside the log within done: the reference's log and three boxes. -/
def DK (K : List (Nat × Obj)) (w0 : World) (B : Nat) (a : UA) (room : Int) (lv sv mv lv2 sv2 mv2 : Value) (L2 : Lg) (w : World) (h : Hl) : Prop :=
  RK K w0 lv2 sv2 mv2 L2 w h ∧ KB B (robj room lv sv mv) w h ∧ KB (B + 1) (aobj a) w h ∧ KB (B + 2) zobj w h ∧ NBk (B + 2) lv2 ∧ NBk (B + 2) sv2 ∧ NBk (B + 2) mv2 ∧ ∀ x ∈ K, x.1 < B
/-- Two blocks that no row of the log's lies in. -/
def Z2 (K : List (Nat × Obj)) (b : Nat) (v : Value) : Prop := NBs K v ∧ NBk b v
variable {K : List (Nat × Obj)}
section
variable {w0 w w' : World} {p B : Nat} {L L2 L3 : Lg} {Z : Value → Prop} {lv sv mv lv2 sv2 mv2 lv3 sv3 mv3 : Value} {a : UA} {room : Int}
theorem DK.kpt : Kpt (DK K w0 B a room lv sv mv lv2 sv2 mv2 L2) := fun w h w' h' m ⟨x, y, z, u, r⟩ => ⟨RK.kpt _ _ _ _ _ _ w h w' h' m x, KB.kpt _ _ w h w' h' m y, KB.kpt _ _ w h w' h' m z, KB.kpt _ _ w h w' h' m u, r⟩
theorem done_start (q : QK w0 w p L (NBs K) (RK K w0 lv sv mv L2)) (a : UA) (room : Int) : QK w0 (((w.alloc (robj room lv sv mv)).alloc (aobj a)).alloc zobj) p L (Z2 K (w.heap.size + 2)) (DK K w0 w.heap.size a room lv sv mv lv sv mv L2) := by
  have s1 : (w.alloc (robj room lv sv mv)).heap.size = w.heap.size + 1 := by simp
  have s2 : ((w.alloc (robj room lv sv mv)).alloc (aobj a)).heap.size = w.heap.size + 2 := by simp
  have b : Below w.heap.size w (((w.alloc (robj room lv sv mv)).alloc (aobj a)).alloc zobj) := (((Below.refl _ _).alloc (Nat.le_refl _) _).alloc (by simp) _).alloc (by simp; omega) _
  obtain ⟨h, L', hp, hl, g, o, bl, z, an⟩ := q
  have hK : ∀ x ∈ K, x.1 < w.heap.size := an.2.2.2.2.2.2.1.lt
  obtain ⟨es, _, hes, _⟩ := an.2.2.1.l
  have n1 : NBk (w.heap.size + 2) lv := NBk.lies hes.1 (m := 5) (by decide) (ecells_length es) (Nat.le_refl _) (by omega)
  have n2 : NBk (w.heap.size + 2) sv := NBk.lies an.2.2.1.s (m := 1) (by decide) rfl (Nat.le_refl _) (by omega)
  have n3 : NBk (w.heap.size + 2) mv := NBk.lies an.2.2.1.m.1 (m := 5) (by decide) (ecells_length _) (Nat.le_refl _) (by omega)
  refine ⟨h, L', hp, hl, g.below b, o, bl.trans (b.mono bl.size), fun e he => ⟨z e he, NBk.lies (g.rows e he).row (m := 3) (by decide) (flat_length Val.cells 3 (fun _ => rfl) e.xs) (Nat.le_refl _) (by omega)⟩, RK.kpt _ _ _ _ _ _ _ _ _ _ (Ml.of b) an, ⟨?_, fun j hf => ?_⟩, ⟨?_, fun j hf => ?_⟩, ⟨?_, fun j hf => ?_⟩, n1, n2, n3, hK⟩
  · rw [Below.heap_alloc _ _ _ (by simp; omega), Below.heap_alloc _ _ _ (by simp)]; exact heap_alloc_new w _
  · have := g.lt _ hf; simp at this
  · rw [Below.heap_alloc _ _ _ (by simp), ← s1]; exact heap_alloc_new _ _
  · have := g.lt _ hf; simp at this; omega
  · rw [← s2]; exact heap_alloc_new _ _
  · have := g.lt _ hf; simp at this; omega
theorem DK.lt (q : QK w0 w p L Z (DK K w0 B a room lv sv mv lv2 sv2 mv2 L2)) : B + 2 < w.heap.size := by
  obtain ⟨h, L', hp, hl, g, o, bl, z, _, k1, k2, k3, _⟩ := q
  exact (Array.getElem?_eq_some_iff.1 k3.1).1
/-- The reference went on. -/
theorem done_ref (q : QK w0 w p L Z (DK K w0 B a room lv sv mv lv2 sv2 mv2 L2)) (hb : Below w.heap.size w w') (r : RL (RowIn w0) w' lv3 sv3 mv3 L3) (s1 : Src w lv2 lv3) (s2 : Src w sv2 sv3) (s3 : Src w mv2 mv3) : QK w0 w' p L Z (DK K w0 B a room lv sv mv lv3 sv3 mv3 L3) := by
  have hlt := DK.lt q
  obtain ⟨h, L', hp, hl, g, o, bl, z, ⟨_, _, _, f1, f2, f3, kb, j1, j2, j3⟩, k1, k2, k3, n1, n2, n3, hK⟩ := q
  have hKw := kb.lt
  have b' : Below w0.heap.size w0 w' := bl.trans (hb.mono bl.size)
  exact ⟨h, L', hp, hl, g.below hb, o, b', z, ⟨o, b', r, f1.src g.lt s1, f2.src g.lt s2, f3.src g.lt s3, fun x hx => KB.kpt _ _ _ _ _ _ (Ml.of hb) (kb x hx), j1.src hKw s1, j2.src hKw s2, j3.src hKw s3⟩, KB.kpt _ _ _ _ _ _ (Ml.of hb) k1, KB.kpt _ _ _ _ _ _ (Ml.of hb) k2, KB.kpt _ _ _ _ _ _ (Ml.of hb) k3, n1.src hlt s1, n2.src hlt s2, n3.src hlt s3, hK⟩
theorem rf_ne : TE ≠ TRf := by decide
/-- The answer told into the last box. -/
theorem done_told (q : QK w0 w p L (Z2 K (B + 2)) (DK K w0 B a room lv sv mv lv3 sv3 mv3 L3)) (hw : w0.heap.size ≤ B) (r2 : Int) (l2 s2 m2 : Value) : QK w0 (told w (B + 2) r2 l2 s2 m2) p L (NBs K) (RK K w0 lv3 sv3 mv3 L3) := by
  obtain ⟨h, L', hp, hl, g, o, bl, z, ⟨_, _, ⟨⟨es, epe, hes, hr⟩, hs, hm⟩, f1, f2, f3, kb, j1, j2, j3⟩, k1, k2, k3, n1, n2, n3, hK⟩ := q
  have hk : ∀ b, b ≠ B + 2 → (told w (B + 2) r2 l2 s2 m2).heap[b]? = w.heap[b]? := fun b hb => told_far hb
  have bl' : Below w0.heap.size w0 (told w (B + 2) r2 l2 s2 m2) := told_low bl (by omega)
  obtain ⟨es0, cl, m1, m2', m3⟩ := g.map
  refine ⟨h, L', hp, hl, ⟨by rw [hk _ fun e => k3.2 0 (.inl e.symm)]; exact g.box, g.ents.block fun k hk' => hk k fun e => ?_, fun e he => ⟨lies_other (g.rows e he).row (flat_length Val.cells 3 (fun _ => rfl) e.xs) (z e he).2 hk, (g.rows e he).2⟩, ⟨es0, cl, by rw [hk _ fun e => k3.2 0 (.inr (.inl e.symm))]; exact m1, m2', m3⟩,
    owns_block g.tou fun k hk' => hk k fun e => k3.2 0 (.inr (.inr (.inl (by rw [hk']; exact congrArg some e)))), g.okm, g.tp, g.ep, g.et, g.room, g.len⟩, o, bl', fun e he => (z e he).1, o, bl', ⟨⟨es, epe, ⟨lies_other hes.1 (ecells_length es) n1 hk, fun e he => (hr e he).below bl'⟩, hr⟩, lies_other hs (m := 1) rfl n2 hk, ⟨lies_other hm.1 (ecells_length _) n3 hk, tou_rows _ _⟩⟩, f1, f2, f3, fun x hx => ⟨by rw [hk _ (by have := hK x hx; omega)]; exact (kb x hx).1, (kb x hx).2⟩, j1, j2, j3⟩
  subst e
  rcases g.ents.2 with ⟨e1, _⟩ | ⟨q', cap, cur, e1, hq, _⟩
  · rw [e1] at hk'; cases hk'
  · rw [e1] at hk'
    have hqk : q' = B + 2 := Option.some.inj hk'
    rw [hqk, k3.1] at hq
    injection hq with hq
    injection hq with _ h2 _
    exact rf_ne h2.symm
theorem DK.boxes (q : QK w0 w p L Z (DK K w0 B a room lv sv mv lv2 sv2 mv2 L2)) : LB w B room lv sv mv ∧ w.heap[B + 1]? = some (aobj a) ∧ LB w (B + 2) 0 (.slice none 0 0) (.slice none 0 0) (.slice none 0 0) ∧ RL (RowIn w0) w lv2 sv2 mv2 L2 := by
  obtain ⟨h, L', hp, hl, g, o, bl, _, r, k1, k2, k3, _⟩ := q
  exact ⟨LB.of k1.1, k2.1, LB.of k3.1, r.2.2.1⟩
end
set_option maxHeartbeats 2000000 in
theorem done_push (w0 w : World) (p : Nat) (L : Lg) (lv sv mv : Value) (a : UA) (q : QK w0 w p L (NBs K) (RK K w0 lv sv mv L)) (ok : okS (a.e.t, a.e.k)) (hr : RowIn w0 a.e.r a.e.xs) (hx : a.e.xs.length ≤ 100) (hn : L.es.length ≤ 500) (hm : L.met.length ≤ 500) (hk : kindA a = 0) :
    Calls Try.prog 11 #[.pointer (some ⟨p, 0, none⟩), RV L.room lv sv mv, a.val] w fun x w' => ∃ lv' sv' mv', x = .returned (.tuple #[RV (L.push a.e).room lv' sv' mv', .bool true]) ∧ QK w0 w' p (L.push a.e) (NBs K) (RK K w0 lv' sv' mv' (L.push a.e)) := by
  obtain ⟨kd, n, et, ek, exs, er⟩ := a
  obtain ⟨ra, rc, hra, -⟩ := hr.slice
  simp only at hra
  subst hra
  simp only [kindA] at hk
  have hRL : RL (RowIn w0) w lv sv mv L := by obtain ⟨h, L', _, _, _, _, _, _, r⟩ := q; exact r.2.2.1
  obtain ⟨es, epe, hes, -⟩ := hRL.l
  obtain ⟨la, lc, rfl, -⟩ := hes.1.slice
  obtain ⟨sa, sc, rfl, -⟩ := hRL.s.slice
  obtain ⟨ma, mc, hma, -⟩ := hRL.m.1.slice
  rw [List.length_map] at hma
  subst hma
  have HKl : Hid (∀ x ∈ K, x.1 < w.heap.size) := by obtain ⟨h, L', _, _, _, _, _, _, r⟩ := q; exact r.2.2.2.2.2.2.1.lt
  have HQ3 : Hid _ := done_start q ⟨kd, n, et, ek, exs, .slice ra exs.length rc⟩ L.room
  have HP : Hid (∀ wx A, QK w0 wx p L (Z2 K (w.heap.size + 2)) A → w.heap.size + 2 < wx.heap.size → Kpt A → Calls Try.prog 15 #[.pointer (some ⟨p, 0, none⟩), .agg #[.int .i64 et, .bool ek.t, .int .i64 ek.n, .string ek.s, .slice ra exs.length rc]] wx fun x w' => x = .returned (.int .i64 (pushE L)) ∧ QK w0 w' p (L.push ⟨et, ek, exs, .slice ra exs.length rc⟩) (Z2 K (w.heap.size + 2)) A) := fun wx A q hs k => push_k q k ⟨et, ek, exs, .slice ra exs.length rc⟩ ok hr (by simp only at hx ⊢; omega) (by omega) fun v hv => ⟨fun x hx b o n c e _ => by have := hv b o n c e; have := HKl.out x hx; omega, fun b o n c e _ => by have := hv b o n c e; omega⟩
  have HR : Hid (∀ wx, Below w0.heap.size w0 wx → RL (RowIn w0) wx (.slice la es.length lc) (.slice sa 4 sc) (.slice ma L.met.length mc) L → Calls Try.prog 20 #[.agg #[.int .i64 L.room, .slice la es.length lc, .slice sa 4 sc, .slice ma L.met.length mc], .agg #[.int .i64 et, .bool ek.t, .int .i64 ek.n, .string ek.s, .slice ra exs.length rc]] wx fun x w' => ∃ lv' sv' mv', x = .returned (.tuple #[RV (L.push ⟨et, ek, exs, .slice ra exs.length rc⟩).room lv' sv' mv', .int .i64 (pushE L)]) ∧ RL (RowIn w0) w' lv' sv' mv' (L.push ⟨et, ek, exs, .slice ra exs.length rc⟩) ∧ Below wx.heap.size wx w' ∧ Src wx (.slice la es.length lc) lv' ∧ Src wx (.slice sa 4 sc) sv' ∧ Src wx (.slice ma L.met.length mc) mv') := fun wx hb hr' => rpush_any wx _ _ _ L hr' ⟨et, ek, exs, .slice ra exs.length rc⟩ (hr.below hb) hr hn hm
  have HB0 : Hid (w0.heap.size ≤ w.heap.size) := q.blw.size
  clear q hRL hes epe ok hr hx hn hm
  go_enter Try.func11, Try.ntmps11
  go_wp2_with fail
  refine Calls.mono (HP.out _ (DK K w0 w.heap.size ⟨kd, n, et, ek, exs, .slice ra exs.length rc⟩ L.room (.slice la es.length lc) (.slice sa 4 sc) (.slice ma L.met.length mc) (.slice la es.length lc) (.slice sa 4 sc) (.slice ma L.met.length mc) L) HQ3.out (DK.lt HQ3.out) DK.kpt) ?_
  rintro x w4 ⟨rfl, q4⟩
  obtain ⟨⟨x0, x1, x2, x3, -⟩, ha, -, hrl⟩ := DK.boxes q4
  have d2 := cell_of_row _ _ 2 _ _ _ ha
  have d3 := cell_of_row _ _ 3 _ _ _ ha
  have d4 := cell_of_row _ _ 4 _ _ _ ha
  have d5 := cell_of_row _ _ 5 _ _ _ ha
  have d6 := cell_of_row _ _ 6 _ _ _ ha
  simp at d2 d3 d4 d5 d6
  have HQ4 : Hid _ := q4
  have HR4 : Hid _ := HR.out w4 q4.blw hrl
  clear q4 ha hrl HP HR HQ3
  go_wp2_with fail
  refine Calls.mono HR4.out ?_
  rintro x w5 ⟨lv', sv', mv', rfl, rl, hb5, s1, s2, s3⟩
  have HQ5 : Hid _ := done_ref HQ4.out hb5 rl s1 s2 s3
  obtain ⟨es', -, hes', -⟩ := rl.l
  obtain ⟨la', lc', rfl, -⟩ := hes'.1.slice
  obtain ⟨sa', sc', rfl, -⟩ := rl.s.slice
  obtain ⟨ma', mc', rfl, -⟩ := rl.m.1.slice
  clear rl hb5 s1 s2 s3 HR4 HQ4 x0 x1 x2 x3 d2 d3 d4 d5 d6 hes'
  obtain ⟨-, -, ⟨z0, z1, z2, z3, zf⟩, -⟩ := DK.boxes HQ5.out
  have hlt : w.heap.size + 1 + 1 < w5.heap.size := DK.lt HQ5.out
  have y0 : w5.cell? ⟨w.heap.size + 1 + 1, 0, none⟩ = _ := z0
  have y1 : w5.cell? ⟨w.heap.size + 1 + 1, 1, none⟩ = _ := z1
  have y2 : w5.cell? ⟨w.heap.size + 1 + 1, 2, none⟩ = _ := z2
  have y3 : w5.cell? ⟨w.heap.size + 1 + 1, 3, none⟩ = _ := z3
  have yf : ∀ j, w5.frozen? ⟨w.heap.size + 1 + 1, j, none⟩ = false := zf
  clear z0 z1 z2 z3 zf
  go_wp2_with fail
  refine bodyPost_ret (v := .tuple #[RV (L.push ⟨et, ek, exs, .slice ra exs.length rc⟩).room (.slice la' es'.length lc') (.slice sa' 4 sc') (.slice ma' (L.push ⟨et, ek, exs, .slice ra exs.length rc⟩).met.length mc'), .bool true]) (by simp [results, Try.results11, go_sem, y0, y1, y2, y3, hlt]) rfl ⟨_, _, _, rfl, ?_⟩
  have hd := (done_told HQ5.out HB0.out (L.push ⟨et, ek, exs, .slice ra exs.length rc⟩).room (.slice la' es'.length lc') (.slice sa' 4 sc') (.slice ma' (L.push ⟨et, ek, exs, .slice ra exs.length rc⟩).met.length mc')).below (RK.kpt _ _ _ _ _ _) (alloc1 _ (robj (L.push ⟨et, ek, exs, .slice ra exs.length rc⟩).room (.slice la' es'.length lc') (.slice sa' 4 sc') (.slice ma' (L.push ⟨et, ek, exs, .slice ra exs.length rc⟩).met.length mc')))
  rw [List.length_map] at hd
  exact hd
end Go.Proofs.Ytbfoplaccalegaa.Val
