/- What the law's done answers at the other kinds of a push. -/
import Derived.Test.YtbfoplaccalegaaLawUDone
namespace Go.Proofs.Ytbfoplaccalegaa.Val
open Go Go.RowKit

variable {K : List (Nat × Obj)}

set_option maxHeartbeats 2000000 in
theorem done_push1 (w0 w : World) (p : Nat) (L : Lg) (lv sv mv : Value) (a : UA) (q : QK w0 w p L (NBs K) (RK K w0 lv sv mv L)) (ok : okS (a.e.t, a.e.k)) (hr : RowIn w0 a.e.r a.e.xs) (hx : a.e.xs.length ≤ 100) (hn : L.es.length ≤ 500) (hm : L.met.length ≤ 500) (hk : kindA a = 1) :
    Calls Try.prog 11 #[.pointer (some ⟨p, 0, none⟩), RV L.room lv sv mv, a.val] w fun x w' => ∃ lv' sv' mv', x = .returned (.tuple #[RV (L.push a.e).room lv' sv' mv', .bool true]) ∧ QK w0 w' p (L.push a.e) (NBs K) (RK K w0 lv' sv' mv' (L.push a.e)) := by
  obtain ⟨kd, n, et, ek, exs, er⟩ := a
  obtain ⟨ra, rc, hra, -⟩ := hr.slice
  simp only at hra
  subst hra
  simp only [kindA] at hk
  have hRL : RL (RowIn w0) w lv sv mv L := by obtain ⟨h, L', _, _, _, _, _, _, r⟩ := q; exact r.2.2.1
  obtain ⟨es, epe, hes, -⟩ := hRL.l
  obtain ⟨la, lc, rfl, -⟩ := hes.1.slice
  obtain ⟨sa, sc, rfl, -⟩ := hRL.s.slice
  obtain ⟨ma, mc, hma, -⟩ := hRL.m.1.slice
  rw [List.length_map] at hma
  subst hma
  have HKl : Hid (∀ x ∈ K, x.1 < w.heap.size) := by obtain ⟨h, L', _, _, _, _, _, _, r⟩ := q; exact r.2.2.2.2.2.2.1.lt
  have HQ3 : Hid _ := done_start q ⟨kd, n, et, ek, exs, .slice ra exs.length rc⟩ L.room
  have HP : Hid (∀ wx A, QK w0 wx p L (Z2 K (w.heap.size + 2)) A → w.heap.size + 2 < wx.heap.size → Kpt A → Calls Try.prog 15 #[.pointer (some ⟨p, 0, none⟩), .agg #[.int .i64 et, .bool ek.t, .int .i64 ek.n, .string ek.s, .slice ra exs.length rc]] wx fun x w' => x = .returned (.int .i64 (pushE L)) ∧ QK w0 w' p (L.push ⟨et, ek, exs, .slice ra exs.length rc⟩) (Z2 K (w.heap.size + 2)) A) := fun wx A q hs k => push_k q k ⟨et, ek, exs, .slice ra exs.length rc⟩ ok hr (by simp only at hx ⊢; omega) (by omega) fun v hv => ⟨fun x hx b o n c e _ => by have := hv b o n c e; have := HKl.out x hx; omega, fun b o n c e _ => by have := hv b o n c e; omega⟩
  have HR : Hid (∀ wx, Below w0.heap.size w0 wx → RL (RowIn w0) wx (.slice la es.length lc) (.slice sa 4 sc) (.slice ma L.met.length mc) L → Calls Try.prog 20 #[.agg #[.int .i64 L.room, .slice la es.length lc, .slice sa 4 sc, .slice ma L.met.length mc], .agg #[.int .i64 et, .bool ek.t, .int .i64 ek.n, .string ek.s, .slice ra exs.length rc]] wx fun x w' => ∃ lv' sv' mv', x = .returned (.tuple #[RV (L.push ⟨et, ek, exs, .slice ra exs.length rc⟩).room lv' sv' mv', .int .i64 (pushE L)]) ∧ RL (RowIn w0) w' lv' sv' mv' (L.push ⟨et, ek, exs, .slice ra exs.length rc⟩) ∧ Below wx.heap.size wx w' ∧ Src wx (.slice la es.length lc) lv' ∧ Src wx (.slice sa 4 sc) sv' ∧ Src wx (.slice ma L.met.length mc) mv') := fun wx hb hr' => rpush_any wx _ _ _ L hr' ⟨et, ek, exs, .slice ra exs.length rc⟩ (hr.below hb) hr hn hm
  have HB0 : Hid (w0.heap.size ≤ w.heap.size) := q.blw.size
  clear q hRL hes epe ok hr hx hn hm
  go_enter Try.func11, Try.ntmps11
  go_wp2_with fail
  refine Calls.mono (HP.out _ (DK K w0 w.heap.size ⟨kd, n, et, ek, exs, .slice ra exs.length rc⟩ L.room (.slice la es.length lc) (.slice sa 4 sc) (.slice ma L.met.length mc) (.slice la es.length lc) (.slice sa 4 sc) (.slice ma L.met.length mc) L) HQ3.out (DK.lt HQ3.out) DK.kpt) ?_
  rintro x w4 ⟨rfl, q4⟩
  obtain ⟨⟨x0, x1, x2, x3, -⟩, ha, -, hrl⟩ := DK.boxes q4
  have d2 := cell_of_row _ _ 2 _ _ _ ha
  have d3 := cell_of_row _ _ 3 _ _ _ ha
  have d4 := cell_of_row _ _ 4 _ _ _ ha
  have d5 := cell_of_row _ _ 5 _ _ _ ha
  have d6 := cell_of_row _ _ 6 _ _ _ ha
  simp at d2 d3 d4 d5 d6
  have HQ4 : Hid _ := q4
  have HR4 : Hid _ := HR.out w4 q4.blw hrl
  clear q4 ha hrl HP HR HQ3
  go_wp2_with fail
  refine Calls.mono HR4.out ?_
  rintro x w5 ⟨lv', sv', mv', rfl, rl, hb5, s1, s2, s3⟩
  have HQ5 : Hid _ := done_ref HQ4.out hb5 rl s1 s2 s3
  obtain ⟨es', -, hes', -⟩ := rl.l
  obtain ⟨la', lc', rfl, -⟩ := hes'.1.slice
  obtain ⟨sa', sc', rfl, -⟩ := rl.s.slice
  obtain ⟨ma', mc', rfl, -⟩ := rl.m.1.slice
  clear rl hb5 s1 s2 s3 HR4 HQ4 x0 x1 x2 x3 d2 d3 d4 d5 d6 hes'
  obtain ⟨-, -, ⟨z0, z1, z2, z3, zf⟩, -⟩ := DK.boxes HQ5.out
  have hlt : w.heap.size + 1 + 1 < w5.heap.size := DK.lt HQ5.out
  have y0 : w5.cell? ⟨w.heap.size + 1 + 1, 0, none⟩ = _ := z0
  have y1 : w5.cell? ⟨w.heap.size + 1 + 1, 1, none⟩ = _ := z1
  have y2 : w5.cell? ⟨w.heap.size + 1 + 1, 2, none⟩ = _ := z2
  have y3 : w5.cell? ⟨w.heap.size + 1 + 1, 3, none⟩ = _ := z3
  have yf : ∀ j, w5.frozen? ⟨w.heap.size + 1 + 1, j, none⟩ = false := zf
  clear z0 z1 z2 z3 zf
  go_wp2_with fail
  refine bodyPost_ret (v := .tuple #[RV (L.push ⟨et, ek, exs, .slice ra exs.length rc⟩).room (.slice la' es'.length lc') (.slice sa' 4 sc') (.slice ma' (L.push ⟨et, ek, exs, .slice ra exs.length rc⟩).met.length mc'), .bool true]) (by simp [results, Try.results11, go_sem, y0, y1, y2, y3, hlt]) rfl ⟨_, _, _, rfl, ?_⟩
  have hd := (done_told HQ5.out HB0.out (L.push ⟨et, ek, exs, .slice ra exs.length rc⟩).room (.slice la' es'.length lc') (.slice sa' 4 sc') (.slice ma' (L.push ⟨et, ek, exs, .slice ra exs.length rc⟩).met.length mc')).below (RK.kpt _ _ _ _ _ _) (alloc1 _ (robj (L.push ⟨et, ek, exs, .slice ra exs.length rc⟩).room (.slice la' es'.length lc') (.slice sa' 4 sc') (.slice ma' (L.push ⟨et, ek, exs, .slice ra exs.length rc⟩).met.length mc')))
  rw [List.length_map] at hd
  exact hd
set_option maxHeartbeats 2000000 in
theorem done_push2 (w0 w : World) (p : Nat) (L : Lg) (lv sv mv : Value) (a : UA) (q : QK w0 w p L (NBs K) (RK K w0 lv sv mv L)) (ok : okS (a.e.t, a.e.k)) (hr : RowIn w0 a.e.r a.e.xs) (hx : a.e.xs.length ≤ 100) (hn : L.es.length ≤ 500) (hm : L.met.length ≤ 500) (hk : kindA a = 2) :
    Calls Try.prog 11 #[.pointer (some ⟨p, 0, none⟩), RV L.room lv sv mv, a.val] w fun x w' => ∃ lv' sv' mv', x = .returned (.tuple #[RV (L.push a.e).room lv' sv' mv', .bool true]) ∧ QK w0 w' p (L.push a.e) (NBs K) (RK K w0 lv' sv' mv' (L.push a.e)) := by
  obtain ⟨kd, n, et, ek, exs, er⟩ := a
  obtain ⟨ra, rc, hra, -⟩ := hr.slice
  simp only at hra
  subst hra
  simp only [kindA] at hk
  have hRL : RL (RowIn w0) w lv sv mv L := by obtain ⟨h, L', _, _, _, _, _, _, r⟩ := q; exact r.2.2.1
  obtain ⟨es, epe, hes, -⟩ := hRL.l
  obtain ⟨la, lc, rfl, -⟩ := hes.1.slice
  obtain ⟨sa, sc, rfl, -⟩ := hRL.s.slice
  obtain ⟨ma, mc, hma, -⟩ := hRL.m.1.slice
  rw [List.length_map] at hma
  subst hma
  have HKl : Hid (∀ x ∈ K, x.1 < w.heap.size) := by obtain ⟨h, L', _, _, _, _, _, _, r⟩ := q; exact r.2.2.2.2.2.2.1.lt
  have HQ3 : Hid _ := done_start q ⟨kd, n, et, ek, exs, .slice ra exs.length rc⟩ L.room
  have HP : Hid (∀ wx A, QK w0 wx p L (Z2 K (w.heap.size + 2)) A → w.heap.size + 2 < wx.heap.size → Kpt A → Calls Try.prog 15 #[.pointer (some ⟨p, 0, none⟩), .agg #[.int .i64 et, .bool ek.t, .int .i64 ek.n, .string ek.s, .slice ra exs.length rc]] wx fun x w' => x = .returned (.int .i64 (pushE L)) ∧ QK w0 w' p (L.push ⟨et, ek, exs, .slice ra exs.length rc⟩) (Z2 K (w.heap.size + 2)) A) := fun wx A q hs k => push_k q k ⟨et, ek, exs, .slice ra exs.length rc⟩ ok hr (by simp only at hx ⊢; omega) (by omega) fun v hv => ⟨fun x hx b o n c e _ => by have := hv b o n c e; have := HKl.out x hx; omega, fun b o n c e _ => by have := hv b o n c e; omega⟩
  have HR : Hid (∀ wx, Below w0.heap.size w0 wx → RL (RowIn w0) wx (.slice la es.length lc) (.slice sa 4 sc) (.slice ma L.met.length mc) L → Calls Try.prog 20 #[.agg #[.int .i64 L.room, .slice la es.length lc, .slice sa 4 sc, .slice ma L.met.length mc], .agg #[.int .i64 et, .bool ek.t, .int .i64 ek.n, .string ek.s, .slice ra exs.length rc]] wx fun x w' => ∃ lv' sv' mv', x = .returned (.tuple #[RV (L.push ⟨et, ek, exs, .slice ra exs.length rc⟩).room lv' sv' mv', .int .i64 (pushE L)]) ∧ RL (RowIn w0) w' lv' sv' mv' (L.push ⟨et, ek, exs, .slice ra exs.length rc⟩) ∧ Below wx.heap.size wx w' ∧ Src wx (.slice la es.length lc) lv' ∧ Src wx (.slice sa 4 sc) sv' ∧ Src wx (.slice ma L.met.length mc) mv') := fun wx hb hr' => rpush_any wx _ _ _ L hr' ⟨et, ek, exs, .slice ra exs.length rc⟩ (hr.below hb) hr hn hm
  have HB0 : Hid (w0.heap.size ≤ w.heap.size) := q.blw.size
  clear q hRL hes epe ok hr hx hn hm
  go_enter Try.func11, Try.ntmps11
  go_wp2_with fail
  refine Calls.mono (HP.out _ (DK K w0 w.heap.size ⟨kd, n, et, ek, exs, .slice ra exs.length rc⟩ L.room (.slice la es.length lc) (.slice sa 4 sc) (.slice ma L.met.length mc) (.slice la es.length lc) (.slice sa 4 sc) (.slice ma L.met.length mc) L) HQ3.out (DK.lt HQ3.out) DK.kpt) ?_
  rintro x w4 ⟨rfl, q4⟩
  obtain ⟨⟨x0, x1, x2, x3, -⟩, ha, -, hrl⟩ := DK.boxes q4
  have d2 := cell_of_row _ _ 2 _ _ _ ha
  have d3 := cell_of_row _ _ 3 _ _ _ ha
  have d4 := cell_of_row _ _ 4 _ _ _ ha
  have d5 := cell_of_row _ _ 5 _ _ _ ha
  have d6 := cell_of_row _ _ 6 _ _ _ ha
  simp at d2 d3 d4 d5 d6
  have HQ4 : Hid _ := q4
  have HR4 : Hid _ := HR.out w4 q4.blw hrl
  clear q4 ha hrl HP HR HQ3
  go_wp2_with fail
  refine Calls.mono HR4.out ?_
  rintro x w5 ⟨lv', sv', mv', rfl, rl, hb5, s1, s2, s3⟩
  have HQ5 : Hid _ := done_ref HQ4.out hb5 rl s1 s2 s3
  obtain ⟨es', -, hes', -⟩ := rl.l
  obtain ⟨la', lc', rfl, -⟩ := hes'.1.slice
  obtain ⟨sa', sc', rfl, -⟩ := rl.s.slice
  obtain ⟨ma', mc', rfl, -⟩ := rl.m.1.slice
  clear rl hb5 s1 s2 s3 HR4 HQ4 x0 x1 x2 x3 d2 d3 d4 d5 d6 hes'
  obtain ⟨-, -, ⟨z0, z1, z2, z3, zf⟩, -⟩ := DK.boxes HQ5.out
  have hlt : w.heap.size + 1 + 1 < w5.heap.size := DK.lt HQ5.out
  have y0 : w5.cell? ⟨w.heap.size + 1 + 1, 0, none⟩ = _ := z0
  have y1 : w5.cell? ⟨w.heap.size + 1 + 1, 1, none⟩ = _ := z1
  have y2 : w5.cell? ⟨w.heap.size + 1 + 1, 2, none⟩ = _ := z2
  have y3 : w5.cell? ⟨w.heap.size + 1 + 1, 3, none⟩ = _ := z3
  have yf : ∀ j, w5.frozen? ⟨w.heap.size + 1 + 1, j, none⟩ = false := zf
  clear z0 z1 z2 z3 zf
  go_wp2_with fail
  refine bodyPost_ret (v := .tuple #[RV (L.push ⟨et, ek, exs, .slice ra exs.length rc⟩).room (.slice la' es'.length lc') (.slice sa' 4 sc') (.slice ma' (L.push ⟨et, ek, exs, .slice ra exs.length rc⟩).met.length mc'), .bool true]) (by simp [results, Try.results11, go_sem, y0, y1, y2, y3, hlt]) rfl ⟨_, _, _, rfl, ?_⟩
  have hd := (done_told HQ5.out HB0.out (L.push ⟨et, ek, exs, .slice ra exs.length rc⟩).room (.slice la' es'.length lc') (.slice sa' 4 sc') (.slice ma' (L.push ⟨et, ek, exs, .slice ra exs.length rc⟩).met.length mc')).below (RK.kpt _ _ _ _ _ _) (alloc1 _ (robj (L.push ⟨et, ek, exs, .slice ra exs.length rc⟩).room (.slice la' es'.length lc') (.slice sa' 4 sc') (.slice ma' (L.push ⟨et, ek, exs, .slice ra exs.length rc⟩).met.length mc')))
  rw [List.length_map] at hd
  exact hd
set_option maxHeartbeats 2000000 in
theorem done_push3 (w0 w : World) (p : Nat) (L : Lg) (lv sv mv : Value) (a : UA) (q : QK w0 w p L (NBs K) (RK K w0 lv sv mv L)) (ok : okS (a.e.t, a.e.k)) (hr : RowIn w0 a.e.r a.e.xs) (hx : a.e.xs.length ≤ 100) (hn : L.es.length ≤ 500) (hm : L.met.length ≤ 500) (hk : kindA a = 3) :
    Calls Try.prog 11 #[.pointer (some ⟨p, 0, none⟩), RV L.room lv sv mv, a.val] w fun x w' => ∃ lv' sv' mv', x = .returned (.tuple #[RV (L.push a.e).room lv' sv' mv', .bool true]) ∧ QK w0 w' p (L.push a.e) (NBs K) (RK K w0 lv' sv' mv' (L.push a.e)) := by
  obtain ⟨kd, n, et, ek, exs, er⟩ := a
  obtain ⟨ra, rc, hra, -⟩ := hr.slice
  simp only at hra
  subst hra
  simp only [kindA] at hk
  have hRL : RL (RowIn w0) w lv sv mv L := by obtain ⟨h, L', _, _, _, _, _, _, r⟩ := q; exact r.2.2.1
  obtain ⟨es, epe, hes, -⟩ := hRL.l
  obtain ⟨la, lc, rfl, -⟩ := hes.1.slice
  obtain ⟨sa, sc, rfl, -⟩ := hRL.s.slice
  obtain ⟨ma, mc, hma, -⟩ := hRL.m.1.slice
  rw [List.length_map] at hma
  subst hma
  have HKl : Hid (∀ x ∈ K, x.1 < w.heap.size) := by obtain ⟨h, L', _, _, _, _, _, _, r⟩ := q; exact r.2.2.2.2.2.2.1.lt
  have HQ3 : Hid _ := done_start q ⟨kd, n, et, ek, exs, .slice ra exs.length rc⟩ L.room
  have HP : Hid (∀ wx A, QK w0 wx p L (Z2 K (w.heap.size + 2)) A → w.heap.size + 2 < wx.heap.size → Kpt A → Calls Try.prog 15 #[.pointer (some ⟨p, 0, none⟩), .agg #[.int .i64 et, .bool ek.t, .int .i64 ek.n, .string ek.s, .slice ra exs.length rc]] wx fun x w' => x = .returned (.int .i64 (pushE L)) ∧ QK w0 w' p (L.push ⟨et, ek, exs, .slice ra exs.length rc⟩) (Z2 K (w.heap.size + 2)) A) := fun wx A q hs k => push_k q k ⟨et, ek, exs, .slice ra exs.length rc⟩ ok hr (by simp only at hx ⊢; omega) (by omega) fun v hv => ⟨fun x hx b o n c e _ => by have := hv b o n c e; have := HKl.out x hx; omega, fun b o n c e _ => by have := hv b o n c e; omega⟩
  have HR : Hid (∀ wx, Below w0.heap.size w0 wx → RL (RowIn w0) wx (.slice la es.length lc) (.slice sa 4 sc) (.slice ma L.met.length mc) L → Calls Try.prog 20 #[.agg #[.int .i64 L.room, .slice la es.length lc, .slice sa 4 sc, .slice ma L.met.length mc], .agg #[.int .i64 et, .bool ek.t, .int .i64 ek.n, .string ek.s, .slice ra exs.length rc]] wx fun x w' => ∃ lv' sv' mv', x = .returned (.tuple #[RV (L.push ⟨et, ek, exs, .slice ra exs.length rc⟩).room lv' sv' mv', .int .i64 (pushE L)]) ∧ RL (RowIn w0) w' lv' sv' mv' (L.push ⟨et, ek, exs, .slice ra exs.length rc⟩) ∧ Below wx.heap.size wx w' ∧ Src wx (.slice la es.length lc) lv' ∧ Src wx (.slice sa 4 sc) sv' ∧ Src wx (.slice ma L.met.length mc) mv') := fun wx hb hr' => rpush_any wx _ _ _ L hr' ⟨et, ek, exs, .slice ra exs.length rc⟩ (hr.below hb) hr hn hm
  have HB0 : Hid (w0.heap.size ≤ w.heap.size) := q.blw.size
  clear q hRL hes epe ok hr hx hn hm
  go_enter Try.func11, Try.ntmps11
  go_wp2_with fail
  refine Calls.mono (HP.out _ (DK K w0 w.heap.size ⟨kd, n, et, ek, exs, .slice ra exs.length rc⟩ L.room (.slice la es.length lc) (.slice sa 4 sc) (.slice ma L.met.length mc) (.slice la es.length lc) (.slice sa 4 sc) (.slice ma L.met.length mc) L) HQ3.out (DK.lt HQ3.out) DK.kpt) ?_
  rintro x w4 ⟨rfl, q4⟩
  obtain ⟨⟨x0, x1, x2, x3, -⟩, ha, -, hrl⟩ := DK.boxes q4
  have d2 := cell_of_row _ _ 2 _ _ _ ha
  have d3 := cell_of_row _ _ 3 _ _ _ ha
  have d4 := cell_of_row _ _ 4 _ _ _ ha
  have d5 := cell_of_row _ _ 5 _ _ _ ha
  have d6 := cell_of_row _ _ 6 _ _ _ ha
  simp at d2 d3 d4 d5 d6
  have HQ4 : Hid _ := q4
  have HR4 : Hid _ := HR.out w4 q4.blw hrl
  clear q4 ha hrl HP HR HQ3
  go_wp2_with fail
  refine Calls.mono HR4.out ?_
  rintro x w5 ⟨lv', sv', mv', rfl, rl, hb5, s1, s2, s3⟩
  have HQ5 : Hid _ := done_ref HQ4.out hb5 rl s1 s2 s3
  obtain ⟨es', -, hes', -⟩ := rl.l
  obtain ⟨la', lc', rfl, -⟩ := hes'.1.slice
  obtain ⟨sa', sc', rfl, -⟩ := rl.s.slice
  obtain ⟨ma', mc', rfl, -⟩ := rl.m.1.slice
  clear rl hb5 s1 s2 s3 HR4 HQ4 x0 x1 x2 x3 d2 d3 d4 d5 d6 hes'
  obtain ⟨-, -, ⟨z0, z1, z2, z3, zf⟩, -⟩ := DK.boxes HQ5.out
  have hlt : w.heap.size + 1 + 1 < w5.heap.size := DK.lt HQ5.out
  have y0 : w5.cell? ⟨w.heap.size + 1 + 1, 0, none⟩ = _ := z0
  have y1 : w5.cell? ⟨w.heap.size + 1 + 1, 1, none⟩ = _ := z1
  have y2 : w5.cell? ⟨w.heap.size + 1 + 1, 2, none⟩ = _ := z2
  have y3 : w5.cell? ⟨w.heap.size + 1 + 1, 3, none⟩ = _ := z3
  have yf : ∀ j, w5.frozen? ⟨w.heap.size + 1 + 1, j, none⟩ = false := zf
  clear z0 z1 z2 z3 zf
  go_wp2_with fail
  refine bodyPost_ret (v := .tuple #[RV (L.push ⟨et, ek, exs, .slice ra exs.length rc⟩).room (.slice la' es'.length lc') (.slice sa' 4 sc') (.slice ma' (L.push ⟨et, ek, exs, .slice ra exs.length rc⟩).met.length mc'), .bool true]) (by simp [results, Try.results11, go_sem, y0, y1, y2, y3, hlt]) rfl ⟨_, _, _, rfl, ?_⟩
  have hd := (done_told HQ5.out HB0.out (L.push ⟨et, ek, exs, .slice ra exs.length rc⟩).room (.slice la' es'.length lc') (.slice sa' 4 sc') (.slice ma' (L.push ⟨et, ek, exs, .slice ra exs.length rc⟩).met.length mc')).below (RK.kpt _ _ _ _ _ _) (alloc1 _ (robj (L.push ⟨et, ek, exs, .slice ra exs.length rc⟩).room (.slice la' es'.length lc') (.slice sa' 4 sc') (.slice ma' (L.push ⟨et, ek, exs, .slice ra exs.length rc⟩).met.length mc')))
  rw [List.length_map] at hd
  exact hd
end Go.Proofs.Ytbfoplaccalegaa.Val
