/- What the law's done answers at a savepoint. -/
import Derived.Test.YtbfoplaccalegaaLawUDone
namespace Go.Proofs.Ytbfoplaccalegaa.Val
open Go Go.RowKit

variable {K : List (Nat × Obj)}

set_option maxHeartbeats 2000000 in
theorem done_save (w0 w : World) (p : Nat) (L : Lg) (lv sv mv : Value) (a : UA) (q : QK w0 w p L (NBs K) (RK K w0 lv sv mv L)) (hk : kindA a = 4) (hn : okn a.n = true) (her : ∃ ra rn rc, a.e.r = .slice ra rn rc) :
    Calls Try.prog 11 #[.pointer (some ⟨p, 0, none⟩), RV L.room lv sv mv, a.val] w fun x w' => ∃ lv' sv' mv', x = .returned (.tuple #[RV L.room lv' sv' mv', .bool true]) ∧ QK w0 w' p (L.put a.n (some L.es.length)) (NBs K) (RK K w0 lv' sv' mv' (L.put a.n (some L.es.length))) := by
  obtain ⟨kd, n, ⟨et, ek, exs, er⟩⟩ := a
  simp only at hn her
  obtain ⟨ra, rn, rc, her⟩ := her
  subst her
  simp only [kindA] at hk
  have hRL : RL (RowIn w0) w lv sv mv L := by obtain ⟨h, L', _, _, _, _, _, _, r⟩ := q; exact r.2.2.1
  obtain ⟨es, epe, hes, -⟩ := hRL.l
  obtain ⟨la, lc, rfl, -⟩ := hes.1.slice
  obtain ⟨sa, sc, rfl, -⟩ := hRL.s.slice
  obtain ⟨ma, mc, hma, -⟩ := hRL.m.1.slice
  rw [List.length_map] at hma
  subst hma
  have HQ3 : Hid _ := done_start q ⟨kd, n, et, ek, exs, .slice ra rn rc⟩ L.room
  have HN : Hid _ := hn
  have HB0 : Hid (w0.heap.size ≤ w.heap.size) := q.blw.size
  clear q hRL hes epe hn
  go_enter Try.func11, Try.ntmps11
  go_wp2_with fail
  refine Calls.mono (save_k HQ3.out DK.kpt n HN.out) ?_
  rintro x w4 ⟨rfl, q4⟩
  obtain ⟨⟨x0, x1, x2, x3, -⟩, ha, -, hrl⟩ := DK.boxes q4
  have d1 := cell_of_row _ _ 1 _ _ _ ha
  simp at d1
  have HQ4 : Hid _ := q4
  have HR4 : Hid _ := rsave_ok w4 _ _ _ L hrl n HN.out
  clear q4 ha hrl HQ3
  go_wp2_with fail
  refine Calls.mono HR4.out ?_
  rintro x w5 ⟨sv', rfl, rl, hb5, ns⟩
  have HQ5 : Hid _ := done_ref HQ4.out hb5 rl Src.same (.inl ns) Src.same
  obtain ⟨sa', sc', rfl, -⟩ := rl.s.slice
  clear rl hb5 ns
  clear HR4 HQ4 x0 x1 x2 x3 d1
  obtain ⟨-, -, ⟨z0, z1, z2, z3, zf⟩, -⟩ := DK.boxes HQ5.out
  have hlt : w.heap.size + 1 + 1 < w5.heap.size := DK.lt HQ5.out
  have y0 : w5.cell? ⟨w.heap.size + 1 + 1, 0, none⟩ = _ := z0
  have y1 : w5.cell? ⟨w.heap.size + 1 + 1, 1, none⟩ = _ := z1
  have y2 : w5.cell? ⟨w.heap.size + 1 + 1, 2, none⟩ = _ := z2
  have y3 : w5.cell? ⟨w.heap.size + 1 + 1, 3, none⟩ = _ := z3
  have yf : ∀ j, w5.frozen? ⟨w.heap.size + 1 + 1, j, none⟩ = false := zf
  clear z0 z1 z2 z3 zf
  go_wp2_with fail
  refine bodyPost_ret (v := .tuple #[RV L.room (.slice la es.length lc) (.slice sa' 4 sc') (.slice ma L.met.length mc), .bool true]) (by simp [results, Try.results11, go_sem, y0, y1, y2, y3, hlt]) rfl ⟨_, _, _, rfl, ?_⟩
  exact (done_told HQ5.out HB0.out L.room (.slice la es.length lc) (.slice sa' 4 sc') (.slice ma L.met.length mc)).below (RK.kpt _ _ _ _ _ _) (alloc1 _ (robj L.room (.slice la es.length lc) (.slice sa' 4 sc') (.slice ma L.met.length mc)))
set_option maxHeartbeats 2000000 in
theorem done_saven (w0 w : World) (p : Nat) (L : Lg) (lv sv mv : Value) (a : UA) (q : QK w0 w p L (NBs K) (RK K w0 lv sv mv L)) (hk : kindA a = 4) (hn : okn a.n = false) (her : ∃ ra rn rc, a.e.r = .slice ra rn rc) :
    Calls Try.prog 11 #[.pointer (some ⟨p, 0, none⟩), RV L.room lv sv mv, a.val] w fun x w' => ∃ lv' sv' mv', x = .returned (.tuple #[RV L.room lv' sv' mv', .bool true]) ∧ QK w0 w' p (L) (NBs K) (RK K w0 lv' sv' mv' (L)) := by
  obtain ⟨kd, n, ⟨et, ek, exs, er⟩⟩ := a
  simp only at hn her
  obtain ⟨ra, rn, rc, her⟩ := her
  subst her
  simp only [kindA] at hk
  have hRL : RL (RowIn w0) w lv sv mv L := by obtain ⟨h, L', _, _, _, _, _, _, r⟩ := q; exact r.2.2.1
  obtain ⟨es, epe, hes, -⟩ := hRL.l
  obtain ⟨la, lc, rfl, -⟩ := hes.1.slice
  obtain ⟨sa, sc, rfl, -⟩ := hRL.s.slice
  obtain ⟨ma, mc, hma, -⟩ := hRL.m.1.slice
  rw [List.length_map] at hma
  subst hma
  have HQ3 : Hid _ := done_start q ⟨kd, n, et, ek, exs, .slice ra rn rc⟩ L.room
  have HN : Hid _ := hn
  have HB0 : Hid (w0.heap.size ≤ w.heap.size) := q.blw.size
  clear q hRL hes epe hn
  go_enter Try.func11, Try.ntmps11
  go_wp2_with fail
  refine Calls.mono (save_kn HQ3.out n HN.out) ?_
  rintro x w4 ⟨rfl, q4⟩
  obtain ⟨⟨x0, x1, x2, x3, -⟩, ha, -, hrl⟩ := DK.boxes q4
  have d1 := cell_of_row _ _ 1 _ _ _ ha
  simp at d1
  have HQ4 : Hid _ := q4
  have HR4 : Hid _ := rsave_bad w4 _ _ _ L hrl n (okn_no HN.out)
  clear q4 ha hrl HQ3
  go_wp2_with fail
  refine Calls.mono HR4.out ?_
  rintro x w5 ⟨rfl, hb5⟩
  have HQ5 : Hid _ := QK.below HQ4.out DK.kpt hb5
  clear hb5
  clear HR4 HQ4 x0 x1 x2 x3 d1
  obtain ⟨-, -, ⟨z0, z1, z2, z3, zf⟩, -⟩ := DK.boxes HQ5.out
  have hlt : w.heap.size + 1 + 1 < w5.heap.size := DK.lt HQ5.out
  have y0 : w5.cell? ⟨w.heap.size + 1 + 1, 0, none⟩ = _ := z0
  have y1 : w5.cell? ⟨w.heap.size + 1 + 1, 1, none⟩ = _ := z1
  have y2 : w5.cell? ⟨w.heap.size + 1 + 1, 2, none⟩ = _ := z2
  have y3 : w5.cell? ⟨w.heap.size + 1 + 1, 3, none⟩ = _ := z3
  have yf : ∀ j, w5.frozen? ⟨w.heap.size + 1 + 1, j, none⟩ = false := zf
  clear z0 z1 z2 z3 zf
  go_wp2_with fail
  refine bodyPost_ret (v := .tuple #[RV L.room (.slice la es.length lc) (.slice sa 4 sc) (.slice ma L.met.length mc), .bool true]) (by simp [results, Try.results11, go_sem, y0, y1, y2, y3, hlt]) rfl ⟨_, _, _, rfl, ?_⟩
  exact (done_told HQ5.out HB0.out L.room (.slice la es.length lc) (.slice sa 4 sc) (.slice ma L.met.length mc)).below (RK.kpt _ _ _ _ _ _) (alloc1 _ (robj L.room (.slice la es.length lc) (.slice sa 4 sc) (.slice ma L.met.length mc)))
end Go.Proofs.Ytbfoplaccalegaa.Val
