/- The walk of UndoPlays. -/
import Derived.Test.YtbfoplaccalegaaLawUStep
import Derived.Test.YtbfoplaccalegaaOpenUA
import Derived.Test.YtbfoplaccalegaaUndoAwake
namespace Go.Proofs.Ytbfoplaccalegaa.Val
open Go Go.RowKit

theorem qk_new (w0 w1 : World) (room : Int) (b : Below w0.heap.size w0 w1) : Calls Try.prog 9 #[.int .i64 room] w1 fun e w' => ∃ p, e = .returned (.pointer (some ⟨p, 0, none⟩)) ∧ QK w0 w' p (newL (capR room)) (NBs []) fun _ _ => True :=
  (new_any room w1).mono fun e w' ⟨h, he, g, hb, o, _, _⟩ => ⟨h.p, he, h, _, rfl, .refl _, g, fun a ha => Nat.le_trans b.size (o a ha), b.trans (hb.mono b.size), by simp [newL], trivial⟩
theorem qk_ref {w0 w w' : World} {p : Nat} {L : Lg} {r q : Nat} (k : QK w0 w p L (NBs []) fun _ _ => True) (hb : Below w.heap.size w w') (rl : RL (RowIn w0) w' (.slice none 0 0) (.slice (some ⟨q, 0, none⟩) 4 4) (.slice none 0 0) (newL r)) (hq : w.heap.size ≤ q) :
    QK w0 w' p L (NBs []) (RK [] w0 (.slice none 0 0) (.slice (some ⟨q, 0, none⟩) 4 4) (.slice none 0 0) (newL r)) := by
  obtain ⟨h, L', hp, hl, g, o, bl, z, _⟩ := k
  have no : ∀ n, OffV h (.slice none 0 0) n := fun n b o n' c e => by cases e
  refine ⟨h, L', hp, hl, g.below hb, o, bl.trans (hb.mono bl.size), z, o, bl.trans (hb.mono bl.size), rl, no 5, fun b o n c e j hj hf => ?_, no 5, (fun x hx => by simp at hx), (fun x hx => by simp at hx), (fun x hx => by simp at hx), (fun x hx => by simp at hx)⟩
  cases e
  have := g.lt _ hf
  simp only at this; omega
theorem act_any (w0 w : World) (p : Nat) (L : Lg) (k : Nat) (f : Fine L k) (hk : k ≤ 80) (lv sv mv : Value) (kd n et : Int) (ek : Val) (exs : List Val) (ra : Option Addr) (rc : Nat) (ok : okS (et, ek)) (hr : RowIn w0 (.slice ra exs.length rc) exs) (hx : exs.length ≤ 100) (K : List (Nat × Obj)) (q : QK w0 w p L (NBs K) (RK K w0 lv sv mv L)) :
    Calls Try.prog 11 #[.pointer (some ⟨p, 0, none⟩), .agg #[.int .i64 L.room, lv, sv, mv], .agg #[.int .i64 kd, .int .i64 n, .int .i64 et, .bool ek.t, .int .i64 ek.n, .string ek.s, .slice ra exs.length rc]] w fun x w' => ∃ L' la' lc' sa' sc' ma' mc', x = .returned (.tuple #[.agg #[.int .i64 L.room, .slice la' L'.es.length lc', .slice sa' 4 sc', .slice ma' L'.met.length mc'], .bool true]) ∧ (Fine L' (k + 1) ∧ L'.room = L.room) ∧ QK w0 w' p L' (NBs K) (RK K w0 (.slice la' L'.es.length lc') (.slice sa' 4 sc') (.slice ma' L'.met.length mc') L') :=
  (done_any w0 w p L k f hk lv sv mv ⟨kd, n, et, ek, exs, .slice ra exs.length rc⟩ q ok hr hx).mono fun x w' ⟨L', lv', sv', mv', hx, hf, hq⟩ => by
    have rl := hq.rl
    obtain ⟨es', epe, hes', -⟩ := rl.l
    obtain ⟨la', lc', rfl, -⟩ := hes'.1.slice
    obtain ⟨sa', sc', rfl, -⟩ := rl.s.slice
    obtain ⟨ma', mc', rfl, -⟩ := rl.m.1.slice
    rw [List.length_map] at hx hq
    rw [pe_len epe] at hx hq
    exact ⟨L', la', lc', sa', sc', ma', mc', hx, hf, hq⟩
set_option maxRecDepth 100000 in
set_option maxHeartbeats 4000000 in
theorem plays_law {a0 : Option Addr} {n0 c0 : Nat} (room : Int) (l : List UA) (W : World) (i0 : Lies W (.slice a0 n0 c0) l.length (l.flatMap UA.cells)) (g0 : ∀ a ∈ l, GoodE W a.e) :
    Calls Try.prog 3 #[.int .i64 room, .slice a0 n0 c0] W fun x w' => x = .returned (.bool true) ∧ Below W.heap.size W w' := by
  obtain rfl : n0 = l.length := by obtain ⟨_, _, e, _⟩ := i0; cases e; rfl
  have HA : Hid (∀ w1, Calls Try.prog 8 #[] w1 fun e w' => e = .returned (.bool true) ∧ Below w1.heap.size w1 w') := awake_any
  have HI : Hid (Lies W (.slice a0 l.length c0) l.length (l.flatMap UA.cells) ∧ ∀ a ∈ l, GoodE W a.e) := ⟨i0, g0⟩
  have hll := i0.slice
  obtain ⟨_, _, _, hll⟩ := hll
  clear i0 g0
  go_enter Try.func3, Try.ntmps3
  go_wp2_with fail
  refine Calls.mono (HA.out _) ?_
  rintro x w1 ⟨rfl, hb⟩
  have HB1 : Hid (Below W.heap.size W w1) := hb
  clear hb HA
  go_wp2_with fail
  refine Calls.mono (qk_new W w1 room HB1.out) ?_
  rintro x w2 ⟨p, rfl, q⟩
  have HQ2 : Hid (QK W w2 p (newL (capR room)) (NBs []) fun _ _ => True) := q
  clear q HB1
  go_wp2_with fail
  refine Calls.mono (rnew_any (R := RowIn W) room w2) ?_
  rintro x w3 ⟨sv, rfl, rl, hb3, qq, hqq, rfl⟩
  have hq3 := qk_ref HQ2.out hb3 rl hqq
  have HQ4 : Hid (QK W (w3.alloc (robj (capR room) (.slice none 0 0) (.slice (some ⟨qq, 0, none⟩) 4 4) (.slice none 0 0))) p (newL (capR room)) (NBs [(w3.heap.size, robj (capR room) (.slice none 0 0) (.slice (some ⟨qq, 0, none⟩) 4 4) (.slice none 0 0))]) (RK [(w3.heap.size, robj (capR room) (.slice none 0 0) (.slice (some ⟨qq, 0, none⟩) 4 4) (.slice none 0 0))] W (.slice none 0 0) (.slice (some ⟨qq, 0, none⟩) 4 4) (.slice none 0 0) (newL (capR room)))) := hq3.box _
  have HF4 : Hid (Fine (newL (capR room)) 0 ∧ (newL (capR room)).room = capR room) := ⟨Fine.new room, rfl⟩
  have HW3 : Hid (W.heap.size ≤ w3.heap.size) := hq3.blw.size
  clear rl hb3 hqq hq3 HQ2
  go_wp2_with fail
  generalize w3.alloc (robj (capR room) (.slice none 0 0) (.slice (some ⟨qq, 0, none⟩) 4 4) (.slice none 0 0)) = w4 at *
  generalize w3.heap.size = b7 at *
  go_loopw [8] (fun i wr => ∃ (k : Nat) (L : Lg) (lv sv mv : Value), (k ≤ l.length ∧ k ≤ 80) ∧ i = .int .i64 k ∧ Hid (Fine L k ∧ L.room = capR room) ∧ Hid (QK W wr p L (NBs [(b7, robj (capR room) lv sv mv)]) (RK [(b7, robj (capR room) lv sv mv)] W lv sv mv L))) (fun i _ => 80 - (intOf i).toNat)
  case atStart => exact ⟨0, _, _, _, _, ⟨Nat.zero_le _, Nat.zero_le _⟩, rfl, HF4, HQ4⟩
  case round =>
    obtain ⟨k, L, lv, sv, mv, ⟨hk, hk80⟩, rfl, HF, HQ⟩ := hrel
    clear HF4 HQ4
    rcases Nat.lt_or_ge k l.length with h1 | h1
    · rcases Nat.lt_or_ge k 80 with h2 | h2
      · have i1 : (k : Int) < l.length := by omega
        have i2 : (k : Int) < 80 := by omega
        have i3 : IntKind.i64.wrap ((k : Int) + 1) = k + 1 := by rw [IntKind.wrap_i64]; omega
        have i4 : ((k : Int) + 1).toNat = k + 1 := by omega
        obtain ⟨b, o, rfl, d0, d1, d2, d3, d4, d5, d6⟩ := uacts_at (HI.out.1.below HQ.out.blw) k h1
        have hat := fun wx (hb : Below W.heap.size W wx) => uacts_at (HI.out.1.below hb) k h1
        have ge := HI.out.2 _ (List.getElem_mem h1)
        generalize l[k] = a at *
        obtain ⟨kd, n, et, ek, exs, er⟩ := a
        obtain ⟨ra, rc, hra, -⟩ := ge.2.1.slice
        simp only at hra
        subst hra
        simp only at d0 d1 d2 d3 d4 d5 d6
        have HJ : Hid (k < l.length ∧ k < 80) := ⟨h1, h2⟩
        have HG : Hid (okS (et, ek) ∧ RowIn W (.slice ra exs.length rc) exs) := ⟨ge.1, ge.2.1⟩
        have HAT : Hid _ := hat
        clear hk hk80 h1 h2 ge hat
        rcases Nat.lt_or_ge 100 exs.length with h3 | h3
        · have i5 : (100 : Int) < exs.length := by omega
          have HZ : Hid (Below W.heap.size W wr) := HQ.out.blw
          clear HQ HF HG
          go_wp2_with fail
          go_ret
          exact ⟨rfl, HZ.out⟩
        · have i5 : (exs.length : Int) ≤ 100 := by omega
          have HX3 : Hid (exs.length ≤ 100) := h3
          clear h3
          have HD : Hid (∀ (K : List (Nat × Obj)) wx, QK W wx p L (NBs K) (RK K W lv sv mv L) → Calls Try.prog 11 #[.pointer (some ⟨p, 0, none⟩), .agg #[.int .i64 (capR room : Int), lv, sv, mv], .agg #[.int .i64 kd, .int .i64 n, .int .i64 et, .bool ek.t, .int .i64 ek.n, .string ek.s, .slice ra exs.length rc]] wx fun x w' => ∃ L' la' lc' sa' sc' ma' mc', x = .returned (.tuple #[.agg #[.int .i64 (capR room : Int), .slice la' L'.es.length lc', .slice sa' 4 sc', .slice ma' L'.met.length mc'], .bool true]) ∧ (Fine L' (k + 1) ∧ L'.room = capR room) ∧ QK W w' p L' (NBs K) (RK K W (.slice la' L'.es.length lc') (.slice sa' 4 sc') (.slice ma' L'.met.length mc') L')) := fun K wx hq => by
            have h1 := act_any W wx p L k HF.out.1 (by have := HJ.out; omega) lv sv mv kd n et ek exs ra rc HG.out.1 HG.out.2 HX3.out K hq
            rw [HF.out.2] at h1
            exact h1
          have HS : Hid (∀ wx, Below W.heap.size W wx → LB wx b7 (capR room) lv sv mv → (wx.cell? ⟨b7, 0, none⟩ = some (.int .i64 (capR room : Int)) ∧ wx.cell? ⟨b7, 1, none⟩ = some lv ∧ wx.cell? ⟨b7, 2, none⟩ = some sv ∧ wx.cell? ⟨b7, 3, none⟩ = some mv) ∧ wx.cell? ⟨b, o + k * 7, none⟩ = some (.int .i64 kd) ∧ wx.cell? ⟨b, o + k * 7 + 1, none⟩ = some (.int .i64 n) ∧ wx.cell? ⟨b, o + k * 7 + 2, none⟩ = some (.int .i64 et) ∧ wx.cell? ⟨b, o + k * 7 + 3, none⟩ = some (.bool ek.t) ∧ wx.cell? ⟨b, o + k * 7 + 4, none⟩ = some (.int .i64 ek.n) ∧ wx.cell? ⟨b, o + k * 7 + 5, none⟩ = some (.string ek.s) ∧ wx.cell? ⟨b, o + k * 7 + 6, none⟩ = some (.slice ra exs.length rc)) := fun wx hb lb => by
            obtain ⟨b', o', e0, q0, q1, q2, q3, q4, q5, q6⟩ := HAT.out wx hb
            cases e0
            exact ⟨⟨lb.c0, lb.c1, lb.c2, lb.c3⟩, q0, q1, q2, q3, q4, q5, q6⟩
          go_wp2_with fail
          have HQd : Hid _ := HQ.out.below (RK.kpt _ _ _ _ _ _) (Below.refl _ _).drew
          clear d0 d1 d2 d3 d4 d5 d6
          refine wp_region_held_drew (S := fun w' => (w'.cell? ⟨b7, 0, none⟩ = some (.int .i64 (capR room : Int)) ∧ w'.cell? ⟨b7, 1, none⟩ = some lv ∧ w'.cell? ⟨b7, 2, none⟩ = some sv ∧ w'.cell? ⟨b7, 3, none⟩ = some mv) ∧ w'.cell? ⟨b, o + k * 7, none⟩ = some (.int .i64 kd) ∧ w'.cell? ⟨b, o + k * 7 + 1, none⟩ = some (.int .i64 n) ∧ w'.cell? ⟨b, o + k * 7 + 2, none⟩ = some (.int .i64 et) ∧ w'.cell? ⟨b, o + k * 7 + 3, none⟩ = some (.bool ek.t) ∧ w'.cell? ⟨b, o + k * 7 + 4, none⟩ = some (.int .i64 ek.n) ∧ w'.cell? ⟨b, o + k * 7 + 5, none⟩ = some (.string ek.s) ∧ w'.cell? ⟨b, o + k * 7 + 6, none⟩ = some (.slice ra exs.length rc)) (by kernel_rfl) ?_ (fun hHeld => ?_)
          · exact HS.out _ (QK.blw HQd.out) (QK.lb HQd.out (by simp))
          (try clear hK K)
          refine wpAnyH_take (i := 0) (v := ?_) rfl (by kernel_rfl) (by kernel_rfl) (by kernel_rfl) (fun _ _ _ h => h) (Or.inl ⟨by rfl, ?_⟩) (by assumption) ?_
          rotate_left
          · intro w hSw; (try dsimp only at hSw); go_simp; (try with_reducible rfl)
          (try simp only [Act.put, List.getElem_toArray, List.getElem_cons_zero, List.setIfInBounds_toArray, List.set_cons_zero, List.set_cons_succ])
          refine wpAnyH_take (i := 1) (v := ?_) rfl (by kernel_rfl) (by kernel_rfl) (by kernel_rfl) (fun _ _ _ h => h) (Or.inl ⟨by rfl, ?_⟩) (by assumption) ?_
          rotate_left
          · intro w hSw; (try dsimp only at hSw); go_simp; (try with_reducible rfl)
          (try simp only [Act.put, List.getElem_toArray, List.getElem_cons_succ, List.getElem_cons_zero, List.setIfInBounds_toArray, List.set_cons_zero, List.set_cons_succ])
          refine wpAnyH_take (i := 2) (v := ?_) rfl (by kernel_rfl) (by kernel_rfl) (by kernel_rfl) (fun _ _ _ h => h) (Or.inl ⟨by rfl, ?_⟩) (by assumption) ?_
          rotate_left
          · intro w hSw; (try dsimp only at hSw); go_simp; (try with_reducible rfl)
          (try simp only [Act.put, List.getElem_toArray, List.getElem_cons_succ, List.getElem_cons_zero, List.setIfInBounds_toArray, List.set_cons_zero, List.set_cons_succ])
          refine wpAnyH_take (i := 3) (v := ?_) rfl (by kernel_rfl) (by kernel_rfl) (by kernel_rfl) (fun _ _ _ h => h) (Or.inl ⟨by rfl, ?_⟩) (by assumption) ?_
          rotate_left
          · intro w hSw; (try dsimp only at hSw); go_simp; (try with_reducible rfl)
          (try simp only [Act.put, List.getElem_toArray, List.getElem_cons_succ, List.getElem_cons_zero, List.setIfInBounds_toArray, List.set_cons_zero, List.set_cons_succ])
          refine wpAnyH_take (i := 4) (v := ?_) rfl (by kernel_rfl) (by kernel_rfl) (by kernel_rfl) (fun _ _ _ h => h) (Or.inl ⟨by rfl, ?_⟩) (by assumption) ?_
          rotate_left
          · intro w hSw; (try dsimp only at hSw); go_simp; (try with_reducible rfl)
          (try simp only [Act.put, List.getElem_toArray, List.getElem_cons_succ, List.getElem_cons_zero, List.setIfInBounds_toArray, List.set_cons_zero, List.set_cons_succ])
          refine wpAnyH_take (i := 5) (v := ?_) rfl (by kernel_rfl) (by kernel_rfl) (by kernel_rfl) (fun _ _ _ h => h) (Or.inl ⟨by rfl, ?_⟩) (by assumption) ?_
          rotate_left
          · intro w hSw; (try dsimp only at hSw); go_simp; (try with_reducible rfl)
          (try simp only [Act.put, List.getElem_toArray, List.getElem_cons_succ, List.getElem_cons_zero, List.setIfInBounds_toArray, List.set_cons_zero, List.set_cons_succ])
          (try clear hK K)
          refine wpAnyH_ready (rs := [6, 10]) (by kernel_rfl) (by simp) ?_
          refine AllReadyH.cons rfl (fun K hK => ?_) (AllReadyH.cons rfl (fun K hK => ?_) AllReadyH.nil)
          · go_simp
            refine Calls.mono (HD.out _ _ HQd.out) ?_
            rintro x w5 ⟨L', la', lc', sa', sc', ma', mc', rfl, hf, q5⟩
            have HF5 : Hid _ := hf
            have HQ5 : Hid _ := q5
            clear hf q5
            refine hK.out _ _ ?_ (fun hHeld => ?_)
            · exact HS.out _ (QK.blw HQ5.out) (QK.lb HQ5.out (by simp))
            (try clear hK K)
            refine wpAnyH_take (i := 7) (v := ?_) rfl (by kernel_rfl) (by kernel_rfl) (by kernel_rfl) (fun _ _ _ h => h) (Or.inl ⟨by rfl, ?_⟩) (by assumption) ?_
            rotate_left
            · intro w hSw; (try dsimp only at hSw); go_simp; (try with_reducible rfl)
            (try simp only [Act.put, List.getElem_toArray, List.getElem_cons_succ, List.getElem_cons_zero, List.setIfInBounds_toArray, List.set_cons_zero, List.set_cons_succ])
            refine wpAnyH_take (i := 8) (v := ?_) rfl (by kernel_rfl) (by kernel_rfl) (by kernel_rfl) (fun _ _ _ h => h) (Or.inl ⟨by rfl, ?_⟩) (by assumption) ?_
            rotate_left
            · intro w hSw; (try dsimp only at hSw); go_simp; (try with_reducible rfl)
            (try simp only [Act.put, List.getElem_toArray, List.getElem_cons_succ, List.getElem_cons_zero, List.setIfInBounds_toArray, List.set_cons_zero, List.set_cons_succ])
            refine wpAnyH_take (i := 9) (v := ?_) rfl (by kernel_rfl) (by kernel_rfl) (by kernel_rfl) (fun _ _ _ h => h) (Or.inl ⟨by rfl, ?_⟩) (by assumption) ?_
            rotate_left
            · intro w hSw; (try dsimp only at hSw); go_simp; (try with_reducible rfl)
            (try simp only [Act.put, List.getElem_toArray, List.getElem_cons_succ, List.getElem_cons_zero, List.setIfInBounds_toArray, List.set_cons_zero, List.set_cons_succ])
            (try clear hK K)
            refine wpAnyH_ready (rs := [10]) (by kernel_rfl) (by simp) ?_
            refine AllReadyH.cons rfl (fun K hK => ?_) AllReadyH.nil
            go_simp
            refine hK.out _ _ ?_ (fun hHeld => ?_)
            · exact HS.out _ (QK.blw (QK.below HQ5.out (RK.kpt _ _ _ _ _ _) (alloc1 _ _))) (QK.lb (QK.below HQ5.out (RK.kpt _ _ _ _ _ _) (alloc1 _ _)) (by simp))
            have HQ6 : Hid _ := QK.box HQ5.out (robj (capR room) (.slice la' L'.es.length lc') (.slice sa' 4 sc') (.slice ma' L'.met.length mc'))
            (try clear hK K)
            refine wpAnyH_ready (rs := [11]) (by kernel_rfl) (by simp) ?_
            refine AllReadyH.cons rfl (fun K hK => ?_) AllReadyH.nil
            go_simp
            refine hK.out _ _ ?_ (fun hHeld => ?_)
            · exact HS.out _ (QK.blw HQ6.out) (QK.lb HQ6.out (by simp))
            (try clear hK K)
            refine wpAnyH_take (i := 12) (v := ?_) rfl (by kernel_rfl) (by kernel_rfl) (by kernel_rfl) (fun _ _ _ h => h) (Or.inl ⟨by rfl, ?_⟩) (by assumption) ?_
            rotate_left
            · intro w hSw; (try dsimp only at hSw); go_simp; (try with_reducible rfl)
            (try simp only [Act.put, List.getElem_toArray, List.getElem_cons_succ, List.getElem_cons_zero, List.setIfInBounds_toArray, List.set_cons_zero, List.set_cons_succ])
            (try clear hK K)
            refine wpAnyH_done (by kernel_rfl) ?_ _
            clear hHeld
            generalize w5.alloc (robj (capR room) (.slice la' L'.es.length lc') (.slice sa' 4 sc') (.slice ma' L'.met.length mc')) = wz at *
            clear HQ HQd HF HG HX3 HD HS HAT
            obtain ⟨u0, u1, u2, u3, -⟩ : LB wz (w5.heap.size) (capR room) (.slice la' L'.es.length lc') (.slice sa' 4 sc') (.slice ma' L'.met.length mc') := QK.lb HQ6.out List.mem_cons_self
            obtain ⟨v0, v1, v2, v3, vf⟩ : LB wz b7 (capR room) lv sv mv := QK.lb HQ6.out (by simp)
            have HQ7 : Hid (QK W (told wz b7 (capR room) (.slice la' L'.es.length lc') (.slice sa' 4 sc') (.slice ma' L'.met.length mc')) p L' (NBs [(b7, robj (capR room) (.slice la' L'.es.length lc') (.slice sa' 4 sc') (.slice ma' L'.met.length mc'))]) (RK [(b7, robj (capR room) (.slice la' L'.es.length lc') (.slice sa' 4 sc') (.slice ma' L'.met.length mc'))] W (.slice la' L'.es.length lc') (.slice sa' 4 sc') (.slice ma' L'.met.length mc') L')) := told_k (by simp) (QK.drop HQ6.out) HW3.out
            clear HQ6
            go_wp2_with fail
            clear u0 u1 u2 u3 v0 v1 v2 v3 vf
            have HQ8 : Hid _ := QK.below HQ7.out (RK.kpt _ _ _ _ _ _) (Below.refl _ _).drew
            clear HQ7
            unfold told at HQ8
            generalize (((wz.setCell ⟨b7, 0, none⟩ (.int .i64 (capR room : Int))).setCell ⟨b7, 1, none⟩ (.slice la' L'.es.length lc')).setCell ⟨b7, 2, none⟩ (.slice sa' 4 sc')).setCell ⟨b7, 3, none⟩ (.slice ma' L'.met.length mc') = wy at *
            have hme : L'.met.length ≤ 1000 := by have h1 := HF5.out.1.met; have h2 := HJ.out.2; omega
            refine wp_region_held_drew (S := fun w' => w'.cell? ⟨b7, 1, none⟩ = some (.slice la' L'.es.length lc') ∧ w'.cell? ⟨b7, 3, none⟩ = some (.slice ma' L'.met.length mc')) (by kernel_rfl) ?_ (fun hHeld => ?_)
            · exact ⟨(QK.lb HQ8.out List.mem_cons_self).c1, (QK.lb HQ8.out List.mem_cons_self).c3⟩
            (try clear hK K)
            refine wpAnyH_take (i := 0) (v := ?_) rfl (by kernel_rfl) (by kernel_rfl) (by kernel_rfl) (fun _ _ _ h => h) (Or.inl ⟨by rfl, ?_⟩) (by assumption) ?_
            rotate_left
            · intro w hSw; (try dsimp only at hSw); go_simp; (try with_reducible rfl)
            (try simp only [Act.put, List.getElem_toArray, List.getElem_cons_zero, List.setIfInBounds_toArray, List.set_cons_zero, List.set_cons_succ])
            refine wpAnyH_take (i := 1) (v := ?_) rfl (by kernel_rfl) (by kernel_rfl) (by kernel_rfl) (fun _ _ _ h => h) (Or.inl ⟨by rfl, ?_⟩) (by assumption) ?_
            rotate_left
            · intro w hSw; (try dsimp only at hSw); go_simp; (try with_reducible rfl)
            (try simp only [Act.put, List.getElem_toArray, List.getElem_cons_succ, List.getElem_cons_zero, List.setIfInBounds_toArray, List.set_cons_zero, List.set_cons_succ])
            refine wpAnyH_take (i := 2) (v := ?_) rfl (by kernel_rfl) (by kernel_rfl) (by kernel_rfl) (fun _ _ _ h => h) (Or.inl ⟨by rfl, ?_⟩) (by assumption) ?_
            rotate_left
            · intro w hSw; (try dsimp only at hSw); go_simp; (try with_reducible rfl)
            (try simp only [Act.put, List.getElem_toArray, List.getElem_cons_succ, List.getElem_cons_zero, List.setIfInBounds_toArray, List.set_cons_zero, List.set_cons_succ])
            refine wpAnyH_take (i := 3) (v := ?_) rfl (by kernel_rfl) (by kernel_rfl) (by kernel_rfl) (fun _ _ _ h => h) (Or.inl ⟨by rfl, ?_⟩) (by assumption) ?_
            rotate_left
            · intro w hSw; (try dsimp only at hSw); go_simp; (try with_reducible rfl)
            (try simp only [Act.put, List.getElem_toArray, List.getElem_cons_succ, List.getElem_cons_zero, List.setIfInBounds_toArray, List.set_cons_zero, List.set_cons_succ])
            refine wpAnyH_take (i := 5) (v := ?_) rfl (by kernel_rfl) (by kernel_rfl) (by kernel_rfl) (fun _ _ _ h => h) (Or.inl ⟨by rfl, ?_⟩) (by assumption) ?_
            rotate_left
            · intro w hSw; (try dsimp only at hSw); go_simp; (try with_reducible rfl)
            (try simp only [Act.put, List.getElem_toArray, List.getElem_cons_succ, List.getElem_cons_zero, List.setIfInBounds_toArray, List.set_cons_zero, List.set_cons_succ])
            refine wpAnyH_take (i := 6) (v := ?_) rfl (by kernel_rfl) (by kernel_rfl) (by kernel_rfl) (fun _ _ _ h => h) (Or.inl ⟨by rfl, ?_⟩) (by assumption) ?_
            rotate_left
            · intro w hSw; (try dsimp only at hSw); go_simp; (try with_reducible rfl)
            (try simp only [Act.put, List.getElem_toArray, List.getElem_cons_succ, List.getElem_cons_zero, List.setIfInBounds_toArray, List.set_cons_zero, List.set_cons_succ])
            refine wpAnyH_take (i := 7) (v := ?_) rfl (by kernel_rfl) (by kernel_rfl) (by kernel_rfl) (fun _ _ _ h => h) (Or.inl ⟨by rfl, ?_⟩) (by assumption) ?_
            rotate_left
            · intro w hSw; (try dsimp only at hSw); go_simp; (try with_reducible rfl)
            (try simp only [Act.put, List.getElem_toArray, List.getElem_cons_succ, List.getElem_cons_zero, List.setIfInBounds_toArray, List.set_cons_zero, List.set_cons_succ])
            (try clear hK K)
            refine wpAnyH_ready (rs := [4]) (by kernel_rfl) (by simp) ?_
            refine AllReadyH.cons rfl (fun K hK => ?_) AllReadyH.nil
            go_simp
            (refine Calls.mono (len_k HQ8.out) ?_; rintro x wx ⟨rfl, hw⟩; obtain rfl := hw.symm)
            refine hK.out _ _ ?_ (fun hHeld => ?_)
            · exact ⟨(QK.lb HQ8.out List.mem_cons_self).c1, (QK.lb HQ8.out List.mem_cons_self).c3⟩
            (try clear hK K)
            refine wpAnyH_take (i := 8) (v := ?_) rfl (by kernel_rfl) (by kernel_rfl) (by kernel_rfl) (fun _ _ _ h => h) (Or.inl ⟨by rfl, ?_⟩) (by assumption) ?_
            rotate_left
            · intro w hSw; (try dsimp only at hSw); go_simp; (try with_reducible rfl)
            (try simp only [Act.put, List.getElem_toArray, List.getElem_cons_succ, List.getElem_cons_zero, List.setIfInBounds_toArray, List.set_cons_zero, List.set_cons_succ])
            refine wpAnyH_take (i := 9) (v := ?_) rfl (by kernel_rfl) (by kernel_rfl) (by kernel_rfl) (fun _ _ _ h => h) (Or.inl ⟨by rfl, ?_⟩) (by assumption) ?_
            rotate_left
            · intro w hSw; (try dsimp only at hSw); go_simp; (try with_reducible rfl)
            (try simp only [Act.put, List.getElem_toArray, List.getElem_cons_succ, List.getElem_cons_zero, List.setIfInBounds_toArray, List.set_cons_zero, List.set_cons_succ])
            refine wpAnyH_take (i := 10) (v := ?_) rfl (by kernel_rfl) (by kernel_rfl) (by kernel_rfl) (fun _ _ _ h => h) (Or.inl ⟨by rfl, ?_⟩) (by assumption) ?_
            rotate_left
            · intro w hSw; (try dsimp only at hSw); go_simp; (try with_reducible rfl)
            (try simp only [Act.put, List.getElem_toArray, List.getElem_cons_succ, List.getElem_cons_zero, List.setIfInBounds_toArray, List.set_cons_zero, List.set_cons_succ])
            refine wpAnyH_take (i := 11) (v := ?_) rfl (by kernel_rfl) (by kernel_rfl) (by kernel_rfl) (fun _ _ _ h => h) (Or.inl ⟨by rfl, ?_⟩) (by assumption) ?_
            rotate_left
            · intro w hSw; (try dsimp only at hSw); go_simp; (try with_reducible rfl)
            (try simp only [Act.put, List.getElem_toArray, List.getElem_cons_succ, List.getElem_cons_zero, List.setIfInBounds_toArray, List.set_cons_zero, List.set_cons_succ])
            refine wpAnyH_take (i := 13) (v := ?_) rfl (by kernel_rfl) (by kernel_rfl) (by kernel_rfl) (fun _ _ _ h => h) (Or.inl ⟨by rfl, ?_⟩) (by assumption) ?_
            rotate_left
            · intro w hSw; (try dsimp only at hSw); go_simp; (try with_reducible rfl)
            (try simp only [Act.put, List.getElem_toArray, List.getElem_cons_succ, List.getElem_cons_zero, List.setIfInBounds_toArray, List.set_cons_zero, List.set_cons_succ])
            refine wpAnyH_take (i := 14) (v := ?_) rfl (by kernel_rfl) (by kernel_rfl) (by kernel_rfl) (fun _ _ _ h => h) (Or.inl ⟨by rfl, ?_⟩) (by assumption) ?_
            rotate_left
            · intro w hSw; (try dsimp only at hSw); go_simp; (try with_reducible rfl)
            (try simp only [Act.put, List.getElem_toArray, List.getElem_cons_succ, List.getElem_cons_zero, List.setIfInBounds_toArray, List.set_cons_zero, List.set_cons_succ])
            (try clear hK K)
            refine wpAnyH_ready (rs := [12]) (by kernel_rfl) (by simp) ?_
            refine AllReadyH.cons rfl (fun K hK => ?_) AllReadyH.nil
            go_simp
            (refine Calls.mono (touched_k HQ8.out hme) ?_; rintro x w8 ⟨v8, rfl, hb8, he8⟩)
            refine hK.out _ _ ?_ (fun hHeld => ?_)
            · exact ⟨(QK.lb (QK.below HQ8.out (RK.kpt _ _ _ _ _ _) hb8) List.mem_cons_self).c1, (QK.lb (QK.below HQ8.out (RK.kpt _ _ _ _ _ _) hb8) List.mem_cons_self).c3⟩
            (try clear hK K)
            refine wpAnyH_ready (rs := [15]) (by kernel_rfl) (by simp) ?_
            refine AllReadyH.cons rfl (fun K hK => ?_) AllReadyH.nil
            go_simp
            (refine Calls.mono (rsame7_any _ _ _ _ w8 he8 ((QK.rl HQ8.out).m.below hb8) rfl) ?_; rintro x w9 ⟨rfl, hb9⟩)
            refine hK.out _ _ ?_ (fun hHeld => ?_)
            · exact ⟨(QK.lb (QK.below HQ8.out (RK.kpt _ _ _ _ _ _) (on hb8 hb9)) List.mem_cons_self).c1, (QK.lb (QK.below HQ8.out (RK.kpt _ _ _ _ _ _) (on hb8 hb9)) List.mem_cons_self).c3⟩
            (try clear hK K)
            refine wpAnyH_take (i := 16) (v := ?_) rfl (by kernel_rfl) (by kernel_rfl) (by kernel_rfl) (fun _ _ _ h => h) (Or.inl ⟨by rfl, ?_⟩) (by assumption) ?_
            rotate_left
            · intro w hSw; (try dsimp only at hSw); go_simp; (try with_reducible rfl)
            (try simp only [Act.put, List.getElem_toArray, List.getElem_cons_succ, List.getElem_cons_zero, List.setIfInBounds_toArray, List.set_cons_zero, List.set_cons_succ])
            refine wpAnyH_take (i := 17) (v := ?_) rfl (by kernel_rfl) (by kernel_rfl) (by kernel_rfl) (fun _ _ _ h => h) (Or.inl ⟨by rfl, ?_⟩) (by assumption) ?_
            rotate_left
            · intro w hSw; (try dsimp only at hSw); go_simp; (try with_reducible rfl)
            (try simp only [Act.put, List.getElem_toArray, List.getElem_cons_succ, List.getElem_cons_zero, List.setIfInBounds_toArray, List.set_cons_zero, List.set_cons_succ])
            (try clear hK K)
            refine wpAnyH_done (by kernel_rfl) ?_ _
            have HQ9 : Hid _ := QK.below HQ8.out (RK.kpt _ _ _ _ _ _) (on hb8 hb9)
            clear hHeld HQ8 hb8 he8 hb9 hme
            go_wp2_with fail
            go_roundw
            case rel => exact ⟨k + 1, L', _, _, _, HJ.out, by simp, HF5, HQ9⟩
            case measure => have := HJ.out; simp [intOf]; omega
          · go_simp
            refine hK.out _ _ ?_ (fun hHeld => ?_)
            · exact HS.out _ (QK.blw (QK.below HQd.out (RK.kpt _ _ _ _ _ _) (alloc1 _ _))) (QK.lb (QK.below HQd.out (RK.kpt _ _ _ _ _ _) (alloc1 _ _)) (by simp))
            have HQA : Hid _ := QK.box HQd.out zobj
            (try clear hK K)
            refine wpAnyH_ready (rs := [6]) (by kernel_rfl) (by simp) ?_
            refine AllReadyH.cons rfl (fun K hK => ?_) AllReadyH.nil
            go_simp
            (refine Calls.mono (HD.out _ _ HQA.out) ?_; rintro x w5 ⟨L', la', lc', sa', sc', ma', mc', rfl, hf, q5⟩)
            refine hK.out _ _ ?_ (fun hHeld => ?_)
            · exact HS.out _ (QK.blw q5) (QK.lb q5 (by simp))
            have HF5 : Hid _ := hf
            have HQ5 : Hid _ := q5
            have hlb : LB w5 wr.heap.size 0 (.slice none 0 0) (.slice none 0 0) (.slice none 0 0) := QK.lb q5 (b := wr.drew.heap.size) (room := 0) (l1 := .slice none 0 0) (s1 := .slice none 0 0) (m1 := .slice none 0 0) List.mem_cons_self
            obtain ⟨y0, y1, y2, y3, yf⟩ := hlb
            clear hf q5 HQA
            (try clear hK K)
            refine wpAnyH_take (i := 7) (v := ?_) rfl (by kernel_rfl) (by kernel_rfl) (by kernel_rfl) (fun _ _ _ h => h) (Or.inl ⟨by rfl, ?_⟩) (by assumption) ?_
            rotate_left
            · intro w hSw; (try dsimp only at hSw); go_simp; (try with_reducible rfl)
            (try simp only [Act.put, List.getElem_toArray, List.getElem_cons_succ, List.getElem_cons_zero, List.setIfInBounds_toArray, List.set_cons_zero, List.set_cons_succ])
            refine wpAnyH_take (i := 8) (v := ?_) rfl (by kernel_rfl) (by kernel_rfl) (by kernel_rfl) (fun _ _ _ h => h) (Or.inl ⟨by rfl, ?_⟩) (by assumption) ?_
            rotate_left
            · intro w hSw; (try dsimp only at hSw); go_simp; (try with_reducible rfl)
            (try simp only [Act.put, List.getElem_toArray, List.getElem_cons_succ, List.getElem_cons_zero, List.setIfInBounds_toArray, List.set_cons_zero, List.set_cons_succ])
            refine wpAnyH_take (i := 9) (v := ?_) rfl (by kernel_rfl) (by kernel_rfl) (by kernel_rfl) (fun _ _ _ h => h) (Or.inl ⟨by rfl, ?_⟩) (by assumption) ?_
            rotate_left
            · intro w hSw; (try dsimp only at hSw); go_simp; (try with_reducible rfl)
            (try simp only [Act.put, List.getElem_toArray, List.getElem_cons_succ, List.getElem_cons_zero, List.setIfInBounds_toArray, List.set_cons_zero, List.set_cons_succ])
            have hne : wr.heap.size ≠ b7 := by have := (QK.lb (b := b7) (room := (capR room : Int)) (l1 := lv) (s1 := sv) (m1 := mv) HQ.out (by simp)).lt; omega
            have HQ6 : Hid _ := told_k (b := wr.drew.heap.size) (r := (capR room : Int)) (l := .slice la' L'.es.length lc') (s := .slice sa' 4 sc') (m := .slice ma' L'.met.length mc') (by intro x hx; simp at hx; subst hx; exact fun e => hne e.symm) HQ5.out (by have := (QK.blw HQ.out).size; exact this)
            (try clear hK K)
            refine wpAnyH_ready (rs := [11]) (by kernel_rfl) (by simp) ?_
            refine AllReadyH.cons rfl (fun K hK => ?_) AllReadyH.nil
            go_simp
            refine hK.out _ _ ?_ (fun hHeld => ?_)
            · exact HS.out _ (QK.blw HQ6.out) (QK.lb HQ6.out (by simp))
            (try clear hK K)
            refine wpAnyH_take (i := 12) (v := ?_) rfl (by kernel_rfl) (by kernel_rfl) (by kernel_rfl) (fun _ _ _ h => h) (Or.inl ⟨by rfl, ?_⟩) (by assumption) ?_
            rotate_left
            · intro w hSw; (try dsimp only at hSw); go_simp; (try with_reducible rfl)
            (try simp only [Act.put, List.getElem_toArray, List.getElem_cons_succ, List.getElem_cons_zero, List.setIfInBounds_toArray, List.set_cons_zero, List.set_cons_succ])
            (try clear hK K)
            refine wpAnyH_done (by kernel_rfl) ?_ _
            clear hHeld
            have HQB : Hid (QK W ((((w5.setCell ⟨wr.heap.size, 0, none⟩ (.int .i64 (capR room : Int))).setCell ⟨wr.heap.size, 1, none⟩ (.slice la' L'.es.length lc')).setCell ⟨wr.heap.size, 2, none⟩ (.slice sa' 4 sc')).setCell ⟨wr.heap.size, 3, none⟩ (.slice ma' L'.met.length mc')) p L' (NBs [(wr.heap.size, robj (capR room) (.slice la' L'.es.length lc') (.slice sa' 4 sc') (.slice ma' L'.met.length mc')), (b7, robj (capR room) lv sv mv)]) (RK [(wr.heap.size, robj (capR room) (.slice la' L'.es.length lc') (.slice sa' 4 sc') (.slice ma' L'.met.length mc')), (b7, robj (capR room) lv sv mv)] W (.slice la' L'.es.length lc') (.slice sa' 4 sc') (.slice ma' L'.met.length mc') L')) := HQ6.out
            clear HQ6 y0 y1 y2 y3 yf HQ5
            have HQ6 : Hid _ := HQB.out
            clear HQB
            generalize (((w5.setCell ⟨wr.heap.size, 0, none⟩ (.int .i64 (capR room : Int))).setCell ⟨wr.heap.size, 1, none⟩ (.slice la' L'.es.length lc')).setCell ⟨wr.heap.size, 2, none⟩ (.slice sa' 4 sc')).setCell ⟨wr.heap.size, 3, none⟩ (.slice ma' L'.met.length mc') = wz at *
            clear HQ HQd HF HG HX3 HD HS HAT
            obtain ⟨u0, u1, u2, u3, -⟩ : LB wz (wr.heap.size) (capR room) (.slice la' L'.es.length lc') (.slice sa' 4 sc') (.slice ma' L'.met.length mc') := QK.lb HQ6.out List.mem_cons_self
            obtain ⟨v0, v1, v2, v3, vf⟩ : LB wz b7 (capR room) lv sv mv := QK.lb HQ6.out (by simp)
            have HQ7 : Hid (QK W (told wz b7 (capR room) (.slice la' L'.es.length lc') (.slice sa' 4 sc') (.slice ma' L'.met.length mc')) p L' (NBs [(b7, robj (capR room) (.slice la' L'.es.length lc') (.slice sa' 4 sc') (.slice ma' L'.met.length mc'))]) (RK [(b7, robj (capR room) (.slice la' L'.es.length lc') (.slice sa' 4 sc') (.slice ma' L'.met.length mc'))] W (.slice la' L'.es.length lc') (.slice sa' 4 sc') (.slice ma' L'.met.length mc') L')) := told_k (by simp) (QK.drop HQ6.out) HW3.out
            clear HQ6
            go_wp2_with fail
            clear u0 u1 u2 u3 v0 v1 v2 v3 vf
            have HQ8 : Hid _ := QK.below HQ7.out (RK.kpt _ _ _ _ _ _) (Below.refl _ _).drew
            clear HQ7
            unfold told at HQ8
            generalize (((wz.setCell ⟨b7, 0, none⟩ (.int .i64 (capR room : Int))).setCell ⟨b7, 1, none⟩ (.slice la' L'.es.length lc')).setCell ⟨b7, 2, none⟩ (.slice sa' 4 sc')).setCell ⟨b7, 3, none⟩ (.slice ma' L'.met.length mc') = wy at *
            have hme : L'.met.length ≤ 1000 := by have h1 := HF5.out.1.met; have h2 := HJ.out.2; omega
            refine wp_region_held_drew (S := fun w' => w'.cell? ⟨b7, 1, none⟩ = some (.slice la' L'.es.length lc') ∧ w'.cell? ⟨b7, 3, none⟩ = some (.slice ma' L'.met.length mc')) (by kernel_rfl) ?_ (fun hHeld => ?_)
            · exact ⟨(QK.lb HQ8.out List.mem_cons_self).c1, (QK.lb HQ8.out List.mem_cons_self).c3⟩
            (try clear hK K)
            refine wpAnyH_take (i := 0) (v := ?_) rfl (by kernel_rfl) (by kernel_rfl) (by kernel_rfl) (fun _ _ _ h => h) (Or.inl ⟨by rfl, ?_⟩) (by assumption) ?_
            rotate_left
            · intro w hSw; (try dsimp only at hSw); go_simp; (try with_reducible rfl)
            (try simp only [Act.put, List.getElem_toArray, List.getElem_cons_zero, List.setIfInBounds_toArray, List.set_cons_zero, List.set_cons_succ])
            refine wpAnyH_take (i := 1) (v := ?_) rfl (by kernel_rfl) (by kernel_rfl) (by kernel_rfl) (fun _ _ _ h => h) (Or.inl ⟨by rfl, ?_⟩) (by assumption) ?_
            rotate_left
            · intro w hSw; (try dsimp only at hSw); go_simp; (try with_reducible rfl)
            (try simp only [Act.put, List.getElem_toArray, List.getElem_cons_succ, List.getElem_cons_zero, List.setIfInBounds_toArray, List.set_cons_zero, List.set_cons_succ])
            refine wpAnyH_take (i := 2) (v := ?_) rfl (by kernel_rfl) (by kernel_rfl) (by kernel_rfl) (fun _ _ _ h => h) (Or.inl ⟨by rfl, ?_⟩) (by assumption) ?_
            rotate_left
            · intro w hSw; (try dsimp only at hSw); go_simp; (try with_reducible rfl)
            (try simp only [Act.put, List.getElem_toArray, List.getElem_cons_succ, List.getElem_cons_zero, List.setIfInBounds_toArray, List.set_cons_zero, List.set_cons_succ])
            refine wpAnyH_take (i := 3) (v := ?_) rfl (by kernel_rfl) (by kernel_rfl) (by kernel_rfl) (fun _ _ _ h => h) (Or.inl ⟨by rfl, ?_⟩) (by assumption) ?_
            rotate_left
            · intro w hSw; (try dsimp only at hSw); go_simp; (try with_reducible rfl)
            (try simp only [Act.put, List.getElem_toArray, List.getElem_cons_succ, List.getElem_cons_zero, List.setIfInBounds_toArray, List.set_cons_zero, List.set_cons_succ])
            refine wpAnyH_take (i := 5) (v := ?_) rfl (by kernel_rfl) (by kernel_rfl) (by kernel_rfl) (fun _ _ _ h => h) (Or.inl ⟨by rfl, ?_⟩) (by assumption) ?_
            rotate_left
            · intro w hSw; (try dsimp only at hSw); go_simp; (try with_reducible rfl)
            (try simp only [Act.put, List.getElem_toArray, List.getElem_cons_succ, List.getElem_cons_zero, List.setIfInBounds_toArray, List.set_cons_zero, List.set_cons_succ])
            refine wpAnyH_take (i := 6) (v := ?_) rfl (by kernel_rfl) (by kernel_rfl) (by kernel_rfl) (fun _ _ _ h => h) (Or.inl ⟨by rfl, ?_⟩) (by assumption) ?_
            rotate_left
            · intro w hSw; (try dsimp only at hSw); go_simp; (try with_reducible rfl)
            (try simp only [Act.put, List.getElem_toArray, List.getElem_cons_succ, List.getElem_cons_zero, List.setIfInBounds_toArray, List.set_cons_zero, List.set_cons_succ])
            refine wpAnyH_take (i := 7) (v := ?_) rfl (by kernel_rfl) (by kernel_rfl) (by kernel_rfl) (fun _ _ _ h => h) (Or.inl ⟨by rfl, ?_⟩) (by assumption) ?_
            rotate_left
            · intro w hSw; (try dsimp only at hSw); go_simp; (try with_reducible rfl)
            (try simp only [Act.put, List.getElem_toArray, List.getElem_cons_succ, List.getElem_cons_zero, List.setIfInBounds_toArray, List.set_cons_zero, List.set_cons_succ])
            (try clear hK K)
            refine wpAnyH_ready (rs := [4]) (by kernel_rfl) (by simp) ?_
            refine AllReadyH.cons rfl (fun K hK => ?_) AllReadyH.nil
            go_simp
            (refine Calls.mono (len_k HQ8.out) ?_; rintro x wx ⟨rfl, hw⟩; obtain rfl := hw.symm)
            refine hK.out _ _ ?_ (fun hHeld => ?_)
            · exact ⟨(QK.lb HQ8.out List.mem_cons_self).c1, (QK.lb HQ8.out List.mem_cons_self).c3⟩
            (try clear hK K)
            refine wpAnyH_take (i := 8) (v := ?_) rfl (by kernel_rfl) (by kernel_rfl) (by kernel_rfl) (fun _ _ _ h => h) (Or.inl ⟨by rfl, ?_⟩) (by assumption) ?_
            rotate_left
            · intro w hSw; (try dsimp only at hSw); go_simp; (try with_reducible rfl)
            (try simp only [Act.put, List.getElem_toArray, List.getElem_cons_succ, List.getElem_cons_zero, List.setIfInBounds_toArray, List.set_cons_zero, List.set_cons_succ])
            refine wpAnyH_take (i := 9) (v := ?_) rfl (by kernel_rfl) (by kernel_rfl) (by kernel_rfl) (fun _ _ _ h => h) (Or.inl ⟨by rfl, ?_⟩) (by assumption) ?_
            rotate_left
            · intro w hSw; (try dsimp only at hSw); go_simp; (try with_reducible rfl)
            (try simp only [Act.put, List.getElem_toArray, List.getElem_cons_succ, List.getElem_cons_zero, List.setIfInBounds_toArray, List.set_cons_zero, List.set_cons_succ])
            refine wpAnyH_take (i := 10) (v := ?_) rfl (by kernel_rfl) (by kernel_rfl) (by kernel_rfl) (fun _ _ _ h => h) (Or.inl ⟨by rfl, ?_⟩) (by assumption) ?_
            rotate_left
            · intro w hSw; (try dsimp only at hSw); go_simp; (try with_reducible rfl)
            (try simp only [Act.put, List.getElem_toArray, List.getElem_cons_succ, List.getElem_cons_zero, List.setIfInBounds_toArray, List.set_cons_zero, List.set_cons_succ])
            refine wpAnyH_take (i := 11) (v := ?_) rfl (by kernel_rfl) (by kernel_rfl) (by kernel_rfl) (fun _ _ _ h => h) (Or.inl ⟨by rfl, ?_⟩) (by assumption) ?_
            rotate_left
            · intro w hSw; (try dsimp only at hSw); go_simp; (try with_reducible rfl)
            (try simp only [Act.put, List.getElem_toArray, List.getElem_cons_succ, List.getElem_cons_zero, List.setIfInBounds_toArray, List.set_cons_zero, List.set_cons_succ])
            refine wpAnyH_take (i := 13) (v := ?_) rfl (by kernel_rfl) (by kernel_rfl) (by kernel_rfl) (fun _ _ _ h => h) (Or.inl ⟨by rfl, ?_⟩) (by assumption) ?_
            rotate_left
            · intro w hSw; (try dsimp only at hSw); go_simp; (try with_reducible rfl)
            (try simp only [Act.put, List.getElem_toArray, List.getElem_cons_succ, List.getElem_cons_zero, List.setIfInBounds_toArray, List.set_cons_zero, List.set_cons_succ])
            refine wpAnyH_take (i := 14) (v := ?_) rfl (by kernel_rfl) (by kernel_rfl) (by kernel_rfl) (fun _ _ _ h => h) (Or.inl ⟨by rfl, ?_⟩) (by assumption) ?_
            rotate_left
            · intro w hSw; (try dsimp only at hSw); go_simp; (try with_reducible rfl)
            (try simp only [Act.put, List.getElem_toArray, List.getElem_cons_succ, List.getElem_cons_zero, List.setIfInBounds_toArray, List.set_cons_zero, List.set_cons_succ])
            (try clear hK K)
            refine wpAnyH_ready (rs := [12]) (by kernel_rfl) (by simp) ?_
            refine AllReadyH.cons rfl (fun K hK => ?_) AllReadyH.nil
            go_simp
            (refine Calls.mono (touched_k HQ8.out hme) ?_; rintro x w8 ⟨v8, rfl, hb8, he8⟩)
            refine hK.out _ _ ?_ (fun hHeld => ?_)
            · exact ⟨(QK.lb (QK.below HQ8.out (RK.kpt _ _ _ _ _ _) hb8) List.mem_cons_self).c1, (QK.lb (QK.below HQ8.out (RK.kpt _ _ _ _ _ _) hb8) List.mem_cons_self).c3⟩
            (try clear hK K)
            refine wpAnyH_ready (rs := [15]) (by kernel_rfl) (by simp) ?_
            refine AllReadyH.cons rfl (fun K hK => ?_) AllReadyH.nil
            go_simp
            (refine Calls.mono (rsame7_any _ _ _ _ w8 he8 ((QK.rl HQ8.out).m.below hb8) rfl) ?_; rintro x w9 ⟨rfl, hb9⟩)
            refine hK.out _ _ ?_ (fun hHeld => ?_)
            · exact ⟨(QK.lb (QK.below HQ8.out (RK.kpt _ _ _ _ _ _) (on hb8 hb9)) List.mem_cons_self).c1, (QK.lb (QK.below HQ8.out (RK.kpt _ _ _ _ _ _) (on hb8 hb9)) List.mem_cons_self).c3⟩
            (try clear hK K)
            refine wpAnyH_take (i := 16) (v := ?_) rfl (by kernel_rfl) (by kernel_rfl) (by kernel_rfl) (fun _ _ _ h => h) (Or.inl ⟨by rfl, ?_⟩) (by assumption) ?_
            rotate_left
            · intro w hSw; (try dsimp only at hSw); go_simp; (try with_reducible rfl)
            (try simp only [Act.put, List.getElem_toArray, List.getElem_cons_succ, List.getElem_cons_zero, List.setIfInBounds_toArray, List.set_cons_zero, List.set_cons_succ])
            refine wpAnyH_take (i := 17) (v := ?_) rfl (by kernel_rfl) (by kernel_rfl) (by kernel_rfl) (fun _ _ _ h => h) (Or.inl ⟨by rfl, ?_⟩) (by assumption) ?_
            rotate_left
            · intro w hSw; (try dsimp only at hSw); go_simp; (try with_reducible rfl)
            (try simp only [Act.put, List.getElem_toArray, List.getElem_cons_succ, List.getElem_cons_zero, List.setIfInBounds_toArray, List.set_cons_zero, List.set_cons_succ])
            (try clear hK K)
            refine wpAnyH_done (by kernel_rfl) ?_ _
            have HQ9 : Hid _ := QK.below HQ8.out (RK.kpt _ _ _ _ _ _) (on hb8 hb9)
            clear hHeld HQ8 hb8 he8 hb9 hme
            go_wp2_with fail
            go_roundw
            case rel => exact ⟨k + 1, L', _, _, _, HJ.out, by simp, HF5, HQ9⟩
            case measure => have := HJ.out; simp [intOf]; omega
      · have i1 : (80 : Int) ≤ k := by omega
        have HZ : Hid (Below W.heap.size W wr) := HQ.out.blw
        clear HQ HF
        go_wp2_with fail
        all_goals (go_ret; exact ⟨rfl, HZ.out⟩)
    · have i1 : (l.length : Int) ≤ k := by omega
      have HZ : Hid (Below W.heap.size W wr) := HQ.out.blw
      clear HQ HF
      go_wp2_with fail
      all_goals (go_ret; exact ⟨rfl, HZ.out⟩)
end Go.Proofs.Ytbfoplaccalegaa.Val
