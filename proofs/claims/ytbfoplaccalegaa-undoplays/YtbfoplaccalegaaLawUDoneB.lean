/- What the law's done answers where a savepoint is gone back to. -/
import Derived.Test.YtbfoplaccalegaaLawUDone
import Derived.Deep.RegionHeld3
namespace Go.Proofs.Ytbfoplaccalegaa.Val
open Go Go.RowKit

variable {K : List (Nat × Obj)}

theorem AnsK.ents {w0 w : World} {p : Nat} {L : Lg} {Z : Value → Prop} {A : World → Hl → Prop} {v : Value} {l : List En} (q : QK w0 w p L Z fun w h => A w h ∧ AnsK v l w h) : ∃ l', l'.map En.pe = l.map En.pe ∧ EntsIn w v l' := by
  obtain ⟨h, L', hp, hl, g, o, bl, z, _, l', e, a⟩ := q
  exact ⟨l', e, a.1.1, fun e he => (a.2 e he).row⟩
set_option maxHeartbeats 2000000 in
theorem done_back5 (w0 w : World) (p : Nat) (L : Lg) (lv sv mv : Value) (a : UA) (q : QK w0 w p L (NBs K) (RK K w0 lv sv mv L)) (hk : kindA a = 5) (b : Nat) (hn : okn a.n = true) (hg : L.get a.n = some b) (hle : b ≤ L.es.length) (hm : L.es.length ≤ 500) (her : ∃ ra rn rc, a.e.r = .slice ra rn rc) :
    Calls Try.prog 11 #[.pointer (some ⟨p, 0, none⟩), RV L.room lv sv mv, a.val] w fun x w' => ∃ lv' sv' mv', x = .returned (.tuple #[RV L.room lv' sv' mv', .bool true]) ∧ QK w0 w' p (L.back b) (NBs K) (RK K w0 lv' sv' mv' (L.back b)) := by
  obtain ⟨kd, n, ⟨et, ek, exs, er⟩⟩ := a
  simp only at hn her
  obtain ⟨ra, rn, rc, her⟩ := her
  subst her
  simp only [kindA] at hk
  have hRL : RL (RowIn w0) w lv sv mv L := by obtain ⟨h, L', _, _, _, _, _, _, r⟩ := q; exact r.2.2.1
  obtain ⟨es, epe, hes, -⟩ := hRL.l
  obtain ⟨la, lc, rfl, -⟩ := hes.1.slice
  obtain ⟨sa, sc, rfl, -⟩ := hRL.s.slice
  obtain ⟨ma, mc, hma, -⟩ := hRL.m.1.slice
  rw [List.length_map] at hma
  subst hma
  have HQ3 : Hid _ := done_start q ⟨kd, n, et, ek, exs, .slice ra rn rc⟩ L.room
  have HN : Hid _ := And.intro hn (And.intro hg (And.intro hle hm))
  have HB0 : Hid (w0.heap.size ≤ w.heap.size) := q.blw.size
  clear q hRL hes epe hn hg hle hm
  go_enter Try.func11, Try.ntmps11
  go_wp2_with fail
  refine Calls.mono (back_k HQ3.out DK.kpt n HN.out.1 b HN.out.2.1 HN.out.2.2.1) ?_
  rintro x w4 ⟨v, rfl, q4'⟩
  obtain ⟨l1, e1, h1⟩ := AnsK.ents q4'
  obtain ⟨va, vc, rfl, -⟩ := h1.1.slice
  have q4 := q4'.to fun _ _ x => x.1
  have HA1 : Hid _ := And.intro e1 h1
  clear q4' e1 h1
  obtain ⟨⟨x0, x1, x2, x3, -⟩, ha, -, hrl⟩ := DK.boxes q4
  have d1 := cell_of_row _ _ 1 _ _ _ ha
  simp at d1
  have HQ4 : Hid _ := q4
  have HR4 : Hid _ := rback_some w4 _ _ _ L hrl n HN.out.1 b HN.out.2.1 HN.out.2.2.1 HN.out.2.2.2
  clear q4 ha hrl HQ3
  go_wp2_with fail
  refine Calls.mono HR4.out ?_
  rintro x w5 ⟨lv', sv', v2, l2, rfl, rl, e2, h2, hb5, s1, ns⟩
  have HQ5 : Hid _ := done_ref HQ4.out hb5 rl s1 (.inl ns) Src.same
  obtain ⟨es', -, hes', -⟩ := rl.l
  obtain ⟨la', lc', rfl, -⟩ := hes'.1.slice
  obtain ⟨sa', sc', rfl, -⟩ := rl.s.slice
  obtain ⟨va2, vc2, rfl, -⟩ := h2.1.slice
  have HSm : Hid (∀ w1, Below w5.heap.size w5 w1 → Calls Try.prog 13 #[.slice va l1.length vc, .slice va2 l2.length vc2] w1 fun x w' => x = .returned (.bool true) ∧ Below w1.heap.size w1 w') := fun w1 hb => rsame7_any _ _ l1 l2 w1 (HA1.out.2.below (on hb5 hb)) (h2.below hb) (HA1.out.1.trans e2.symm)
  clear rl hb5 s1 ns hes' h2 e2
  clear HR4 HQ4 x0 x1 x2 x3 d1
  obtain ⟨-, -, ⟨z0, z1, z2, z3, zf⟩, -⟩ := DK.boxes HQ5.out
  have hlt : w.heap.size + 1 + 1 < w5.heap.size := DK.lt HQ5.out
  have HZ5 : Hid (LB w5 (w.heap.size + 1 + 1) 0 (.slice none 0 0) (.slice none 0 0) (.slice none 0 0)) := ⟨z0, z1, z2, z3, zf⟩
  have HL6 : Hid (LB (w5.alloc (robj L.room (.slice la' es'.length lc') (.slice sa' 4 sc') (.slice ma L.met.length mc))).drew w5.heap.size L.room (.slice la' es'.length lc') (.slice sa' 4 sc') (.slice ma L.met.length mc) ∧ Below w5.heap.size w5 (w5.alloc (robj L.room (.slice la' es'.length lc') (.slice sa' 4 sc') (.slice ma L.met.length mc))).drew) := ⟨(LB.new w5 L.room (.slice la' es'.length lc') (.slice sa' 4 sc') (.slice ma L.met.length mc)).below (Below.refl _ _).drew, (alloc1 _ _).drew⟩
  clear z0 z1 z2 z3 zf hlt
  go_wp2_with fail
  generalize w5.alloc (robj L.room (.slice la' es'.length lc') (.slice sa' 4 sc') (.slice ma L.met.length mc)) = w6 at *
  refine wp_region_held_drew (S := fun w' => w'.cell? ⟨w5.heap.size, 0, none⟩ = some (.int .i64 (L.room : Int)) ∧ w'.cell? ⟨w5.heap.size, 1, none⟩ = some (.slice la' es'.length lc') ∧ w'.cell? ⟨w5.heap.size, 2, none⟩ = some (.slice sa' 4 sc') ∧ w'.cell? ⟨w5.heap.size, 3, none⟩ = some (.slice ma L.met.length mc)) (by kernel_rfl) ?_ (fun hHeld => ?_)
  · exact ⟨HL6.out.1.c0, HL6.out.1.c1, HL6.out.1.c2, HL6.out.1.c3⟩
  (try clear hK K)
  refine wpAnyH_take (i := 0) (v := ?_) rfl (by kernel_rfl) (by kernel_rfl) (by kernel_rfl) (fun _ _ _ h => h) (Or.inl ⟨by rfl, ?_⟩) (by assumption) ?_
  rotate_left
  · intro w hSw; (try dsimp only at hSw); go_simp; (try with_reducible rfl)
  (try simp only [Act.put, List.getElem_toArray, List.getElem_cons_zero, List.setIfInBounds_toArray, List.set_cons_zero, List.set_cons_succ])
  refine wpAnyH_take (i := 1) (v := ?_) rfl (by kernel_rfl) (by kernel_rfl) (by kernel_rfl) (fun _ _ _ h => h) (Or.inl ⟨by rfl, ?_⟩) (by assumption) ?_
  rotate_left
  · intro w hSw; (try dsimp only at hSw); go_simp; (try with_reducible rfl)
  (try simp only [Act.put, List.getElem_toArray, List.getElem_cons_succ, List.getElem_cons_zero, List.setIfInBounds_toArray, List.set_cons_zero, List.set_cons_succ])
  refine wpAnyH_take (i := 2) (v := ?_) rfl (by kernel_rfl) (by kernel_rfl) (by kernel_rfl) (fun _ _ _ h => h) (Or.inl ⟨by rfl, ?_⟩) (by assumption) ?_
  rotate_left
  · intro w hSw; (try dsimp only at hSw); go_simp; (try with_reducible rfl)
  (try simp only [Act.put, List.getElem_toArray, List.getElem_cons_succ, List.getElem_cons_zero, List.setIfInBounds_toArray, List.set_cons_zero, List.set_cons_succ])
  refine wpAnyH_take (i := 3) (v := ?_) rfl (by kernel_rfl) (by kernel_rfl) (by kernel_rfl) (fun _ _ _ h => h) (Or.inl ⟨by rfl, ?_⟩) (by assumption) ?_
  rotate_left
  · intro w hSw; (try dsimp only at hSw); go_simp; (try with_reducible rfl)
  (try simp only [Act.put, List.getElem_toArray, List.getElem_cons_succ, List.getElem_cons_zero, List.setIfInBounds_toArray, List.set_cons_zero, List.set_cons_succ])
  refine wpAnyH_take (i := 4) (v := ?_) rfl (by kernel_rfl) (by kernel_rfl) (by kernel_rfl) (fun _ _ _ h => h) (Or.inl ⟨by rfl, ?_⟩) (by assumption) ?_
  rotate_left
  · intro w hSw; (try dsimp only at hSw); go_simp; (try with_reducible rfl)
  (try simp only [Act.put, List.getElem_toArray, List.getElem_cons_succ, List.getElem_cons_zero, List.setIfInBounds_toArray, List.set_cons_zero, List.set_cons_succ])
  refine wpAnyH_take (i := 5) (v := ?_) rfl (by kernel_rfl) (by kernel_rfl) (by kernel_rfl) (fun _ _ _ h => h) (Or.inl ⟨by rfl, ?_⟩) (by assumption) ?_
  rotate_left
  · intro w hSw; (try dsimp only at hSw); go_simp; (try with_reducible rfl)
  (try simp only [Act.put, List.getElem_toArray, List.getElem_cons_succ, List.getElem_cons_zero, List.setIfInBounds_toArray, List.set_cons_zero, List.set_cons_succ])
  refine wpAnyH_take (i := 6) (v := ?_) rfl (by kernel_rfl) (by kernel_rfl) (by kernel_rfl) (fun _ _ _ h => h) (Or.inl ⟨by rfl, ?_⟩) (by assumption) ?_
  rotate_left
  · intro w hSw; (try dsimp only at hSw); go_simp; (try with_reducible rfl)
  (try simp only [Act.put, List.getElem_toArray, List.getElem_cons_succ, List.getElem_cons_zero, List.setIfInBounds_toArray, List.set_cons_zero, List.set_cons_succ])
  (try clear hK K)
  refine wpAnyH_ready (rs := [7]) (by kernel_rfl) (by simp) ?_
  refine AllReadyH.cons rfl (fun K hK => ?_) AllReadyH.nil
  go_simp
  (refine Calls.mono (HSm.out _ HL6.out.2) ?_; rintro x w7 ⟨rfl, hb7⟩)
  refine hK.out _ _ ?_ (fun hHeld => ?_)
  · exact ⟨(HL6.out.1.below hb7).c0, (HL6.out.1.below hb7).c1, (HL6.out.1.below hb7).c2, (HL6.out.1.below hb7).c3⟩
  have HB7 : Hid (Below w5.heap.size w5 w7) := on HL6.out.2 hb7
  have HL7 : Hid _ := HL6.out.1.below hb7
  obtain ⟨y0, y1, y2, y3, yf⟩ := HZ5.out.below HB7.out
  have HQ7 : Hid _ := QK.below HQ5.out DK.kpt HB7.out
  have HX : Hid (LB (told w7 (w.heap.size + 2) L.room (.slice la' es'.length lc') (.slice sa' 4 sc') (.slice ma L.met.length mc)) w5.heap.size L.room (.slice la' es'.length lc') (.slice sa' 4 sc') (.slice ma L.met.length mc)) := HL7.out.block (told_far (by have := DK.lt HQ5.out; omega))
  clear hb7 HL6 HL7 HSm HQ5 HZ5
  (try clear hK K)
  refine wpAnyH_take (i := 8) (v := ?_) rfl (by kernel_rfl) (by kernel_rfl) (by kernel_rfl) (fun _ _ _ h => h) (Or.inl ⟨by rfl, ?_⟩) (by assumption) ?_
  rotate_left
  · intro w hSw; (try dsimp only at hSw); go_simp; (try with_reducible rfl)
  (try simp only [Act.put, List.getElem_toArray, List.getElem_cons_succ, List.getElem_cons_zero, List.setIfInBounds_toArray, List.set_cons_zero, List.set_cons_succ])
  (try clear hK K)
  refine wpAnyH_ready (rs := [9]) (by kernel_rfl) (by simp) ?_
  refine AllReadyH.cons rfl (fun K hK => ?_) AllReadyH.nil
  go_simp
  refine hK.out _ _ ?_ (fun hHeld => ?_)
  · exact ⟨HX.out.c0, HX.out.c1, HX.out.c2, HX.out.c3⟩
  (try clear hK K)
  refine wpAnyH_take (i := 10) (v := ?_) rfl (by kernel_rfl) (by kernel_rfl) (by kernel_rfl) (fun _ _ _ h => h) (Or.inl ⟨by rfl, ?_⟩) (by assumption) ?_
  rotate_left
  · intro w hSw; (try dsimp only at hSw); go_simp; (try with_reducible rfl)
  (try simp only [Act.put, List.getElem_toArray, List.getElem_cons_succ, List.getElem_cons_zero, List.setIfInBounds_toArray, List.set_cons_zero, List.set_cons_succ])
  (try clear hK K)
  refine wpAnyH_done (by kernel_rfl) ?_ _
  clear hHeld
  go_wp2_with fail
  refine bodyPost_ret (v := .tuple #[RV L.room (.slice la' es'.length lc') (.slice sa' 4 sc') (.slice ma L.met.length mc), .bool true]) (by simp [results, Try.results11, go_sem, y0, y1, y2, y3]) rfl ⟨_, _, _, rfl, ?_⟩
  exact done_told HQ7.out HB0.out L.room (.slice la' es'.length lc') (.slice sa' 4 sc') (.slice ma L.met.length mc)
set_option maxHeartbeats 2000000 in
theorem done_backn5 (w0 w : World) (p : Nat) (L : Lg) (lv sv mv : Value) (a : UA) (q : QK w0 w p L (NBs K) (RK K w0 lv sv mv L)) (hk : kindA a = 5) (hn : okn a.n = true → L.get a.n = none) (her : ∃ ra rn rc, a.e.r = .slice ra rn rc) :
    Calls Try.prog 11 #[.pointer (some ⟨p, 0, none⟩), RV L.room lv sv mv, a.val] w fun x w' => ∃ lv' sv' mv', x = .returned (.tuple #[RV L.room lv' sv' mv', .bool true]) ∧ QK w0 w' p (L) (NBs K) (RK K w0 lv' sv' mv' (L)) := by
  obtain ⟨kd, n, ⟨et, ek, exs, er⟩⟩ := a
  simp only at hn her
  obtain ⟨ra, rn, rc, her⟩ := her
  subst her
  simp only [kindA] at hk
  have hRL : RL (RowIn w0) w lv sv mv L := by obtain ⟨h, L', _, _, _, _, _, _, r⟩ := q; exact r.2.2.1
  obtain ⟨es, epe, hes, -⟩ := hRL.l
  obtain ⟨la, lc, rfl, -⟩ := hes.1.slice
  obtain ⟨sa, sc, rfl, -⟩ := hRL.s.slice
  obtain ⟨ma, mc, hma, -⟩ := hRL.m.1.slice
  rw [List.length_map] at hma
  subst hma
  have HQ3 : Hid _ := done_start q ⟨kd, n, et, ek, exs, .slice ra rn rc⟩ L.room
  have HN : Hid _ := And.intro hn trivial
  have HB0 : Hid (w0.heap.size ≤ w.heap.size) := q.blw.size
  clear q hRL hes epe hn
  go_enter Try.func11, Try.ntmps11
  go_wp2_with fail
  refine Calls.mono (back_kn HQ3.out DK.kpt n HN.out.1) ?_
  rintro x w4 ⟨rfl, q4⟩

  obtain ⟨⟨x0, x1, x2, x3, -⟩, ha, -, hrl⟩ := DK.boxes q4
  have d1 := cell_of_row _ _ 1 _ _ _ ha
  simp at d1
  have HQ4 : Hid _ := q4
  have HR4 : Hid _ := rback_none w4 _ _ _ L hrl n HN.out.1
  clear q4 ha hrl HQ3
  go_wp2_with fail
  refine Calls.mono HR4.out ?_
  rintro x w5 ⟨rfl, hb5⟩
  have HQ5 : Hid _ := QK.below HQ4.out DK.kpt hb5
  have HSm : Hid (∀ w1, Below w5.heap.size w5 w1 → Calls Try.prog 13 #[.slice none 0 0, .slice none 0 0] w1 fun x w' => x = .returned (.bool true) ∧ Below w1.heap.size w1 w') := fun w1 _ => rsame7_any _ _ [] [] w1 (nil_ents _) (nil_ents _) rfl
  clear hb5
  clear HR4 HQ4 x0 x1 x2 x3 d1
  obtain ⟨-, -, ⟨z0, z1, z2, z3, zf⟩, -⟩ := DK.boxes HQ5.out
  have hlt : w.heap.size + 1 + 1 < w5.heap.size := DK.lt HQ5.out
  have HZ5 : Hid (LB w5 (w.heap.size + 1 + 1) 0 (.slice none 0 0) (.slice none 0 0) (.slice none 0 0)) := ⟨z0, z1, z2, z3, zf⟩
  have HL6 : Hid (LB (w5.alloc (robj L.room (.slice la es.length lc) (.slice sa 4 sc) (.slice ma L.met.length mc))).drew w5.heap.size L.room (.slice la es.length lc) (.slice sa 4 sc) (.slice ma L.met.length mc) ∧ Below w5.heap.size w5 (w5.alloc (robj L.room (.slice la es.length lc) (.slice sa 4 sc) (.slice ma L.met.length mc))).drew) := ⟨(LB.new w5 L.room (.slice la es.length lc) (.slice sa 4 sc) (.slice ma L.met.length mc)).below (Below.refl _ _).drew, (alloc1 _ _).drew⟩
  clear z0 z1 z2 z3 zf hlt
  go_wp2_with fail
  generalize w5.alloc (robj L.room (.slice la es.length lc) (.slice sa 4 sc) (.slice ma L.met.length mc)) = w6 at *
  refine wp_region_held_drew (S := fun w' => w'.cell? ⟨w5.heap.size, 0, none⟩ = some (.int .i64 (L.room : Int)) ∧ w'.cell? ⟨w5.heap.size, 1, none⟩ = some (.slice la es.length lc) ∧ w'.cell? ⟨w5.heap.size, 2, none⟩ = some (.slice sa 4 sc) ∧ w'.cell? ⟨w5.heap.size, 3, none⟩ = some (.slice ma L.met.length mc)) (by kernel_rfl) ?_ (fun hHeld => ?_)
  · exact ⟨HL6.out.1.c0, HL6.out.1.c1, HL6.out.1.c2, HL6.out.1.c3⟩
  (try clear hK K)
  refine wpAnyH_take (i := 0) (v := ?_) rfl (by kernel_rfl) (by kernel_rfl) (by kernel_rfl) (fun _ _ _ h => h) (Or.inl ⟨by rfl, ?_⟩) (by assumption) ?_
  rotate_left
  · intro w hSw; (try dsimp only at hSw); go_simp; (try with_reducible rfl)
  (try simp only [Act.put, List.getElem_toArray, List.getElem_cons_zero, List.setIfInBounds_toArray, List.set_cons_zero, List.set_cons_succ])
  refine wpAnyH_take (i := 1) (v := ?_) rfl (by kernel_rfl) (by kernel_rfl) (by kernel_rfl) (fun _ _ _ h => h) (Or.inl ⟨by rfl, ?_⟩) (by assumption) ?_
  rotate_left
  · intro w hSw; (try dsimp only at hSw); go_simp; (try with_reducible rfl)
  (try simp only [Act.put, List.getElem_toArray, List.getElem_cons_succ, List.getElem_cons_zero, List.setIfInBounds_toArray, List.set_cons_zero, List.set_cons_succ])
  refine wpAnyH_take (i := 2) (v := ?_) rfl (by kernel_rfl) (by kernel_rfl) (by kernel_rfl) (fun _ _ _ h => h) (Or.inl ⟨by rfl, ?_⟩) (by assumption) ?_
  rotate_left
  · intro w hSw; (try dsimp only at hSw); go_simp; (try with_reducible rfl)
  (try simp only [Act.put, List.getElem_toArray, List.getElem_cons_succ, List.getElem_cons_zero, List.setIfInBounds_toArray, List.set_cons_zero, List.set_cons_succ])
  refine wpAnyH_take (i := 3) (v := ?_) rfl (by kernel_rfl) (by kernel_rfl) (by kernel_rfl) (fun _ _ _ h => h) (Or.inl ⟨by rfl, ?_⟩) (by assumption) ?_
  rotate_left
  · intro w hSw; (try dsimp only at hSw); go_simp; (try with_reducible rfl)
  (try simp only [Act.put, List.getElem_toArray, List.getElem_cons_succ, List.getElem_cons_zero, List.setIfInBounds_toArray, List.set_cons_zero, List.set_cons_succ])
  refine wpAnyH_take (i := 4) (v := ?_) rfl (by kernel_rfl) (by kernel_rfl) (by kernel_rfl) (fun _ _ _ h => h) (Or.inl ⟨by rfl, ?_⟩) (by assumption) ?_
  rotate_left
  · intro w hSw; (try dsimp only at hSw); go_simp; (try with_reducible rfl)
  (try simp only [Act.put, List.getElem_toArray, List.getElem_cons_succ, List.getElem_cons_zero, List.setIfInBounds_toArray, List.set_cons_zero, List.set_cons_succ])
  refine wpAnyH_take (i := 5) (v := ?_) rfl (by kernel_rfl) (by kernel_rfl) (by kernel_rfl) (fun _ _ _ h => h) (Or.inl ⟨by rfl, ?_⟩) (by assumption) ?_
  rotate_left
  · intro w hSw; (try dsimp only at hSw); go_simp; (try with_reducible rfl)
  (try simp only [Act.put, List.getElem_toArray, List.getElem_cons_succ, List.getElem_cons_zero, List.setIfInBounds_toArray, List.set_cons_zero, List.set_cons_succ])
  refine wpAnyH_take (i := 6) (v := ?_) rfl (by kernel_rfl) (by kernel_rfl) (by kernel_rfl) (fun _ _ _ h => h) (Or.inl ⟨by rfl, ?_⟩) (by assumption) ?_
  rotate_left
  · intro w hSw; (try dsimp only at hSw); go_simp; (try with_reducible rfl)
  (try simp only [Act.put, List.getElem_toArray, List.getElem_cons_succ, List.getElem_cons_zero, List.setIfInBounds_toArray, List.set_cons_zero, List.set_cons_succ])
  (try clear hK K)
  refine wpAnyH_ready (rs := [7]) (by kernel_rfl) (by simp) ?_
  refine AllReadyH.cons rfl (fun K hK => ?_) AllReadyH.nil
  go_simp
  (refine Calls.mono (HSm.out _ HL6.out.2) ?_; rintro x w7 ⟨rfl, hb7⟩)
  refine hK.out _ _ ?_ (fun hHeld => ?_)
  · exact ⟨(HL6.out.1.below hb7).c0, (HL6.out.1.below hb7).c1, (HL6.out.1.below hb7).c2, (HL6.out.1.below hb7).c3⟩
  have HB7 : Hid (Below w5.heap.size w5 w7) := on HL6.out.2 hb7
  have HL7 : Hid _ := HL6.out.1.below hb7
  obtain ⟨y0, y1, y2, y3, yf⟩ := HZ5.out.below HB7.out
  have HQ7 : Hid _ := QK.below HQ5.out DK.kpt HB7.out
  have HX : Hid (LB (told w7 (w.heap.size + 2) L.room (.slice la es.length lc) (.slice sa 4 sc) (.slice ma L.met.length mc)) w5.heap.size L.room (.slice la es.length lc) (.slice sa 4 sc) (.slice ma L.met.length mc)) := HL7.out.block (told_far (by have := DK.lt HQ5.out; omega))
  clear hb7 HL6 HL7 HSm HQ5 HZ5
  (try clear hK K)
  refine wpAnyH_take (i := 8) (v := ?_) rfl (by kernel_rfl) (by kernel_rfl) (by kernel_rfl) (fun _ _ _ h => h) (Or.inl ⟨by rfl, ?_⟩) (by assumption) ?_
  rotate_left
  · intro w hSw; (try dsimp only at hSw); go_simp; (try with_reducible rfl)
  (try simp only [Act.put, List.getElem_toArray, List.getElem_cons_succ, List.getElem_cons_zero, List.setIfInBounds_toArray, List.set_cons_zero, List.set_cons_succ])
  (try clear hK K)
  refine wpAnyH_ready (rs := [9]) (by kernel_rfl) (by simp) ?_
  refine AllReadyH.cons rfl (fun K hK => ?_) AllReadyH.nil
  go_simp
  refine hK.out _ _ ?_ (fun hHeld => ?_)
  · exact ⟨HX.out.c0, HX.out.c1, HX.out.c2, HX.out.c3⟩
  (try clear hK K)
  refine wpAnyH_take (i := 10) (v := ?_) rfl (by kernel_rfl) (by kernel_rfl) (by kernel_rfl) (fun _ _ _ h => h) (Or.inl ⟨by rfl, ?_⟩) (by assumption) ?_
  rotate_left
  · intro w hSw; (try dsimp only at hSw); go_simp; (try with_reducible rfl)
  (try simp only [Act.put, List.getElem_toArray, List.getElem_cons_succ, List.getElem_cons_zero, List.setIfInBounds_toArray, List.set_cons_zero, List.set_cons_succ])
  (try clear hK K)
  refine wpAnyH_done (by kernel_rfl) ?_ _
  clear hHeld
  go_wp2_with fail
  refine bodyPost_ret (v := .tuple #[RV L.room (.slice la es.length lc) (.slice sa 4 sc) (.slice ma L.met.length mc), .bool true]) (by simp [results, Try.results11, go_sem, y0, y1, y2, y3]) rfl ⟨_, _, _, rfl, ?_⟩
  exact done_told HQ7.out HB0.out L.room (.slice la es.length lc) (.slice sa 4 sc) (.slice ma L.met.length mc)
set_option maxHeartbeats 2000000 in
theorem done_back6 (w0 w : World) (p : Nat) (L : Lg) (lv sv mv : Value) (a : UA) (q : QK w0 w p L (NBs K) (RK K w0 lv sv mv L)) (hk : kindA a = 6) (b : Nat) (hn : okn a.n = true) (hg : L.get a.n = some b) (hle : b ≤ L.es.length) (hm : L.es.length ≤ 500) (her : ∃ ra rn rc, a.e.r = .slice ra rn rc) :
    Calls Try.prog 11 #[.pointer (some ⟨p, 0, none⟩), RV L.room lv sv mv, a.val] w fun x w' => ∃ lv' sv' mv', x = .returned (.tuple #[RV L.room lv' sv' mv', .bool true]) ∧ QK w0 w' p (L.back b) (NBs K) (RK K w0 lv' sv' mv' (L.back b)) := by
  obtain ⟨kd, n, ⟨et, ek, exs, er⟩⟩ := a
  simp only at hn her
  obtain ⟨ra, rn, rc, her⟩ := her
  subst her
  simp only [kindA] at hk
  have hRL : RL (RowIn w0) w lv sv mv L := by obtain ⟨h, L', _, _, _, _, _, _, r⟩ := q; exact r.2.2.1
  obtain ⟨es, epe, hes, -⟩ := hRL.l
  obtain ⟨la, lc, rfl, -⟩ := hes.1.slice
  obtain ⟨sa, sc, rfl, -⟩ := hRL.s.slice
  obtain ⟨ma, mc, hma, -⟩ := hRL.m.1.slice
  rw [List.length_map] at hma
  subst hma
  have HQ3 : Hid _ := done_start q ⟨kd, n, et, ek, exs, .slice ra rn rc⟩ L.room
  have HN : Hid _ := And.intro hn (And.intro hg (And.intro hle hm))
  have HB0 : Hid (w0.heap.size ≤ w.heap.size) := q.blw.size
  clear q hRL hes epe hn hg hle hm
  go_enter Try.func11, Try.ntmps11
  go_wp2_with fail
  refine Calls.mono (back_k HQ3.out DK.kpt n HN.out.1 b HN.out.2.1 HN.out.2.2.1) ?_
  rintro x w4 ⟨v, rfl, q4'⟩
  obtain ⟨l1, e1, h1⟩ := AnsK.ents q4'
  obtain ⟨va, vc, rfl, -⟩ := h1.1.slice
  have q4 := q4'.to fun _ _ x => x.1
  have HA1 : Hid _ := And.intro e1 h1
  clear q4' e1 h1
  obtain ⟨⟨x0, x1, x2, x3, -⟩, ha, -, hrl⟩ := DK.boxes q4
  have d1 := cell_of_row _ _ 1 _ _ _ ha
  simp at d1
  have HQ4 : Hid _ := q4
  have HR4 : Hid _ := rback_some w4 _ _ _ L hrl n HN.out.1 b HN.out.2.1 HN.out.2.2.1 HN.out.2.2.2
  clear q4 ha hrl HQ3
  go_wp2_with fail
  refine Calls.mono HR4.out ?_
  rintro x w5 ⟨lv', sv', v2, l2, rfl, rl, e2, h2, hb5, s1, ns⟩
  have HQ5 : Hid _ := done_ref HQ4.out hb5 rl s1 (.inl ns) Src.same
  obtain ⟨es', -, hes', -⟩ := rl.l
  obtain ⟨la', lc', rfl, -⟩ := hes'.1.slice
  obtain ⟨sa', sc', rfl, -⟩ := rl.s.slice
  obtain ⟨va2, vc2, rfl, -⟩ := h2.1.slice
  have HSm : Hid (∀ w1, Below w5.heap.size w5 w1 → Calls Try.prog 13 #[.slice va l1.length vc, .slice va2 l2.length vc2] w1 fun x w' => x = .returned (.bool true) ∧ Below w1.heap.size w1 w') := fun w1 hb => rsame7_any _ _ l1 l2 w1 (HA1.out.2.below (on hb5 hb)) (h2.below hb) (HA1.out.1.trans e2.symm)
  clear rl hb5 s1 ns hes' h2 e2
  clear HR4 HQ4 x0 x1 x2 x3 d1
  obtain ⟨-, -, ⟨z0, z1, z2, z3, zf⟩, -⟩ := DK.boxes HQ5.out
  have hlt : w.heap.size + 1 + 1 < w5.heap.size := DK.lt HQ5.out
  have HZ5 : Hid (LB w5 (w.heap.size + 1 + 1) 0 (.slice none 0 0) (.slice none 0 0) (.slice none 0 0)) := ⟨z0, z1, z2, z3, zf⟩
  have HL6 : Hid (LB (w5.alloc (robj L.room (.slice la' es'.length lc') (.slice sa' 4 sc') (.slice ma L.met.length mc))).drew w5.heap.size L.room (.slice la' es'.length lc') (.slice sa' 4 sc') (.slice ma L.met.length mc) ∧ Below w5.heap.size w5 (w5.alloc (robj L.room (.slice la' es'.length lc') (.slice sa' 4 sc') (.slice ma L.met.length mc))).drew) := ⟨(LB.new w5 L.room (.slice la' es'.length lc') (.slice sa' 4 sc') (.slice ma L.met.length mc)).below (Below.refl _ _).drew, (alloc1 _ _).drew⟩
  clear z0 z1 z2 z3 zf hlt
  go_wp2_with fail
  generalize w5.alloc (robj L.room (.slice la' es'.length lc') (.slice sa' 4 sc') (.slice ma L.met.length mc)) = w6 at *
  refine wp_region_held_drew (S := fun w' => w'.cell? ⟨w5.heap.size, 0, none⟩ = some (.int .i64 (L.room : Int)) ∧ w'.cell? ⟨w5.heap.size, 1, none⟩ = some (.slice la' es'.length lc') ∧ w'.cell? ⟨w5.heap.size, 2, none⟩ = some (.slice sa' 4 sc') ∧ w'.cell? ⟨w5.heap.size, 3, none⟩ = some (.slice ma L.met.length mc)) (by kernel_rfl) ?_ (fun hHeld => ?_)
  · exact ⟨HL6.out.1.c0, HL6.out.1.c1, HL6.out.1.c2, HL6.out.1.c3⟩
  (try clear hK K)
  refine wpAnyH_take (i := 0) (v := ?_) rfl (by kernel_rfl) (by kernel_rfl) (by kernel_rfl) (fun _ _ _ h => h) (Or.inl ⟨by rfl, ?_⟩) (by assumption) ?_
  rotate_left
  · intro w hSw; (try dsimp only at hSw); go_simp; (try with_reducible rfl)
  (try simp only [Act.put, List.getElem_toArray, List.getElem_cons_zero, List.setIfInBounds_toArray, List.set_cons_zero, List.set_cons_succ])
  refine wpAnyH_take (i := 1) (v := ?_) rfl (by kernel_rfl) (by kernel_rfl) (by kernel_rfl) (fun _ _ _ h => h) (Or.inl ⟨by rfl, ?_⟩) (by assumption) ?_
  rotate_left
  · intro w hSw; (try dsimp only at hSw); go_simp; (try with_reducible rfl)
  (try simp only [Act.put, List.getElem_toArray, List.getElem_cons_succ, List.getElem_cons_zero, List.setIfInBounds_toArray, List.set_cons_zero, List.set_cons_succ])
  refine wpAnyH_take (i := 2) (v := ?_) rfl (by kernel_rfl) (by kernel_rfl) (by kernel_rfl) (fun _ _ _ h => h) (Or.inl ⟨by rfl, ?_⟩) (by assumption) ?_
  rotate_left
  · intro w hSw; (try dsimp only at hSw); go_simp; (try with_reducible rfl)
  (try simp only [Act.put, List.getElem_toArray, List.getElem_cons_succ, List.getElem_cons_zero, List.setIfInBounds_toArray, List.set_cons_zero, List.set_cons_succ])
  refine wpAnyH_take (i := 3) (v := ?_) rfl (by kernel_rfl) (by kernel_rfl) (by kernel_rfl) (fun _ _ _ h => h) (Or.inl ⟨by rfl, ?_⟩) (by assumption) ?_
  rotate_left
  · intro w hSw; (try dsimp only at hSw); go_simp; (try with_reducible rfl)
  (try simp only [Act.put, List.getElem_toArray, List.getElem_cons_succ, List.getElem_cons_zero, List.setIfInBounds_toArray, List.set_cons_zero, List.set_cons_succ])
  refine wpAnyH_take (i := 4) (v := ?_) rfl (by kernel_rfl) (by kernel_rfl) (by kernel_rfl) (fun _ _ _ h => h) (Or.inl ⟨by rfl, ?_⟩) (by assumption) ?_
  rotate_left
  · intro w hSw; (try dsimp only at hSw); go_simp; (try with_reducible rfl)
  (try simp only [Act.put, List.getElem_toArray, List.getElem_cons_succ, List.getElem_cons_zero, List.setIfInBounds_toArray, List.set_cons_zero, List.set_cons_succ])
  refine wpAnyH_take (i := 5) (v := ?_) rfl (by kernel_rfl) (by kernel_rfl) (by kernel_rfl) (fun _ _ _ h => h) (Or.inl ⟨by rfl, ?_⟩) (by assumption) ?_
  rotate_left
  · intro w hSw; (try dsimp only at hSw); go_simp; (try with_reducible rfl)
  (try simp only [Act.put, List.getElem_toArray, List.getElem_cons_succ, List.getElem_cons_zero, List.setIfInBounds_toArray, List.set_cons_zero, List.set_cons_succ])
  refine wpAnyH_take (i := 6) (v := ?_) rfl (by kernel_rfl) (by kernel_rfl) (by kernel_rfl) (fun _ _ _ h => h) (Or.inl ⟨by rfl, ?_⟩) (by assumption) ?_
  rotate_left
  · intro w hSw; (try dsimp only at hSw); go_simp; (try with_reducible rfl)
  (try simp only [Act.put, List.getElem_toArray, List.getElem_cons_succ, List.getElem_cons_zero, List.setIfInBounds_toArray, List.set_cons_zero, List.set_cons_succ])
  (try clear hK K)
  refine wpAnyH_ready (rs := [7]) (by kernel_rfl) (by simp) ?_
  refine AllReadyH.cons rfl (fun K hK => ?_) AllReadyH.nil
  go_simp
  (refine Calls.mono (HSm.out _ HL6.out.2) ?_; rintro x w7 ⟨rfl, hb7⟩)
  refine hK.out _ _ ?_ (fun hHeld => ?_)
  · exact ⟨(HL6.out.1.below hb7).c0, (HL6.out.1.below hb7).c1, (HL6.out.1.below hb7).c2, (HL6.out.1.below hb7).c3⟩
  have HB7 : Hid (Below w5.heap.size w5 w7) := on HL6.out.2 hb7
  have HL7 : Hid _ := HL6.out.1.below hb7
  obtain ⟨y0, y1, y2, y3, yf⟩ := HZ5.out.below HB7.out
  have HQ7 : Hid _ := QK.below HQ5.out DK.kpt HB7.out
  have HX : Hid (LB (told w7 (w.heap.size + 2) L.room (.slice la' es'.length lc') (.slice sa' 4 sc') (.slice ma L.met.length mc)) w5.heap.size L.room (.slice la' es'.length lc') (.slice sa' 4 sc') (.slice ma L.met.length mc)) := HL7.out.block (told_far (by have := DK.lt HQ5.out; omega))
  clear hb7 HL6 HL7 HSm HQ5 HZ5
  (try clear hK K)
  refine wpAnyH_take (i := 8) (v := ?_) rfl (by kernel_rfl) (by kernel_rfl) (by kernel_rfl) (fun _ _ _ h => h) (Or.inl ⟨by rfl, ?_⟩) (by assumption) ?_
  rotate_left
  · intro w hSw; (try dsimp only at hSw); go_simp; (try with_reducible rfl)
  (try simp only [Act.put, List.getElem_toArray, List.getElem_cons_succ, List.getElem_cons_zero, List.setIfInBounds_toArray, List.set_cons_zero, List.set_cons_succ])
  (try clear hK K)
  refine wpAnyH_ready (rs := [9]) (by kernel_rfl) (by simp) ?_
  refine AllReadyH.cons rfl (fun K hK => ?_) AllReadyH.nil
  go_simp
  refine hK.out _ _ ?_ (fun hHeld => ?_)
  · exact ⟨HX.out.c0, HX.out.c1, HX.out.c2, HX.out.c3⟩
  (try clear hK K)
  refine wpAnyH_take (i := 10) (v := ?_) rfl (by kernel_rfl) (by kernel_rfl) (by kernel_rfl) (fun _ _ _ h => h) (Or.inl ⟨by rfl, ?_⟩) (by assumption) ?_
  rotate_left
  · intro w hSw; (try dsimp only at hSw); go_simp; (try with_reducible rfl)
  (try simp only [Act.put, List.getElem_toArray, List.getElem_cons_succ, List.getElem_cons_zero, List.setIfInBounds_toArray, List.set_cons_zero, List.set_cons_succ])
  (try clear hK K)
  refine wpAnyH_done (by kernel_rfl) ?_ _
  clear hHeld
  go_wp2_with fail
  refine bodyPost_ret (v := .tuple #[RV L.room (.slice la' es'.length lc') (.slice sa' 4 sc') (.slice ma L.met.length mc), .bool true]) (by simp [results, Try.results11, go_sem, y0, y1, y2, y3]) rfl ⟨_, _, _, rfl, ?_⟩
  exact done_told HQ7.out HB0.out L.room (.slice la' es'.length lc') (.slice sa' 4 sc') (.slice ma L.met.length mc)
set_option maxHeartbeats 2000000 in
theorem done_backn6 (w0 w : World) (p : Nat) (L : Lg) (lv sv mv : Value) (a : UA) (q : QK w0 w p L (NBs K) (RK K w0 lv sv mv L)) (hk : kindA a = 6) (hn : okn a.n = true → L.get a.n = none) (her : ∃ ra rn rc, a.e.r = .slice ra rn rc) :
    Calls Try.prog 11 #[.pointer (some ⟨p, 0, none⟩), RV L.room lv sv mv, a.val] w fun x w' => ∃ lv' sv' mv', x = .returned (.tuple #[RV L.room lv' sv' mv', .bool true]) ∧ QK w0 w' p (L) (NBs K) (RK K w0 lv' sv' mv' (L)) := by
  obtain ⟨kd, n, ⟨et, ek, exs, er⟩⟩ := a
  simp only at hn her
  obtain ⟨ra, rn, rc, her⟩ := her
  subst her
  simp only [kindA] at hk
  have hRL : RL (RowIn w0) w lv sv mv L := by obtain ⟨h, L', _, _, _, _, _, _, r⟩ := q; exact r.2.2.1
  obtain ⟨es, epe, hes, -⟩ := hRL.l
  obtain ⟨la, lc, rfl, -⟩ := hes.1.slice
  obtain ⟨sa, sc, rfl, -⟩ := hRL.s.slice
  obtain ⟨ma, mc, hma, -⟩ := hRL.m.1.slice
  rw [List.length_map] at hma
  subst hma
  have HQ3 : Hid _ := done_start q ⟨kd, n, et, ek, exs, .slice ra rn rc⟩ L.room
  have HN : Hid _ := And.intro hn trivial
  have HB0 : Hid (w0.heap.size ≤ w.heap.size) := q.blw.size
  clear q hRL hes epe hn
  go_enter Try.func11, Try.ntmps11
  go_wp2_with fail
  refine Calls.mono (back_kn HQ3.out DK.kpt n HN.out.1) ?_
  rintro x w4 ⟨rfl, q4⟩

  obtain ⟨⟨x0, x1, x2, x3, -⟩, ha, -, hrl⟩ := DK.boxes q4
  have d1 := cell_of_row _ _ 1 _ _ _ ha
  simp at d1
  have HQ4 : Hid _ := q4
  have HR4 : Hid _ := rback_none w4 _ _ _ L hrl n HN.out.1
  clear q4 ha hrl HQ3
  go_wp2_with fail
  refine Calls.mono HR4.out ?_
  rintro x w5 ⟨rfl, hb5⟩
  have HQ5 : Hid _ := QK.below HQ4.out DK.kpt hb5
  have HSm : Hid (∀ w1, Below w5.heap.size w5 w1 → Calls Try.prog 13 #[.slice none 0 0, .slice none 0 0] w1 fun x w' => x = .returned (.bool true) ∧ Below w1.heap.size w1 w') := fun w1 _ => rsame7_any _ _ [] [] w1 (nil_ents _) (nil_ents _) rfl
  clear hb5
  clear HR4 HQ4 x0 x1 x2 x3 d1
  obtain ⟨-, -, ⟨z0, z1, z2, z3, zf⟩, -⟩ := DK.boxes HQ5.out
  have hlt : w.heap.size + 1 + 1 < w5.heap.size := DK.lt HQ5.out
  have HZ5 : Hid (LB w5 (w.heap.size + 1 + 1) 0 (.slice none 0 0) (.slice none 0 0) (.slice none 0 0)) := ⟨z0, z1, z2, z3, zf⟩
  have HL6 : Hid (LB (w5.alloc (robj L.room (.slice la es.length lc) (.slice sa 4 sc) (.slice ma L.met.length mc))).drew w5.heap.size L.room (.slice la es.length lc) (.slice sa 4 sc) (.slice ma L.met.length mc) ∧ Below w5.heap.size w5 (w5.alloc (robj L.room (.slice la es.length lc) (.slice sa 4 sc) (.slice ma L.met.length mc))).drew) := ⟨(LB.new w5 L.room (.slice la es.length lc) (.slice sa 4 sc) (.slice ma L.met.length mc)).below (Below.refl _ _).drew, (alloc1 _ _).drew⟩
  clear z0 z1 z2 z3 zf hlt
  go_wp2_with fail
  generalize w5.alloc (robj L.room (.slice la es.length lc) (.slice sa 4 sc) (.slice ma L.met.length mc)) = w6 at *
  refine wp_region_held_drew (S := fun w' => w'.cell? ⟨w5.heap.size, 0, none⟩ = some (.int .i64 (L.room : Int)) ∧ w'.cell? ⟨w5.heap.size, 1, none⟩ = some (.slice la es.length lc) ∧ w'.cell? ⟨w5.heap.size, 2, none⟩ = some (.slice sa 4 sc) ∧ w'.cell? ⟨w5.heap.size, 3, none⟩ = some (.slice ma L.met.length mc)) (by kernel_rfl) ?_ (fun hHeld => ?_)
  · exact ⟨HL6.out.1.c0, HL6.out.1.c1, HL6.out.1.c2, HL6.out.1.c3⟩
  (try clear hK K)
  refine wpAnyH_take (i := 0) (v := ?_) rfl (by kernel_rfl) (by kernel_rfl) (by kernel_rfl) (fun _ _ _ h => h) (Or.inl ⟨by rfl, ?_⟩) (by assumption) ?_
  rotate_left
  · intro w hSw; (try dsimp only at hSw); go_simp; (try with_reducible rfl)
  (try simp only [Act.put, List.getElem_toArray, List.getElem_cons_zero, List.setIfInBounds_toArray, List.set_cons_zero, List.set_cons_succ])
  refine wpAnyH_take (i := 1) (v := ?_) rfl (by kernel_rfl) (by kernel_rfl) (by kernel_rfl) (fun _ _ _ h => h) (Or.inl ⟨by rfl, ?_⟩) (by assumption) ?_
  rotate_left
  · intro w hSw; (try dsimp only at hSw); go_simp; (try with_reducible rfl)
  (try simp only [Act.put, List.getElem_toArray, List.getElem_cons_succ, List.getElem_cons_zero, List.setIfInBounds_toArray, List.set_cons_zero, List.set_cons_succ])
  refine wpAnyH_take (i := 2) (v := ?_) rfl (by kernel_rfl) (by kernel_rfl) (by kernel_rfl) (fun _ _ _ h => h) (Or.inl ⟨by rfl, ?_⟩) (by assumption) ?_
  rotate_left
  · intro w hSw; (try dsimp only at hSw); go_simp; (try with_reducible rfl)
  (try simp only [Act.put, List.getElem_toArray, List.getElem_cons_succ, List.getElem_cons_zero, List.setIfInBounds_toArray, List.set_cons_zero, List.set_cons_succ])
  refine wpAnyH_take (i := 3) (v := ?_) rfl (by kernel_rfl) (by kernel_rfl) (by kernel_rfl) (fun _ _ _ h => h) (Or.inl ⟨by rfl, ?_⟩) (by assumption) ?_
  rotate_left
  · intro w hSw; (try dsimp only at hSw); go_simp; (try with_reducible rfl)
  (try simp only [Act.put, List.getElem_toArray, List.getElem_cons_succ, List.getElem_cons_zero, List.setIfInBounds_toArray, List.set_cons_zero, List.set_cons_succ])
  refine wpAnyH_take (i := 4) (v := ?_) rfl (by kernel_rfl) (by kernel_rfl) (by kernel_rfl) (fun _ _ _ h => h) (Or.inl ⟨by rfl, ?_⟩) (by assumption) ?_
  rotate_left
  · intro w hSw; (try dsimp only at hSw); go_simp; (try with_reducible rfl)
  (try simp only [Act.put, List.getElem_toArray, List.getElem_cons_succ, List.getElem_cons_zero, List.setIfInBounds_toArray, List.set_cons_zero, List.set_cons_succ])
  refine wpAnyH_take (i := 5) (v := ?_) rfl (by kernel_rfl) (by kernel_rfl) (by kernel_rfl) (fun _ _ _ h => h) (Or.inl ⟨by rfl, ?_⟩) (by assumption) ?_
  rotate_left
  · intro w hSw; (try dsimp only at hSw); go_simp; (try with_reducible rfl)
  (try simp only [Act.put, List.getElem_toArray, List.getElem_cons_succ, List.getElem_cons_zero, List.setIfInBounds_toArray, List.set_cons_zero, List.set_cons_succ])
  refine wpAnyH_take (i := 6) (v := ?_) rfl (by kernel_rfl) (by kernel_rfl) (by kernel_rfl) (fun _ _ _ h => h) (Or.inl ⟨by rfl, ?_⟩) (by assumption) ?_
  rotate_left
  · intro w hSw; (try dsimp only at hSw); go_simp; (try with_reducible rfl)
  (try simp only [Act.put, List.getElem_toArray, List.getElem_cons_succ, List.getElem_cons_zero, List.setIfInBounds_toArray, List.set_cons_zero, List.set_cons_succ])
  (try clear hK K)
  refine wpAnyH_ready (rs := [7]) (by kernel_rfl) (by simp) ?_
  refine AllReadyH.cons rfl (fun K hK => ?_) AllReadyH.nil
  go_simp
  (refine Calls.mono (HSm.out _ HL6.out.2) ?_; rintro x w7 ⟨rfl, hb7⟩)
  refine hK.out _ _ ?_ (fun hHeld => ?_)
  · exact ⟨(HL6.out.1.below hb7).c0, (HL6.out.1.below hb7).c1, (HL6.out.1.below hb7).c2, (HL6.out.1.below hb7).c3⟩
  have HB7 : Hid (Below w5.heap.size w5 w7) := on HL6.out.2 hb7
  have HL7 : Hid _ := HL6.out.1.below hb7
  obtain ⟨y0, y1, y2, y3, yf⟩ := HZ5.out.below HB7.out
  have HQ7 : Hid _ := QK.below HQ5.out DK.kpt HB7.out
  have HX : Hid (LB (told w7 (w.heap.size + 2) L.room (.slice la es.length lc) (.slice sa 4 sc) (.slice ma L.met.length mc)) w5.heap.size L.room (.slice la es.length lc) (.slice sa 4 sc) (.slice ma L.met.length mc)) := HL7.out.block (told_far (by have := DK.lt HQ5.out; omega))
  clear hb7 HL6 HL7 HSm HQ5 HZ5
  (try clear hK K)
  refine wpAnyH_take (i := 8) (v := ?_) rfl (by kernel_rfl) (by kernel_rfl) (by kernel_rfl) (fun _ _ _ h => h) (Or.inl ⟨by rfl, ?_⟩) (by assumption) ?_
  rotate_left
  · intro w hSw; (try dsimp only at hSw); go_simp; (try with_reducible rfl)
  (try simp only [Act.put, List.getElem_toArray, List.getElem_cons_succ, List.getElem_cons_zero, List.setIfInBounds_toArray, List.set_cons_zero, List.set_cons_succ])
  (try clear hK K)
  refine wpAnyH_ready (rs := [9]) (by kernel_rfl) (by simp) ?_
  refine AllReadyH.cons rfl (fun K hK => ?_) AllReadyH.nil
  go_simp
  refine hK.out _ _ ?_ (fun hHeld => ?_)
  · exact ⟨HX.out.c0, HX.out.c1, HX.out.c2, HX.out.c3⟩
  (try clear hK K)
  refine wpAnyH_take (i := 10) (v := ?_) rfl (by kernel_rfl) (by kernel_rfl) (by kernel_rfl) (fun _ _ _ h => h) (Or.inl ⟨by rfl, ?_⟩) (by assumption) ?_
  rotate_left
  · intro w hSw; (try dsimp only at hSw); go_simp; (try with_reducible rfl)
  (try simp only [Act.put, List.getElem_toArray, List.getElem_cons_succ, List.getElem_cons_zero, List.setIfInBounds_toArray, List.set_cons_zero, List.set_cons_succ])
  (try clear hK K)
  refine wpAnyH_done (by kernel_rfl) ?_ _
  clear hHeld
  go_wp2_with fail
  refine bodyPost_ret (v := .tuple #[RV L.room (.slice la es.length lc) (.slice sa 4 sc) (.slice ma L.met.length mc), .bool true]) (by simp [results, Try.results11, go_sem, y0, y1, y2, y3]) rfl ⟨_, _, _, rfl, ?_⟩
  exact done_told HQ7.out HB0.out L.room (.slice la es.length lc) (.slice sa 4 sc) (.slice ma L.met.length mc)
end Go.Proofs.Ytbfoplaccalegaa.Val
