/- What the reference's All answers. -/
import Derived.Test.YtbfoplaccalegaaUndoRefK
namespace Go.Proofs.Ytbfoplaccalegaa.Val
open Go Go.RowKit

variable {R : Value → List Val → Prop}
theorem rall_any (w : World) (lv sv mv : Value) (L : Lg) (h : RL R w lv sv mv L) (hn : L.es.length ≤ 500) (hr : L.room ≤ 60) :
    Calls Try.prog 23 #[RV L.room lv sv mv] w fun x w' => ∃ lv' sv' mv' v l, x = .returned (.tuple #[RV L.room lv' sv' mv', v]) ∧ RL R w' lv' sv' mv' (newL L.room) ∧ l.map En.pe = (L.es.reverse).map En.pe ∧ EntsIn w' v l ∧ Below w.heap.size w w' ∧ NewV w lv' ∧ NewV w sv' ∧ NewV w mv' := by
  obtain ⟨es, epe, hes, hrr⟩ := h.l
  obtain ⟨la, lc, rfl, -⟩ := hes.1.slice
  obtain ⟨sa, sc, rfl, -⟩ := h.s.slice
  obtain ⟨ma, mc, hma, -⟩ := h.m.1.slice
  rw [List.length_map] at hma
  subst hma
  have hlen := pe_len epe
  have HP : Hid (PT2 w ((w.alloc (robj L.room (.slice la es.length lc) (.slice sa 4 sc) (.slice ma L.met.length mc))).alloc (robj 0 (.slice none 0 0) (.slice none 0 0) (.slice none 0 0))) L.room (.slice la es.length lc) (.slice sa 4 sc) (.slice ma L.met.length mc)) := PT2.start w L.room _ _ _
  have HE : Hid (es.map En.pe = L.es.map En.pe ∧ EntsIn w (.slice la es.length lc) es) := ⟨epe, hes⟩
  have HN : Hid (∀ w1, Calls Try.prog 10 #[.int .i64 L.room] w1 fun e w' => ∃ sv, e = .returned (RV L.room (.slice none 0 0) sv (.slice none 0 0)) ∧ RL R w' (.slice none 0 0) sv (.slice none 0 0) (newL L.room) ∧ Below w1.heap.size w1 w' ∧ ∃ q, w1.heap.size ≤ q ∧ sv = .slice (some ⟨q, 0, none⟩) 4 4) := fun w1 => by
    have := rnew_any (R := R) L.room w1
    rwa [show capR (L.room : Int) = L.room by unfold capR; omega] at this
  have HC : Hid (∀ w1, Below w.heap.size w w1 → Calls Try.prog 29 #[.slice la es.length lc, .int .i64 0] w1 fun e w' => ∃ v, e = .returned v ∧ EntsIn w' v es.reverse ∧ w'.ownsRow w1.heap.size TE 5 v es.reverse.length (ecells es.reverse) ∧ Below w1.heap.size w1 w') := fun w1 hb => (turned_own _ es 0 w1 (hes.below hb) (Nat.zero_le _) (by omega)).mono fun e w' ⟨v, he, ho, hb2⟩ => by
    rw [List.drop_zero] at ho
    exact ⟨v, he, ⟨owns_in ho, fun e he => (hes.2 e (List.mem_reverse.1 he)).below (on hb hb2)⟩, ho, hb2⟩
  clear h hes hrr epe hlen hn hr
  go_enter Try.func23, Try.ntmps23
  go_wp2_with fail
  have HP1 : Hid _ := HP.out.below (Below.refl _ _).drew
  clear HP
  generalize ((w.alloc (.cells #[.int .i64 (L.room : Int), .slice la es.length lc, .slice sa 4 sc, .slice ma L.met.length mc] TRf)).alloc (.cells #[.int .i64 0, .slice none 0 0, .slice none 0 0, .slice none 0 0] TRf)) = w2 at *
  refine wp_region_held_drew (S := fun w' => w'.cell? ⟨w.heap.size, 0, none⟩ = some (.int .i64 (L.room : Int)) ∧ w'.cell? ⟨w.heap.size, 1, none⟩ = some (.slice la es.length lc)) (by kernel_rfl) ?_ (fun hHeld => ?_)
  · exact ⟨HP1.out.lb.c0, HP1.out.lb.c1⟩
  (try clear hK K)
  refine wpAnyH_take (i := 0) (v := ?_) rfl (by kernel_rfl) (by kernel_rfl) (by kernel_rfl) (fun _ _ _ h => h) (Or.inl ⟨by rfl, ?_⟩) (by assumption) ?_
  rotate_left
  · intro w hSw; (try dsimp only at hSw); go_simp; (try with_reducible rfl)
  (try simp only [Act.put, List.getElem_toArray, List.getElem_cons_zero, List.setIfInBounds_toArray, List.set_cons_zero, List.set_cons_succ])
  refine wpAnyH_take (i := 1) (v := ?_) rfl (by kernel_rfl) (by kernel_rfl) (by kernel_rfl) (fun _ _ _ h => h) (Or.inl ⟨by rfl, ?_⟩) (by assumption) ?_
  rotate_left
  · intro w hSw; (try dsimp only at hSw); go_simp; (try with_reducible rfl)
  (try simp only [Act.put, List.getElem_toArray, List.getElem_cons_succ, List.getElem_cons_zero, List.setIfInBounds_toArray, List.set_cons_zero, List.set_cons_succ])
  refine wpAnyH_take (i := 3) (v := ?_) rfl (by kernel_rfl) (by kernel_rfl) (by kernel_rfl) (fun _ _ _ h => h) (Or.inl ⟨by rfl, ?_⟩) (by assumption) ?_
  rotate_left
  · intro w hSw; (try dsimp only at hSw); go_simp; (try with_reducible rfl)
  (try simp only [Act.put, List.getElem_toArray, List.getElem_cons_succ, List.getElem_cons_zero, List.setIfInBounds_toArray, List.set_cons_zero, List.set_cons_succ])
  refine wpAnyH_take (i := 4) (v := ?_) rfl (by kernel_rfl) (by kernel_rfl) (by kernel_rfl) (fun _ _ _ h => h) (Or.inl ⟨by rfl, ?_⟩) (by assumption) ?_
  rotate_left
  · intro w hSw; (try dsimp only at hSw); go_simp; (try with_reducible rfl)
  (try simp only [Act.put, List.getElem_toArray, List.getElem_cons_succ, List.getElem_cons_zero, List.setIfInBounds_toArray, List.set_cons_zero, List.set_cons_succ])
  (try clear hK K)
  refine wpAnyH_ready (rs := [2]) (by kernel_rfl) (by simp) ?_
  refine AllReadyH.cons rfl (fun K hK => ?_) AllReadyH.nil
  go_simp
  (refine Calls.mono (HN.out _) ?_; rintro x w3 ⟨sv', rfl, rl, hb3, q, hq, rfl⟩)
  refine hK.out _ _ ?_ (fun hHeld => ?_)
  · exact ⟨(HP1.out.below hb3).lb.c0, (HP1.out.below hb3).lb.c1⟩
  have HP3 : Hid _ := HP1.out.below hb3
  have HR3 : Hid _ := rl
  clear rl hb3
  (try clear hK K)
  refine wpAnyH_ready (rs := [5]) (by kernel_rfl) (by simp) ?_
  refine AllReadyH.cons rfl (fun K hK => ?_) AllReadyH.nil
  go_simp
  (refine Calls.mono (HC.out _ HP3.out.bl) ?_; rintro x w4 ⟨v, rfl, hv, ov, hb4⟩)
  refine hK.out _ _ ?_ (fun hHeld => ?_)
  · exact ⟨(HP3.out.below hb4).lb.c0, (HP3.out.below hb4).lb.c1⟩
  have HP4 : Hid _ := HP3.out.below hb4
  obtain ⟨-, ⟨z0, z1, z2, z3, zf⟩, bl, sz⟩ := HP4.out
  obtain ⟨va, vc, rfl⟩ := owns_slice ov
  have hq2 : w.heap.size + 2 ≤ q := Nat.le_trans HP1.out.sz hq
  have HNq : Hid (NewV w (.slice (some ⟨q, 0, none⟩) 4 4)) := fun b o n c e => by cases e; omega
  have HZ : Hid (Below w.heap.size w (told w4 (w.heap.size + 1) L.room (.slice none 0 0) (.slice (some ⟨q, 0, none⟩) 4 4) (.slice none 0 0)) ∧ RL R (told w4 (w.heap.size + 1) L.room (.slice none 0 0) (.slice (some ⟨q, 0, none⟩) 4 4) (.slice none 0 0)) (.slice none 0 0) (.slice (some ⟨q, 0, none⟩) 4 4) (.slice none 0 0) (newL L.room) ∧ EntsIn (told w4 (w.heap.size + 1) L.room (.slice none 0 0) (.slice (some ⟨q, 0, none⟩) 4 4) (.slice none 0 0)) (.slice va es.reverse.length vc) es.reverse) := by
    have hbl : Below w.heap.size w (told w4 (w.heap.size + 1) L.room (.slice none 0 0) (.slice (some ⟨q, 0, none⟩) 4 4) (.slice none 0 0)) := told_low bl (by omega)
    refine ⟨hbl, ⟨⟨[], rfl, nil_ents _, by simp⟩, lies_far (HR3.out.s.below hb4) (told_far (by omega)), nil_ents _⟩, owns_in (B := w.heap.size + 2) (owns_told (owns_mono ov HP3.out.sz) (by omega)), fun e he => (HE.out.2.2 e (List.mem_reverse.1 he)).below hbl⟩
  have HX : Hid ((told w4 (w.heap.size + 1) L.room (.slice none 0 0) (.slice (some ⟨q, 0, none⟩) 4 4) (.slice none 0 0)).cell? ⟨w.heap.size, 0, none⟩ = some (.int .i64 (L.room : Int)) ∧ (told w4 (w.heap.size + 1) L.room (.slice none 0 0) (.slice (some ⟨q, 0, none⟩) 4 4) (.slice none 0 0)).cell? ⟨w.heap.size, 1, none⟩ = some (.slice la es.length lc)) :=
    ⟨(World.cell?_of_block (told_far (by show w.heap.size ≠ w.heap.size + 1; omega))).trans HP4.out.lb.c0, (World.cell?_of_block (told_far (by show w.heap.size ≠ w.heap.size + 1; omega))).trans HP4.out.lb.c1⟩
  clear hv ov hb4 hq hq2 bl sz
  (try clear hK K)
  refine wpAnyH_ready (rs := [6]) (by kernel_rfl) (by simp) ?_
  refine AllReadyH.cons rfl (fun K hK => ?_) AllReadyH.nil
  go_simp
  refine hK.out _ _ ?_ (fun hHeld => ?_)
  · exact HX.out
  (try clear hK K)
  refine wpAnyH_take (i := 7) (v := ?_) rfl (by kernel_rfl) (by kernel_rfl) (by kernel_rfl) (fun _ _ _ h => h) (Or.inl ⟨by rfl, ?_⟩) (by assumption) ?_
  rotate_left
  · intro w hSw; (try dsimp only at hSw); go_simp; (try with_reducible rfl)
  (try simp only [Act.put, List.getElem_toArray, List.getElem_cons_succ, List.getElem_cons_zero, List.setIfInBounds_toArray, List.set_cons_zero, List.set_cons_succ])
  (try clear hK K)
  refine wpAnyH_done (by kernel_rfl) ?_ _
  clear HX hHeld
  rw [List.length_reverse] at HZ
  go_wp2_with fail
  refine bodyPost_ret (v := .tuple #[RV L.room (.slice none 0 0) (.slice (some ⟨q, 0, none⟩) 4 4) (.slice none 0 0), .slice va es.length vc]) (by simp [results, Try.results23, go_sem, z0, z1, z2, z3]) rfl ⟨_, _, _, _, es.reverse, rfl, HZ.out.2.1, by rw [List.map_reverse, HE.out.1, List.map_reverse], HZ.out.2.2, HZ.out.1, NewV.nil _, HNq.out, NewV.nil _⟩
end Go.Proofs.Ytbfoplaccalegaa.Val
