/- Plain: copies so far, from a number on. No program. -/
import Derived.Test.YtkkbbpldeeajaaaDoorUQ
import Derived.Test.YtkkbbpldeeajaaaDoorUIM
import Derived.Deep.RegionLaw
import Derived.Deep.RegionHeld3
import Derived.Test.YtkkbbpldeeajaaaDoorUR
import Derived.Test.YtkkbbpldeeajaaaDoorUC4
import Derived.Test.YtkkbbpldeeajaaaDoorUC5
namespace Go.Proofs.YtkkbbpldeeajaaaDoor.Val
open Go Go.RowKit

/-- Copies so far: of the first k of a list, in blocks from B on. -/
def CLb (B : Nat) (wr : World) (T : TypeId) (l : List PT) (k : Nat) (own : Value) : Prop :=
  ∃ m : List PT, m.map PT.bare = (l.take k).map PT.bare ∧ wr.ownsRow B T 9 own k (m.flatMap PT.cells) ∧ (∀ q ∈ m, New wr T (fun b => B ≤ b ∧ own.ownBlock ≠ some b) q)
theorem CLb.start (B : Nat) (w : World) (T : TypeId) (l : List PT) : CLb B w T l 0 (.slice none 0 0) := ⟨[], by simp, World.ownsRow_nil _ _ _ _, by simp⟩
theorem CLb.sv {B : Nat} {X : Nat → Prop} {w w' : World} {T : TypeId} {l : List PT} {k : Nat} {own : Value} (h : CLb B w T l k own) (hs : Sv X w w') (hx : ∀ b, B ≤ b → ¬ X b) : CLb B w' T l k own := by
  obtain ⟨m, h1, h2, h3⟩ := h
  exact ⟨m, h1, owns_sv h2 hs fun g hg => hx g (World.ownsRow.lt h2 g hg).1, fun q hq => (h3 q hq).sv hs fun b hb => hx b hb.1⟩
theorem CLb.done {B : Nat} {wr : World} {T : TypeId} {l : List PT} {own : Value} (h : CLb B wr T l l.length own) : ∃ m : List PT, m.map PT.bare = l.map PT.bare ∧ NewL wr T (fun b => B ≤ b) own m := by
  obtain ⟨m, h1, h2, h3⟩ := h
  rw [List.take_length] at h1
  have hlen : m.length = l.length := by have := congrArg List.length h1; simpa using this
  refine ⟨m, h1, ⟨?_, fun g hg => (World.ownsRow.lt h2 g hg).1, fun p hp => (h3 p hp).imp fun b hb _ => hb.1⟩⟩
  rw [hlen]
  exact owns_base h2 fun g hg => Nat.zero_le _
theorem CLb.slice {B : Nat} {wr : World} {T : TypeId} {l : List PT} {k : Nat} {own : Value} (h : CLb B wr T l k own) : ∃ ao n c, own = .slice ao n c := by
  obtain ⟨m, _, h2, _⟩ := h
  obtain ⟨ao, c, e, _⟩ := (owns_lies h2).slice
  exact ⟨ao, k, c, e⟩
/-- What the append is handed. -/
theorem CLb.owns {B : Nat} {wr wb : World} {T : TypeId} {l : List PT} {k : Nat} {own : Value} (h : CLb B wr T l k own) (hB : B ≤ wr.heap.size) (hb : Below wr.heap.size wr wb) : ∃ m : List PT, wb.ownsRow B T 9 own k (m.flatMap PT.cells) ∧ B ≤ wb.heap.size ∧
    ∀ (q : PT) (wa w2 : World) (v' : Value) (hk : k < l.length), wr.heap.size ≤ wa.heap.size → q.bare = l[k].bare → New wb T (fun b => wa.heap.size ≤ b) q → w2.ownsRow B T 9 v' (k + 1) (m.flatMap PT.cells ++ q.cells) → wb.grownBy w2 own.ownBlock → (v'.ownBlock = own.ownBlock ∨ v'.ownBlock = some wb.heap.size) → CLb B w2 T l (k + 1) v' ∧ Sv (fun b => B ≤ b) wb w2 := by
  obtain ⟨m, h1, h2, h3⟩ := h
  have h2' : wb.ownsRow B T 9 own k (m.flatMap PT.cells) := owns_sv (X := Nothing) h2 (Sv.of hb) fun _ _ h => h
  refine ⟨m, h2', Nat.le_trans hB hb.size, fun q wa w2 v' hk ha hq hn ho hg hat => ?_⟩
  have hlt : ∀ g, own.ownBlock = some g → B ≤ g ∧ g < wr.heap.size := World.ownsRow.lt h2
  have hsv : Sv (fun b => own.ownBlock = some b) wb w2 := ⟨hg.os, hg.tape, hg.output, hg.size, fun b hb hx => hg.block b hb fun e => hx e.symm⟩
  have hsv' : Sv (fun b => B ≤ b) wb w2 := ⟨hg.os, hg.tape, hg.output, hg.size, fun b hb hx => hg.block b hb fun e => hx (hlt b e.symm).1⟩
  have hfin : ∀ b, B ≤ b ∧ own.ownBlock ≠ some b → b < wb.heap.size → B ≤ b ∧ v'.ownBlock ≠ some b := fun b hb1 hb2 => ⟨hb1.1, fun e => by
    rcases hat with hat | hat
    · exact hb1.2 (by rw [← hat]; exact e)
    · rw [hat] at e; have := Option.some.inj e; omega⟩
  refine ⟨⟨m ++ [q], ?_, ?_, ?_⟩, hsv'⟩
  · rw [List.map_append, h1, List.take_add_one, List.map_append, List.getElem?_eq_getElem hk]
    simp [hq]
  · rw [List.flatMap_append]; simpa using ho
  · intro p hp
    rcases List.mem_append.1 hp with hp | hp
    · have n1 : New wb T (fun b => B ≤ b ∧ own.ownBlock ≠ some b) p := (h3 p hp).keep hb
      exact (n1.imp (Q := fun b => (B ≤ b ∧ own.ownBlock ≠ some b) ∧ (B ≤ b ∧ v'.ownBlock ≠ some b)) fun b h1 h2 => ⟨h1, hfin b h1 h2⟩).sv hsv (fun b hb e => hb.1.2 e) |>.imp fun b hb _ => hb.2
    · rw [List.mem_singleton] at hp
      subst hp
      have n1 : New wb T (fun b => B ≤ b ∧ own.ownBlock ≠ some b) p := hn.imp fun b hb _ => ⟨by omega, fun e => by have := hlt b e; omega⟩
      exact (n1.imp (Q := fun b => (B ≤ b ∧ own.ownBlock ≠ some b) ∧ (B ≤ b ∧ v'.ownBlock ≠ some b)) fun b h1 h2 => ⟨h1, hfin b h1 h2⟩).sv hsv (fun b hb e => hb.1.2 e) |>.imp fun b hb _ => hb.2
/-- The boxes of what is copied and of what is answered. -/
structure TW (N : Nat) (p : PT) (own : Value) (w : World) : Prop where
  pb : Box w N (PT.mk p.op p.col p.v p.w own [])
  z : Box w (N + 1) PT.zero
  f0 : ∀ j, w.frozen? ⟨N, j, none⟩ = false
  f1 : ∀ j, w.frozen? ⟨N + 1, j, none⟩ = false
theorem TW.sv {N : Nat} {p : PT} {own : Value} {X : Nat → Prop} {w w' : World} (h : TW N p own w) (hs : Sv X w w') (hx : ¬ X N) (hx' : ¬ X (N + 1)) : TW N p own w' :=
  ⟨h.pb.sv hs hx, h.z.sv hs hx', fun j => by rw [hs.frozen (p := ⟨N, j, none⟩) h.pb.lt hx]; exact h.f0 j, fun j => by rw [hs.frozen (p := ⟨N + 1, j, none⟩) h.z.lt hx']; exact h.f1 j⟩
theorem TW.below {N : Nat} {p : PT} {own : Value} {w w' : World} (h : TW N p own w) (hb : Below w.heap.size w w') : TW N p own w' := h.sv (X := Nothing) (Sv.of hb) (fun h => h) (fun h => h)
theorem TW.set {N : Nat} {p : PT} {own : Value} {w : World} (h : TW N p own w) (v : Value) : TW N p v (w.setCell ⟨N, 8, none⟩ v) := by
  have hne : ∀ j, j ≠ 8 → (w.setCell ⟨N, 8, none⟩ v).cell? ⟨N, j, none⟩ = w.cell? ⟨N, j, none⟩ := fun j hj => World.cell?_setCell_other _ _ _ _ (by intro e; injection e; omega)
  have hs : Sv (fun b => b = N) w (w.setCell ⟨N, 8, none⟩ v) := Sv.set (X := fun b => b = N) (Sv.refl _ w) (a := ⟨N, 8, none⟩) (show N = N from rfl) v
  refine ⟨⟨?_, ?_, ?_, ?_, ?_, ?_, ?_, ?_, ?_⟩, h.z.sv hs (by omega), fun j => by rw [World.frozen?_setCell]; exact h.f0 j, fun j => by rw [World.frozen?_setCell]; exact h.f1 j⟩
  · rw [hne 0 (by omega)]; exact h.pb.c0
  · rw [hne 1 (by omega)]; exact h.pb.c1
  · rw [hne 2 (by omega)]; exact h.pb.c2
  · rw [hne 3 (by omega)]; exact h.pb.c3
  · rw [hne 4 (by omega)]; exact h.pb.c4
  · rw [hne 5 (by omega)]; exact h.pb.c5
  · rw [hne 6 (by omega)]; exact h.pb.c6
  · rw [hne 7 (by omega)]; exact h.pb.c7
  · exact World.cell?_setCell_same' _ _ _ (by rw [h.pb.c8]; rfl)
end Go.Proofs.YtkkbbpldeeajaaaDoor.Val
/- What the law of claims' pred answers: the same, in memory of its own. -/
namespace Go.Proofs.YtkkbbpldeeajaaaDoor.Val
open Go.RowKit

set_option maxHeartbeats 8000000 in
theorem pred9_step (p : PT) (ih : ∀ q ∈ p.l, CloneOk 53 q) : CloneOk 53 p := by
  intro w hi hs
  obtain ⟨i0, hi0, hz0, hz1, hz2⟩ := info_parts info_P
  have I0 : Hid (Tryd.prog.info? 29 = some i0 ∧ i0.zero = some (PV 0 0 false 0 ⟨#[]⟩ false 0 ⟨#[]⟩ (.slice none 0 0)) ∧ i0.size = 9 ∧ i0.bytes = 104) := ⟨hi0, hz0, hz1, hz2⟩
  obtain ⟨ap, cp, hlp, hln⟩ := hi.lies.slice
  have hsz := size_l p
  have hlen : p.l.length ≤ 1000000 := by have := length_sizeL p.l; omega
  have HI : Hid (In w p ∧ p.size ≤ 1000000 ∧ ∀ q ∈ p.l, CloneOk 53 q) := ⟨hi, hs, ih⟩
  have HLV : Hid (p.lv = .slice ap p.l.length cp) := hlp
  clear hi0 hz0 hz1 hz2 hi hs ih hsz
  unfold PT.val
  rw [hlp]
  clear hlp
  go_enter Tryd.func53, Tryd.ntmps53
  go_wp2_with fail
  go_loopw [4] (fun i wr => ∃ (k : Nat) (own : Value), k ≤ p.l.length ∧ i = .int .i64 k ∧ Hid (CLb (w.heap.size + 1 + 1) wr TP p.l k own) ∧ Hid (Below w.heap.size w wr ∧ TW w.heap.size p own wr ∧ w.heap.size + 1 + 1 ≤ wr.heap.size))
    (fun i _ => p.l.length - (intOf i).toNat)
  case atStart =>
    refine ⟨0, .slice none 0 0, Nat.zero_le _, rfl, CLb.start _ _ _ _, back1 (alloc1 _ _), ⟨?_, ?_, ?_, ?_⟩, by simp⟩
    · constructor <;> simp [go_sem]
    · constructor <;> simp [go_sem, PT.zero, Val.zero]
    · intro j; simp [go_sem]
    · intro j; simp [go_sem]
  case round =>
    obtain ⟨k, own, hk, rfl, HK, HB⟩ := hrel
    by_cases h1 : k < p.l.length
    · have j0 : (0 : Int) ≤ (k : Int) := by omega
      have j1 : (k : Int) < (p.l.length : Int) := by omega
      have hl := HI.out.1.lies
      rw [HLV.out] at hl
      obtain ⟨b, o, rfl, hat0⟩ := lies_at hl k h1
      have hm := List.getElem_mem h1
      have HQ : Hid (∀ w1, Below w.heap.size w w1 → Calls Tryd.prog 53 #[p.l[k].val] w1 fun e w' => ∃ q : PT, e = .returned q.val ∧ q.bare = p.l[k].bare ∧ New w' TP (fun b => w1.heap.size ≤ b) q ∧ Below w1.heap.size w1 w') :=
        fun w1 hb => HI.out.2.2 _ hm w1 ((HI.out.1.part _ hm).keep hb) (by have := size_part (p := p) hm; have := HI.out.2.1; omega)
      have hS : ∀ w1, Below w.heap.size w w1 → (fun w' => w'.cell? ⟨b, o + k * 9, none⟩ = some (.int .i64 p.l[k].op) ∧ w'.cell? ⟨b, o + k * 9 + 1, none⟩ = some (.int .i64 p.l[k].col) ∧ w'.cell? ⟨b, o + k * 9 + 2, none⟩ = some (.bool p.l[k].v.t) ∧ w'.cell? ⟨b, o + k * 9 + 3, none⟩ = some (.int .i64 p.l[k].v.n) ∧ w'.cell? ⟨b, o + k * 9 + 4, none⟩ = some (.string p.l[k].v.s) ∧ w'.cell? ⟨b, o + k * 9 + 5, none⟩ = some (.bool p.l[k].w.t) ∧ w'.cell? ⟨b, o + k * 9 + 6, none⟩ = some (.int .i64 p.l[k].w.n) ∧ w'.cell? ⟨b, o + k * 9 + 7, none⟩ = some (.string p.l[k].w.s) ∧ w'.cell? ⟨b, o + k * 9 + 8, none⟩ = some p.l[k].lv) w1 := fun w1 hb => by
        have h := hat0.below hb
        exact ⟨h.c0, h.c1, h.c2, h.c3, h.c4, h.c5, h.c6, h.c7, h.c8⟩
      have T0 : TW w.heap.size p own wr.drew := HB.out.2.1.below (Below.refl _ _).drew
      have HBd : Below w.heap.size w wr.drew := HB.out.1.drew
      clear hm hl hat0
      unfold PT.val at HQ
      go_wp2_with fail
      refine wp_region_held_drew (S := fun w' => w'.cell? ⟨b, o + k * 9, none⟩ = some (.int .i64 p.l[k].op) ∧ w'.cell? ⟨b, o + k * 9 + 1, none⟩ = some (.int .i64 p.l[k].col) ∧ w'.cell? ⟨b, o + k * 9 + 2, none⟩ = some (.bool p.l[k].v.t) ∧ w'.cell? ⟨b, o + k * 9 + 3, none⟩ = some (.int .i64 p.l[k].v.n) ∧ w'.cell? ⟨b, o + k * 9 + 4, none⟩ = some (.string p.l[k].v.s) ∧ w'.cell? ⟨b, o + k * 9 + 5, none⟩ = some (.bool p.l[k].w.t) ∧ w'.cell? ⟨b, o + k * 9 + 6, none⟩ = some (.int .i64 p.l[k].w.n) ∧ w'.cell? ⟨b, o + k * 9 + 7, none⟩ = some (.string p.l[k].w.s) ∧ w'.cell? ⟨b, o + k * 9 + 8, none⟩ = some p.l[k].lv) (by kernel_rfl) ?_ (fun hHeld => ?_)
      · exact hS _ HBd
      (try clear hK K)
      refine wpAnyH_take (i := 0) (v := ?_) rfl (by kernel_rfl) (by kernel_rfl) (by kernel_rfl) (fun _ _ _ h => h) (Or.inl ⟨by rfl, ?_⟩) (by assumption) ?_
      rotate_left
      · intro w hSw; (try dsimp only at hSw); go_simp; (try with_reducible rfl)
      (try simp only [Act.put, List.getElem_toArray, List.getElem_cons_zero, List.setIfInBounds_toArray, List.set_cons_zero, List.set_cons_succ])
      refine wpAnyH_take (i := 2) (v := ?_) rfl (by kernel_rfl) (by kernel_rfl) (by kernel_rfl) (fun _ _ _ h => h) (Or.inl ⟨by rfl, ?_⟩) (by assumption) ?_
      rotate_left
      · intro w hSw; (try dsimp only at hSw); go_simp; (try with_reducible rfl)
      (try simp only [Act.put, List.getElem_toArray, List.getElem_cons_succ, List.getElem_cons_zero, List.setIfInBounds_toArray, List.set_cons_zero, List.set_cons_succ])
      refine wpAnyH_take (i := 3) (v := ?_) rfl (by kernel_rfl) (by kernel_rfl) (by kernel_rfl) (fun _ _ _ h => h) (Or.inl ⟨by rfl, ?_⟩) (by assumption) ?_
      rotate_left
      · intro w hSw; (try dsimp only at hSw); go_simp; (try with_reducible rfl)
      (try simp only [Act.put, List.getElem_toArray, List.getElem_cons_succ, List.getElem_cons_zero, List.setIfInBounds_toArray, List.set_cons_zero, List.set_cons_succ])
      refine wpAnyH_take (i := 4) (v := ?_) rfl (by kernel_rfl) (by kernel_rfl) (by kernel_rfl) (fun _ _ _ h => h) (Or.inl ⟨by rfl, ?_⟩) (by assumption) ?_
      rotate_left
      · intro w hSw; (try dsimp only at hSw); go_simp; (try with_reducible rfl)
      (try simp only [Act.put, List.getElem_toArray, List.getElem_cons_succ, List.getElem_cons_zero, List.setIfInBounds_toArray, List.set_cons_zero, List.set_cons_succ])
      refine wpAnyH_take (i := 5) (v := ?_) rfl (by kernel_rfl) (by kernel_rfl) (by kernel_rfl) (fun _ _ _ h => h) (Or.inl ⟨by rfl, ?_⟩) (by assumption) ?_
      rotate_left
      · intro w hSw; (try dsimp only at hSw); go_simp; (try with_reducible rfl)
      (try simp only [Act.put, List.getElem_toArray, List.getElem_cons_succ, List.getElem_cons_zero, List.setIfInBounds_toArray, List.set_cons_zero, List.set_cons_succ])
      refine wpAnyH_ready (rs := [1, 6]) (by kernel_rfl) (by simp) ?_
      refine AllReadyH.cons rfl (fun K hK => ?_) (AllReadyH.cons rfl (fun K hK => ?_) AllReadyH.nil)
      · have c8 := T0.pb.c8
        dsimp only at c8
        go_simp
        refine hK.out _ _ ?_ (fun hHeld => ?_)
        · exact hS _ (HBd)
        (try clear c8)
        refine wpAnyH_ready (rs := [6]) (by kernel_rfl) (by simp) ?_
        refine AllReadyH.cons rfl (fun K hK => ?_) AllReadyH.nil
        go_simp
        refine Calls.mono (HQ.out _ HBd) ?_
        rintro e w1 ⟨q, rfl, hqb, hqn, hb1⟩
        have HB1 := on HBd hb1
        have T1 := T0.below hb1
        refine hK.out _ _ ?_ (fun hHeld => ?_)
        · exact hS _ (HB1)
        refine wpAnyH_ready (rs := [7]) (by kernel_rfl) (by simp) ?_
        refine AllReadyH.cons rfl (fun K hK => ?_) AllReadyH.nil
        go_simp
        have HB2 := on HB1 (alloc1 w1 (pobj q 29))
        have T2 := T1.below (alloc1 w1 (pobj q 29))
        refine hK.out _ _ ?_ (fun hHeld => ?_)
        · exact hS _ (HB2)
        (try clear hK K)
        obtain ⟨aq, cq, hlq⟩ := hqn.row.slice
        obtain ⟨m, hown, hsz, hnext⟩ := CLb.owns HK.out HB.out.2.2 (wb := w1.alloc (pobj q 29)) (on ((Below.refl _ _).drew.trans hb1) (alloc1 _ _))
        refine wpAnyH_ready (rs := [8]) (by kernel_rfl) (by simp) ?_
        refine AllReadyH.cons rfl (fun K hK => ?_) AllReadyH.nil
        refine step_append_own_at rfl (.tmp 15) (.tmp 21) 27 rfl (w.heap.size + 1 + 1) TP i0 _ 9 104 Tryd.underlying27 I0.out.1 I0.out.2.1 I0.out.2.2.1 I0.out.2.2.2 rfl (by decide) own k (m.flatMap PT.cells) rfl hown ⟨w1.heap.size, 0, none⟩ 1 1 q.cells rfl rfl (new_cells w1 q _) (one_cells q _ _ _ hlq) ?_ ?_ hsz ?_
        · unfold maxLen; omega
        · omega
        intro v' w2 hown' hgrow hat
        obtain ⟨hcl, hsv⟩ := hnext q wr.drew w2 v' h1 (Nat.le_refl _) hqb (hqn.keep (alloc1 _ _)) hown' hgrow (by simpa using hat)
        have T3 := T2.sv hsv (by omega) (by omega)
        have HB3 : Below w.heap.size w w2 := HB2.trans (hsv.below (Nat.le_trans (by omega) HB2.size) fun b hb hx => by omega)
        have HZ3 : w.heap.size + 1 + 1 ≤ w2.heap.size := Nat.le_trans hsz hsv.size
        obtain ⟨av, nv, cv, hv'⟩ := hcl.slice
        refine hK.out _ _ ?_ (fun hHeld => ?_)
        · exact hS _ (HB3)
        clear hK K
        (try clear hK K)
        refine wpAnyH_take (i := 9) (v := ?_) rfl (by kernel_rfl) (by kernel_rfl) (by kernel_rfl) (fun _ _ _ h => h) (Or.inl ⟨by rfl, ?_⟩) (by assumption) ?_
        rotate_left
        · intro w hSw; (try dsimp only at hSw); go_simp; (try with_reducible rfl)
        (try simp only [Act.put, List.getElem_toArray, List.getElem_cons_succ, List.getElem_cons_zero, List.setIfInBounds_toArray, List.set_cons_zero, List.set_cons_succ])
        have c8 := T3.pb.c8
        have f8 := T3.f0 8
        dsimp only at c8
        subst hv'
        refine wpAnyH_ready (rs := [10]) (by kernel_rfl) (by simp) ?_
        refine AllReadyH.cons rfl (fun K hK => ?_) AllReadyH.nil
        go_simp
        have T4 := T3.set (.slice av nv cv)
        have HB4 : Below w.heap.size w (w2.setCell ⟨w.heap.size, 8, none⟩ (.slice av nv cv)) := HB3.setCell (Nat.le_refl _) _
        have hcl4 : CLb (w.heap.size + 1 + 1) (w2.setCell ⟨w.heap.size, 8, none⟩ (.slice av nv cv)) TP p.l (k + 1) (.slice av nv cv) := hcl.sv (Sv.set (X := fun b => b = w.heap.size) (Sv.refl _ w2) (a := ⟨w.heap.size, 8, none⟩) (show w.heap.size = w.heap.size from rfl) _) fun b hb e => by omega
        refine hK.out _ _ ?_ (fun hHeld => ?_)
        · exact hS _ (HB4)
        clear hK K c8 f8
        refine wpAnyH_done (by kernel_rfl) ?_ _
        have HC4 : Hid (CLb (w.heap.size + 1 + 1) (w2.setCell ⟨w.heap.size, 8, none⟩ (.slice av nv cv)) TP p.l (k + 1) (.slice av nv cv)) := hcl4
        have HT4 : Hid (Below w.heap.size w (w2.setCell ⟨w.heap.size, 8, none⟩ (.slice av nv cv)) ∧ TW w.heap.size p (.slice av nv cv) (w2.setCell ⟨w.heap.size, 8, none⟩ (.slice av nv cv)) ∧ w.heap.size + 1 + 1 ≤ (w2.setCell ⟨w.heap.size, 8, none⟩ (.slice av nv cv)).heap.size) := ⟨HB4, T4, by simpa [World.setCell] using HZ3⟩
        clear hcl4 T4 HB4 HZ3 HB3 T3 hcl hsv hown' hgrow hat hnext hsz hown hlq T2 HB2 T1 HB1 hqb hqn hb1 T0 HBd hHeld HQ hS HK HB
        generalize w2.setCell ⟨w.heap.size, 8, none⟩ (.slice av nv cv) = w3 at *
        go_wp2_with fail
        go_roundw
        case rel => exact ⟨k + 1, _, by omega, by go_num, HC4, HT4⟩
        case measure => simp [intOf]; omega
      · go_simp
        refine Calls.mono (HQ.out _ HBd) ?_
        rintro e w1 ⟨q, rfl, hqb, hqn, hb1⟩
        have HB1 := on HBd hb1
        have T1 := T0.below hb1
        refine hK.out _ _ ?_ (fun hHeld => ?_)
        · exact hS _ (HB1)
        refine wpAnyH_ready (rs := [1, 7]) (by kernel_rfl) (by simp) ?_
        refine AllReadyH.cons rfl (fun K hK => ?_) (AllReadyH.cons rfl (fun K hK => ?_) AllReadyH.nil)
        · have c8 := T1.pb.c8
          dsimp only at c8
          go_simp
          refine hK.out _ _ ?_ (fun hHeld => ?_)
          · exact hS _ (HB1)
          (try clear c8)
          refine wpAnyH_ready (rs := [7]) (by kernel_rfl) (by simp) ?_
          refine AllReadyH.cons rfl (fun K hK => ?_) AllReadyH.nil
          go_simp
          have HB2 := on HB1 (alloc1 w1 (pobj q 29))
          have T2 := T1.below (alloc1 w1 (pobj q 29))
          refine hK.out _ _ ?_ (fun hHeld => ?_)
          · exact hS _ (HB2)
          (try clear hK K)
          obtain ⟨aq, cq, hlq⟩ := hqn.row.slice
          obtain ⟨m, hown, hsz, hnext⟩ := CLb.owns HK.out HB.out.2.2 (wb := w1.alloc (pobj q 29)) (on ((Below.refl _ _).drew.trans hb1) (alloc1 _ _))
          refine wpAnyH_ready (rs := [8]) (by kernel_rfl) (by simp) ?_
          refine AllReadyH.cons rfl (fun K hK => ?_) AllReadyH.nil
          refine step_append_own_at rfl (.tmp 15) (.tmp 21) 27 rfl (w.heap.size + 1 + 1) TP i0 _ 9 104 Tryd.underlying27 I0.out.1 I0.out.2.1 I0.out.2.2.1 I0.out.2.2.2 rfl (by decide) own k (m.flatMap PT.cells) rfl hown ⟨w1.heap.size, 0, none⟩ 1 1 q.cells rfl rfl (new_cells w1 q _) (one_cells q _ _ _ hlq) ?_ ?_ hsz ?_
          · unfold maxLen; omega
          · omega
          intro v' w2 hown' hgrow hat
          obtain ⟨hcl, hsv⟩ := hnext q wr.drew w2 v' h1 (Nat.le_refl _) hqb (hqn.keep (alloc1 _ _)) hown' hgrow (by simpa using hat)
          have T3 := T2.sv hsv (by omega) (by omega)
          have HB3 : Below w.heap.size w w2 := HB2.trans (hsv.below (Nat.le_trans (by omega) HB2.size) fun b hb hx => by omega)
          have HZ3 : w.heap.size + 1 + 1 ≤ w2.heap.size := Nat.le_trans hsz hsv.size
          obtain ⟨av, nv, cv, hv'⟩ := hcl.slice
          refine hK.out _ _ ?_ (fun hHeld => ?_)
          · exact hS _ (HB3)
          clear hK K
          (try clear hK K)
          refine wpAnyH_take (i := 9) (v := ?_) rfl (by kernel_rfl) (by kernel_rfl) (by kernel_rfl) (fun _ _ _ h => h) (Or.inl ⟨by rfl, ?_⟩) (by assumption) ?_
          rotate_left
          · intro w hSw; (try dsimp only at hSw); go_simp; (try with_reducible rfl)
          (try simp only [Act.put, List.getElem_toArray, List.getElem_cons_succ, List.getElem_cons_zero, List.setIfInBounds_toArray, List.set_cons_zero, List.set_cons_succ])
          have c8 := T3.pb.c8
          have f8 := T3.f0 8
          dsimp only at c8
          subst hv'
          refine wpAnyH_ready (rs := [10]) (by kernel_rfl) (by simp) ?_
          refine AllReadyH.cons rfl (fun K hK => ?_) AllReadyH.nil
          go_simp
          have T4 := T3.set (.slice av nv cv)
          have HB4 : Below w.heap.size w (w2.setCell ⟨w.heap.size, 8, none⟩ (.slice av nv cv)) := HB3.setCell (Nat.le_refl _) _
          have hcl4 : CLb (w.heap.size + 1 + 1) (w2.setCell ⟨w.heap.size, 8, none⟩ (.slice av nv cv)) TP p.l (k + 1) (.slice av nv cv) := hcl.sv (Sv.set (X := fun b => b = w.heap.size) (Sv.refl _ w2) (a := ⟨w.heap.size, 8, none⟩) (show w.heap.size = w.heap.size from rfl) _) fun b hb e => by omega
          refine hK.out _ _ ?_ (fun hHeld => ?_)
          · exact hS _ (HB4)
          clear hK K c8 f8
          refine wpAnyH_done (by kernel_rfl) ?_ _
          have HC4 : Hid (CLb (w.heap.size + 1 + 1) (w2.setCell ⟨w.heap.size, 8, none⟩ (.slice av nv cv)) TP p.l (k + 1) (.slice av nv cv)) := hcl4
          have HT4 : Hid (Below w.heap.size w (w2.setCell ⟨w.heap.size, 8, none⟩ (.slice av nv cv)) ∧ TW w.heap.size p (.slice av nv cv) (w2.setCell ⟨w.heap.size, 8, none⟩ (.slice av nv cv)) ∧ w.heap.size + 1 + 1 ≤ (w2.setCell ⟨w.heap.size, 8, none⟩ (.slice av nv cv)).heap.size) := ⟨HB4, T4, by simpa [World.setCell] using HZ3⟩
          clear hcl4 T4 HB4 HZ3 HB3 T3 hcl hsv hown' hgrow hat hnext hsz hown hlq T2 HB2 T1 HB1 hqb hqn hb1 T0 HBd hHeld HQ hS HK HB
          generalize w2.setCell ⟨w.heap.size, 8, none⟩ (.slice av nv cv) = w3 at *
          go_wp2_with fail
          go_roundw
          case rel => exact ⟨k + 1, _, by omega, by go_num, HC4, HT4⟩
          case measure => simp [intOf]; omega
        · go_simp
          have HB2 := on HB1 (alloc1 w1 (pobj q 29))
          have T2 := T1.below (alloc1 w1 (pobj q 29))
          refine hK.out _ _ ?_ (fun hHeld => ?_)
          · exact hS _ (HB2)
          refine wpAnyH_ready (rs := [1]) (by kernel_rfl) (by simp) ?_
          refine AllReadyH.cons rfl (fun K hK => ?_) AllReadyH.nil
          have c8 := T2.pb.c8
          dsimp only at c8
          go_simp
          refine hK.out _ _ ?_ (fun hHeld => ?_)
          · exact hS _ (HB2)
          (try clear c8)
          (try clear hK K)
          obtain ⟨aq, cq, hlq⟩ := hqn.row.slice
          obtain ⟨m, hown, hsz, hnext⟩ := CLb.owns HK.out HB.out.2.2 (wb := w1.alloc (pobj q 29)) (on ((Below.refl _ _).drew.trans hb1) (alloc1 _ _))
          refine wpAnyH_ready (rs := [8]) (by kernel_rfl) (by simp) ?_
          refine AllReadyH.cons rfl (fun K hK => ?_) AllReadyH.nil
          refine step_append_own_at rfl (.tmp 15) (.tmp 21) 27 rfl (w.heap.size + 1 + 1) TP i0 _ 9 104 Tryd.underlying27 I0.out.1 I0.out.2.1 I0.out.2.2.1 I0.out.2.2.2 rfl (by decide) own k (m.flatMap PT.cells) rfl hown ⟨w1.heap.size, 0, none⟩ 1 1 q.cells rfl rfl (new_cells w1 q _) (one_cells q _ _ _ hlq) ?_ ?_ hsz ?_
          · unfold maxLen; omega
          · omega
          intro v' w2 hown' hgrow hat
          obtain ⟨hcl, hsv⟩ := hnext q wr.drew w2 v' h1 (Nat.le_refl _) hqb (hqn.keep (alloc1 _ _)) hown' hgrow (by simpa using hat)
          have T3 := T2.sv hsv (by omega) (by omega)
          have HB3 : Below w.heap.size w w2 := HB2.trans (hsv.below (Nat.le_trans (by omega) HB2.size) fun b hb hx => by omega)
          have HZ3 : w.heap.size + 1 + 1 ≤ w2.heap.size := Nat.le_trans hsz hsv.size
          obtain ⟨av, nv, cv, hv'⟩ := hcl.slice
          refine hK.out _ _ ?_ (fun hHeld => ?_)
          · exact hS _ (HB3)
          clear hK K
          (try clear hK K)
          refine wpAnyH_take (i := 9) (v := ?_) rfl (by kernel_rfl) (by kernel_rfl) (by kernel_rfl) (fun _ _ _ h => h) (Or.inl ⟨by rfl, ?_⟩) (by assumption) ?_
          rotate_left
          · intro w hSw; (try dsimp only at hSw); go_simp; (try with_reducible rfl)
          (try simp only [Act.put, List.getElem_toArray, List.getElem_cons_succ, List.getElem_cons_zero, List.setIfInBounds_toArray, List.set_cons_zero, List.set_cons_succ])
          have c8 := T3.pb.c8
          have f8 := T3.f0 8
          dsimp only at c8
          subst hv'
          refine wpAnyH_ready (rs := [10]) (by kernel_rfl) (by simp) ?_
          refine AllReadyH.cons rfl (fun K hK => ?_) AllReadyH.nil
          go_simp
          have T4 := T3.set (.slice av nv cv)
          have HB4 : Below w.heap.size w (w2.setCell ⟨w.heap.size, 8, none⟩ (.slice av nv cv)) := HB3.setCell (Nat.le_refl _) _
          have hcl4 : CLb (w.heap.size + 1 + 1) (w2.setCell ⟨w.heap.size, 8, none⟩ (.slice av nv cv)) TP p.l (k + 1) (.slice av nv cv) := hcl.sv (Sv.set (X := fun b => b = w.heap.size) (Sv.refl _ w2) (a := ⟨w.heap.size, 8, none⟩) (show w.heap.size = w.heap.size from rfl) _) fun b hb e => by omega
          refine hK.out _ _ ?_ (fun hHeld => ?_)
          · exact hS _ (HB4)
          clear hK K c8 f8
          refine wpAnyH_done (by kernel_rfl) ?_ _
          have HC4 : Hid (CLb (w.heap.size + 1 + 1) (w2.setCell ⟨w.heap.size, 8, none⟩ (.slice av nv cv)) TP p.l (k + 1) (.slice av nv cv)) := hcl4
          have HT4 : Hid (Below w.heap.size w (w2.setCell ⟨w.heap.size, 8, none⟩ (.slice av nv cv)) ∧ TW w.heap.size p (.slice av nv cv) (w2.setCell ⟨w.heap.size, 8, none⟩ (.slice av nv cv)) ∧ w.heap.size + 1 + 1 ≤ (w2.setCell ⟨w.heap.size, 8, none⟩ (.slice av nv cv)).heap.size) := ⟨HB4, T4, by simpa [World.setCell] using HZ3⟩
          clear hcl4 T4 HB4 HZ3 HB3 T3 hcl hsv hown' hgrow hat hnext hsz hown hlq T2 HB2 T1 HB1 hqb hqn hb1 T0 HBd hHeld HQ hS HK HB
          generalize w2.setCell ⟨w.heap.size, 8, none⟩ (.slice av nv cv) = w3 at *
          go_wp2_with fail
          go_roundw
          case rel => exact ⟨k + 1, _, by omega, by go_num, HC4, HT4⟩
          case measure => simp [intOf]; omega
    · have j1 : decide ((k : Int) < (p.l.length : Int)) = false := by simp; omega
      obtain rfl : k = p.l.length := by omega
      obtain ⟨m, hm1, hm2⟩ := CLb.done HK.out
      have HM : Hid (m.map PT.bare = p.l.map PT.bare ∧ NewL wr TP (fun b => w.heap.size + 1 + 1 ≤ b) own m) := ⟨hm1, hm2⟩
      have HV : Hid (p.v.s.size ≤ maxLen ∧ p.w.s.size ≤ maxLen) := ⟨HI.out.1.sv, HI.out.1.sw⟩
      obtain ⟨av, cv, hv⟩ := hm2.slice
      have T0 := HB.out.2.1
      obtain ⟨b0, b1, b2, b3, b4, b5, b6, b7, b8⟩ := T0.pb
      obtain ⟨z0, z1, z2, z3, z4, z5, z6, z7, z8⟩ := T0.z
      have f0 := T0.f0
      have f1 := T0.f1
      dsimp only [PT.zero, Val.zero] at b0 b1 b2 b3 b4 b5 b6 b7 b8 z0 z1 z2 z3 z4 z5 z6 z7 z8
      have HBw : Hid (Below w.heap.size w wr) := HB.out.1
      clear hm1 hm2 T0 HB HK HI
      subst hv
      go_wp2_with fail
      refine bodyPost_ret (v := (PT.mk p.op p.col p.v p.w (.slice av m.length cv) m).val) (by simp [results, Tryd.results53, go_sem, PT.val, z0, z1, z2, z3, z4, z5, z6, z7, z8]) rfl ⟨_, rfl, bare_of HM.out.1, ?_, ?_⟩
      · obtain ⟨_, h1, h2, h3⟩ := HM.out
        refine .mk HV.out.1 HV.out.2 (owns_sv (X := fun b => b ≤ w.heap.size + 1) h1 ?_ fun g hg => by have := h2 g hg; omega) (fun g hg => by have := h2 g hg; omega) fun q hq => ((h3 q hq).sv (X := fun b => b ≤ w.heap.size + 1) ?_ fun b hb => by omega).imp fun b hb _ => by omega
        all_goals
          repeat (refine Sv.set ?_ (by simp) _)
          exact Sv.refl _ _
      · repeat (refine Below.setCell ?_ (by simp) _)
        exact HBw.out
theorem pred9_ok (p : PT) : CloneOk 53 p := by
  induction p using PT.ind with
  | h p ih => exact pred9_step p ih
end Go.Proofs.YtkkbbpldeeajaaaDoor.Val
/- 'append(nil, r...)' of a row, as a step of a walk. -/
namespace Go.Proofs.YtkkbbpldeeajaaaDoor.Val
open Go.RowKit

/-- 'append(nil, r...)' of a row: a row of one's own. -/
theorem wpList_append_row {w : World} {ops : Array Oper} {rest : List Oper} {o : Oper} {a : Act} {Q : Exit → Act → World → Prop} (hgd : o.guard = none) (s x : Operand) (t : TypeId)
    (ho : o.op = .call { callee := .builtin .append, args := #[s, x], argTypes := #[t, t] }) (ht : Tryd.prog.underlying t = some (.slice 25))
    (vr : Value) (xs : List Val) (hs : a.eval s = .slice none 0 0) (hx : a.eval x = vr) (hr : RowIn w vr xs) (hl : xs.length ≤ 1000)
    (h : ∀ v' w', OwnRow w' w.heap.size 25 v' xs → Below w.heap.size w w' → wpList Tryd.prog ops Q rest (a.put o.dst v') w') : wpList Tryd.prog ops Q (o :: rest) a w := by
  obtain ⟨i0, hi, hz0, hz1, hz2⟩ := info_parts info_V
  obtain ⟨ao, c, rfl, h1, h2, h0, h3⟩ := hr
  cases ao with
  | none =>
    obtain ⟨hn, rfl⟩ := h0 rfl
    have hx' : xs = [] := List.eq_nil_of_length_eq_zero hn
    subst hx'
    exact wpList_append_own_none hgd s x t ho w.heap.size 25 i0 3 ht hi _ 0 [] hs (World.ownsRow_nil w w.heap.size _ 3) hx (h _ _ (OwnRow.nil _ _ _) (Below.refl _ _))
  | some ad =>
    have hcell : ∀ j u, (xs.flatMap Val.cells)[j]? = some u → w.cell? (ad.add j) = some u := by
      rcases h3 with h3 | ⟨b, o, e, h3⟩
      · rw [h3]; intro j u hj; simp at hj
      · cases e; intro j u hj; rw [Addr.add_lit]; exact h3 j u hj
    have hlen : (xs.flatMap Val.cells).length = xs.length * 3 := flat_length Val.cells 3 (fun _ => rfl) xs
    refine wpList_append_own _ hgd s x t ho w.heap.size 25 i0 _ 3 32 ht hi hz0 hz1 hz2 rfl (by decide) _ 0 [] hs (World.ownsRow_nil w w.heap.size _ 3) ad xs.length c (xs.flatMap Val.cells) hx hlen hcell (cells_one xs) ?_ ?_ (Nat.le_refl _) ?_
    · unfold maxLen; omega
    · omega
    · intro v' w' hown hgrow _
      rw [Nat.zero_add, List.nil_append] at hown
      exact h v' w' hown ((Below.refl _ _).grown hgrow (Nat.le_refl _) (fun k hk => by simp [Value.ownBlock] at hk))
end Go.Proofs.YtkkbbpldeeajaaaDoor.Val
/- What the law's twin of a claim answers: the same, in memory of its own. -/
namespace Go.Proofs.YtkkbbpldeeajaaaDoor.Val
open Go.RowKit
set_option maxRecDepth 100000

/-- The boxes of a call, and the images laid so far. -/
structure TB (w0 w : World) (c : CP) (own : Value) (m : List Im) : Prop where
  cc : CB w w0.heap.size { c with iv := own, ims := m }
  z : CB w (w0.heap.size + 1) zeroC
  own : OwnIms w (w0.heap.size + 2) own m
  bel : Below w0.heap.size w0 w
theorem TB.below {w0 w w' : World} {c : CP} {own : Value} {m : List Im} (h : TB w0 w c own m) (hb : Below w.heap.size w w') : TB w0 w' c own m := ⟨h.cc.below hb, h.z.below hb, h.own.below hb, on h.bel hb⟩
theorem TB.size {w0 w : World} {c : CP} {own : Value} {m : List Im} (h : TB w0 w c own m) : w0.heap.size + 2 ≤ w.heap.size := h.z.lt
/-- One more image, appended and stored. -/
theorem TB.grown {w0 w w' : World} {c : CP} {own v' : Value} {m : List Im} {i : Im} (h : TB w0 w c own m) (hi : OwnRow w (w0.heap.size + 2) TVa i.v i.r) (hg : w.grownBy w' own.ownBlock) (ho : w'.ownsRow (w0.heap.size + 2) TRo 1 v' (m.length + 1) (m.map Im.v ++ [i.v])) :
    CB w' w0.heap.size { c with iv := own, ims := m } ∧ TB w0 (w'.setCell ⟨w0.heap.size, 6, none⟩ v') c v' (m ++ [i]) := by
  have hsv : Sv (fun b => own.ownBlock = some b) w w' := ⟨hg.os, hg.tape, hg.output, hg.size, fun b hb hx => hg.block b hb fun e => hx e.symm⟩
  have hc : CB w' w0.heap.size { c with iv := own, ims := m } := h.cc.sv hsv (h.cc.notOwn h.own.1)
  have hs : Sv (· = w0.heap.size) w' (w'.setCell ⟨w0.heap.size, 6, none⟩ v') := Sv.set (X := (· = w0.heap.size)) (Sv.refl _ w') (a := ⟨w0.heap.size, 6, none⟩) rfl _
  refine ⟨hc, hc.set_iv v' (m ++ [i]), (h.z.sv hsv (h.z.notOwn h.own.1)).sv hs (by omega), (h.own.grown hi hg ho).sv hs fun k hk e => by omega, Below.setCell (h.bel.trans (hsv.below h.bel.size fun k hk e => ?_)) (Nat.le_refl _) _⟩
  have := (World.ownsRow.lt h.own.1 k e).1
  omega
set_option maxHeartbeats 4000000 in
theorem ctwin_any (c : CP) (w : World) (hc : CIn w c) (hf : FewC c) : Calls Tryd.prog 25 #[c.val] w fun e w' => ∃ d, e = .returned d.val ∧ LikeC c d ∧ NewC w' w.heap.size d ∧ Below w.heap.size w w' := by
  obtain ⟨i0, hi, hz0, hz1, hz2⟩ := info_parts info_R
  have I0 : Hid (Tryd.prog.info? 43 = some i0 ∧ i0.zero = some (.slice none 0 0) ∧ i0.size = 1 ∧ i0.bytes = 24) := ⟨hi, hz0, hz1, hz2⟩
  have HP : Hid (∀ w1, Below w.heap.size w w1 → Calls Tryd.prog 53 #[c.p.val] w1 fun e w' => ∃ q : PT, e = .returned q.val ∧ q.bare = c.p.bare ∧ New w' TP (fun b => w1.heap.size ≤ b) q ∧ Below w1.heap.size w1 w') := fun w1 h => pred9_ok c.p w1 (hc.p.keep h) (by have := hf.p; omega)
  have HK : Hid (c.key.s.size ≤ maxLen ∧ OneC c) := ⟨hc.key, hc.one⟩
  have HF : Hid (FewC c) := hf
  have hn := hf.n
  obtain ⟨ai, ci, hiv, _⟩ := hc.ims.slice
  obtain ⟨ap, cp, hlv, _⟩ := hc.p.lies.slice
  have HIM : Hid (ImsIn w (.slice ai c.ims.length ci) c.ims) := hiv ▸ hc.ims
  have H1 : Hid (TB w ((w.alloc (cobj { c with iv := .slice none 0 0, ims := [] } TC)).alloc (cobj zeroC TC)) c (.slice none 0 0) []) := by
    have h2 : CB ((w.alloc (cobj { c with iv := .slice none 0 0, ims := [] } TC)).alloc (cobj zeroC TC)) (w.heap.size + 1) zeroC := by have := CB.new (w.alloc (cobj { c with iv := .slice none 0 0, ims := [] } TC)) zeroC; simpa using this
    exact ⟨(CB.new w { c with iv := .slice none 0 0, ims := [] }).below (alloc1 _ _), h2, OwnIms.nil _ _, back2 (Below.refl _ _)⟩
  unfold cobj at H1
  clear hc hf hi hz0 hz1 hz2
  unfold CP.val
  rw [hlv] at H1
  rw [hiv, hlv]
  clear hiv hlv
  go_enter Tryd.func25, Tryd.ntmps25
  go_wp2_with fail
  go_loopw [4, 5] (fun i _ wr => ∃ (k : Nat) (own : Value) (m : List Im), k ≤ c.ims.length ∧ i = .int .i64 k ∧ Hid (TB w wr c own m ∧ m.map Im.r = (c.ims.take k).map Im.r))
    (fun i _ _ => c.ims.length - (intOf i).toNat)
  case atStart => exact ⟨0, _, [], Nat.zero_le _, rfl, H1.out, by simp⟩
  case round =>
    clear H1
    obtain ⟨k, own, m, hk, rfl, HX⟩ := hrel
    by_cases hj : k < c.ims.length
    · have j0 : (0 : Int) ≤ (k : Int) := by omega
      have j1 : (k : Int) < (c.ims.length : Int) := by omega
      obtain ⟨b1, o, rfl, hat0⟩ := HIM.out.at k hj
      have hkr := HIM.out.2 _ (List.getElem_mem hj)
      obtain ⟨x, hx⟩ : ∃ x, c.ims[k] = x := ⟨_, rfl⟩
      have HXR : Hid (x.r.length ≤ 1000) := by have := HF.out.r _ (List.getElem_mem hj); rw [hx] at this; show _ ≤ _; omega
      have HML : Hid (m.length ≤ 20) := by
        have := congrArg List.length HX.out.2
        simp at this
        show _ ≤ _
        omega
      have HTK : Hid (∀ v, (m ++ [(⟨v, x.r⟩ : Im)]).map Im.r = (c.ims.take (k + 1)).map Im.r) := fun v => by
        rw [List.map_append, HX.out.2, List.take_add_one, List.getElem?_eq_getElem hj, List.map_append, hx]
        rfl
      rw [hx] at hat0 hkr
      have HR : Hid (RowIn wr x.v x.r) := hkr.below HX.out.1.bel
      have c1 : wr.cell? ⟨b1, o + k, none⟩ = some x.v := by rw [HX.out.1.bel.cell (World.block_lt_of_cell? w _ hat0)]; exact hat0
      have H2 : Hid (TB w wr c own m) := HX.out.1
      clear hat0 hkr HX hx
      have hr2 := HR.out
      have hl2 := HXR.out
      go_wp2_with (at_builtin; refine wpList_append_row rfl _ _ _ rfl Tryd.underlying43 _ x.r rfl rfl hr2 hl2 ?_)
      intro v' w2 hown hb
      have H3 : Hid (TB w w2 c own m) := H2.out.below hb
      have HO : Hid (OwnRow w2 (w.heap.size + 2) TVa v' x.r) := hown.mono H2.out.size
      obtain ⟨ao, no, co, hov⟩ : ∃ a n c, own = .slice a n c := by obtain ⟨a, c, e, _⟩ := H2.out.own.isIn.slice; exact ⟨_, _, _, e⟩
      obtain ⟨av, nv, cv, hvv⟩ : ∃ a n c, v' = .slice a n c := by obtain ⟨a, c, e, _⟩ := hown.isIn.slice; exact ⟨_, _, _, e⟩
      have b6 : w2.cell? ⟨w.heap.size, 6, none⟩ = some own := H3.out.cc.cell 6
      subst hov hvv
      clear hown hb H2 hr2 hl2 c1 HR
      have HW : Hid (TB w (w2.alloc (.cells #[.slice av nv cv] TRo)) c (.slice ao no co) m ∧ OwnRow (w2.alloc (.cells #[.slice av nv cv] TRo)) (w.heap.size + 2) TVa (.slice av nv cv) x.r) := ⟨H3.out.below (alloc1 _ _), HO.out.below (alloc1 _ _)⟩
      have HC : Hid (∀ j u, [Value.slice av nv cv][j]? = some u → (w2.alloc (.cells #[.slice av nv cv] TRo)).cell? ((⟨w2.heap.size, 0, none⟩ : Addr).add j) = some u) := fun j u hj => by
        match j, hj with
        | 0, hj => simpa [Addr.add_lit, go_sem] using hj
      clear H3 HO
      go_wp2_with (at_builtin; refine wpList_append_own_at _ rfl _ _ _ rfl (w.heap.size + 2) TRo i0 _ 1 24 Tryd.underlying26 I0.out.1 I0.out.2.1 I0.out.2.2.1 I0.out.2.2.2 rfl (by decide) (.slice ao no co) m.length (m.map Im.v) rfl HW.out.1.own.1 ⟨w2.heap.size, 0, none⟩ 1 1 [.slice av nv cv] rfl rfl HC.out (by simp [Value.oneCell']) ?_ ?_ HW.out.1.size ?_)
      · have := HML.out; unfold maxLen; omega
      · have := HML.out; omega
      · intro v' w3 hown' hgrow _ _
        obtain ⟨hcc, hZ⟩ := TB.grown (i := ⟨.slice av nv cv, x.r⟩) HW.out.1 HW.out.2 hgrow hown'
        have HZ : Hid _ := hZ
        have k6 : w3.cell? ⟨w.heap.size, 6, none⟩ = some (.slice ao no co) := hcc.cell 6
        have f6 : w3.frozen? ⟨w.heap.size, 6, none⟩ = false := hcc.free 6
        obtain ⟨a3, n3, c3, hv3⟩ : ∃ a n c, v' = .slice a n c := by obtain ⟨a, c, e, _⟩ := hZ.own.isIn.slice; exact ⟨_, _, _, e⟩
        subst hv3
        clear hown' hgrow HW HC hcc hZ b6
        go_wp2_with fail
        go_roundw
        case rel => exact ⟨k + 1, _, _, by omega, by go_num, HZ.out, HTK.out _⟩
        case measure => simp [intOf]; omega
    · have j1 : decide ((k : Int) < (c.ims.length : Int)) = false := by simp; omega
      obtain rfl : k = c.ims.length := by omega
      rw [List.take_length] at HX
      have HB1 : Hid (TB w wr c own m ∧ m.map Im.r = c.rows) := HX
      obtain ⟨av, nv, cv, hvv⟩ : ∃ a n c, own = .slice a n c := by obtain ⟨a, c, e, _⟩ := HX.out.1.own.isIn.slice; exact ⟨_, _, _, e⟩
      subst hvv
      clear HX HIM
      go_wp2_with (first | (refine step_cloadP rfl _ rfl w.heap.size { c with iv := .slice av nv cv, ims := m } rfl HB1.out.1.cc ?_) | fail)
      refine Calls.mono (HP.out _ HB1.out.1.bel) ?_
      rintro e w2 ⟨q, rfl, hq, hn', hb⟩
      obtain ⟨aq, cq, hql⟩ := hn'.row.slice
      have HB2 : Hid (TB w w2 c (.slice av nv cv) m ∧ New w2 TP (fun b => w.heap.size + 2 ≤ b) q ∧ q.bare = c.p.bare ∧ (∃ ao n k, q.lv = .slice ao n k) ∧ m.map Im.r = c.rows) := by
        obtain ⟨g1, g2⟩ := HB1.out
        have h3 := g1.size
        exact ⟨g1.below hb, hn'.imp fun b h _ => by omega, hq, ⟨_, _, _, hql⟩, g2⟩
      clear HB1 HP hq hn' hb hql
      go_wp2_with (first
        | (refine step_cstoreP rfl _ _ rfl w.heap.size q { c with iv := .slice av nv cv, ims := m } rfl rfl HB2.out.2.2.2.1 HB2.out.1.cc ?_; intro w3 h31 h32
           have HB3 : Hid (CB w3 w.heap.size { c with iv := .slice av nv cv, ims := m, p := q } ∧ CB w3 (w.heap.size + 1) zeroC ∧ NewC w3 (w.heap.size + 2) { c with iv := .slice av nv cv, ims := m, p := q } ∧ Below w.heap.size w w3) := (by
            obtain ⟨⟨g1, g2, g3, g4⟩, g5, g6, g7, _⟩ := HB2.out
            exact ⟨h31, g2.sv h32 (by omega), ⟨HK.out.1, g3.sv h32 fun k hk e => by omega, g5.sv h32 fun k hk e => by omega⟩, g4.trans (h32.below g4.size fun k hk e => by omega)⟩)
           clear h31 h32)
        | (refine step_cload rfl _ rfl w.heap.size { c with iv := .slice av nv cv, ims := m, p := q } rfl HB3.out.1 ?_)
        | (refine step_cstore rfl _ _ rfl (w.heap.size + 1) { c with iv := .slice av nv cv, ims := m, p := q } zeroC rfl rfl ⟨⟨_, _, _, rfl⟩, HB2.out.2.2.2.1⟩ HB3.out.2.1 ?_; intro w4 h41 h42)
        | fail)
      refine bodyPost_ret (ret_c Tryd.results25 (w.heap.size + 1) { c with iv := .slice av nv cv, ims := m, p := q } rfl h41) rfl ⟨_, rfl, ⟨rfl, rfl, rfl, rfl, HB2.out.2.2.2.2, HB2.out.2.2.1⟩, ?_, ?_⟩
      · exact (HB3.out.2.2.1.sv h42 fun k hk e => by omega).mono (by omega)
      · exact HB3.out.2.2.2.trans (h42.below HB3.out.2.2.2.size fun k hk e => by omega)
end Go.Proofs.YtkkbbpldeeajaaaDoor.Val
/- Plain: a claim's rows as they may be written, whatever they hold; the boxes of the law ClaimOwn. -/
namespace Go.Proofs.YtkkbbpldeeajaaaDoor.Val
open Go Go.RowKit
set_option maxRecDepth 100000

/-- A block of a type with room for so many cells, that may be written. -/
def Room (w : World) (g : Nat) (T : TypeId) (n : Nat) : Prop := ∃ cur : Array Value, w.heap[g]? = some (.cells cur T (0, 0)) ∧ n ≤ cur.size
theorem Room.sv {X : Nat → Prop} {w w' : World} {g n : Nat} {T : TypeId} (h : Room w g T n) (hs : Sv X w w') (hx : ¬ X g) : Room w' g T n := by
  obtain ⟨cur, h1, h2⟩ := h
  exact ⟨cur, (hs.block g (Array.getElem?_eq_some_iff.1 h1).1 hx).trans h1, h2⟩
theorem Room.set {w : World} {g n : Nat} {T : TypeId} (h : Room w g T n) (j : Nat) (u : Value) : Room (w.setCell ⟨g, j, none⟩ u) g T n := by
  obtain ⟨cur, h1, h2⟩ := h
  exact ⟨_, heap_setCell_same w g j _ _ u h1, by rw [Array.size_setIfInBounds]; exact h2⟩
theorem Room.cell {w : World} {g n : Nat} {T : TypeId} (h : Room w g T n) (j : Nat) (hj : j < n) : ∃ u, w.cell? ⟨g, j, none⟩ = some u := by
  obtain ⟨cur, h1, h2⟩ := h
  rw [cell_of_row w g j _ _ _ h1]
  exact ⟨_, Array.getElem?_eq_getElem (by omega)⟩
theorem Room.free {w : World} {g n : Nat} {T : TypeId} (h : Room w g T n) (j : Nat) : w.frozen? ⟨g, j, none⟩ = false := by
  obtain ⟨cur, h1, _⟩ := h
  simp [World.frozen?, h1]
/-- Some cells of one block are written. -/
structure Wr (w w' : World) (g : Nat) (T : TypeId) : Prop where
  sv : Sv (· = g) w w'
  room : ∀ n, Room w g T n → Room w' g T n
  has : Room w g T 0
theorem Wr.one {w : World} {g n : Nat} {T : TypeId} (h : Room w g T n) (j : Nat) (u : Value) : Wr w (w.setCell ⟨g, j, none⟩ u) g T :=
  ⟨Sv.set (X := (· = g)) (Sv.refl _ w) (a := ⟨g, j, none⟩) rfl u, fun _ hn => hn.set j u, by obtain ⟨c, h1, _⟩ := h; exact ⟨c, h1, Nat.zero_le _⟩⟩
theorem Wr.trans {w w1 w2 : World} {g : Nat} {T : TypeId} (h : Wr w w1 g T) (k : Wr w1 w2 g T) : Wr w w2 g T := ⟨h.sv.trans k.sv, fun n hn => k.room n (h.room n hn), h.has⟩
theorem Wr.three {w : World} {g n : Nat} {T : TypeId} (h : Room w g T n) (j k l : Nat) (u v x : Value) : Wr w (((w.setCell ⟨g, j, none⟩ u).setCell ⟨g, k, none⟩ v).setCell ⟨g, l, none⟩ x) g T :=
  ((Wr.one h j u).trans (Wr.one (h.set j u) k v)).trans (Wr.one ((h.set j u).set k v) l x)
/-- Another block's room is kept, and that of the same block. -/
theorem Wr.keep {w w' : World} {g g' n : Nat} {T T' : TypeId} (h : Wr w w' g T) (hr : Room w g' T' n) : Room w' g' T' n := by
  by_cases e : g' = g
  · subst e
    obtain ⟨c, h1, _⟩ := h.has
    have hr' := hr
    obtain ⟨c', h1', _⟩ := hr'
    rw [h1] at h1'
    simp at h1'
    rw [← h1'.2] at hr ⊢
    exact h.room n hr
  · exact hr.sv h.sv e
/-- A claim whose images and parts lie in blocks from A on, below B, that may be written; what they hold is not told. -/
structure Shp (w : World) (A B : Nat) (d : CP) : Prop where
  iv : w.ownsRow A TRo 1 d.iv d.ims.length (d.ims.map Im.v)
  rows : ∀ i ∈ d.ims, (i.r.length = 0 ∧ ∃ ao c, i.v = .slice ao 0 c) ∨ ∃ g c, i.v = .slice (some ⟨g, 0, none⟩) i.r.length c ∧ A ≤ g ∧ g < B ∧ Room w g TVa (i.r.length * 3)
  parts : (d.p.l.length = 0 ∧ ∃ ao c, d.p.lv = .slice ao 0 c) ∨ ∃ g c, d.p.lv = .slice (some ⟨g, 0, none⟩) d.p.l.length c ∧ A ≤ g ∧ g < B ∧ Room w g TP (d.p.l.length * 9)
  le : d.ims.length ≤ 9223372036854775807 ∧ (∀ i ∈ d.ims, i.r.length ≤ 9223372036854775807) ∧ d.p.l.length ≤ 9223372036854775807
theorem own_le {w : World} {A s n : Nat} {T : TypeId} {v : Value} {xs : List Value} (h : w.ownsRow A T s v n xs) : n ≤ 9223372036854775807 := by
  obtain ⟨_, _, _, h⟩ := (owns_lies h).slice
  exact h
theorem own_room {w : World} {A s n : Nat} {T : TypeId} {v : Value} {xs : List Value} (h : w.ownsRow A T s v n xs) : (n = 0 ∧ ∃ ao c, v = .slice ao 0 c) ∨ ∃ g c, v = .slice (some ⟨g, 0, none⟩) n c ∧ A ≤ g ∧ g < w.heap.size ∧ Room w g T (n * s) := by
  rcases h.2 with ⟨rfl, h0⟩ | ⟨g, cap, cur, rfl, hb, hg, hn, _, hs, _⟩
  · exact .inl ⟨h0, _, _, rfl⟩
  · exact .inr ⟨g, cap, rfl, hb, (Array.getElem?_eq_some_iff.1 hg).1, cur, hg, by rw [hs]; exact Nat.mul_le_mul_right _ hn⟩
theorem NewC.shp {w : World} {A : Nat} {d : CP} (h : NewC w A d) : Shp w A w.heap.size d := by
  refine ⟨h.ims.1, fun i hi => own_room (h.ims.2 i hi), ?_, own_le h.ims.1, fun i hi => own_le (h.ims.2 i hi), own_le h.p.row.1⟩
  obtain ⟨h1, h2, _⟩ := h.p.row
  rcases own_room h1 with h | ⟨g, c, e, _, k2, k3⟩
  · exact .inl h
  · exact .inr ⟨g, c, e, h2 g (by rw [e]; rfl), k2, k3⟩
theorem Shp.of {w w' : World} {A B : Nat} {d : CP} (h : Shp w A B d) (hr : ∀ g T n, A ≤ g → Room w g T n → Room w' g T n) (hi : w'.ownsRow A TRo 1 d.iv d.ims.length (d.ims.map Im.v)) : Shp w' A B d := by
  refine ⟨hi, fun i hm => ?_, ?_, h.le⟩
  · rcases h.rows i hm with h | ⟨g, c, e, h1, h2, h3⟩
    · exact .inl h
    · exact .inr ⟨g, c, e, h1, h2, hr _ _ _ h1 h3⟩
  · rcases h.parts with h | ⟨g, c, e, h1, h2, h3⟩
    · exact .inl h
    · exact .inr ⟨g, c, e, h1, h2, hr _ _ _ h1 h3⟩
theorem Shp.below {w w' : World} {A B : Nat} {d : CP} (h : Shp w A B d) (hb : Below w.heap.size w w') : Shp w' A B d :=
  h.of (fun _ _ _ _ hr => hr.sv (X := Nothing) (Sv.of hb) fun h => h) (owns_sv (X := Nothing) h.iv (Sv.of hb) fun _ _ h => h)
theorem Shp.wr {w w' : World} {A B g : Nat} {T : TypeId} {d : CP} (h : Shp w A B d) (hw : Wr w w' g T) (hT : T ≠ TRo) : Shp w' A B d := by
  refine h.of (fun _ _ _ _ hr => hw.keep hr) (owns_sv h.iv hw.sv fun k hk e => ?_)
  subst e
  obtain ⟨c, h1, _⟩ := hw.has
  rcases h.iv.2 with ⟨e, _⟩ | ⟨g, cap, cur, e, _, hg, _⟩
  · rw [e] at hk; cases hk
  · rw [e] at hk
    have e1 : g = k := by simpa [Value.ownBlock] using hk
    subst e1
    rw [h1] at hg
    simp at hg
    exact hT hg.2
/-- Behind any writing into a claim's rows and parts. -/
structure Ph (wS w : World) (A B : Nat) (d : CP) : Prop where
  sv : Sv (fun k => A ≤ k ∧ k < B) wS w
  sh : Shp w A B d
theorem Ph.start {w : World} {A B : Nat} {d : CP} (h : Shp w A B d) : Ph w w A B d := ⟨Sv.refl _ _, h⟩
theorem Ph.drew {wS w : World} {A B : Nat} {d : CP} (h : Ph wS w A B d) : Ph wS w.drew A B d := ⟨h.sv.trans (Sv.of (Below.refl _ _).drew), h.sh.below (Below.refl _ _).drew⟩
theorem Ph.wr {wS w w' : World} {A B g : Nat} {T : TypeId} {d : CP} (h : Ph wS w A B d) (hw : Wr w w' g T) (hA : A ≤ g) (hB : g < B) (hT : T ≠ TRo) : Ph wS w' A B d :=
  ⟨h.sv.trans ⟨hw.sv.os, hw.sv.tape, hw.sv.output, hw.sv.size, fun b hb hx => hw.sv.block b hb fun e => hx (by subst e; exact ⟨hA, hB⟩)⟩, h.sh.wr hw hT⟩
theorem Shp.ivs {w : World} {A B : Nat} {d : CP} (h : Shp w A B d) : ∃ ao c, d.iv = .slice ao d.ims.length c := by
  obtain ⟨ao, c, e, _⟩ := (owns_lies h.iv).slice; exact ⟨ao, c, e⟩
theorem Shp.lvs {w : World} {A B : Nat} {d : CP} (h : Shp w A B d) : ∃ ao c, d.p.lv = .slice ao d.p.l.length c := by
  rcases h.parts with ⟨h0, ao, c, e⟩ | ⟨g, c, e, _⟩
  · exact ⟨ao, c, by rw [e, h0]⟩
  · exact ⟨_, c, e⟩
theorem Shp.at {w : World} {A B k c : Nat} {ao : Option Addr} {d : CP} (h : Shp w A B d) (e : d.iv = .slice ao d.ims.length c) (hk : k < d.ims.length) : ∃ b, ao = some ⟨b, 0, none⟩ ∧ ∀ w', Shp w' A B d → w'.cell? ⟨b, k, none⟩ = some d.ims[k].v := by
  rcases h.iv.2 with ⟨_, h0⟩ | ⟨g, cap, cur, e2, _⟩
  · omega
  · rw [e] at e2
    have e3 : ao = some ⟨g, 0, none⟩ := by injection e2
    refine ⟨g, e3, fun w' h' => ?_⟩
    have h2 := h'.iv
    rw [e, e3] at h2
    rw [World.ownsRow.cellAt h2 k (by omega), List.getElem?_map, List.getElem?_eq_getElem hk]
    rfl
theorem Shp.row {w : World} {A B k : Nat} {d : CP} (h : Shp w A B d) (hk : k < d.ims.length) : ∃ ao c, d.ims[k].v = .slice ao d.ims[k].r.length c ∧ (0 < d.ims[k].r.length → ∃ g, ao = some ⟨g, 0, none⟩ ∧ A ≤ g ∧ g < B ∧ ∀ w', Shp w' A B d → Room w' g TVa (d.ims[k].r.length * 3)) := by
  rcases h.rows _ (List.getElem_mem hk) with ⟨h0, ao, c, e⟩ | ⟨g, c, e, h1, h2, _⟩
  · exact ⟨ao, c, by rw [e, h0], fun h => by omega⟩
  · refine ⟨_, c, e, fun h0 => ⟨g, rfl, h1, h2, fun w' h' => ?_⟩⟩
    rcases h'.rows _ (List.getElem_mem hk) with ⟨h0', _⟩ | ⟨g', c', e', _, _, h3⟩
    · omega
    · rw [e] at e'
      injection e' with e1
      injection e1 with e1
      injection e1 with e1
      rw [e1]; exact h3
theorem Shp.part {w : World} {A B : Nat} {ao : Option Addr} {c : Nat} {d : CP} (h : Shp w A B d) (e : d.p.lv = .slice ao d.p.l.length c) (h0 : 0 < d.p.l.length) : ∃ g, ao = some ⟨g, 0, none⟩ ∧ A ≤ g ∧ g < B ∧ ∀ w', Shp w' A B d → Room w' g TP (d.p.l.length * 9) := by
  rcases h.parts with ⟨h1, _⟩ | ⟨g, c', e', h1, h2, _⟩
  · omega
  · rw [e] at e'
    have e3 : ao = some ⟨g, 0, none⟩ := by injection e'
    refine ⟨g, e3, h1, h2, fun w' h' => ?_⟩
    rcases h'.parts with ⟨h1', _⟩ | ⟨g', c2, e2, _, _, h3⟩
    · omega
    · rw [e, e3] at e2
      injection e2 with e4
      injection e4 with e4
      injection e4 with e4
      rw [e4]; exact h3
/-- The boxes of the law's arguments. -/
structure OB (w0 w : World) (a b : CP) (v : Val) : Prop where
  ab : AB w0 w a b
  v0 : w.cell? ⟨w0.heap.size + 2, 0, none⟩ = some (.bool v.t)
  v1 : w.cell? ⟨w0.heap.size + 2, 1, none⟩ = some (.int .i64 v.n)
  v2 : w.cell? ⟨w0.heap.size + 2, 2, none⟩ = some (.string v.s)
theorem OB.new (w : World) (a b : CP) (v : Val) : OB w (((w.alloc (cobj a TC)).alloc (cobj b TC)).alloc (.cells #[.bool v.t, .int .i64 v.n, .string v.s] TVa)) a b v := by
  refine ⟨(AB.new w a b).below (alloc1 _ _), ?_, ?_, ?_⟩ <;> simp [go_sem]
theorem OB.lt {w0 w : World} {a b : CP} {v : Val} (h : OB w0 w a b v) : w0.heap.size + 3 ≤ w.heap.size := World.block_lt_of_cell? w _ h.v0
theorem OB.sv {X : Nat → Prop} {w0 w w' : World} {a b : CP} {v : Val} (h : OB w0 w a b v) (hs : Sv X w w') (hx : ∀ k, k < w0.heap.size + 3 → ¬ X k) : OB w0 w' a b v := by
  have hl : w0.heap.size + 2 < w.heap.size := h.lt
  have hx2 : ¬ X (w0.heap.size + 2) := hx _ (by omega)
  refine ⟨⟨h.ab.ca.sv hs (hx _ (by omega)), h.ab.cb.sv hs (hx _ (by omega)), h.ab.bel.trans (hs.below h.ab.bel.size fun k hk => hx k (by omega))⟩, ?_, ?_, ?_⟩
  · rw [hs.cell (p := ⟨w0.heap.size + 2, 0, none⟩) hl hx2]; exact h.v0
  · rw [hs.cell (p := ⟨w0.heap.size + 2, 1, none⟩) hl hx2]; exact h.v1
  · rw [hs.cell (p := ⟨w0.heap.size + 2, 2, none⟩) hl hx2]; exact h.v2
theorem OB.below {w0 w w' : World} {a b : CP} {v : Val} (h : OB w0 w a b v) (hb : Below w.heap.size w w') : OB w0 w' a b v := h.sv (X := Nothing) (Sv.of hb) fun _ _ h => h
/-- What lies elsewhere while a claim's rows are written: the boxes, and that claim's own. -/
structure OY (w0 w : World) (a b : CP) (v : Val) (Bx : Nat) (d : CP) (A : Nat) : Prop where
  ob : OB w0 w a b v
  cb : CB w Bx d
  lo : w0.heap.size + 3 ≤ A
  hi : A ≤ Bx
theorem OY.ph {w0 wS w : World} {a b d : CP} {v : Val} {Bx A : Nat} (h : OY w0 wS a b v Bx d A) (hp : Ph wS w A Bx d) : OY w0 w a b v Bx d A :=
  have hl := h.lo
  ⟨h.ob.sv hp.sv fun k hk hx => by omega, h.cb.sv hp.sv fun hx => by omega, hl, h.hi⟩
/-- What is behind the first claim's writing. -/
theorem ph_below {wE wS w : World} {B : Nat} {d : CP} (hb : Below wE.heap.size wE wS) (hp : Ph wS w wE.heap.size B d) : Below wE.heap.size wE w :=
  hb.trans (hp.sv.below hb.size fun k hk hx => by omega)
/-- What lies ahead of the second claim that is joined. -/
structure PE (w0 w : World) (a b : CP) (v : Val) (A C D O : Nat) (c o : CP) : Prop where
  ob : OB w0 w a b v
  cc : CB w C c
  sc : Shp w A C c
  co : CB w O o
  no : NewC w D o
  n1 : w0.heap.size + 3 ≤ A
  n2 : A ≤ C
  n3 : C ≤ D
  n4 : D ≤ O
theorem PE.below {w0 w w' : World} {a b c o : CP} {v : Val} {A C D O : Nat} (h : PE w0 w a b v A C D O c o) (hb : Below w.heap.size w w') : PE w0 w' a b v A C D O c o :=
  ⟨h.ob.below hb, h.cc.below hb, h.sc.below hb, h.co.below hb, h.no.below hb, h.n1, h.n2, h.n3, h.n4⟩
/-- The claim that is joined, in its box. -/
theorem PE.joined {w0 w8 w9 w10 : World} {a b c o j : CP} {v : Val} {A C D O : Nat} {x : Obj} (h : PE w0 w8 a b v A C D O c o) (hn : NewC w9 w8.heap.size j) (hb : Below w8.heap.size w8 w9) (h1 : CB w10 w9.heap.size j) (h2 : Sv (fun k => k = w9.heap.size) (w9.alloc x) w10) :
    Below w8.heap.size w8 w10 ∧ OY w0 w10 a b v w9.heap.size j w8.heap.size ∧ Shp w10 w8.heap.size w9.heap.size j := by
  have hs : Below w9.heap.size w9 w10 := (alloc1 w9 x).trans (h2.below (by simp) fun k hk e => by omega)
  have hb' := on hb hs
  exact ⟨hb', ⟨h.ob.below hb', h1, h.ob.lt, hb.size⟩, hn.shp.below hs⟩
/-- Behind its writing. -/
theorem PE.second {w0 wE wS w : World} {a b c o d : CP} {v : Val} {A C D O B : Nat} (h : PE w0 wE a b v A C D O c o) (hb : Below wE.heap.size wE wS) (hp : Ph wS w wE.heap.size B d) : PE w0 w a b v A C D O c o ∧ OY w0 w a b v C c A ∧ Shp w A C c := by
  have h' := h.below (ph_below hb hp)
  exact ⟨h', ⟨h'.ob, h'.cc, h'.n1, h'.n2⟩, h'.sc⟩
/-- In the end. -/
theorem PE.last {w0 wS w : World} {a b c o : CP} {v : Val} {A C D O : Nat} (h : PE w0 wS a b v A C D O c o) (hp : Ph wS w A C c) : OB w0 w a b v ∧ CB w O o ∧ NewC w D o := by
  obtain ⟨ob, cc, sc, co, no, n1, n2, n3, n4⟩ := h
  exact ⟨ob.sv hp.sv fun k hk hx => by omega, co.sv hp.sv fun hx => by omega, no.sv hp.sv fun k hk hx => by omega⟩
end Go.Proofs.YtkkbbpldeeajaaaDoor.Val
