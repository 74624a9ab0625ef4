/- What the reference's Same answers. -/
import Derived.Test.YtkkbbpldeeajaaaDoorUQ
import Derived.Deep.RegionHeld3
import Derived.Test.YtkkbbpldeeajaaaDoorUC1
import Derived.Test.YtkkbbpldeeajaaaDoorUM
namespace Go.Proofs.YtkkbbpldeeajaaaDoor.Val
open Go.RowKit

/-- Two predicates' boxes. -/
structure BB (N : Nat) (p q : PT) (w : World) : Prop where
  pp : Box w N p
  pq : Box w (N + 1) q
theorem BB.below {N : Nat} {p q : PT} {w w' : World} (h : BB N p q w) (hb : Below w.heap.size w w') : BB N p q w' := ⟨h.pp.below hb, h.pq.below hb⟩
theorem BB.new (w : World) (p q : PT) (T1 T2 : TypeId) : BB w.heap.size p q ((w.alloc (pobj p T1)).alloc (pobj q T2)) := by
  refine ⟨(Box.new w p T1).alloc _, ?_⟩
  have := Box.new (w.alloc (pobj p T1)) q T2; simpa using this
set_option maxHeartbeats 4000000 in
theorem rpsame_no (p q : PT) (ap aq : Option Addr) (cp cq : Nat) (w : World) (hlp : p.lv = .slice ap p.l.length cp) (hlq : q.lv = .slice aq q.l.length cq)
    (h : (p.op != q.op) = true ∨ ((p.op != q.op) = false ∧ (p.col != q.col) = true) ∨ ((p.op != q.op) = false ∧ (p.col != q.col) = false ∧ eqV p.v q.v = false) ∨ ((p.op != q.op) = false ∧ (p.col != q.col) = false ∧ eqV p.v q.v = true ∧ eqV p.w q.w = false) ∨ ((p.op != q.op) = false ∧ (p.col != q.col) = false ∧ eqV p.v q.v = true ∧ eqV p.w q.w = true ∧ ((p.l.length : Int) != (q.l.length : Int)) = true)) :
    Calls Tryd.prog 34 #[p.val, q.val] w fun e w' => e = .returned (.bool false) ∧ Below w.heap.size w w' := by
  have ev := fun w => neq_V p.v q.v w
  have eu := fun w => neq_V p.w q.w w
  unfold PT.val
  rw [hlp, hlq]
  clear hlp hlq
  rcases h with h | ⟨h1, h⟩ | ⟨h1, h2, h⟩ | ⟨h1, h2, h3, h⟩ | ⟨h1, h2, h3, h4, h⟩
  · go_enter Tryd.func34, Tryd.ntmps34
    go_wp2_with fail
    go_ret
    exact ⟨rfl, back1 (alloc1 _ _)⟩
  · go_enter Tryd.func34, Tryd.ntmps34
    go_wp2_with fail
    go_ret
    exact ⟨rfl, back1 (alloc1 _ _)⟩
  · go_enter Tryd.func34, Tryd.ntmps34
    go_wp2_with fail
    go_ret
    exact ⟨rfl, back1 (alloc1 _ _)⟩
  · go_enter Tryd.func34, Tryd.ntmps34
    go_wp2_with fail
    go_ret
    exact ⟨rfl, back1 (alloc1 _ _)⟩
  · go_enter Tryd.func34, Tryd.ntmps34
    go_wp2_with fail
    go_ret
    exact ⟨rfl, back1 (alloc1 _ _)⟩
set_option maxHeartbeats 8000000 in
theorem rpsame_loop (p q : PT) (ap aq : Option Addr) (cp cq : Nat) (w : World) (hp : In w p) (hq : In w q) (hlp : p.lv = .slice ap p.l.length cp) (hlq : q.lv = .slice aq q.l.length cq) (hln : p.l.length ≤ 9223372036854775807)
    (h1 : (p.op != q.op) = false) (h2 : (p.col != q.col) = false) (h3 : eqV p.v q.v = true) (h4 : eqV p.w q.w = true) (h5 : p.l.length = q.l.length) (ih : ∀ x ∈ p.l, ∀ y, SameOk 34 x y) :
    Calls Tryd.prog 34 #[p.val, q.val] w fun e w' => ∃ b, e = .returned (.bool b) ∧ (b = true ↔ p.l.map PT.bare = q.l.map PT.bare) ∧ Below w.heap.size w w' := by
  have ev := fun w => neq_V p.v q.v w
  have eu := fun w => neq_V p.w q.w w
  have HLen : Hid (p.l.length = q.l.length) := h5
  rw [← h5] at hlq
  have HI : Hid (In w p ∧ In w q ∧ ∀ x ∈ p.l, ∀ y, SameOk 34 x y) := ⟨hp, hq, ih⟩
  have HLV : Hid (p.lv = .slice ap p.l.length cp ∧ q.lv = .slice aq p.l.length cq) := ⟨hlp, hlq⟩
  have HT : Hid _ := BB.new w p q 29 29
  rw [pobj, pobj, hlp, hlq] at HT
  clear hp hq ih h5
  unfold PT.val
  rw [hlp, hlq]
  clear hlp hlq
  go_enter Tryd.func34, Tryd.ntmps34
  go_wp2_with fail
  go_loopw [5] (fun i wr => ∃ k : Nat, k ≤ p.l.length ∧ i = .int .i64 k ∧ Hid ((p.l.take k).map PT.bare = (q.l.take k).map PT.bare) ∧ Hid (Below w.heap.size w wr ∧ BB w.heap.size p q wr))
    (fun i _ => p.l.length - (intOf i).toNat)
  case atStart => exact ⟨0, Nat.zero_le _, rfl, by simp [Hid], back1 (alloc1 _ _), HT.out⟩
  case round =>
    clear HT ev eu h1 h2 h3 h4
    obtain ⟨k, hk, rfl, HTk, HB⟩ := hrel
    have c8 := HB.out.2.pp.c8
    have d8 := HB.out.2.pq.c8
    rw [HLV.out.1] at c8
    rw [HLV.out.2] at d8
    have hlt : w.heap.size + 1 < wr.heap.size := World.block_lt_of_cell? _ _ d8
    by_cases h1 : k < p.l.length
    · have i0 : (0 : Int) ≤ (k : Int) := by omega
      have i1 : (k : Int) < (p.l.length : Int) := by omega
      have h2 : k < q.l.length := by rw [← HLen.out]; exact h1
      have hinp : In wr p := HI.out.1.keep HB.out.1
      have hinq : In wr q := HI.out.2.1.keep HB.out.1
      have hl := hinp.lies
      have hl' := hinq.lies
      rw [HLV.out.1] at hl
      rw [HLV.out.2] at hl'
      obtain ⟨b, o, rfl, hat⟩ := lies_at hl k h1
      obtain ⟨b', o', rfl, hat'⟩ := lies_at hl' k h2
      have hm := List.getElem_mem h1
      have hm' := List.getElem_mem h2
      have HQ : Hid (∀ w1, Below w.heap.size w w1 → Calls Tryd.prog 34 #[p.l[k].val, q.l[k].val] w1 fun e w' => ∃ b, e = .returned (.bool b) ∧ (b = true ↔ p.l[k].bare = q.l[k].bare) ∧ Below w1.heap.size w1 w') :=
        fun w1 hb => HI.out.2.2 _ hm _ w1 ((HI.out.1.part _ hm).keep hb) ((HI.out.2.1.part _ hm').keep hb)
      have A0 := hat.below (w' := wr.drew) (Below.refl _ _).drew
      have B0 := hat'.below (w' := wr.drew) (Below.refl _ _).drew
      have T0 : BB w.heap.size p q wr.drew := HB.out.2.below (Below.refl _ _).drew
      have HBd : Below w.heap.size w wr.drew := HB.out.1.drew
      have hc8 : ∀ w1, BB w.heap.size p q w1 → w1.cell? ⟨w.heap.size, 8, none⟩ = some (.slice (some ⟨b, o, none⟩) p.l.length cp) := fun w1 h => by rw [h.pp.c8, HLV.out.1]
      have hd8 : ∀ w1, BB w.heap.size p q w1 → w1.cell? ⟨w.heap.size + 1, 8, none⟩ = some (.slice (some ⟨b', o', none⟩) p.l.length cq) := fun w1 h => by rw [h.pq.c8, HLV.out.2]
      clear hm hm' hl hl' hinp hinq hat hat'
      unfold PT.val at HQ
      go_wp2_with fail
      refine wp_region_held_drew (S := fun w' => w'.cell? ⟨w.heap.size, 8, none⟩ = some (.slice (some ⟨b, o, none⟩) p.l.length cp) ∧ w'.cell? ⟨w.heap.size + 1, 8, none⟩ = some (.slice (some ⟨b', o', none⟩) p.l.length cq) ∧ (w'.cell? ⟨b, o + k * 9, none⟩ = some (.int .i64 p.l[k].op) ∧ w'.cell? ⟨b, o + k * 9 + 1, none⟩ = some (.int .i64 p.l[k].col) ∧ w'.cell? ⟨b, o + k * 9 + 2, none⟩ = some (.bool p.l[k].v.t) ∧ w'.cell? ⟨b, o + k * 9 + 3, none⟩ = some (.int .i64 p.l[k].v.n) ∧ w'.cell? ⟨b, o + k * 9 + 4, none⟩ = some (.string p.l[k].v.s) ∧ w'.cell? ⟨b, o + k * 9 + 5, none⟩ = some (.bool p.l[k].w.t) ∧ w'.cell? ⟨b, o + k * 9 + 6, none⟩ = some (.int .i64 p.l[k].w.n) ∧ w'.cell? ⟨b, o + k * 9 + 7, none⟩ = some (.string p.l[k].w.s) ∧ w'.cell? ⟨b, o + k * 9 + 8, none⟩ = some p.l[k].lv) ∧ (w'.cell? ⟨b', o' + k * 9, none⟩ = some (.int .i64 q.l[k].op) ∧ w'.cell? ⟨b', o' + k * 9 + 1, none⟩ = some (.int .i64 q.l[k].col) ∧ w'.cell? ⟨b', o' + k * 9 + 2, none⟩ = some (.bool q.l[k].v.t) ∧ w'.cell? ⟨b', o' + k * 9 + 3, none⟩ = some (.int .i64 q.l[k].v.n) ∧ w'.cell? ⟨b', o' + k * 9 + 4, none⟩ = some (.string q.l[k].v.s) ∧ w'.cell? ⟨b', o' + k * 9 + 5, none⟩ = some (.bool q.l[k].w.t) ∧ w'.cell? ⟨b', o' + k * 9 + 6, none⟩ = some (.int .i64 q.l[k].w.n) ∧ w'.cell? ⟨b', o' + k * 9 + 7, none⟩ = some (.string q.l[k].w.s) ∧ w'.cell? ⟨b', o' + k * 9 + 8, none⟩ = some q.l[k].lv)) (by kernel_rfl) ?_ (fun hHeld => ?_)
      · exact ⟨hc8 _ T0, hd8 _ T0, ⟨A0.c0, A0.c1, A0.c2, A0.c3, A0.c4, A0.c5, A0.c6, A0.c7, A0.c8⟩, ⟨B0.c0, B0.c1, B0.c2, B0.c3, B0.c4, B0.c5, B0.c6, B0.c7, B0.c8⟩⟩
      (try clear hK K)
      refine wpAnyH_take (i := 0) (v := ?_) rfl (by kernel_rfl) (by kernel_rfl) (by kernel_rfl) (fun _ _ _ h => h) (Or.inl ⟨by rfl, ?_⟩) (by assumption) ?_
      rotate_left
      · intro w hSw; (try dsimp only at hSw); go_simp; (try with_reducible rfl)
      (try simp only [Act.put, List.getElem_toArray, List.getElem_cons_zero, List.setIfInBounds_toArray, List.set_cons_zero, List.set_cons_succ])
      refine wpAnyH_take (i := 1) (v := ?_) rfl (by kernel_rfl) (by kernel_rfl) (by kernel_rfl) (fun _ _ _ h => h) (Or.inl ⟨by rfl, ?_⟩) (by assumption) ?_
      rotate_left
      · intro w hSw; (try dsimp only at hSw); go_simp; (try with_reducible rfl)
      (try simp only [Act.put, List.getElem_toArray, List.getElem_cons_succ, List.getElem_cons_zero, List.setIfInBounds_toArray, List.set_cons_zero, List.set_cons_succ])
      refine wpAnyH_take (i := 2) (v := ?_) rfl (by kernel_rfl) (by kernel_rfl) (by kernel_rfl) (fun _ _ _ h => h) (Or.inl ⟨by rfl, ?_⟩) (by assumption) ?_
      rotate_left
      · intro w hSw; (try dsimp only at hSw); go_simp; (try with_reducible rfl)
      (try simp only [Act.put, List.getElem_toArray, List.getElem_cons_succ, List.getElem_cons_zero, List.setIfInBounds_toArray, List.set_cons_zero, List.set_cons_succ])
      refine wpAnyH_take (i := 3) (v := ?_) rfl (by kernel_rfl) (by kernel_rfl) (by kernel_rfl) (fun _ _ _ h => h) (Or.inl ⟨by rfl, ?_⟩) (by assumption) ?_
      rotate_left
      · intro w hSw; (try dsimp only at hSw); go_simp; (try with_reducible rfl)
      (try simp only [Act.put, List.getElem_toArray, List.getElem_cons_succ, List.getElem_cons_zero, List.setIfInBounds_toArray, List.set_cons_zero, List.set_cons_succ])
      refine wpAnyH_take (i := 4) (v := ?_) rfl (by kernel_rfl) (by kernel_rfl) (by kernel_rfl) (fun _ _ _ h => h) (Or.inl ⟨by rfl, ?_⟩) (by assumption) ?_
      rotate_left
      · intro w hSw; (try dsimp only at hSw); go_simp; (try with_reducible rfl)
      (try simp only [Act.put, List.getElem_toArray, List.getElem_cons_succ, List.getElem_cons_zero, List.setIfInBounds_toArray, List.set_cons_zero, List.set_cons_succ])
      refine wpAnyH_take (i := 5) (v := ?_) rfl (by kernel_rfl) (by kernel_rfl) (by kernel_rfl) (fun _ _ _ h => h) (Or.inl ⟨by rfl, ?_⟩) (by assumption) ?_
      rotate_left
      · intro w hSw; (try dsimp only at hSw); go_simp; (try with_reducible rfl)
      (try simp only [Act.put, List.getElem_toArray, List.getElem_cons_succ, List.getElem_cons_zero, List.setIfInBounds_toArray, List.set_cons_zero, List.set_cons_succ])
      refine wpAnyH_take (i := 6) (v := ?_) rfl (by kernel_rfl) (by kernel_rfl) (by kernel_rfl) (fun _ _ _ h => h) (Or.inl ⟨by rfl, ?_⟩) (by assumption) ?_
      rotate_left
      · intro w hSw; (try dsimp only at hSw); go_simp; (try with_reducible rfl)
      (try simp only [Act.put, List.getElem_toArray, List.getElem_cons_succ, List.getElem_cons_zero, List.setIfInBounds_toArray, List.set_cons_zero, List.set_cons_succ])
      refine wpAnyH_take (i := 7) (v := ?_) rfl (by kernel_rfl) (by kernel_rfl) (by kernel_rfl) (fun _ _ _ h => h) (Or.inl ⟨by rfl, ?_⟩) (by assumption) ?_
      rotate_left
      · intro w hSw; (try dsimp only at hSw); go_simp; (try with_reducible rfl)
      (try simp only [Act.put, List.getElem_toArray, List.getElem_cons_succ, List.getElem_cons_zero, List.setIfInBounds_toArray, List.set_cons_zero, List.set_cons_succ])
      refine wpAnyH_take (i := 8) (v := ?_) rfl (by kernel_rfl) (by kernel_rfl) (by kernel_rfl) (fun _ _ _ h => h) (Or.inl ⟨by rfl, ?_⟩) (by assumption) ?_
      rotate_left
      · intro w hSw; (try dsimp only at hSw); go_simp; (try with_reducible rfl)
      (try simp only [Act.put, List.getElem_toArray, List.getElem_cons_succ, List.getElem_cons_zero, List.setIfInBounds_toArray, List.set_cons_zero, List.set_cons_succ])
      refine wpAnyH_take (i := 9) (v := ?_) rfl (by kernel_rfl) (by kernel_rfl) (by kernel_rfl) (fun _ _ _ h => h) (Or.inl ⟨by rfl, ?_⟩) (by assumption) ?_
      rotate_left
      · intro w hSw; (try dsimp only at hSw); go_simp; (try with_reducible rfl)
      (try simp only [Act.put, List.getElem_toArray, List.getElem_cons_succ, List.getElem_cons_zero, List.setIfInBounds_toArray, List.set_cons_zero, List.set_cons_succ])
      (try clear hK K)
      refine wpAnyH_ready (rs := [10]) (by kernel_rfl) (by simp) ?_
      refine AllReadyH.cons rfl (fun K hK => ?_) AllReadyH.nil
      go_simp
      (refine Calls.mono (HQ.out _ HBd) ?_; rintro e w1 ⟨bb, rfl, hiff, hb⟩; have T1 := T0.below hb; have HB1 := on HBd hb; have A1 := A0.below hb; have B1 := B0.below hb)
      refine hK.out _ _ ?_ (fun hHeld => ?_)
      · exact ⟨hc8 _ T1, hd8 _ T1, ⟨A1.c0, A1.c1, A1.c2, A1.c3, A1.c4, A1.c5, A1.c6, A1.c7, A1.c8⟩, ⟨B1.c0, B1.c1, B1.c2, B1.c3, B1.c4, B1.c5, B1.c6, B1.c7, B1.c8⟩⟩
      (try clear hK K)
      refine wpAnyH_take (i := 11) (v := ?_) rfl (by kernel_rfl) (by kernel_rfl) (by kernel_rfl) (fun _ _ _ h => h) (Or.inl ⟨by rfl, ?_⟩) (by assumption) ?_
      rotate_left
      · intro w hSw; (try dsimp only at hSw); go_simp; (try with_reducible rfl)
      (try simp only [Act.put, List.getElem_toArray, List.getElem_cons_succ, List.getElem_cons_zero, List.setIfInBounds_toArray, List.set_cons_zero, List.set_cons_succ])
      (try clear hK K)
      refine wpAnyH_done (by kernel_rfl) ?_ _
      have HX : Hid (Below w.heap.size w w1 ∧ BB w.heap.size p q w1) := ⟨HB1, T1⟩
      have HIF : Hid (bb = true ↔ p.l[k].bare = q.l[k].bare) := hiff
      clear hb HB1 T1 A1 B1 A0 B0 T0 HBd hc8 hd8 HB HQ c8 d8 hlt hiff
      cases bb
      · have HN : Hid (p.l.map PT.bare ≠ q.l.map PT.bare) := take_ne h1 h2 (by simpa using HIF.out)
        clear HIF HTk HI
        go_wp2_with fail
        go_ret
        exact ⟨false, rfl, by simpa using HN.out, HX.out.1⟩
      · have HN : Hid ((p.l.take (k + 1)).map PT.bare = (q.l.take (k + 1)).map PT.bare) := (take_bare h1 h2 HTk.out).2 (HIF.out.1 rfl)
        clear HIF HTk
        go_wp2_with fail
        go_roundw
        case rel => exact ⟨k + 1, by omega, by go_num, HN, HX⟩
        case measure => simp [intOf]; omega
    · have i1 : decide ((k : Int) < (p.l.length : Int)) = false := by simp; omega
      obtain rfl : k = p.l.length := by omega
      have HN : Hid (p.l.map PT.bare = q.l.map PT.bare) := by have := HTk.out; rw [List.take_length, HLen.out, List.take_length] at this; exact this
      clear HI HTk
      go_wp2_with fail
      go_ret
      exact ⟨true, rfl, by simpa using HN.out, HB.out.1⟩
theorem rpsame_any (p : PT) : ∀ q, SameOk 34 p q := by
  induction p using PT.ind with
  | h p ih =>
    intro q w hp hq
    obtain ⟨ap, cp, hlp, hn⟩ := hp.lies.slice
    obtain ⟨aq, cq, hlq, _⟩ := hq.lies.slice
    have HI := bare_iff p q
    have no : (h : ¬ p.bare = q.bare) → _ → Calls Tryd.prog 34 #[p.val, q.val] w fun e w' => ∃ b, e = .returned (.bool b) ∧ (b = true ↔ p.bare = q.bare) ∧ Below w.heap.size w w' :=
      fun h hc => (rpsame_no p q ap aq cp cq w hlp hlq hc).mono fun e w' h' => ⟨false, h'.1, by simpa using h, h'.2⟩
    cases h1 : (p.op != q.op)
    case true => exact no (fun e => by simp [(HI.1 e).1] at h1) (.inl h1)
    cases h2 : (p.col != q.col)
    case true => exact no (fun e => by simp [(HI.1 e).2.1] at h2) (.inr (.inl ⟨h1, h2⟩))
    cases h3 : eqV p.v q.v
    case false => exact no (fun e => by simp [eqV_iff.2 (HI.1 e).2.2.1] at h3) (.inr (.inr (.inl ⟨h1, h2, h3⟩)))
    cases h4 : eqV p.w q.w
    case false => exact no (fun e => by simp [eqV_iff.2 (HI.1 e).2.2.2.1] at h4) (.inr (.inr (.inr (.inl ⟨h1, h2, h3, h4⟩))))
    by_cases h5 : p.l.length = q.l.length
    · refine (rpsame_loop p q ap aq cp cq w hp hq hlp hlq hn h1 h2 h3 h4 h5 ih).mono ?_
      rintro e w' ⟨b, e1, e2, e3⟩
      refine ⟨b, e1, ?_, e3⟩
      rw [e2, HI]
      exact ⟨fun h => ⟨by simpa using h1, by simpa using h2, eqV_iff.1 h3, eqV_iff.1 h4, h⟩, fun h => h.2.2.2.2⟩
    · exact no (fun e => h5 (by simpa using congrArg List.length (HI.1 e).2.2.2.2)) (.inr (.inr (.inr (.inr ⟨h1, h2, h3, h4, by rw [bne_iff_ne]; omega⟩))))
end Go.Proofs.YtkkbbpldeeajaaaDoor.Val
/- What the document's Same, In and Rows answer. -/
namespace Go.Proofs.YtkkbbpldeeajaaaDoor.Val
open Go.RowKit
set_option maxRecDepth 100000

theorem rs_no {s : Bool} {a b : CP} (h : (a.kind != b.kind) = true) : sameC s a b = false := by
  have : (a.kind == b.kind) = false := by simpa using h
  simp [sameC, this]
theorem rs_t {s : Bool} {a b : CP} (h : (a.table != b.table) = true) : sameC s a b = false := by
  have : (a.table == b.table) = false := by simpa using h
  simp [sameC, this]
theorem rs_of {s : Bool} {a b : CP} (h : (a.kind != b.kind) = false) (ht : (a.table != b.table) = false) : sameC s a b = (a.kind == 1 || a.kind == 2 && eqV a.key b.key || a.kind == 3 && s) := by
  have h1 : (a.kind == b.kind) = true := by simpa using h
  have h2 : (a.table == b.table) = true := by simpa using ht
  simp [sameC, h1, h2]
set_option maxHeartbeats 2000000 in
theorem rcsame_any (a b : CP) (s : Bool) (hs : s = true ↔ a.p.bare = b.p.bare) (w : World) (ha : CIn w a) (hb : CIn w b) : Tells 16 #[a.val, b.val] w (.bool (sameC s a b)) := by
  have HP : Hid (∀ w1, Below w.heap.size w w1 → Tells 34 #[a.p.val, b.p.val] w1 (.bool s)) := fun w1 h => (rpsame_any a.p b.p w1 (ha.p.keep h) (hb.p.keep h)).mono (by
    rintro e w' ⟨b1, rfl, h1, h2⟩
    refine ⟨?_, h2⟩
    rw [Bool.eq_iff_iff.2 (h1.trans hs.symm)])
  have ev := fun w => eql_V a.key b.key w
  clear hs ha hb
  unfold PT.val at HP
  unfold CP.val
  cases h0 : (a.kind != b.kind)
  case true =>
    have HR : Hid _ := rs_no (s := s) h0
    clear HP
    go_enter Tryd.func16, Tryd.ntmps16
    go_wp2_with fail
    go_ret
    exact ⟨ret_bool HR.out.symm, back1 (alloc1 _ _)⟩
  cases h1 : (a.table != b.table)
  case true =>
    have HR : Hid _ := rs_t (s := s) h1
    clear HP
    go_enter Tryd.func16, Tryd.ntmps16
    go_wp2_with fail
    go_ret
    exact ⟨ret_bool HR.out.symm, back1 (alloc1 _ _)⟩
  have HR : Hid _ := rs_of (s := s) h0 h1
  cases k1 : (a.kind == 1)
  case true =>
    rw [k1] at HR
    clear HP
    go_enter Tryd.func16, Tryd.ntmps16
    go_wp2_with fail
    go_ret
    exact ⟨ret_bool HR.out.symm, back1 (alloc1 _ _)⟩
  cases k2 : (a.kind == 2)
  case true =>
    have k3 : (a.kind == 3) = false := by have := eq_of_beq k2; rw [this]; rfl
    rw [k1, k2, k3, Bool.false_or, Bool.true_and, Bool.false_and, Bool.or_false] at HR
    clear HP
    go_enter Tryd.func16, Tryd.ntmps16
    go_wp2_with fail
    go_ret
    exact ⟨ret_bool HR.out.symm, back1 (alloc1 _ _)⟩
  cases k3 : (a.kind == 3)
  case true =>
    rw [k1, k2, k3, Bool.false_or, Bool.false_and, Bool.true_and, Bool.false_or] at HR
    go_enter Tryd.func16, Tryd.ntmps16
    go_wp2_with fail
    refine Calls.mono (HP.out _ (back1 (alloc1 _ _))) ?_
    rintro e w1 ⟨rfl, hb⟩
    have HB : Hid (Below w.heap.size w w1) := back2 hb
    clear hb HP
    go_wp2_with fail
    go_ret
    exact ⟨ret_bool HR.out.symm, HB.out⟩
  rw [k1, k2, k3, Bool.false_or, Bool.false_and, Bool.false_and, Bool.false_or] at HR
  clear HP
  go_enter Tryd.func16, Tryd.ntmps16
  go_wp2_with fail
  go_ret
  exact ⟨ret_bool HR.out.symm, back1 (alloc1 _ _)⟩
theorem hasI_stop {l : List Im} {r : List Val} {k : Nat} (hk : k < l.length) (h : eqRow l[k].r r = true) : hasI (l.map Im.r) r = true := by
  rw [hasI_iff]
  exact List.mem_map.2 ⟨l[k], List.getElem_mem hk, eqRow_iff.1 h⟩
theorem hasI_end {l : List Im} {r : List Val} (h : ∀ (j : Nat) (hj : j < l.length), eqRow l[j].r r = false) : hasI (l.map Im.r) r = false := by
  rw [← Bool.not_eq_true, hasI_iff]
  intro hm
  obtain ⟨i, hi, e⟩ := List.mem_map.1 hm
  obtain ⟨j, hj, rfl⟩ := List.mem_iff_getElem.1 hi
  have := h j hj
  rw [eqRow_iff.2 e] at this
  cases this
set_option maxHeartbeats 2000000 in
theorem rin_any (lv vr : Value) (l : List Im) (r : List Val) (w : World) (hl : ImsIn w lv l) (hr : RowIn w vr r) :
    Calls Tryd.prog 44 #[lv, vr] w fun e w' => e = .returned (.bool (hasI (l.map Im.r) r)) ∧ Below w.heap.size w w' := by
  have HL : Hid (ImsIn w lv l) := hl
  have HR : Hid (RowIn w vr r) := hr
  obtain ⟨ao, c, rfl, hn⟩ := hl.slice
  obtain ⟨ar, cr, rfl, hnr⟩ := hr.slice
  clear hl hr
  go_enter Tryd.func44, Tryd.ntmps44
  go_wp2_with fail
  go_loopw [5, 6] (fun i _ wr => ∃ k : Nat, k ≤ l.length ∧ i = .int .i64 k ∧ Hid (∀ (j : Nat) (hj : j < l.length), j < k → eqRow l[j].r r = false) ∧ Hid (Below w.heap.size w wr))
    (fun i _ _ => l.length - (intOf i).toNat)
  case atStart => exact ⟨0, Nat.zero_le _, rfl, fun j _ hj => by omega, Below.refl _ _⟩
  case round =>
    obtain ⟨k, hk, rfl, HG, HB⟩ := hrel
    by_cases h1 : k < l.length
    · have i0 : (0 : Int) ≤ (k : Int) := by omega
      have i1 : (k : Int) < (l.length : Int) := by omega
      have hin := HL.out.below HB.out
      obtain ⟨b, o, rfl, hat⟩ := hin.at k h1
      have HS : Hid (Calls Tryd.prog 69 #[l[k].v, .slice ar r.length cr] wr fun e w' => e = .returned (.bool (eqRow l[k].r r)) ∧ Below wr.heap.size wr w') := rsame_any _ _ _ _ wr (hin.2 _ (List.getElem_mem h1)) (HR.out.below HB.out)
      obtain ⟨ak, ck, hvk, _⟩ := (hin.2 _ (List.getElem_mem h1)).slice
      rw [hvk] at hat HS
      clear hin hvk
      cases hg : eqRow l[k].r r
      · rw [hg] at HS
        have HG1 : Hid (∀ (j : Nat) (hj : j < l.length), j < k + 1 → eqRow l[j].r r = false) := fun j hj hk => by
          rcases Nat.lt_succ_iff_lt_or_eq.1 hk with h | rfl
          · exact HG.out j hj h
          · exact hg
        clear hg HG
        go_wp2_with fail
        refine Calls.mono HS.out ?_
        rintro e w1 ⟨rfl, hb1⟩
        have HB1 : Hid (Below w.heap.size w w1) := on HB.out hb1
        clear hb1 HB HS hat
        go_wp2_with fail
        go_roundw
        case rel => exact ⟨k + 1, by omega, by go_num, HG1, HB1⟩
        case measure => simp [intOf]; omega
      · rw [hg] at HS
        have HX : Hid (hasI (l.map Im.r) r = true) := hasI_stop h1 hg
        clear hg HG
        go_wp2_with fail
        refine Calls.mono HS.out ?_
        rintro e w1 ⟨rfl, hb1⟩
        have HB1 : Hid (Below w.heap.size w w1) := on HB.out hb1
        clear hb1 HB HS hat
        go_wp2_with fail
        go_ret
        exact ⟨ret_bool HX.out.symm, HB1.out⟩
    · have i1 : decide ((k : Int) < (l.length : Int)) = false := by simp; omega
      obtain rfl : k = l.length := by omega
      have HX : Hid (hasI (l.map Im.r) r = false) := hasI_end fun j hj => HG.out j hj hj
      clear HG HL HR
      go_wp2_with fail
      go_ret
      exact ⟨ret_bool HX.out.symm, HB.out⟩
end Go.Proofs.YtkkbbpldeeajaaaDoor.Val
/- What the document's Rows and Equal answer. -/
namespace Go.Proofs.YtkkbbpldeeajaaaDoor.Val
open Go.RowKit
set_option maxRecDepth 100000

def eqRows : List (List Val) → List (List Val) → Bool
  | [], [] => true
  | x :: l, y :: m => eqRow x y && eqRows l m
  | _, _ => false
theorem eqRows_iff {l m : List (List Val)} : eqRows l m = true ↔ l = m := by
  induction l generalizing m with
  | nil => cases m <;> simp [eqRows]
  | cons x l ih => cases m <;> simp [eqRows, eqRow_iff, ih]
theorem eqRows_len {l m : List Im} (h : ¬ l.length = m.length) : eqRows (l.map Im.r) (m.map Im.r) = false := by
  rw [← Bool.not_eq_true, eqRows_iff]
  intro e
  have := congrArg List.length e
  simp at this
  exact h this
theorem eqRows_stop {l m : List Im} {k : Nat} (h1 : k < l.length) (h2 : k < m.length) (h : eqRow l[k].r m[k].r = false) : eqRows (l.map Im.r) (m.map Im.r) = false := by
  rw [← Bool.not_eq_true, eqRows_iff]
  intro e
  have := congrArg (fun x => x[k]?) e
  simp [h1, h2] at this
  rw [this, eqRow_self] at h
  cases h
theorem eqRows_end {l m : List Im} (hl : l.length = m.length) (h : ∀ (j : Nat) (h1 : j < l.length) (h2 : j < m.length), eqRow l[j].r m[j].r = true) : eqRows (l.map Im.r) (m.map Im.r) = true := by
  rw [eqRows_iff]
  apply List.ext_getElem
  · simpa using hl
  · intro i h1 h2
    simp at h1 h2 ⊢
    exact eqRow_iff.1 (h i h1 h2)
set_option maxHeartbeats 4000000 in
theorem rrows_any (lv mv : Value) (l m : List Im) (w : World) (hl : ImsIn w lv l) (hm : ImsIn w mv m) :
    Calls Tryd.prog 45 #[lv, mv] w fun e w' => e = .returned (.bool (eqRows (l.map Im.r) (m.map Im.r))) ∧ Below w.heap.size w w' := by
  have HL : Hid (ImsIn w lv l ∧ ImsIn w mv m) := ⟨hl, hm⟩
  obtain ⟨ao, c, rfl, hn⟩ := hl.slice
  obtain ⟨am, cm, rfl, hnm⟩ := hm.slice
  clear hl hm
  by_cases hlen : l.length = m.length
  case neg =>
    have e1 : ((l.length : Int) != (m.length : Int)) = true := by simp; omega
    have HX : Hid (eqRows (l.map Im.r) (m.map Im.r) = false) := eqRows_len hlen
    clear HL
    go_enter Tryd.func45, Tryd.ntmps45
    go_wp2_with fail
    go_ret
    exact ⟨ret_bool HX.out.symm, Below.refl _ _⟩
  have e1 : ((l.length : Int) != (m.length : Int)) = false := by simp; omega
  have HLen : Hid (l.length = m.length) := hlen
  clear hlen
  go_enter Tryd.func45, Tryd.ntmps45
  go_wp2_with fail
  go_loopw [5, 6] (fun i _ wr => ∃ k : Nat, k ≤ l.length ∧ i = .int .i64 k ∧ Hid (∀ (j : Nat) (h1 : j < l.length) (h2 : j < m.length), j < k → eqRow l[j].r m[j].r = true) ∧ Hid (Below w.heap.size w wr))
    (fun i _ _ => l.length - (intOf i).toNat)
  case atStart => exact ⟨0, Nat.zero_le _, rfl, fun j _ _ hj => by omega, Below.refl _ _⟩
  case round =>
    obtain ⟨k, hk, rfl, HG, HB⟩ := hrel
    by_cases h1 : k < l.length
    · have h2 : k < m.length := by have := HLen.out; omega
      have i0 : (0 : Int) ≤ (k : Int) := by omega
      have i1 : (k : Int) < (l.length : Int) := by omega
      have i2 : (k : Int) < (m.length : Int) := by omega
      have hin := HL.out.1.below HB.out
      have hin2 := HL.out.2.below HB.out
      obtain ⟨b, o, rfl, hat⟩ := hin.at k h1
      obtain ⟨b2, o2, rfl, hat2⟩ := hin2.at k h2
      have HS : Hid (Calls Tryd.prog 69 #[l[k].v, m[k].v] wr.drew fun e w' => e = .returned (.bool (eqRow l[k].r m[k].r)) ∧ Below wr.drew.heap.size wr.drew w') := rsame_any _ _ _ _ wr.drew ((hin.2 _ (List.getElem_mem h1)).below (Below.refl _ _).drew) ((hin2.2 _ (List.getElem_mem h2)).below (Below.refl _ _).drew)
      obtain ⟨ak, ck, hvk, _⟩ := (hin.2 _ (List.getElem_mem h1)).slice
      obtain ⟨bk, dk, hwk, _⟩ := (hin2.2 _ (List.getElem_mem h2)).slice
      rw [hvk] at hat HS
      rw [hwk] at hat2 HS
      obtain ⟨u, hu⟩ : ∃ u, eqRow l[k].r m[k].r = u := ⟨_, rfl⟩
      rw [hu] at HS
      have HU : Hid (eqRow l[k].r m[k].r = u) := hu
      clear hin hin2 hvk hwk hu HL
      go_wp2_with fail
      refine wp_region_held_drew (S := fun w' => w'.cell? ⟨b, o + k, none⟩ = some (.slice ak l[k].r.length ck) ∧ w'.cell? ⟨b2, o2 + k, none⟩ = some (.slice bk m[k].r.length dk)) (by kernel_rfl) ?_ (fun hHeld => ?_)
      · simp [hat, hat2]
      (try clear hK K)
      refine wpAnyH_take (i := 0) (v := ?_) rfl (by kernel_rfl) (by kernel_rfl) (by kernel_rfl) (fun _ _ _ h => h) (Or.inl ⟨by rfl, ?_⟩) (by assumption) ?_
      rotate_left
      · intro w hSw; (try dsimp only at hSw); go_simp; (try with_reducible rfl)
      (try simp only [Act.put, List.getElem_toArray, List.getElem_cons_zero, List.setIfInBounds_toArray, List.set_cons_zero, List.set_cons_succ])
      refine wpAnyH_take (i := 1) (v := ?_) rfl (by kernel_rfl) (by kernel_rfl) (by kernel_rfl) (fun _ _ _ h => h) (Or.inl ⟨by rfl, ?_⟩) (by assumption) ?_
      rotate_left
      · intro w hSw; (try dsimp only at hSw); go_simp; (try with_reducible rfl)
      (try simp only [Act.put, List.getElem_toArray, List.getElem_cons_succ, List.getElem_cons_zero, List.setIfInBounds_toArray, List.set_cons_zero, List.set_cons_succ])
      refine wpAnyH_take (i := 2) (v := ?_) rfl (by kernel_rfl) (by kernel_rfl) (by kernel_rfl) (fun _ _ _ h => h) (Or.inl ⟨by rfl, ?_⟩) (by assumption) ?_
      rotate_left
      · intro w hSw; (try dsimp only at hSw); go_simp; (try with_reducible rfl)
      (try simp only [Act.put, List.getElem_toArray, List.getElem_cons_succ, List.getElem_cons_zero, List.setIfInBounds_toArray, List.set_cons_zero, List.set_cons_succ])
      refine wpAnyH_take (i := 3) (v := ?_) rfl (by kernel_rfl) (by kernel_rfl) (by kernel_rfl) (fun _ _ _ h => h) (Or.inl ⟨by rfl, ?_⟩) (by assumption) ?_
      rotate_left
      · intro w hSw; (try dsimp only at hSw); go_simp; (try with_reducible rfl)
      (try simp only [Act.put, List.getElem_toArray, List.getElem_cons_succ, List.getElem_cons_zero, List.setIfInBounds_toArray, List.set_cons_zero, List.set_cons_succ])
      refine wpAnyH_take (i := 4) (v := ?_) rfl (by kernel_rfl) (by kernel_rfl) (by kernel_rfl) (fun _ _ _ h => h) (Or.inl ⟨by rfl, ?_⟩) (by assumption) ?_
      rotate_left
      · intro w hSw; (try dsimp only at hSw); go_simp; (try with_reducible rfl)
      (try simp only [Act.put, List.getElem_toArray, List.getElem_cons_succ, List.getElem_cons_zero, List.setIfInBounds_toArray, List.set_cons_zero, List.set_cons_succ])
      refine wpAnyH_take (i := 5) (v := ?_) rfl (by kernel_rfl) (by kernel_rfl) (by kernel_rfl) (fun _ _ _ h => h) (Or.inl ⟨by rfl, ?_⟩) (by assumption) ?_
      rotate_left
      · intro w hSw; (try dsimp only at hSw); go_simp; (try with_reducible rfl)
      (try simp only [Act.put, List.getElem_toArray, List.getElem_cons_succ, List.getElem_cons_zero, List.setIfInBounds_toArray, List.set_cons_zero, List.set_cons_succ])
      refine wpAnyH_take (i := 6) (v := ?_) rfl (by kernel_rfl) (by kernel_rfl) (by kernel_rfl) (fun _ _ _ h => h) (Or.inl ⟨by rfl, ?_⟩) (by assumption) ?_
      rotate_left
      · intro w hSw; (try dsimp only at hSw); go_simp; (try with_reducible rfl)
      (try simp only [Act.put, List.getElem_toArray, List.getElem_cons_succ, List.getElem_cons_zero, List.setIfInBounds_toArray, List.set_cons_zero, List.set_cons_succ])
      refine wpAnyH_take (i := 7) (v := ?_) rfl (by kernel_rfl) (by kernel_rfl) (by kernel_rfl) (fun _ _ _ h => h) (Or.inl ⟨by rfl, ?_⟩) (by assumption) ?_
      rotate_left
      · intro w hSw; (try dsimp only at hSw); go_simp; (try with_reducible rfl)
      (try simp only [Act.put, List.getElem_toArray, List.getElem_cons_succ, List.getElem_cons_zero, List.setIfInBounds_toArray, List.set_cons_zero, List.set_cons_succ])
      (try clear hK K)
      refine wpAnyH_ready (rs := [8]) (by kernel_rfl) (by simp) ?_
      refine AllReadyH.cons rfl (fun K hK => ?_) AllReadyH.nil
      go_simp
      (refine Calls.mono HS.out ?_; rintro e w1 ⟨rfl, hb1⟩)
      refine hK.out _ _ ?_ (fun hHeld => ?_)
      · refine ⟨?_, ?_⟩ <;> (refine cell_below (w := wr.drew) ?_ hb1; simp [hat, hat2])
      (try clear hK K)
      refine wpAnyH_take (i := 9) (v := ?_) rfl (by kernel_rfl) (by kernel_rfl) (by kernel_rfl) (fun _ _ _ h => h) (Or.inl ⟨by rfl, ?_⟩) (by assumption) ?_
      rotate_left
      · intro w hSw; (try dsimp only at hSw); go_simp; (try with_reducible rfl)
      (try simp only [Act.put, List.getElem_toArray, List.getElem_cons_succ, List.getElem_cons_zero, List.setIfInBounds_toArray, List.set_cons_zero, List.set_cons_succ])
      (try clear hK K)
      refine wpAnyH_done (by kernel_rfl) ?_ _
      have HB1 : Hid (Below w.heap.size w w1) := on HB.out ((Below.refl _ _).drew.trans hb1)
      clear hb1 HB HS hat hat2
      cases u
      · have HX : Hid (eqRows (l.map Im.r) (m.map Im.r) = false) := eqRows_stop h1 h2 HU.out
        clear HG HU
        go_wp2_with fail
        go_ret
        exact ⟨ret_bool HX.out.symm, HB1.out⟩
      · have HG1 : Hid (∀ (j : Nat) (h1 : j < l.length) (h2 : j < m.length), j < k + 1 → eqRow l[j].r m[j].r = true) := fun j h1 h2 hk => by
          rcases Nat.lt_succ_iff_lt_or_eq.1 hk with h | rfl
          · exact HG.out j h1 h2 h
          · exact HU.out
        clear HG HU
        go_wp2_with fail
        go_roundw
        case rel => exact ⟨k + 1, by omega, by go_num, HG1, HB1⟩
        case measure => simp [intOf]; omega
    · have i1 : decide ((k : Int) < (l.length : Int)) = false := by simp; omega
      obtain rfl : k = l.length := by omega
      have HX : Hid (eqRows (l.map Im.r) (m.map Im.r) = true) := eqRows_end HLen.out fun j h1 h2 => HG.out j h1 h2 h1
      clear HG HL
      go_wp2_with fail
      go_ret
      exact ⟨ret_bool HX.out.symm, HB.out⟩
/-- Are two claims the same in all fields? s: are their predicates? -/
def equalC (s : Bool) (a b : CP) : Bool := s && (eqRows a.rows b.rows && (a.kind == b.kind && (a.table == b.table && (a.mode == b.mode && eqV a.key b.key))))
set_option maxHeartbeats 4000000 in
theorem rcequal_any (a b : CP) (s : Bool) (hs : s = true ↔ a.p.bare = b.p.bare) (w : World) (ha : CIn w a) (hb : CIn w b) : Tells 21 #[a.val, b.val] w (.bool (equalC s a b)) := by
  have HP : Hid (∀ w1, Below w.heap.size w w1 → Tells 34 #[a.p.val, b.p.val] w1 (.bool s)) := fun w1 h => (rpsame_any a.p b.p w1 (ha.p.keep h) (hb.p.keep h)).mono (by
    rintro e w' ⟨b1, rfl, h1, h2⟩
    refine ⟨?_, h2⟩
    rw [Bool.eq_iff_iff.2 (h1.trans hs.symm)])
  have HQ : Hid (∀ w1, Below w.heap.size w w1 → Calls Tryd.prog 45 #[a.iv, b.iv] w1 fun e w' => e = .returned (.bool (eqRows a.rows b.rows)) ∧ Below w1.heap.size w1 w') := fun w1 h => rrows_any a.iv b.iv a.ims b.ims w1 (ha.ims.below h) (hb.ims.below h)
  have H2 : Hid (∀ w1, Below ((w.alloc (cobj a TC)).alloc (cobj b TC)).heap.size ((w.alloc (cobj a TC)).alloc (cobj b TC)) w1 → CBox w1 w.heap.size a ∧ CBox w1 (w.heap.size + 1) b) := fun w1 h => ⟨((CB.new w a).below (alloc1 _ _)).below h |>.box, by have := ((CB.new (w.alloc (cobj a TC)) b).below h).box; simpa using this⟩
  have ev := fun w => eql_V a.key b.key w
  obtain ⟨ai, ci, hiv, _⟩ := ha.ims.slice
  obtain ⟨aj, cj, hjv, _⟩ := hb.ims.slice
  unfold cobj at H2
  unfold CP.val
  unfold PT.val at HP
  unfold equalC
  have HE : Hid (a.iv = .slice ai a.ims.length ci ∧ b.iv = .slice aj b.ims.length cj) := ⟨hiv, hjv⟩
  rw [hiv, hjv] at HQ H2 ⊢
  clear hs ha hb hiv hjv
  generalize eqRows a.rows b.rows = q at *
  obtain ⟨ck, hk⟩ : ∃ x, (a.kind == b.kind) = x := ⟨_, rfl⟩
  obtain ⟨ct, ht⟩ : ∃ x, (a.table == b.table) = x := ⟨_, rfl⟩
  obtain ⟨cm, hm⟩ : ∃ x, (a.mode == b.mode) = x := ⟨_, rfl⟩
  obtain ⟨cv, hv⟩ : ∃ x, eqV a.key b.key = x := ⟨_, rfl⟩
  rw [hk, ht, hm, hv]
  rw [hv] at ev
  go_enter Tryd.func21, Tryd.ntmps21
  go_wp2_with fail
  refine Calls.mono (HP.out _ (back2 (Below.refl _ _))) ?_
  rintro e w1 ⟨rfl, hb⟩
  have HB : Hid (CBox w1 w.heap.size a ∧ CBox w1 (w.heap.size + 1) b ∧ Below w.heap.size w w1) := ⟨(H2.out w1 hb).1, (H2.out w1 hb).2, back2 hb⟩
  have i6 := HB.out.1.c6
  have j6 := HB.out.2.1.c6
  rw [HE.out.1] at i6
  rw [HE.out.2] at j6
  clear hb HP H2
  go_wp2_with fail
  refine Calls.mono (HQ.out _ HB.out.2.2) ?_
  rintro e w2 ⟨rfl, hb⟩
  have HB2 : Hid (CBox w2 w.heap.size a ∧ CBox w2 (w.heap.size + 1) b ∧ Below w.heap.size w w2) := ⟨HB.out.1.below hb, HB.out.2.1.below hb, on HB.out.2.2 hb⟩
  clear hb HQ HB i6 j6
  obtain ⟨i0, i1, i2, i3, i4, i5, _⟩ := HB2.out.1
  obtain ⟨j0, j1, j2, j3, j4, j5, _⟩ := HB2.out.2.1
  have HZ : Hid (Below w.heap.size w w2) := HB2.out.2.2
  clear HB2 HE
  cases s
  · go_wp2_with fail
    go_ret
    exact ⟨rfl, HZ.out⟩
  cases q
  · go_wp2_with fail
    go_ret
    exact ⟨rfl, HZ.out⟩
  cases ck
  · go_wp2_with fail
    go_ret
    exact ⟨rfl, HZ.out⟩
  cases ct
  · go_wp2_with fail
    go_ret
    exact ⟨rfl, HZ.out⟩
  cases cm
  · go_wp2_with fail
    go_ret
    exact ⟨rfl, HZ.out⟩
  go_wp2_with fail
  go_ret
  exact ⟨rfl, HZ.out⟩
end Go.Proofs.YtkkbbpldeeajaaaDoor.Val
