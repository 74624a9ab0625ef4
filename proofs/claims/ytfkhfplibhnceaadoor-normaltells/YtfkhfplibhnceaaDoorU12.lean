/- Plain: when two predicates are the same. -/
import Derived.Test.YtfkhfplibhnceaaDoorU1
import Derived.Deep.RegionHeld3
import Derived.Test.YtfkhfplibhnceaaDoorU9
namespace Go.Proofs.YtfkhfplibhnceaaDoor.Val
open Go.RowKit

theorem bare_iff (p q : PT) : p.bare = q.bare ↔ p.op = q.op ∧ p.col = q.col ∧ p.v = q.v ∧ p.w = q.w ∧ p.l.map PT.bare = q.l.map PT.bare := by
  cases p with | mk o c v u lv l => cases q with | mk o' c' v' u' lv' l' =>
  rw [bare_mk, bare_mk]
  simp
theorem take_bare {l m : List PT} {k : Nat} (hk : k < l.length) (hk' : k < m.length) (h : (l.take k).map PT.bare = (m.take k).map PT.bare) : ((l.take (k + 1)).map PT.bare = (m.take (k + 1)).map PT.bare) ↔ l[k].bare = m[k].bare := by
  rw [List.take_add_one, List.take_add_one, List.map_append, List.map_append, h, List.append_cancel_left_eq, List.getElem?_eq_getElem hk, List.getElem?_eq_getElem hk']
  simp
theorem take_ne {l m : List PT} {k : Nat} (hk : k < l.length) (hk' : k < m.length) (h : l[k].bare ≠ m[k].bare) : l.map PT.bare ≠ m.map PT.bare := by
  intro e
  have := congrArg (fun x => x[k]?) e
  simp [hk, hk'] at this
  exact h this
def SameOk (f : FuncId) (p q : PT) : Prop := ∀ w, In w p → In w q → Calls Tryd.prog f #[p.val, q.val] w fun e w' => ∃ b, e = .returned (.bool b) ∧ (b = true ↔ p.bare = q.bare) ∧ Below w.heap.size w w'
end Go.Proofs.YtfkhfplibhnceaaDoor.Val
/- What the reference's Same answers. -/
namespace Go.Proofs.YtfkhfplibhnceaaDoor.Val
open Go.RowKit

/-- Two predicates' boxes. -/
structure BB (N : Nat) (p q : PT) (w : World) : Prop where
  pp : Box w N p
  pq : Box w (N + 1) q
theorem BB.below {N : Nat} {p q : PT} {w w' : World} (h : BB N p q w) (hb : Below w.heap.size w w') : BB N p q w' := ⟨h.pp.below hb, h.pq.below hb⟩
theorem BB.new (w : World) (p q : PT) (T1 T2 : TypeId) : BB w.heap.size p q ((w.alloc (pobj p T1)).alloc (pobj q T2)) := by
  refine ⟨(Box.new w p T1).alloc _, ?_⟩
  have := Box.new (w.alloc (pobj p T1)) q T2; simpa using this
set_option maxHeartbeats 4000000 in
theorem rsame_no (p q : PT) (ap aq : Option Addr) (cp cq : Nat) (w : World) (hlp : p.lv = .slice ap p.l.length cp) (hlq : q.lv = .slice aq q.l.length cq)
    (h : (p.op != q.op) = true ∨ ((p.op != q.op) = false ∧ (p.col != q.col) = true) ∨ ((p.op != q.op) = false ∧ (p.col != q.col) = false ∧ eqV p.v q.v = false) ∨ ((p.op != q.op) = false ∧ (p.col != q.col) = false ∧ eqV p.v q.v = true ∧ eqV p.w q.w = false) ∨ ((p.op != q.op) = false ∧ (p.col != q.col) = false ∧ eqV p.v q.v = true ∧ eqV p.w q.w = true ∧ ((p.l.length : Int) != (q.l.length : Int)) = true)) :
    Calls Tryd.prog 12 #[p.val, q.val] w fun e w' => e = .returned (.bool false) ∧ Below w.heap.size w w' := by
  have ev := fun w => neq_V p.v q.v w
  have eu := fun w => neq_V p.w q.w w
  unfold PT.val
  rw [hlp, hlq]
  clear hlp hlq
  rcases h with h | ⟨h1, h⟩ | ⟨h1, h2, h⟩ | ⟨h1, h2, h3, h⟩ | ⟨h1, h2, h3, h4, h⟩
  · go_enter Tryd.func12, Tryd.ntmps12
    go_wp2_with fail
    go_ret
    exact ⟨rfl, back1 (alloc1 _ _)⟩
  · go_enter Tryd.func12, Tryd.ntmps12
    go_wp2_with fail
    go_ret
    exact ⟨rfl, back1 (alloc1 _ _)⟩
  · go_enter Tryd.func12, Tryd.ntmps12
    go_wp2_with fail
    go_ret
    exact ⟨rfl, back1 (alloc1 _ _)⟩
  · go_enter Tryd.func12, Tryd.ntmps12
    go_wp2_with fail
    go_ret
    exact ⟨rfl, back1 (alloc1 _ _)⟩
  · go_enter Tryd.func12, Tryd.ntmps12
    go_wp2_with fail
    go_ret
    exact ⟨rfl, back1 (alloc1 _ _)⟩
set_option maxHeartbeats 8000000 in
theorem rsame_loop (p q : PT) (ap aq : Option Addr) (cp cq : Nat) (w : World) (hp : In w p) (hq : In w q) (hlp : p.lv = .slice ap p.l.length cp) (hlq : q.lv = .slice aq q.l.length cq) (hln : p.l.length ≤ 9223372036854775807)
    (h1 : (p.op != q.op) = false) (h2 : (p.col != q.col) = false) (h3 : eqV p.v q.v = true) (h4 : eqV p.w q.w = true) (h5 : p.l.length = q.l.length) (ih : ∀ x ∈ p.l, ∀ y, SameOk 12 x y) :
    Calls Tryd.prog 12 #[p.val, q.val] w fun e w' => ∃ b, e = .returned (.bool b) ∧ (b = true ↔ p.l.map PT.bare = q.l.map PT.bare) ∧ Below w.heap.size w w' := by
  have ev := fun w => neq_V p.v q.v w
  have eu := fun w => neq_V p.w q.w w
  have HLen : Hid (p.l.length = q.l.length) := h5
  rw [← h5] at hlq
  have HI : Hid (In w p ∧ In w q ∧ ∀ x ∈ p.l, ∀ y, SameOk 12 x y) := ⟨hp, hq, ih⟩
  have HLV : Hid (p.lv = .slice ap p.l.length cp ∧ q.lv = .slice aq p.l.length cq) := ⟨hlp, hlq⟩
  have HT : Hid _ := BB.new w p q 29 29
  rw [pobj, pobj, hlp, hlq] at HT
  clear hp hq ih h5
  unfold PT.val
  rw [hlp, hlq]
  clear hlp hlq
  go_enter Tryd.func12, Tryd.ntmps12
  go_wp2_with fail
  go_loopw [5] (fun i wr => ∃ k : Nat, k ≤ p.l.length ∧ i = .int .i64 k ∧ Hid ((p.l.take k).map PT.bare = (q.l.take k).map PT.bare) ∧ Hid (Below w.heap.size w wr ∧ BB w.heap.size p q wr))
    (fun i _ => p.l.length - (intOf i).toNat)
  case atStart => exact ⟨0, Nat.zero_le _, rfl, by simp [Hid], back1 (alloc1 _ _), HT.out⟩
  case round =>
    clear HT ev eu h1 h2 h3 h4
    obtain ⟨k, hk, rfl, HTk, HB⟩ := hrel
    have c8 := HB.out.2.pp.c8
    have d8 := HB.out.2.pq.c8
    rw [HLV.out.1] at c8
    rw [HLV.out.2] at d8
    have hlt : w.heap.size + 1 < wr.heap.size := World.block_lt_of_cell? _ _ d8
    by_cases h1 : k < p.l.length
    · have i0 : (0 : Int) ≤ (k : Int) := by omega
      have i1 : (k : Int) < (p.l.length : Int) := by omega
      have h2 : k < q.l.length := by rw [← HLen.out]; exact h1
      have hinp : In wr p := HI.out.1.keep HB.out.1
      have hinq : In wr q := HI.out.2.1.keep HB.out.1
      have hl := hinp.lies
      have hl' := hinq.lies
      rw [HLV.out.1] at hl
      rw [HLV.out.2] at hl'
      obtain ⟨b, o, rfl, hat⟩ := lies_at hl k h1
      obtain ⟨b', o', rfl, hat'⟩ := lies_at hl' k h2
      have hm := List.getElem_mem h1
      have hm' := List.getElem_mem h2
      have HQ : Hid (∀ w1, Below w.heap.size w w1 → Calls Tryd.prog 12 #[p.l[k].val, q.l[k].val] w1 fun e w' => ∃ b, e = .returned (.bool b) ∧ (b = true ↔ p.l[k].bare = q.l[k].bare) ∧ Below w1.heap.size w1 w') :=
        fun w1 hb => HI.out.2.2 _ hm _ w1 ((HI.out.1.part _ hm).keep hb) ((HI.out.2.1.part _ hm').keep hb)
      have A0 := hat.below (w' := wr.drew) (Below.refl _ _).drew
      have B0 := hat'.below (w' := wr.drew) (Below.refl _ _).drew
      have T0 : BB w.heap.size p q wr.drew := HB.out.2.below (Below.refl _ _).drew
      have HBd : Below w.heap.size w wr.drew := HB.out.1.drew
      have hc8 : ∀ w1, BB w.heap.size p q w1 → w1.cell? ⟨w.heap.size, 8, none⟩ = some (.slice (some ⟨b, o, none⟩) p.l.length cp) := fun w1 h => by rw [h.pp.c8, HLV.out.1]
      have hd8 : ∀ w1, BB w.heap.size p q w1 → w1.cell? ⟨w.heap.size + 1, 8, none⟩ = some (.slice (some ⟨b', o', none⟩) p.l.length cq) := fun w1 h => by rw [h.pq.c8, HLV.out.2]
      clear hm hm' hl hl' hinp hinq hat hat'
      unfold PT.val at HQ
      go_wp2_with fail
      refine wp_region_held_drew (S := fun w' => w'.cell? ⟨w.heap.size, 8, none⟩ = some (.slice (some ⟨b, o, none⟩) p.l.length cp) ∧ w'.cell? ⟨w.heap.size + 1, 8, none⟩ = some (.slice (some ⟨b', o', none⟩) p.l.length cq) ∧ (w'.cell? ⟨b, o + k * 9, none⟩ = some (.int .i64 p.l[k].op) ∧ w'.cell? ⟨b, o + k * 9 + 1, none⟩ = some (.int .i64 p.l[k].col) ∧ w'.cell? ⟨b, o + k * 9 + 2, none⟩ = some (.bool p.l[k].v.t) ∧ w'.cell? ⟨b, o + k * 9 + 3, none⟩ = some (.int .i64 p.l[k].v.n) ∧ w'.cell? ⟨b, o + k * 9 + 4, none⟩ = some (.string p.l[k].v.s) ∧ w'.cell? ⟨b, o + k * 9 + 5, none⟩ = some (.bool p.l[k].w.t) ∧ w'.cell? ⟨b, o + k * 9 + 6, none⟩ = some (.int .i64 p.l[k].w.n) ∧ w'.cell? ⟨b, o + k * 9 + 7, none⟩ = some (.string p.l[k].w.s) ∧ w'.cell? ⟨b, o + k * 9 + 8, none⟩ = some p.l[k].lv) ∧ (w'.cell? ⟨b', o' + k * 9, none⟩ = some (.int .i64 q.l[k].op) ∧ w'.cell? ⟨b', o' + k * 9 + 1, none⟩ = some (.int .i64 q.l[k].col) ∧ w'.cell? ⟨b', o' + k * 9 + 2, none⟩ = some (.bool q.l[k].v.t) ∧ w'.cell? ⟨b', o' + k * 9 + 3, none⟩ = some (.int .i64 q.l[k].v.n) ∧ w'.cell? ⟨b', o' + k * 9 + 4, none⟩ = some (.string q.l[k].v.s) ∧ w'.cell? ⟨b', o' + k * 9 + 5, none⟩ = some (.bool q.l[k].w.t) ∧ w'.cell? ⟨b', o' + k * 9 + 6, none⟩ = some (.int .i64 q.l[k].w.n) ∧ w'.cell? ⟨b', o' + k * 9 + 7, none⟩ = some (.string q.l[k].w.s) ∧ w'.cell? ⟨b', o' + k * 9 + 8, none⟩ = some q.l[k].lv)) (by kernel_rfl) ?_ (fun hHeld => ?_)
      · exact ⟨hc8 _ T0, hd8 _ T0, ⟨A0.c0, A0.c1, A0.c2, A0.c3, A0.c4, A0.c5, A0.c6, A0.c7, A0.c8⟩, ⟨B0.c0, B0.c1, B0.c2, B0.c3, B0.c4, B0.c5, B0.c6, B0.c7, B0.c8⟩⟩
      (try clear hK K)
      refine wpAnyH_take (i := 0) (v := ?_) rfl (by kernel_rfl) (by kernel_rfl) (by kernel_rfl) (fun _ _ _ h => h) (Or.inl ⟨by rfl, ?_⟩) (by assumption) ?_
      rotate_left
      · intro w hSw; (try dsimp only at hSw); go_simp; (try with_reducible rfl)
      (try simp only [Act.put, List.getElem_toArray, List.getElem_cons_zero, List.setIfInBounds_toArray, List.set_cons_zero, List.set_cons_succ])
      refine wpAnyH_take (i := 1) (v := ?_) rfl (by kernel_rfl) (by kernel_rfl) (by kernel_rfl) (fun _ _ _ h => h) (Or.inl ⟨by rfl, ?_⟩) (by assumption) ?_
      rotate_left
      · intro w hSw; (try dsimp only at hSw); go_simp; (try with_reducible rfl)
      (try simp only [Act.put, List.getElem_toArray, List.getElem_cons_succ, List.getElem_cons_zero, List.setIfInBounds_toArray, List.set_cons_zero, List.set_cons_succ])
      refine wpAnyH_take (i := 2) (v := ?_) rfl (by kernel_rfl) (by kernel_rfl) (by kernel_rfl) (fun _ _ _ h => h) (Or.inl ⟨by rfl, ?_⟩) (by assumption) ?_
      rotate_left
      · intro w hSw; (try dsimp only at hSw); go_simp; (try with_reducible rfl)
      (try simp only [Act.put, List.getElem_toArray, List.getElem_cons_succ, List.getElem_cons_zero, List.setIfInBounds_toArray, List.set_cons_zero, List.set_cons_succ])
      refine wpAnyH_take (i := 3) (v := ?_) rfl (by kernel_rfl) (by kernel_rfl) (by kernel_rfl) (fun _ _ _ h => h) (Or.inl ⟨by rfl, ?_⟩) (by assumption) ?_
      rotate_left
      · intro w hSw; (try dsimp only at hSw); go_simp; (try with_reducible rfl)
      (try simp only [Act.put, List.getElem_toArray, List.getElem_cons_succ, List.getElem_cons_zero, List.setIfInBounds_toArray, List.set_cons_zero, List.set_cons_succ])
      refine wpAnyH_take (i := 4) (v := ?_) rfl (by kernel_rfl) (by kernel_rfl) (by kernel_rfl) (fun _ _ _ h => h) (Or.inl ⟨by rfl, ?_⟩) (by assumption) ?_
      rotate_left
      · intro w hSw; (try dsimp only at hSw); go_simp; (try with_reducible rfl)
      (try simp only [Act.put, List.getElem_toArray, List.getElem_cons_succ, List.getElem_cons_zero, List.setIfInBounds_toArray, List.set_cons_zero, List.set_cons_succ])
      refine wpAnyH_take (i := 5) (v := ?_) rfl (by kernel_rfl) (by kernel_rfl) (by kernel_rfl) (fun _ _ _ h => h) (Or.inl ⟨by rfl, ?_⟩) (by assumption) ?_
      rotate_left
      · intro w hSw; (try dsimp only at hSw); go_simp; (try with_reducible rfl)
      (try simp only [Act.put, List.getElem_toArray, List.getElem_cons_succ, List.getElem_cons_zero, List.setIfInBounds_toArray, List.set_cons_zero, List.set_cons_succ])
      refine wpAnyH_take (i := 6) (v := ?_) rfl (by kernel_rfl) (by kernel_rfl) (by kernel_rfl) (fun _ _ _ h => h) (Or.inl ⟨by rfl, ?_⟩) (by assumption) ?_
      rotate_left
      · intro w hSw; (try dsimp only at hSw); go_simp; (try with_reducible rfl)
      (try simp only [Act.put, List.getElem_toArray, List.getElem_cons_succ, List.getElem_cons_zero, List.setIfInBounds_toArray, List.set_cons_zero, List.set_cons_succ])
      refine wpAnyH_take (i := 7) (v := ?_) rfl (by kernel_rfl) (by kernel_rfl) (by kernel_rfl) (fun _ _ _ h => h) (Or.inl ⟨by rfl, ?_⟩) (by assumption) ?_
      rotate_left
      · intro w hSw; (try dsimp only at hSw); go_simp; (try with_reducible rfl)
      (try simp only [Act.put, List.getElem_toArray, List.getElem_cons_succ, List.getElem_cons_zero, List.setIfInBounds_toArray, List.set_cons_zero, List.set_cons_succ])
      refine wpAnyH_take (i := 8) (v := ?_) rfl (by kernel_rfl) (by kernel_rfl) (by kernel_rfl) (fun _ _ _ h => h) (Or.inl ⟨by rfl, ?_⟩) (by assumption) ?_
      rotate_left
      · intro w hSw; (try dsimp only at hSw); go_simp; (try with_reducible rfl)
      (try simp only [Act.put, List.getElem_toArray, List.getElem_cons_succ, List.getElem_cons_zero, List.setIfInBounds_toArray, List.set_cons_zero, List.set_cons_succ])
      refine wpAnyH_take (i := 9) (v := ?_) rfl (by kernel_rfl) (by kernel_rfl) (by kernel_rfl) (fun _ _ _ h => h) (Or.inl ⟨by rfl, ?_⟩) (by assumption) ?_
      rotate_left
      · intro w hSw; (try dsimp only at hSw); go_simp; (try with_reducible rfl)
      (try simp only [Act.put, List.getElem_toArray, List.getElem_cons_succ, List.getElem_cons_zero, List.setIfInBounds_toArray, List.set_cons_zero, List.set_cons_succ])
      (try clear hK K)
      refine wpAnyH_ready (rs := [10]) (by kernel_rfl) (by simp) ?_
      refine AllReadyH.cons rfl (fun K hK => ?_) AllReadyH.nil
      go_simp
      (refine Calls.mono (HQ.out _ HBd) ?_; rintro e w1 ⟨bb, rfl, hiff, hb⟩; have T1 := T0.below hb; have HB1 := on HBd hb; have A1 := A0.below hb; have B1 := B0.below hb)
      refine hK.out _ _ ?_ (fun hHeld => ?_)
      · exact ⟨hc8 _ T1, hd8 _ T1, ⟨A1.c0, A1.c1, A1.c2, A1.c3, A1.c4, A1.c5, A1.c6, A1.c7, A1.c8⟩, ⟨B1.c0, B1.c1, B1.c2, B1.c3, B1.c4, B1.c5, B1.c6, B1.c7, B1.c8⟩⟩
      (try clear hK K)
      refine wpAnyH_take (i := 11) (v := ?_) rfl (by kernel_rfl) (by kernel_rfl) (by kernel_rfl) (fun _ _ _ h => h) (Or.inl ⟨by rfl, ?_⟩) (by assumption) ?_
      rotate_left
      · intro w hSw; (try dsimp only at hSw); go_simp; (try with_reducible rfl)
      (try simp only [Act.put, List.getElem_toArray, List.getElem_cons_succ, List.getElem_cons_zero, List.setIfInBounds_toArray, List.set_cons_zero, List.set_cons_succ])
      (try clear hK K)
      refine wpAnyH_done (by kernel_rfl) ?_ _
      have HX : Hid (Below w.heap.size w w1 ∧ BB w.heap.size p q w1) := ⟨HB1, T1⟩
      have HIF : Hid (bb = true ↔ p.l[k].bare = q.l[k].bare) := hiff
      clear hb HB1 T1 A1 B1 A0 B0 T0 HBd hc8 hd8 HB HQ c8 d8 hlt hiff
      cases bb
      · have HN : Hid (p.l.map PT.bare ≠ q.l.map PT.bare) := take_ne h1 h2 (by simpa using HIF.out)
        clear HIF HTk HI
        go_wp2_with fail
        go_ret
        exact ⟨false, rfl, by simpa using HN.out, HX.out.1⟩
      · have HN : Hid ((p.l.take (k + 1)).map PT.bare = (q.l.take (k + 1)).map PT.bare) := (take_bare h1 h2 HTk.out).2 (HIF.out.1 rfl)
        clear HIF HTk
        go_wp2_with fail
        go_roundw
        case rel => exact ⟨k + 1, by omega, by go_num, HN, HX⟩
        case measure => simp [intOf]; omega
    · have i1 : decide ((k : Int) < (p.l.length : Int)) = false := by simp; omega
      obtain rfl : k = p.l.length := by omega
      have HN : Hid (p.l.map PT.bare = q.l.map PT.bare) := by have := HTk.out; rw [List.take_length, HLen.out, List.take_length] at this; exact this
      clear HI HTk
      go_wp2_with fail
      go_ret
      exact ⟨true, rfl, by simpa using HN.out, HB.out.1⟩
theorem rsame_any (p : PT) : ∀ q, SameOk 12 p q := by
  induction p using PT.ind with
  | h p ih =>
    intro q w hp hq
    obtain ⟨ap, cp, hlp, hn⟩ := hp.lies.slice
    obtain ⟨aq, cq, hlq, _⟩ := hq.lies.slice
    have HI := bare_iff p q
    have no : (h : ¬ p.bare = q.bare) → _ → Calls Tryd.prog 12 #[p.val, q.val] w fun e w' => ∃ b, e = .returned (.bool b) ∧ (b = true ↔ p.bare = q.bare) ∧ Below w.heap.size w w' :=
      fun h hc => (rsame_no p q ap aq cp cq w hlp hlq hc).mono fun e w' h' => ⟨false, h'.1, by simpa using h, h'.2⟩
    cases h1 : (p.op != q.op)
    case true => exact no (fun e => by simp [(HI.1 e).1] at h1) (.inl h1)
    cases h2 : (p.col != q.col)
    case true => exact no (fun e => by simp [(HI.1 e).2.1] at h2) (.inr (.inl ⟨h1, h2⟩))
    cases h3 : eqV p.v q.v
    case false => exact no (fun e => by simp [eqV_iff.2 (HI.1 e).2.2.1] at h3) (.inr (.inr (.inl ⟨h1, h2, h3⟩)))
    cases h4 : eqV p.w q.w
    case false => exact no (fun e => by simp [eqV_iff.2 (HI.1 e).2.2.2.1] at h4) (.inr (.inr (.inr (.inl ⟨h1, h2, h3, h4⟩))))
    by_cases h5 : p.l.length = q.l.length
    · refine (rsame_loop p q ap aq cp cq w hp hq hlp hlq hn h1 h2 h3 h4 h5 ih).mono ?_
      rintro e w' ⟨b, e1, e2, e3⟩
      refine ⟨b, e1, ?_, e3⟩
      rw [e2, HI]
      exact ⟨fun h => ⟨by simpa using h1, by simpa using h2, eqV_iff.1 h3, eqV_iff.1 h4, h⟩, fun h => h.2.2.2.2⟩
    · exact no (fun e => h5 (by simpa using congrArg List.length (HI.1 e).2.2.2.2)) (.inr (.inr (.inr (.inr ⟨h1, h2, h3, h4, by rw [bne_iff_ne]; omega⟩))))
end Go.Proofs.YtfkhfplibhnceaaDoor.Val
/- Plain: Normal of not of not, and of what is normal. -/
namespace Go.Proofs.YtfkhfplibhnceaaDoor.Val
open Go.RowKit

theorem push_bare' (p : PT) : ∀ b, pushP p.bare b = pushP p b := by
  induction p using PT.ind with
  | h p ih =>
    intro b
    cases p with | mk o c v u lv l =>
    have h0 : (l.map PT.bare).map pushP = l.map pushP := map_bare pushP l fun q hq => funext (ih q hq)
    have h1 : (l.map PT.bare).map (fun q => pushP q b) = l.map (fun q => pushP q b) := by rw [List.map_map]; exact List.map_congr_left fun q hq => ih q hq b
    rw [bare_mk, push_mk, push_mk, h0, h1]
theorem push_of_bare {p q : PT} (h : p.bare = q.bare) (b : Bool) : pushP p b = pushP q b := by rw [← push_bare' p, h, push_bare']
theorem suit_bare (cols : List Bool) (p : PT) : suitP cols p.bare = suitP cols p := by
  cases p with | mk o c v u lv l => rw [bare_mk]; simp [suitP]
theorem ok_bare (cols : List Bool) (p : PT) : okP (suitP cols) p.bare = okP (suitP cols) p := by
  induction p using PT.ind with
  | h p ih =>
    rw [okP_mk, okP_mk, suit_bare]
    have : p.bare.l = p.l.map PT.bare := by cases p with | mk o c v u lv l => rw [bare_mk]
    rw [this, map_bare (okP (suitP cols)) p.l ih]
theorem ok_of_bare {p q : PT} (h : p.bare = q.bare) (cols : List Bool) : okP (suitP cols) p = okP (suitP cols) q := by rw [← ok_bare cols p, h, ok_bare]
theorem check_of_bare {p q : PT} (h : p.bare = q.bare) (cols : List Bool) : checkN cols p = checkN cols q := by unfold checkN mayP; rw [size_of_bare h, ok_of_bare h]
theorem norm_of_bare {p q : PT} (h : p.bare = q.bare) (cols : List Bool) : normP cols p = normP cols q := by unfold normP; rw [check_of_bare h, push_of_bare h]
/-- Not of not. -/
def nnP (M : Nat) (p : PT) : PT := .mk 10 0 Val.zero Val.zero (.slice (some ⟨M + 1, 0, none⟩) 1 1) [.mk 10 0 Val.zero Val.zero (.slice (some ⟨M, 0, none⟩) 1 1) [p]]
theorem nn_size (M : Nat) (p : PT) : (nnP M p).size = p.size + 2 := by unfold nnP; rw [size_mk]; simp [size_mk]; omega
theorem not_good {cols : List Bool} {p : PT} {lv : Value} (h : Good cols p) : Good cols (.mk 10 0 Val.zero Val.zero lv [p]) :=
  .mk (show suitO cols 10 0 Val.zero Val.zero 1 = true by simp [suitO]) fun q hq => by
    have : q = p := by simpa using hq
    subst this; exact h
theorem nn_norm {cols : List Bool} {p : PT} (M : Nat) (h : checkN cols p = 0) (hs : p.size ≤ 13) : normP cols (nnP M p) = normP cols p := by
  obtain ⟨h1, h2, h3⟩ := check_iff.1 h
  have hc : checkN cols (nnP M p) = 0 := check_iff.2 ⟨h1, by rw [nn_size]; omega, not_good (not_good h3)⟩
  unfold normP
  rw [if_pos hc, if_pos h, push_10 (p := nnP M p) rfl _ rfl, push_10 rfl p rfl]; rfl
theorem norm_norm {cols : List Bool} {p q : PT} (h : checkN cols p = 0) (hq : q.bare = normP cols p) (hs : q.size ≤ 15) : normP cols q = q.bare := by
  obtain ⟨h1, h2, h3⟩ := check_iff.1 h
  have e : normP cols p = pushP p false := by unfold normP; rw [if_pos h]
  have hq' : q.bare = (normP cols p).bare := by rw [norm_bare]; exact hq
  rw [norm_of_bare hq', hq, e]
  have hsz : (pushP p false).size ≤ 15 := by rw [← e, ← size_of_bare hq']; exact hs
  unfold normP
  rw [if_pos (check_iff.2 ⟨h1, hsz, push_good p h3 false⟩), push_push p h3 false]
end Go.Proofs.YtfkhfplibhnceaaDoor.Val
