/- What the document's meets, Conflict and Covers of claims answer. -/
import Derived.Test.YtkkbbpldeeajaaaDoorUE2
import Derived.Test.YtkkbbpldeeajaaaDoorUC1
import Derived.Test.YtkkbbpldeeajaaaDoorUC3
import Derived.Test.YtkkbbpldeeajaaaDoorUC2
import Derived.Test.YtkkbbpldeeajaaaDoorUE3
import Derived.Test.YtkkbbpldeeajaaaDoorUE1
namespace Go.Proofs.YtkkbbpldeeajaaaDoor.Val
open Go.RowKit
set_option maxRecDepth 100000

theorem catch_stop {p : PT} {c : CP} {k : Nat} (h6 : (c.mode == 6) = true) (hk : k < c.ims.length) (h : caughtI p c.ims[k].r = true) : catchC p c = true := by
  rw [catch_any h6, List.any_eq_true]
  exact ⟨_, List.mem_map.2 ⟨c.ims[k], List.getElem_mem hk, rfl⟩, h⟩
theorem catch_end {p : PT} {c : CP} (h6 : (c.mode == 6) = true) (h : ∀ (j : Nat) (hj : j < c.ims.length), caughtI p c.ims[j].r = false) : catchC p c = false := by
  rw [catch_any h6, ← Bool.not_eq_true, List.any_eq_true]
  rintro ⟨x, hx, hh⟩
  obtain ⟨i, hi, rfl⟩ := List.mem_map.1 hx
  obtain ⟨j, hj, rfl⟩ := List.mem_iff_getElem.1 hi
  rw [h j hj] at hh
  cases hh
/-- The boxes of a call with two claims. -/
structure PB (w0 w : World) (a b : CP) : Prop where
  ca : CB w w0.heap.size a
  cb : CB w (w0.heap.size + 1) b
  bel : Below w0.heap.size w0 w
theorem PB.below {w0 w w' : World} {a b : CP} (h : PB w0 w a b) (hb : Below w.heap.size w w') : PB w0 w' a b := ⟨h.ca.below hb, h.cb.below hb, on h.bel hb⟩
theorem PB.new (w : World) (a b : CP) : PB w ((w.alloc (cobj a TC)).alloc (cobj b TC)) a b :=
  ⟨(CB.new w a).below (alloc1 _ _), by have := CB.new (w.alloc (cobj a TC)) b; simpa using this, back2 (Below.refl _ _)⟩
set_option maxHeartbeats 4000000 in
theorem rmeets_any (a c : CP) (w : World) (ha : CIn w a) (hc : CIn w c) (ho : OkC c) : Tells 38 #[a.val, c.val] w (.bool (catchC a.p c)) := by
  have HH : Hid (∀ (q : Im) w1, q ∈ c.ims → Below w.heap.size w w1 → Tells 65 #[a.p.val, q.v] w1 (.bool (holdsP q.r a.p))) := fun q w1 hq h => rholds_ok q.v q.r (ho q hq) a.p w1 (ha.p.keep h) ((hc.ims.2 q hq).below h)
  have HN : Hid (PB w ((w.alloc (cobj a TC)).alloc (cobj c TC)) a c) := PB.new w a c
  have HI : Hid (ImsIn w c.iv c.ims) := hc.ims
  obtain ⟨ai, ci, hiv, hn⟩ := hc.ims.slice
  obtain ⟨ap, cp, hlv, _⟩ := ha.p.lies.slice
  have HE : Hid (c.iv = .slice ai c.ims.length ci ∧ a.p.lv = .slice ap a.p.l.length cp) := ⟨hiv, hlv⟩
  unfold cobj at HN
  unfold CP.val
  rw [hiv, hlv] at HN ⊢
  clear ha hc ho hiv hlv
  cases h6 : (c.mode == 6)
  · have HR : Hid (catchC a.p c = false) := catch_mode h6
    have h6' : (c.mode != 6) = true := by simp [bne, h6]
    clear HH HI HE
    go_enter Tryd.func38, Tryd.ntmps38
    go_wp2_with fail
    go_ret
    exact ⟨ret_b HR.out.symm, HN.out.bel⟩
  have h6' : (c.mode != 6) = false := by simp [bne, h6]
  have H6 : Hid ((c.mode == 6) = true) := h6
  clear h6
  go_enter Tryd.func38, Tryd.ntmps38
  go_wp2_with fail
  go_loopw [5, 6] (fun i _ wr => ∃ k : Nat, k ≤ c.ims.length ∧ i = .int .i64 k ∧ Hid (∀ (j : Nat) (hj : j < c.ims.length), j < k → caughtI a.p c.ims[j].r = false) ∧ Hid (PB w wr a c))
    (fun i _ _ => c.ims.length - (intOf i).toNat)
  case atStart => exact ⟨0, Nat.zero_le _, rfl, fun j _ hj => by omega, HN.out⟩
  case round =>
    clear HN
    obtain ⟨k, hk, rfl, HG, HB⟩ := hrel
    have c6 : wr.cell? ⟨w.heap.size + 1, 6, none⟩ = some (.slice ai c.ims.length ci) := by have := HB.out.cb.box.c6; rwa [HE.out.1] at this
    by_cases h1 : k < c.ims.length
    · have i0 : (0 : Int) ≤ (k : Int) := by omega
      have i1 : (k : Int) < (c.ims.length : Int) := by omega
      have hin := HI.out.below HB.out.bel
      rw [HE.out.1] at hin
      obtain ⟨b, o, rfl, hat⟩ := hin.at k h1
      obtain ⟨ak, ck, hvk, _⟩ := (hin.2 _ (List.getElem_mem h1)).slice
      have HQ : Hid (Tells 65 #[a.p.val, c.ims[k].v] wr.drew (.bool (holdsP c.ims[k].r a.p))) := HH.out _ wr.drew (List.getElem_mem h1) HB.out.bel.drew
      rw [hvk] at hat HQ
      unfold PT.val at HQ
      rw [HE.out.2] at HQ
      obtain ⟨_, _, _, _, _, _, _, p7, p8, p9, p10, p11, p12, p13, p14, p15⟩ := HB.out.ca.box
      rw [HE.out.2] at p15
      have hlb : b < wr.heap.size := World.block_lt_of_cell? _ _ hat
      have HAT : Hid (wr.cell? ⟨b, o + k, none⟩ = _) := hat
      obtain ⟨u, hu⟩ : ∃ u, holdsP c.ims[k].r a.p = u := ⟨_, rfl⟩
      rw [hu] at HQ
      obtain ⟨m, hm⟩ : ∃ m, c.ims[k].r.length = m := ⟨_, rfl⟩
      have hc : caughtI a.p c.ims[k].r = (decide (0 < m) && u) := by
        rw [caughtI, hu, ← hm]
        cases c.ims[k].r <;> simp
      have HC : Hid (caughtI a.p c.ims[k].r = (decide (0 < m) && u)) := hc
      clear hc
      have HST : Hid (caughtI a.p c.ims[k].r = true → catchC a.p c = true) := fun h => catch_stop H6.out h1 h
      rw [hm] at hat HAT HQ
      clear hin hvk HI HH hu hm
      go_wp2_with fail
      refine wp_region_held_drew (S := fun w' => (w'.cell? ⟨w.heap.size, 7, none⟩ = some (.int .i64 a.p.op) ∧ w'.cell? ⟨w.heap.size, 8, none⟩ = some (.int .i64 a.p.col) ∧ w'.cell? ⟨w.heap.size, 9, none⟩ = some (.bool a.p.v.t) ∧ w'.cell? ⟨w.heap.size, 10, none⟩ = some (.int .i64 a.p.v.n) ∧ w'.cell? ⟨w.heap.size, 11, none⟩ = some (.string a.p.v.s) ∧ w'.cell? ⟨w.heap.size, 12, none⟩ = some (.bool a.p.w.t) ∧ w'.cell? ⟨w.heap.size, 13, none⟩ = some (.int .i64 a.p.w.n) ∧ w'.cell? ⟨w.heap.size, 14, none⟩ = some (.string a.p.w.s) ∧ w'.cell? ⟨w.heap.size, 15, none⟩ = some (.slice ap a.p.l.length cp)) ∧ w'.cell? ⟨w.heap.size + 1, 6, none⟩ = some (.slice (some ⟨b, o, none⟩) c.ims.length ci) ∧ w'.cell? ⟨b, o + k, none⟩ = some (.slice ak m ck)) (by kernel_rfl) ?_ (fun hHeld => ?_)
      · simp [c6, hat, p7, p8, p9, p10, p11, p12, p13, p14, p15]
      (try clear hK K)
      refine wpAnyH_take (i := 0) (v := ?_) rfl (by kernel_rfl) (by kernel_rfl) (by kernel_rfl) (fun _ _ _ h => h) (Or.inl ⟨by rfl, ?_⟩) (by assumption) ?_
      rotate_left
      · intro w hSw; (try dsimp only at hSw); go_simp; (try with_reducible rfl)
      (try simp only [Act.put, List.getElem_toArray, List.getElem_cons_zero, List.setIfInBounds_toArray, List.set_cons_zero, List.set_cons_succ])
      refine wpAnyH_take (i := 1) (v := ?_) rfl (by kernel_rfl) (by kernel_rfl) (by kernel_rfl) (fun _ _ _ h => h) (Or.inl ⟨by rfl, ?_⟩) (by assumption) ?_
      rotate_left
      · intro w hSw; (try dsimp only at hSw); go_simp; (try with_reducible rfl)
      (try simp only [Act.put, List.getElem_toArray, List.getElem_cons_succ, List.getElem_cons_zero, List.setIfInBounds_toArray, List.set_cons_zero, List.set_cons_succ])
      refine wpAnyH_take (i := 2) (v := ?_) rfl (by kernel_rfl) (by kernel_rfl) (by kernel_rfl) (fun _ _ _ h => h) (Or.inl ⟨by rfl, ?_⟩) (by assumption) ?_
      rotate_left
      · intro w hSw; (try dsimp only at hSw); go_simp; (try with_reducible rfl)
      (try simp only [Act.put, List.getElem_toArray, List.getElem_cons_succ, List.getElem_cons_zero, List.setIfInBounds_toArray, List.set_cons_zero, List.set_cons_succ])
      refine wpAnyH_take (i := 3) (v := ?_) rfl (by kernel_rfl) (by kernel_rfl) (by kernel_rfl) (fun _ _ _ h => h) (Or.inl ⟨by rfl, ?_⟩) (by assumption) ?_
      rotate_left
      · intro w hSw; (try dsimp only at hSw); go_simp; (try with_reducible rfl)
      (try simp only [Act.put, List.getElem_toArray, List.getElem_cons_succ, List.getElem_cons_zero, List.setIfInBounds_toArray, List.set_cons_zero, List.set_cons_succ])
      refine wpAnyH_take (i := 4) (v := ?_) rfl (by kernel_rfl) (by kernel_rfl) (by kernel_rfl) (fun _ _ _ h => h) (Or.inl ⟨by rfl, ?_⟩) (by assumption) ?_
      rotate_left
      · intro w hSw; (try dsimp only at hSw); go_simp; (try with_reducible rfl)
      (try simp only [Act.put, List.getElem_toArray, List.getElem_cons_succ, List.getElem_cons_zero, List.setIfInBounds_toArray, List.set_cons_zero, List.set_cons_succ])
      refine wpAnyH_take (i := 5) (v := ?_) rfl (by kernel_rfl) (by kernel_rfl) (by kernel_rfl) (fun _ _ _ h => h) (Or.inl ⟨by rfl, ?_⟩) (by assumption) ?_
      rotate_left
      · intro w hSw; (try dsimp only at hSw); go_simp; (try with_reducible rfl)
      (try simp only [Act.put, List.getElem_toArray, List.getElem_cons_succ, List.getElem_cons_zero, List.setIfInBounds_toArray, List.set_cons_zero, List.set_cons_succ])
      refine wpAnyH_take (i := 6) (v := ?_) rfl (by kernel_rfl) (by kernel_rfl) (by kernel_rfl) (fun _ _ _ h => h) (Or.inl ⟨by rfl, ?_⟩) (by assumption) ?_
      rotate_left
      · intro w hSw; (try dsimp only at hSw); go_simp; (try with_reducible rfl)
      (try simp only [Act.put, List.getElem_toArray, List.getElem_cons_succ, List.getElem_cons_zero, List.setIfInBounds_toArray, List.set_cons_zero, List.set_cons_succ])
      (try clear hK K)
      refine wpAnyH_ready (rs := [7]) (by kernel_rfl) (by simp) ?_
      refine AllReadyH.cons rfl (fun K hK => ?_) AllReadyH.nil
      go_simp
      (refine Calls.mono HQ.out ?_; rintro e w1 ⟨rfl, hb1⟩)
      refine hK.out _ _ ?_ (fun hHeld => ?_)
      · refine ⟨⟨?_, ?_, ?_, ?_, ?_, ?_, ?_, ?_, ?_⟩, ?_, ?_⟩ <;> (refine cell_below (w := wr.drew) ?_ hb1; simp [c6, hat, p7, p8, p9, p10, p11, p12, p13, p14, p15])
      (try clear hK K)
      refine wpAnyH_take (i := 8) (v := ?_) rfl (by kernel_rfl) (by kernel_rfl) (by kernel_rfl) (fun _ _ _ h => h) (Or.inl ⟨by rfl, ?_⟩) (by assumption) ?_
      rotate_left
      · intro w hSw; (try dsimp only at hSw); go_simp; (try with_reducible rfl)
      (try simp only [Act.put, List.getElem_toArray, List.getElem_cons_succ, List.getElem_cons_zero, List.setIfInBounds_toArray, List.set_cons_zero, List.set_cons_succ])
      (try clear hK K)
      refine wpAnyH_done (by kernel_rfl) ?_ _
      have HB1 : Hid (PB w w1 a c) := HB.out.below ((Below.refl _ _).drew.trans hb1)
      have d6 : w1.cell? ⟨w.heap.size + 1, 6, none⟩ = some (.slice (some ⟨b, o, none⟩) c.ims.length ci) := cell_below (w := wr.drew) (by simpa using c6) hb1
      have dat : w1.cell? ⟨b, o + k, none⟩ = some (.slice ak m ck) := cell_below (w := wr.drew) (by simpa using hat) hb1
      clear hb1 HB HQ HAT c6 hat hlb p7 p8 p9 p10 p11 p12 p13 p14 p15
      by_cases hm0 : 0 < m
      · have m0 : (0 : Int) < (m : Int) := by omega
        cases u
        · have HG1 : Hid (∀ (j : Nat) (hj : j < c.ims.length), j < k + 1 → caughtI a.p c.ims[j].r = false) := fun j hj hk => by
            rcases Nat.lt_succ_iff_lt_or_eq.1 hk with h | rfl
            · exact HG.out j hj h
            · rw [HC.out]; simp
          clear HG HC HST
          go_wp2_with fail
          go_roundw
          case rel => exact ⟨k + 1, by omega, by go_num, HG1, HB1⟩
          case measure => simp [intOf]; omega
        · have HR : Hid (catchC a.p c = true) := HST.out (by rw [HC.out]; simp [hm0])
          clear HG HC HST
          go_wp2_with fail
          go_ret
          exact ⟨ret_b HR.out.symm, HB1.out.bel⟩
      · have m0 : decide ((0 : Int) < (m : Int)) = false := by simp; omega
        have HG1 : Hid (∀ (j : Nat) (hj : j < c.ims.length), j < k + 1 → caughtI a.p c.ims[j].r = false) := fun j hj hk => by
          rcases Nat.lt_succ_iff_lt_or_eq.1 hk with h | rfl
          · exact HG.out j hj h
          · rw [HC.out]; simp [hm0]
        clear HG HC HST
        go_wp2_with fail
        go_roundw
        case rel => exact ⟨k + 1, by omega, by go_num, HG1, HB1⟩
        case measure => simp [intOf]; omega
    · have i1 : decide ((k : Int) < (c.ims.length : Int)) = false := by simp; omega
      obtain rfl : k = c.ims.length := by omega
      have HR : Hid (catchC a.p c = false) := catch_end H6.out fun j hj => HG.out j hj hj
      clear HG HH HI HE
      go_wp2_with fail
      go_ret
      exact ⟨ret_b HR.out.symm, HB.out.bel⟩
set_option maxHeartbeats 4000000 in
theorem rconflict_any (a b : CP) (w : World) (ha : CIn w a) (hb : CIn w b) (hoa : OkC a) (hob : OkC b) : Tells 18 #[a.val, b.val] w (.bool (conflictC a b)) := by
  have HF : Hid (∀ w1, Tells 37 #[.int .i64 a.mode, .int .i64 b.mode] w1 (.bool (fitsM a.mode b.mode))) := fun w1 => mrfits_any _ _ w1
  have HA : Hid (∀ w1, Below w.heap.size w w1 → Tells 38 #[a.val, b.val] w1 (.bool (catchC a.p b))) := fun w1 h => rmeets_any _ _ w1 (ha.below h) (hb.below h) hob
  have HB : Hid (∀ w1, Below w.heap.size w w1 → Tells 38 #[b.val, a.val] w1 (.bool (catchC b.p a))) := fun w1 h => rmeets_any _ _ w1 (hb.below h) (ha.below h) hoa
  have HN : Hid (PB w ((w.alloc (cobj a TC)).alloc (cobj b TC)) a b) := PB.new w a b
  have ev := fun w => eql_V a.key b.key w
  obtain ⟨s, -⟩ := some_b (a.p.bare = b.p.bare)
  clear ha hb hoa hob
  unfold cobj at HN
  unfold CP.val
  cases h0 : (a.table != b.table)
  case true =>
    have HR : Hid (conflictC a b = false) := conf_t h0
    clear HF HA HB
    go_enter Tryd.func18, Tryd.ntmps18
    go_wp2_with fail
    go_ret
    exact ⟨ret_b HR.out.symm, HN.out.bel⟩
  have HR1 : Hid ((a.kind == 1 && b.kind == 1) = true → conflictC a b = !fitsM a.mode b.mode) := fun h => by rw [conf_1 (s := s) h0 h, same_1 h0 h, Bool.true_and]
  have HR2 : Hid ((a.kind == 2 && b.kind == 2) = true → conflictC a b = (eqV a.key b.key && !fitsM a.mode b.mode)) := fun h => by rw [conf_2 (s := s) h0 h, same_2 h0 h]
  have HR3 : Hid ((a.kind == 3 && b.kind == 2) = true → conflictC a b = catchC a.p b) := fun h => conf_32 h0 h
  have HR4 : Hid ((a.kind == 2 && b.kind == 3) = true → conflictC a b = catchC b.p a) := fun h => conf_23 h0 h
  have HR0 : Hid ((a.kind == 1 && b.kind == 1) = false → (a.kind == 2 && b.kind == 2) = false → (a.kind == 3 && b.kind == 2) = false → (a.kind == 2 && b.kind == 3) = false → conflictC a b = false) := fun h1 h2 h3 h4 => conf_0 h1 h2 h3 h4
  generalize conflictC a b = v at *
  generalize fitsM a.mode b.mode = f at *
  generalize catchC a.p b = ca at *
  generalize catchC b.p a = cb at *
  have ne : ∀ {x c d : Int}, (x == c) = true → c ≠ d → (x == d) = false := fun h hne => by have := eq_of_beq h; rw [this]; simpa using hne
  have NE : Hid (∀ {x c d : Int}, (x == c) = true → c ≠ d → (x == d) = false) := ne
  clear ne
  cases i1 : (a.kind == 1)
  case true =>
    have i2 : (a.kind == 2) = false := NE.out i1 (by decide)
    have i3 : (a.kind == 3) = false := NE.out i1 (by decide)
    cases j1 : (b.kind == 1)
    case true =>
      have j2 : (b.kind == 2) = false := NE.out j1 (by decide)
      have j3 : (b.kind == 3) = false := NE.out j1 (by decide)
      have HR : Hid _ := HR1.out (by rw [i1, j1]; rfl)
      clear HR0 HR1 HR2 HR3 HR4
      go_enter Tryd.func18, Tryd.ntmps18
      go_wp2_with fail
      refine Calls.mono (HF.out _) ?_
      rintro e w1 ⟨rfl, hb⟩
      have H1 : Hid (PB w w1 a b) := HN.out.below hb
      have q0 : w1.cell? ⟨w.heap.size, 0, none⟩ = some (.int .i64 a.kind) := H1.out.ca.cell 0
      have q1 : w1.cell? ⟨w.heap.size + 1, 0, none⟩ = some (.int .i64 b.kind) := H1.out.cb.cell 0
      clear hb HN HF
      clear HA HB
      go_wp2_with fail
      go_ret
      exact ⟨ret_b HR.out.symm, H1.out.bel⟩
    cases j2 : (b.kind == 2)
    case true =>
      have j3 : (b.kind == 3) = false := NE.out j2 (by decide)
      have HR : Hid _ := HR0.out (by rw [i1, j1]; rfl) (by rw [i2, j2]; rfl) (by rw [i3, j2]; rfl) (by rw [i2, j3]; rfl)
      clear HR0 HR1 HR2 HR3 HR4
      go_enter Tryd.func18, Tryd.ntmps18
      go_wp2_with fail
      refine Calls.mono (HF.out _) ?_
      rintro e w1 ⟨rfl, hb⟩
      have H1 : Hid (PB w w1 a b) := HN.out.below hb
      have q0 : w1.cell? ⟨w.heap.size, 0, none⟩ = some (.int .i64 a.kind) := H1.out.ca.cell 0
      have q1 : w1.cell? ⟨w.heap.size + 1, 0, none⟩ = some (.int .i64 b.kind) := H1.out.cb.cell 0
      clear hb HN HF
      clear HA HB
      go_wp2_with fail
      go_ret
      exact ⟨ret_b HR.out.symm, H1.out.bel⟩
    cases j3 : (b.kind == 3)
    case true =>
      have HR : Hid _ := HR0.out (by rw [i1, j1]; rfl) (by rw [i2, j2]; rfl) (by rw [i3, j2]; rfl) (by rw [i2, j3]; rfl)
      clear HR0 HR1 HR2 HR3 HR4
      go_enter Tryd.func18, Tryd.ntmps18
      go_wp2_with fail
      refine Calls.mono (HF.out _) ?_
      rintro e w1 ⟨rfl, hb⟩
      have H1 : Hid (PB w w1 a b) := HN.out.below hb
      have q0 : w1.cell? ⟨w.heap.size, 0, none⟩ = some (.int .i64 a.kind) := H1.out.ca.cell 0
      have q1 : w1.cell? ⟨w.heap.size + 1, 0, none⟩ = some (.int .i64 b.kind) := H1.out.cb.cell 0
      clear hb HN HF
      clear HA HB
      go_wp2_with fail
      go_ret
      exact ⟨ret_b HR.out.symm, H1.out.bel⟩
    have HR : Hid _ := HR0.out (by rw [i1, j1]; rfl) (by rw [i2, j2]; rfl) (by rw [i3, j2]; rfl) (by rw [i2, j3]; rfl)
    clear HR0 HR1 HR2 HR3 HR4
    go_enter Tryd.func18, Tryd.ntmps18
    go_wp2_with fail
    refine Calls.mono (HF.out _) ?_
    rintro e w1 ⟨rfl, hb⟩
    have H1 : Hid (PB w w1 a b) := HN.out.below hb
    have q0 : w1.cell? ⟨w.heap.size, 0, none⟩ = some (.int .i64 a.kind) := H1.out.ca.cell 0
    have q1 : w1.cell? ⟨w.heap.size + 1, 0, none⟩ = some (.int .i64 b.kind) := H1.out.cb.cell 0
    clear hb HN HF
    clear HA HB
    go_wp2_with fail
    go_ret
    exact ⟨ret_b HR.out.symm, H1.out.bel⟩
  cases i2 : (a.kind == 2)
  case true =>
    have i3 : (a.kind == 3) = false := NE.out i2 (by decide)
    cases j1 : (b.kind == 1)
    case true =>
      have j2 : (b.kind == 2) = false := NE.out j1 (by decide)
      have j3 : (b.kind == 3) = false := NE.out j1 (by decide)
      have HR : Hid _ := HR0.out (by rw [i1, j1]; rfl) (by rw [i2, j2]; rfl) (by rw [i3, j2]; rfl) (by rw [i2, j3]; rfl)
      clear HR0 HR1 HR2 HR3 HR4
      go_enter Tryd.func18, Tryd.ntmps18
      go_wp2_with fail
      refine Calls.mono (HF.out _) ?_
      rintro e w1 ⟨rfl, hb⟩
      have H1 : Hid (PB w w1 a b) := HN.out.below hb
      have q0 : w1.cell? ⟨w.heap.size, 0, none⟩ = some (.int .i64 a.kind) := H1.out.ca.cell 0
      have q1 : w1.cell? ⟨w.heap.size + 1, 0, none⟩ = some (.int .i64 b.kind) := H1.out.cb.cell 0
      clear hb HN HF
      clear HA HB
      go_wp2_with fail
      go_ret
      exact ⟨ret_b HR.out.symm, H1.out.bel⟩
    cases j2 : (b.kind == 2)
    case true =>
      have j3 : (b.kind == 3) = false := NE.out j2 (by decide)
      have HR : Hid _ := HR2.out (by rw [i2, j2]; rfl)
      clear HR0 HR1 HR2 HR3 HR4
      go_enter Tryd.func18, Tryd.ntmps18
      go_wp2_with fail
      refine Calls.mono (HF.out _) ?_
      rintro e w1 ⟨rfl, hb⟩
      have H1 : Hid (PB w w1 a b) := HN.out.below hb
      have q0 : w1.cell? ⟨w.heap.size, 0, none⟩ = some (.int .i64 a.kind) := H1.out.ca.cell 0
      have q1 : w1.cell? ⟨w.heap.size + 1, 0, none⟩ = some (.int .i64 b.kind) := H1.out.cb.cell 0
      clear hb HN HF
      obtain ⟨_, _, _, x3, x4, x5, _⟩ := H1.out.ca.box
      obtain ⟨_, _, _, y3, y4, y5, _⟩ := H1.out.cb.box
      clear HA HB
      cases hk : eqV a.key b.key
      · rw [hk] at HR ev
        go_wp2_with fail
        go_ret
        exact ⟨ret_b HR.out.symm, H1.out.bel⟩
      · rw [hk] at HR ev
        go_wp2_with fail
        go_ret
        exact ⟨ret_b HR.out.symm, H1.out.bel⟩
    cases j3 : (b.kind == 3)
    case true =>
      have HR : Hid _ := HR4.out (by rw [i2, j3]; rfl)
      clear HR0 HR1 HR2 HR3 HR4
      go_enter Tryd.func18, Tryd.ntmps18
      go_wp2_with fail
      refine Calls.mono (HF.out _) ?_
      rintro e w1 ⟨rfl, hb⟩
      have H1 : Hid (PB w w1 a b) := HN.out.below hb
      have q0 : w1.cell? ⟨w.heap.size, 0, none⟩ = some (.int .i64 a.kind) := H1.out.ca.cell 0
      have q1 : w1.cell? ⟨w.heap.size + 1, 0, none⟩ = some (.int .i64 b.kind) := H1.out.cb.cell 0
      clear hb HN HF
      go_wp2_with (first | (refine step_cload rfl _ rfl w.heap.size a rfl H1.out.ca ?_) | (refine step_cload rfl _ rfl (w.heap.size + 1) b rfl H1.out.cb ?_) | fail)
      refine Calls.mono (HB.out _ H1.out.bel) ?_
      rintro e w2 ⟨rfl, hb⟩
      have H2 : Hid (Below w.heap.size w w2) := on H1.out.bel hb
      clear hb H1 HA HB
      go_wp2_with fail
      go_ret
      exact ⟨ret_b HR.out.symm, H2.out⟩
    have HR : Hid _ := HR0.out (by rw [i1, j1]; rfl) (by rw [i2, j2]; rfl) (by rw [i3, j2]; rfl) (by rw [i2, j3]; rfl)
    clear HR0 HR1 HR2 HR3 HR4
    go_enter Tryd.func18, Tryd.ntmps18
    go_wp2_with fail
    refine Calls.mono (HF.out _) ?_
    rintro e w1 ⟨rfl, hb⟩
    have H1 : Hid (PB w w1 a b) := HN.out.below hb
    have q0 : w1.cell? ⟨w.heap.size, 0, none⟩ = some (.int .i64 a.kind) := H1.out.ca.cell 0
    have q1 : w1.cell? ⟨w.heap.size + 1, 0, none⟩ = some (.int .i64 b.kind) := H1.out.cb.cell 0
    clear hb HN HF
    clear HA HB
    go_wp2_with fail
    go_ret
    exact ⟨ret_b HR.out.symm, H1.out.bel⟩
  cases i3 : (a.kind == 3)
  case true =>
    cases j1 : (b.kind == 1)
    case true =>
      have j2 : (b.kind == 2) = false := NE.out j1 (by decide)
      have j3 : (b.kind == 3) = false := NE.out j1 (by decide)
      have HR : Hid _ := HR0.out (by rw [i1, j1]; rfl) (by rw [i2, j2]; rfl) (by rw [i3, j2]; rfl) (by rw [i2, j3]; rfl)
      clear HR0 HR1 HR2 HR3 HR4
      go_enter Tryd.func18, Tryd.ntmps18
      go_wp2_with fail
      refine Calls.mono (HF.out _) ?_
      rintro e w1 ⟨rfl, hb⟩
      have H1 : Hid (PB w w1 a b) := HN.out.below hb
      have q0 : w1.cell? ⟨w.heap.size, 0, none⟩ = some (.int .i64 a.kind) := H1.out.ca.cell 0
      have q1 : w1.cell? ⟨w.heap.size + 1, 0, none⟩ = some (.int .i64 b.kind) := H1.out.cb.cell 0
      clear hb HN HF
      clear HA HB
      go_wp2_with fail
      go_ret
      exact ⟨ret_b HR.out.symm, H1.out.bel⟩
    cases j2 : (b.kind == 2)
    case true =>
      have j3 : (b.kind == 3) = false := NE.out j2 (by decide)
      have HR : Hid _ := HR3.out (by rw [i3, j2]; rfl)
      clear HR0 HR1 HR2 HR3 HR4
      go_enter Tryd.func18, Tryd.ntmps18
      go_wp2_with fail
      refine Calls.mono (HF.out _) ?_
      rintro e w1 ⟨rfl, hb⟩
      have H1 : Hid (PB w w1 a b) := HN.out.below hb
      have q0 : w1.cell? ⟨w.heap.size, 0, none⟩ = some (.int .i64 a.kind) := H1.out.ca.cell 0
      have q1 : w1.cell? ⟨w.heap.size + 1, 0, none⟩ = some (.int .i64 b.kind) := H1.out.cb.cell 0
      clear hb HN HF
      go_wp2_with (first | (refine step_cload rfl _ rfl w.heap.size a rfl H1.out.ca ?_) | (refine step_cload rfl _ rfl (w.heap.size + 1) b rfl H1.out.cb ?_) | fail)
      refine Calls.mono (HA.out _ H1.out.bel) ?_
      rintro e w2 ⟨rfl, hb⟩
      have H2 : Hid (Below w.heap.size w w2) := on H1.out.bel hb
      clear hb H1 HA HB
      go_wp2_with fail
      go_ret
      exact ⟨ret_b HR.out.symm, H2.out⟩
    cases j3 : (b.kind == 3)
    case true =>
      have HR : Hid _ := HR0.out (by rw [i1, j1]; rfl) (by rw [i2, j2]; rfl) (by rw [i3, j2]; rfl) (by rw [i2, j3]; rfl)
      clear HR0 HR1 HR2 HR3 HR4
      go_enter Tryd.func18, Tryd.ntmps18
      go_wp2_with fail
      refine Calls.mono (HF.out _) ?_
      rintro e w1 ⟨rfl, hb⟩
      have H1 : Hid (PB w w1 a b) := HN.out.below hb
      have q0 : w1.cell? ⟨w.heap.size, 0, none⟩ = some (.int .i64 a.kind) := H1.out.ca.cell 0
      have q1 : w1.cell? ⟨w.heap.size + 1, 0, none⟩ = some (.int .i64 b.kind) := H1.out.cb.cell 0
      clear hb HN HF
      clear HA HB
      go_wp2_with fail
      go_ret
      exact ⟨ret_b HR.out.symm, H1.out.bel⟩
    have HR : Hid _ := HR0.out (by rw [i1, j1]; rfl) (by rw [i2, j2]; rfl) (by rw [i3, j2]; rfl) (by rw [i2, j3]; rfl)
    clear HR0 HR1 HR2 HR3 HR4
    go_enter Tryd.func18, Tryd.ntmps18
    go_wp2_with fail
    refine Calls.mono (HF.out _) ?_
    rintro e w1 ⟨rfl, hb⟩
    have H1 : Hid (PB w w1 a b) := HN.out.below hb
    have q0 : w1.cell? ⟨w.heap.size, 0, none⟩ = some (.int .i64 a.kind) := H1.out.ca.cell 0
    have q1 : w1.cell? ⟨w.heap.size + 1, 0, none⟩ = some (.int .i64 b.kind) := H1.out.cb.cell 0
    clear hb HN HF
    clear HA HB
    go_wp2_with fail
    go_ret
    exact ⟨ret_b HR.out.symm, H1.out.bel⟩
  cases j1 : (b.kind == 1)
  case true =>
    have j2 : (b.kind == 2) = false := NE.out j1 (by decide)
    have j3 : (b.kind == 3) = false := NE.out j1 (by decide)
    have HR : Hid _ := HR0.out (by rw [i1, j1]; rfl) (by rw [i2, j2]; rfl) (by rw [i3, j2]; rfl) (by rw [i2, j3]; rfl)
    clear HR0 HR1 HR2 HR3 HR4
    go_enter Tryd.func18, Tryd.ntmps18
    go_wp2_with fail
    refine Calls.mono (HF.out _) ?_
    rintro e w1 ⟨rfl, hb⟩
    have H1 : Hid (PB w w1 a b) := HN.out.below hb
    have q0 : w1.cell? ⟨w.heap.size, 0, none⟩ = some (.int .i64 a.kind) := H1.out.ca.cell 0
    have q1 : w1.cell? ⟨w.heap.size + 1, 0, none⟩ = some (.int .i64 b.kind) := H1.out.cb.cell 0
    clear hb HN HF
    clear HA HB
    go_wp2_with fail
    go_ret
    exact ⟨ret_b HR.out.symm, H1.out.bel⟩
  cases j2 : (b.kind == 2)
  case true =>
    have j3 : (b.kind == 3) = false := NE.out j2 (by decide)
    have HR : Hid _ := HR0.out (by rw [i1, j1]; rfl) (by rw [i2, j2]; rfl) (by rw [i3, j2]; rfl) (by rw [i2, j3]; rfl)
    clear HR0 HR1 HR2 HR3 HR4
    go_enter Tryd.func18, Tryd.ntmps18
    go_wp2_with fail
    refine Calls.mono (HF.out _) ?_
    rintro e w1 ⟨rfl, hb⟩
    have H1 : Hid (PB w w1 a b) := HN.out.below hb
    have q0 : w1.cell? ⟨w.heap.size, 0, none⟩ = some (.int .i64 a.kind) := H1.out.ca.cell 0
    have q1 : w1.cell? ⟨w.heap.size + 1, 0, none⟩ = some (.int .i64 b.kind) := H1.out.cb.cell 0
    clear hb HN HF
    clear HA HB
    go_wp2_with fail
    go_ret
    exact ⟨ret_b HR.out.symm, H1.out.bel⟩
  cases j3 : (b.kind == 3)
  case true =>
    have HR : Hid _ := HR0.out (by rw [i1, j1]; rfl) (by rw [i2, j2]; rfl) (by rw [i3, j2]; rfl) (by rw [i2, j3]; rfl)
    clear HR0 HR1 HR2 HR3 HR4
    go_enter Tryd.func18, Tryd.ntmps18
    go_wp2_with fail
    refine Calls.mono (HF.out _) ?_
    rintro e w1 ⟨rfl, hb⟩
    have H1 : Hid (PB w w1 a b) := HN.out.below hb
    have q0 : w1.cell? ⟨w.heap.size, 0, none⟩ = some (.int .i64 a.kind) := H1.out.ca.cell 0
    have q1 : w1.cell? ⟨w.heap.size + 1, 0, none⟩ = some (.int .i64 b.kind) := H1.out.cb.cell 0
    clear hb HN HF
    clear HA HB
    go_wp2_with fail
    go_ret
    exact ⟨ret_b HR.out.symm, H1.out.bel⟩
  have HR : Hid _ := HR0.out (by rw [i1, j1]; rfl) (by rw [i2, j2]; rfl) (by rw [i3, j2]; rfl) (by rw [i2, j3]; rfl)
  clear HR0 HR1 HR2 HR3 HR4
  go_enter Tryd.func18, Tryd.ntmps18
  go_wp2_with fail
  refine Calls.mono (HF.out _) ?_
  rintro e w1 ⟨rfl, hb⟩
  have H1 : Hid (PB w w1 a b) := HN.out.below hb
  have q0 : w1.cell? ⟨w.heap.size, 0, none⟩ = some (.int .i64 a.kind) := H1.out.ca.cell 0
  have q1 : w1.cell? ⟨w.heap.size + 1, 0, none⟩ = some (.int .i64 b.kind) := H1.out.cb.cell 0
  clear hb HN HF
  clear HA HB
  go_wp2_with fail
  go_ret
  exact ⟨ret_b HR.out.symm, H1.out.bel⟩
end Go.Proofs.YtkkbbpldeeajaaaDoor.Val
/- What the document's Covers of claims answers. -/
namespace Go.Proofs.YtkkbbpldeeajaaaDoor.Val
open Go.RowKit
set_option maxRecDepth 100000

theorem cov_stop {l : List (List Val)} {c : CP} {k : Nat} (hk : k < c.ims.length) (h : hasI l c.ims[k].r = false) : c.rows.all (hasI l) = false := by
  rw [← Bool.not_eq_true, List.all_eq_true]
  intro hh
  have := hh _ (List.mem_map.2 ⟨c.ims[k], List.getElem_mem hk, rfl⟩)
  rw [h] at this
  cases this
theorem cov_end {l : List (List Val)} {c : CP} (h : ∀ (j : Nat) (hj : j < c.ims.length), hasI l c.ims[j].r = true) : c.rows.all (hasI l) = true := by
  rw [List.all_eq_true]
  intro x hx
  obtain ⟨i, hi, rfl⟩ := List.mem_map.1 hx
  obtain ⟨j, hj, rfl⟩ := List.mem_iff_getElem.1 hi
  exact h j hj
set_option maxHeartbeats 4000000 in
theorem rccovers_any (a b : CP) (s : Bool) (hs : s = true ↔ a.p.bare = b.p.bare) (w : World) (ha : CIn w a) (hb : CIn w b) : Tells 20 #[a.val, b.val] w (.bool (coversC s a b)) := by
  have HS : Hid (∀ w1, Below w.heap.size w w1 → Tells 16 #[a.val, b.val] w1 (.bool (sameC s a b))) := fun w1 h => rcsame_any a b s hs w1 (ha.below h) (hb.below h)
  have HF : Hid (∀ w1, Tells 43 #[.int .i64 a.mode, .int .i64 b.mode] w1 (.bool (coversM a.mode b.mode))) := fun w1 => rcovers_any _ _ w1
  have HIN : Hid (∀ (q : Im) w1, q ∈ b.ims → Below w.heap.size w w1 → Calls Tryd.prog 44 #[a.iv, q.v] w1 fun e w' => e = .returned (.bool (hasI a.rows q.r)) ∧ Below w1.heap.size w1 w') := fun q w1 hq h => rin_any a.iv q.v a.ims q.r w1 (ha.ims.below h) ((hb.ims.2 q hq).below h)
  have HN : Hid (PB w ((w.alloc (cobj a TC)).alloc (cobj b TC)) a b) := PB.new w a b
  have HI : Hid (ImsIn w b.iv b.ims) := hb.ims
  obtain ⟨ai, ci, hiv, hn⟩ := hb.ims.slice
  obtain ⟨aj, cj, hjv, hnj⟩ := ha.ims.slice
  have HE : Hid (b.iv = .slice ai b.ims.length ci ∧ a.iv = .slice aj a.ims.length cj) := ⟨hiv, hjv⟩
  have HR : Hid (coversC s a b = (sameC s a b && (coversM a.mode b.mode && b.rows.all (hasI a.rows)))) := rfl
  unfold cobj at HN
  unfold CP.val
  clear hs ha hb hiv hjv
  generalize sameC s a b = v at *
  generalize coversM a.mode b.mode = u at *
  go_enter Tryd.func20, Tryd.ntmps20
  go_wp2_with fail
  refine Calls.mono (HS.out _ HN.out.bel) ?_
  rintro e w1 ⟨rfl, hb⟩
  have H1 : Hid (PB w w1 a b) := HN.out.below hb
  clear hb HN HS
  have m1 : w1.cell? ⟨w.heap.size, 2, none⟩ = some (.int .i64 a.mode) := H1.out.ca.cell 2
  have m2 : w1.cell? ⟨w.heap.size + 1, 2, none⟩ = some (.int .i64 b.mode) := H1.out.cb.cell 2
  cases v
  · clear HF HIN HI HE
    go_wp2_with fail
    go_ret
    exact ⟨ret_b (by rw [HR.out]; rfl), H1.out.bel⟩
  cases u
  · clear HIN HI HE
    go_wp2_with fail
    refine Calls.mono (HF.out _) ?_
    rintro e w2 ⟨rfl, hb⟩
    have H2 : Hid (Below w.heap.size w w2) := on H1.out.bel hb
    clear hb H1 HF m1 m2
    go_wp2_with fail
    go_ret
    exact ⟨ret_b (by rw [HR.out]; rfl), H2.out⟩
  go_wp2_with fail
  refine Calls.mono (HF.out _) ?_
  rintro e w2 ⟨rfl, hb⟩
  have H2 : Hid (PB w w2 a b) := H1.out.below hb
  clear hb H1 HF m1 m2
  go_wp2_with fail
  go_loopw [6, 7] (fun i _ wr => ∃ k : Nat, k ≤ b.ims.length ∧ i = .int .i64 k ∧ Hid (∀ (j : Nat) (hj : j < b.ims.length), j < k → hasI a.rows b.ims[j].r = true) ∧ Hid (PB w wr a b))
    (fun i _ _ => b.ims.length - (intOf i).toNat)
  case atStart => exact ⟨0, Nat.zero_le _, rfl, fun j _ hj => by omega, H2.out⟩
  case round =>
    clear H2
    obtain ⟨k, hk, rfl, HG, HB⟩ := hrel
    have c6 : wr.cell? ⟨w.heap.size + 1, 6, none⟩ = some (.slice ai b.ims.length ci) := by have := HB.out.cb.box.c6; rwa [HE.out.1] at this
    have d6 : wr.cell? ⟨w.heap.size, 6, none⟩ = some (.slice aj a.ims.length cj) := by have := HB.out.ca.box.c6; rwa [HE.out.2] at this
    by_cases h1 : k < b.ims.length
    · have i0 : (0 : Int) ≤ (k : Int) := by omega
      have i1 : (k : Int) < (b.ims.length : Int) := by omega
      have hin := HI.out.below HB.out.bel
      rw [HE.out.1] at hin
      obtain ⟨bb, o, rfl, hat⟩ := hin.at k h1
      obtain ⟨ak, ck, hvk, _⟩ := (hin.2 _ (List.getElem_mem h1)).slice
      have HQ : Hid (Calls Tryd.prog 44 #[a.iv, b.ims[k].v] wr.drew fun e w' => e = .returned (.bool (hasI a.rows b.ims[k].r)) ∧ Below wr.drew.heap.size wr.drew w') := HIN.out _ wr.drew (List.getElem_mem h1) HB.out.bel.drew
      rw [hvk] at hat HQ
      rw [HE.out.2] at HQ
      have hlb : bb < wr.heap.size := World.block_lt_of_cell? _ _ hat
      obtain ⟨u, hu⟩ : ∃ u, hasI a.rows b.ims[k].r = u := ⟨_, rfl⟩
      rw [hu] at HQ
      have HU : Hid (hasI a.rows b.ims[k].r = u) := hu
      clear hin hvk HI HIN hu
      go_wp2_with fail
      refine wp_region_held_drew (S := fun w' => w'.cell? ⟨w.heap.size, 6, none⟩ = some (.slice aj a.ims.length cj) ∧ w'.cell? ⟨w.heap.size + 1, 6, none⟩ = some (.slice (some ⟨bb, o, none⟩) b.ims.length ci) ∧ w'.cell? ⟨bb, o + k, none⟩ = some (.slice ak b.ims[k].r.length ck)) (by kernel_rfl) ?_ (fun hHeld => ?_)
      · simp [c6, hat, d6]
      (try clear hK K)
      refine wpAnyH_take (i := 0) (v := ?_) rfl (by kernel_rfl) (by kernel_rfl) (by kernel_rfl) (fun _ _ _ h => h) (Or.inl ⟨by rfl, ?_⟩) (by assumption) ?_
      rotate_left
      · intro w hSw; (try dsimp only at hSw); go_simp; (try with_reducible rfl)
      (try simp only [Act.put, List.getElem_toArray, List.getElem_cons_zero, List.setIfInBounds_toArray, List.set_cons_zero, List.set_cons_succ])
      refine wpAnyH_take (i := 1) (v := ?_) rfl (by kernel_rfl) (by kernel_rfl) (by kernel_rfl) (fun _ _ _ h => h) (Or.inl ⟨by rfl, ?_⟩) (by assumption) ?_
      rotate_left
      · intro w hSw; (try dsimp only at hSw); go_simp; (try with_reducible rfl)
      (try simp only [Act.put, List.getElem_toArray, List.getElem_cons_succ, List.getElem_cons_zero, List.setIfInBounds_toArray, List.set_cons_zero, List.set_cons_succ])
      refine wpAnyH_take (i := 2) (v := ?_) rfl (by kernel_rfl) (by kernel_rfl) (by kernel_rfl) (fun _ _ _ h => h) (Or.inl ⟨by rfl, ?_⟩) (by assumption) ?_
      rotate_left
      · intro w hSw; (try dsimp only at hSw); go_simp; (try with_reducible rfl)
      (try simp only [Act.put, List.getElem_toArray, List.getElem_cons_succ, List.getElem_cons_zero, List.setIfInBounds_toArray, List.set_cons_zero, List.set_cons_succ])
      refine wpAnyH_take (i := 3) (v := ?_) rfl (by kernel_rfl) (by kernel_rfl) (by kernel_rfl) (fun _ _ _ h => h) (Or.inl ⟨by rfl, ?_⟩) (by assumption) ?_
      rotate_left
      · intro w hSw; (try dsimp only at hSw); go_simp; (try with_reducible rfl)
      (try simp only [Act.put, List.getElem_toArray, List.getElem_cons_succ, List.getElem_cons_zero, List.setIfInBounds_toArray, List.set_cons_zero, List.set_cons_succ])
      refine wpAnyH_take (i := 4) (v := ?_) rfl (by kernel_rfl) (by kernel_rfl) (by kernel_rfl) (fun _ _ _ h => h) (Or.inl ⟨by rfl, ?_⟩) (by assumption) ?_
      rotate_left
      · intro w hSw; (try dsimp only at hSw); go_simp; (try with_reducible rfl)
      (try simp only [Act.put, List.getElem_toArray, List.getElem_cons_succ, List.getElem_cons_zero, List.setIfInBounds_toArray, List.set_cons_zero, List.set_cons_succ])
      refine wpAnyH_take (i := 5) (v := ?_) rfl (by kernel_rfl) (by kernel_rfl) (by kernel_rfl) (fun _ _ _ h => h) (Or.inl ⟨by rfl, ?_⟩) (by assumption) ?_
      rotate_left
      · intro w hSw; (try dsimp only at hSw); go_simp; (try with_reducible rfl)
      (try simp only [Act.put, List.getElem_toArray, List.getElem_cons_succ, List.getElem_cons_zero, List.setIfInBounds_toArray, List.set_cons_zero, List.set_cons_succ])
      refine wpAnyH_take (i := 6) (v := ?_) rfl (by kernel_rfl) (by kernel_rfl) (by kernel_rfl) (fun _ _ _ h => h) (Or.inl ⟨by rfl, ?_⟩) (by assumption) ?_
      rotate_left
      · intro w hSw; (try dsimp only at hSw); go_simp; (try with_reducible rfl)
      (try simp only [Act.put, List.getElem_toArray, List.getElem_cons_succ, List.getElem_cons_zero, List.setIfInBounds_toArray, List.set_cons_zero, List.set_cons_succ])
      (try clear hK K)
      refine wpAnyH_ready (rs := [7]) (by kernel_rfl) (by simp) ?_
      refine AllReadyH.cons rfl (fun K hK => ?_) AllReadyH.nil
      go_simp
      (refine Calls.mono HQ.out ?_; rintro e w3 ⟨rfl, hb1⟩)
      refine hK.out _ _ ?_ (fun hHeld => ?_)
      · refine ⟨?_, ?_, ?_⟩ <;> (refine cell_below (w := wr.drew) ?_ hb1; simp [c6, hat, d6])
      (try clear hK K)
      refine wpAnyH_take (i := 8) (v := ?_) rfl (by kernel_rfl) (by kernel_rfl) (by kernel_rfl) (fun _ _ _ h => h) (Or.inl ⟨by rfl, ?_⟩) (by assumption) ?_
      rotate_left
      · intro w hSw; (try dsimp only at hSw); go_simp; (try with_reducible rfl)
      (try simp only [Act.put, List.getElem_toArray, List.getElem_cons_succ, List.getElem_cons_zero, List.setIfInBounds_toArray, List.set_cons_zero, List.set_cons_succ])
      (try clear hK K)
      refine wpAnyH_done (by kernel_rfl) ?_ _
      have HB1 : Hid (PB w w3 a b) := HB.out.below ((Below.refl _ _).drew.trans hb1)
      clear hb1 HB HQ c6 d6 hat hlb
      cases u
      · have HX : Hid (b.rows.all (hasI a.rows) = false) := cov_stop h1 HU.out
        clear HG HU HE
        go_wp2_with fail
        go_ret
        exact ⟨ret_b (by rw [HR.out, HX.out]; rfl), HB1.out.bel⟩
      · have HG1 : Hid (∀ (j : Nat) (hj : j < b.ims.length), j < k + 1 → hasI a.rows b.ims[j].r = true) := fun j hj hk => by
          rcases Nat.lt_succ_iff_lt_or_eq.1 hk with h | rfl
          · exact HG.out j hj h
          · exact HU.out
        clear HG HU HE
        go_wp2_with fail
        go_roundw
        case rel => exact ⟨k + 1, by omega, by go_num, HG1, HB1⟩
        case measure => simp [intOf]; omega
    · have i1 : decide ((k : Int) < (b.ims.length : Int)) = false := by simp; omega
      obtain rfl : k = b.ims.length := by omega
      have HX : Hid (b.rows.all (hasI a.rows) = true) := cov_end fun j hj => HG.out j hj hj
      clear HG HI HIN HE
      go_wp2_with fail
      go_ret
      exact ⟨ret_b (by rw [HR.out, HX.out]; rfl), HB.out.bel⟩
end Go.Proofs.YtkkbbpldeeajaaaDoor.Val
