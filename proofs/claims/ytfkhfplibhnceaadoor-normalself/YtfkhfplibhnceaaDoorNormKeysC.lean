/- What together, keys, Normal and Keys of package normal answer. -/
import Derived.Test.YtfkhfplibhnceaaDoorNormLeafK
namespace Go.Proofs.YtfkhfplibhnceaaDoor.Val
open Go.RowKit

/-- What is taken together so far, and the answer's box. -/
structure TG (w0 : World) (s : Sp) (w : World) : Prop where
  pa : SBox w w0.heap.size s
  pz : SBox w (w0.heap.size + 1) Sp.all
  fa : Fr w w0.heap.size
  fz : Fr w (w0.heap.size + 1)
  be : Below w0.heap.size w0 w
theorem TG.below {w0 w w' : World} {s : Sp} (h : TG w0 s w) (hb : Below w.heap.size w w') : TG w0 s w' := ⟨h.pa.below hb, h.pz.below hb, h.fa.below hb, h.fz.below hb, on h.be hb⟩
theorem TG.new (w : World) (s : Sp) (T1 T2 : TypeId) : TG w s ((w.alloc (sobj s T1)).alloc (sobj Sp.all T2)) :=
  ⟨(S2.new w s T1 T2).pa, (S2.new w s T1 T2).pz, (Fr.new w _ T1).alloc _, (S2.new w s T1 T2).fz, (S2.new w s T1 T2).be⟩
theorem TG.put {w0 w : World} {s : Sp} (h : TG w0 s w) (x : Sp) : TG w0 x (setS w w0.heap.size x) := ⟨h.pa.put x, h.pz.offS x (by omega), h.fa.setS x, h.fz.setS x, below_setS h.be (Nat.le_refl _) x⟩
theorem fold_next (g : Sp → PT → Sp) (s : Sp) (l : List PT) (k : Nat) (hk : k < l.length) : (l.take (k + 1)).foldl g s = g ((l.take k).foldl g s) l[k] := by
  rw [List.take_add_one, List.getElem?_eq_getElem hk, List.foldl_append]; rfl
abbrev fTog : FuncId := 52
set_option maxHeartbeats 4000000 in
theorem together_any (f : FuncId) (hE : Enters f) (g : Sp → PT → Sp) (lv : Value) (l : List PT) (s : Sp) (w : World) (hl : InL w lv l)
    (ih : ∀ (s : Sp), ∀ q ∈ l, ∀ w1, In w1 q → Calls Tryd.prog f #[s.val, q.val] w1 fun e w' => e = .returned (g s q).val ∧ Below w1.heap.size w1 w') :
    Calls Tryd.prog 52 #[lv, s.val, FV f #[] #[]] w fun e w' => e = .returned (l.foldl g s).val ∧ Below w.heap.size w w' := by
  obtain ⟨ao, c, rfl, hn⟩ := hl.1.slice
  have HL : Hid (InL w (.slice ao l.length c) l ∧ ∀ (s : Sp), ∀ q ∈ l, ∀ w1, In w1 q → Calls Tryd.prog f #[s.val, q.val] w1 fun e w' => e = .returned (g s q).val ∧ Below w1.heap.size w1 w') := ⟨hl, ih⟩
  have hE' : ∀ args w, (callFunc f args).run Tryd.prog w = .ok (.enter f args) w := hE
  have HN : Hid _ := TG.new w s 35 35
  clear hl ih hE
  unfold Sp.val
  go_enter Tryd.func52, Tryd.ntmps52
  go_wp2_with fail
  go_loopw [11] (fun i wr => ∃ k : Nat, k ≤ l.length ∧ i = .int .i64 k ∧ Hid (TG w ((l.take k).foldl g s) wr))
    (fun i _ => l.length - (intOf i).toNat)
  case atStart => exact ⟨0, Nat.zero_le _, rfl, HN.out⟩
  case round =>
    clear HN
    obtain ⟨k, hk, rfl, HK⟩ := hrel
    by_cases h1 : k < l.length
    · have i0' : (0 : Int) ≤ (k : Int) := by omega
      have i1 : (k : Int) < (l.length : Int) := by omega
      have hbw : Below w.heap.size w wr := HK.out.be
      obtain ⟨b, o, rfl, hat⟩ := lies_at (HL.out.1.1.below hbw) k h1
      have hmem : l[k] ∈ l := List.getElem_mem h1
      have hink : In wr l[k] := (HL.out.1.2 _ hmem).keep hbw
      have HF : Hid _ := fold_next g s l k h1
      obtain ⟨s1, hs1⟩ : ∃ x, (l.take (k + 1)).foldl g s = x := ⟨_, rfl⟩
      have HS1 : Hid ((l.take (k + 1)).foldl g s = s1) := hs1
      rw [hs1] at HF
      clear hs1
      generalize (l.take k).foldl g s = s0 at HF HK
      have HQ : Hid (∀ w1, Below wr.heap.size wr w1 → Calls Tryd.prog f #[s0.val, l[k].val] w1 fun e w' => e = .returned (g s0 l[k]).val ∧ Below w1.heap.size w1 w') := fun w1 hb => HL.out.2 s0 _ hmem w1 (hink.keep hb)
      rw [← HF.out] at HQ
      obtain ⟨ak, ck, hlk, _⟩ := hink.lies.slice
      obtain ⟨c0, c1, c2, c3, c4, c5, c6, c7, c8⟩ := hat
      unfold PT.val Sp.val at HQ
      rw [hlk] at c8 HQ
      have hbl : b < wr.heap.size := World.block_lt_of_cell? _ _ c0
      obtain ⟨⟨a0, a1, a2, a3, a4, a5, a6, a7, a8, a9, a10⟩, _, ⟨la, fa⟩, _, _⟩ := HK.out
      clear hlk hmem hink hbw
      go_wp2_with fail
      refine Calls.mono (HQ.out _ (alloc1 _ _)) ?_
      rintro e w1 ⟨rfl, hb1⟩
      have HX : Hid (TG w s0 w1) := (HK.out.below (alloc1 _ _)).below hb1
      clear hb1 HQ HK c0 c1 c2 c3 c4 c5 c6 c7 c8 a0 a1 a2 a3 a4 a5 a6 a7 a8 a9 a10 la fa
      obtain ⟨⟨a0, a1, a2, a3, a4, a5, a6, a7, a8, a9, a10⟩, _, ⟨la, fa⟩, _, _⟩ := HX.out
      have HP : Hid (TG w s1 _) := HX.out.put s1
      clear HX
      go_wp2_with fail
      go_roundw
      case rel => exact ⟨k + 1, by omega, by go_num, by rw [HS1.out]; exact HP⟩
      case measure => simp [intOf]; omega
    · have i1 : decide ((k : Int) < (l.length : Int)) = false := by simp; omega
      obtain rfl : k = l.length := by omega
      have HX : Hid (TG w (l.foldl g s) wr) := by have := HK.out; rw [List.take_length] at this; exact this
      clear HK HL
      obtain ⟨r, hr⟩ : ∃ x, l.foldl g s = x := ⟨_, rfl⟩
      rw [hr] at HX
      have HR : Hid (l.foldl g s = r) := hr
      clear hr
      obtain ⟨⟨a0, a1, a2, a3, a4, a5, a6, a7, a8, a9, a10⟩, ⟨z0, z1, z2, z3, z4, z5, z6, z7, z8, z9, z10⟩, _, ⟨lz, fz⟩, _⟩ := HX.out
      go_wp2_with fail
      refine bodyPost_ret (v := r.val) (by simp [results, Tryd.results52, go_sem, Sp.val, z0, z1, z2, z3, z4, z5, z6, z7, z8, z9, z10]) rfl ⟨by rw [HR.out]; rfl, ?_⟩
      repeat (refine set_below ?_ (by omega) _)
      exact HX.out.be
/-- A span's box, a predicate's, and the answer's. -/
structure SPZ (w0 : World) (s : Sp) (p : PT) (w : World) : Prop where
  pa : SBox w w0.heap.size s
  pb : Box w (w0.heap.size + 1) p
  pz : SBox w (w0.heap.size + 1 + 1) Sp.all
  fz : Fr w (w0.heap.size + 1 + 1)
  be : Below w0.heap.size w0 w
theorem SPZ.below {w0 w w' : World} {s : Sp} {p : PT} (h : SPZ w0 s p w) (hb : Below w.heap.size w w') : SPZ w0 s p w' := ⟨h.pa.below hb, h.pb.below hb, h.pz.below hb, h.fz.below hb, on h.be hb⟩
theorem SPZ.new (w : World) (s : Sp) (p : PT) (T1 T2 T3 : TypeId) : SPZ w s p (((w.alloc (sobj s T1)).alloc (pobj p T2)).alloc (sobj Sp.all T3)) := by
  refine ⟨((SBox.new w s T1).alloc _).alloc _, ?_, ?_, ?_, back2 (alloc1 _ _)⟩
  · have := (Box.new (w.alloc (sobj s T1)) p T2).alloc (sobj Sp.all T3); simpa using this
  · have := SBox.new ((w.alloc (sobj s T1)).alloc (pobj p T2)) Sp.all T3; simpa using this
  · have := Fr.new ((w.alloc (sobj s T1)).alloc (pobj p T2)) #[.bool Sp.all.no, .bool Sp.all.hl, .bool Sp.all.ol, .bool Sp.all.lo.t, .int .i64 Sp.all.lo.n, .string Sp.all.lo.s, .bool Sp.all.hh, .bool Sp.all.oh, .bool Sp.all.hi.t, .int .i64 Sp.all.hi.n, .string Sp.all.hi.s] T3; simpa using this
def KeysOk (p : PT) : Prop := ∀ w, In w p → Calls Tryd.prog 31 #[p.val] w fun e w' => e = .returned (keysP p).val ∧ Below w.heap.size w w'
set_option maxHeartbeats 4000000 in
theorem two_meet (s : Sp) (q : PT) (hq : KeysOk q) (w : World) (hi : In w q) : Calls Tryd.prog 53 #[s.val, q.val] w fun e w' => e = .returned (meetS s (keysP q)).val ∧ Below w.heap.size w w' := by
  have H1 : Hid (∀ w1, Below w.heap.size w w1 → Calls Tryd.prog 31 #[q.val] w1 fun e w' => e = .returned (keysP q).val ∧ Below w1.heap.size w1 w') := fun w1 hb => hq w1 (hi.keep hb)
  have H2 : Hid (∀ w1, Calls Tryd.prog 19 #[s.val, (keysP q).val] w1 fun e w' => e = .returned (meetS s (keysP q)).val ∧ Below w1.heap.size w1 w') := fun w1 => meet_any _ _ w1
  generalize meetS s (keysP q) = r at *
  generalize keysP q = kq at *
  obtain ⟨ap, cp, hlp, _⟩ := hi.lies.slice
  have HN : Hid _ := SPZ.new w s q 35 29 35
  clear hq hi
  have HD : Hid (∀ w1, SPZ w s q w1 → w1.cell? ⟨w.heap.size + 1, 8, none⟩ = some (.slice ap q.l.length cp)) := fun w1 h => by rw [h.pb.c8, hlp]
  unfold PT.val Sp.val at *
  rw [hlp]
  rw [pobj, hlp] at HN
  rw [hlp] at H1
  clear hlp
  go_enter Tryd.func53, Tryd.ntmps53
  go_wp2_with fail
  have X0 : SPZ w s q _ := HN.out.below (Below.refl _ _).drew
  clear HN
  refine wp_region_held_drew (S := fun w' => (w'.cell? ⟨w.heap.size, 0, none⟩ = some (.bool s.no) ∧ w'.cell? ⟨w.heap.size, 1, none⟩ = some (.bool s.hl) ∧ w'.cell? ⟨w.heap.size, 2, none⟩ = some (.bool s.ol) ∧ w'.cell? ⟨w.heap.size, 3, none⟩ = some (.bool s.lo.t) ∧ w'.cell? ⟨w.heap.size, 4, none⟩ = some (.int .i64 s.lo.n) ∧ w'.cell? ⟨w.heap.size, 5, none⟩ = some (.string s.lo.s) ∧ w'.cell? ⟨w.heap.size, 6, none⟩ = some (.bool s.hh) ∧ w'.cell? ⟨w.heap.size, 7, none⟩ = some (.bool s.oh) ∧ w'.cell? ⟨w.heap.size, 8, none⟩ = some (.bool s.hi.t) ∧ w'.cell? ⟨w.heap.size, 9, none⟩ = some (.int .i64 s.hi.n) ∧ w'.cell? ⟨w.heap.size, 10, none⟩ = some (.string s.hi.s)) ∧ (w'.cell? ⟨w.heap.size + 1, 0, none⟩ = some (.int .i64 q.op) ∧ w'.cell? ⟨w.heap.size + 1, 1, none⟩ = some (.int .i64 q.col) ∧ w'.cell? ⟨w.heap.size + 1, 2, none⟩ = some (.bool q.v.t) ∧ w'.cell? ⟨w.heap.size + 1, 3, none⟩ = some (.int .i64 q.v.n) ∧ w'.cell? ⟨w.heap.size + 1, 4, none⟩ = some (.string q.v.s) ∧ w'.cell? ⟨w.heap.size + 1, 5, none⟩ = some (.bool q.w.t) ∧ w'.cell? ⟨w.heap.size + 1, 6, none⟩ = some (.int .i64 q.w.n) ∧ w'.cell? ⟨w.heap.size + 1, 7, none⟩ = some (.string q.w.s) ∧ w'.cell? ⟨w.heap.size + 1, 8, none⟩ = some (.slice ap q.l.length cp))) (by kernel_rfl) ?_ (fun hHeld => ?_)
  · exact ⟨⟨X0.pa.c0, X0.pa.c1, X0.pa.c2, X0.pa.c3, X0.pa.c4, X0.pa.c5, X0.pa.c6, X0.pa.c7, X0.pa.c8, X0.pa.c9, X0.pa.c10⟩, ⟨X0.pb.c0, X0.pb.c1, X0.pb.c2, X0.pb.c3, X0.pb.c4, X0.pb.c5, X0.pb.c6, X0.pb.c7, HD.out _ X0⟩⟩
  (try clear hK K)
  refine wpAnyH_take (i := 0) (v := ?_) rfl (by kernel_rfl) (by kernel_rfl) (by kernel_rfl) (fun _ _ _ h => h) (Or.inl ⟨by rfl, ?_⟩) (by assumption) ?_
  rotate_left
  · intro w hSw; (try dsimp only at hSw); go_simp; (try with_reducible rfl)
  (try simp only [Act.put, List.getElem_toArray, List.getElem_cons_zero, List.setIfInBounds_toArray, List.set_cons_zero, List.set_cons_succ])
  refine wpAnyH_take (i := 1) (v := ?_) rfl (by kernel_rfl) (by kernel_rfl) (by kernel_rfl) (fun _ _ _ h => h) (Or.inl ⟨by rfl, ?_⟩) (by assumption) ?_
  rotate_left
  · intro w hSw; (try dsimp only at hSw); go_simp; (try with_reducible rfl)
  (try simp only [Act.put, List.getElem_toArray, List.getElem_cons_succ, List.getElem_cons_zero, List.setIfInBounds_toArray, List.set_cons_zero, List.set_cons_succ])
  (try clear hK K)
  refine wpAnyH_ready (rs := [2]) (by kernel_rfl) (by simp) ?_
  refine AllReadyH.cons rfl (fun K hK => ?_) AllReadyH.nil
  go_simp
  (refine Calls.mono (H1.out _ X0.be) ?_; rintro e w1 ⟨rfl, hb1⟩; have X1 := X0.below hb1)
  refine hK.out _ _ ?_ (fun hHeld => ?_)
  · exact ⟨⟨X1.pa.c0, X1.pa.c1, X1.pa.c2, X1.pa.c3, X1.pa.c4, X1.pa.c5, X1.pa.c6, X1.pa.c7, X1.pa.c8, X1.pa.c9, X1.pa.c10⟩, ⟨X1.pb.c0, X1.pb.c1, X1.pb.c2, X1.pb.c3, X1.pb.c4, X1.pb.c5, X1.pb.c6, X1.pb.c7, HD.out _ X1⟩⟩
  (try clear hK K)
  refine wpAnyH_ready (rs := [3]) (by kernel_rfl) (by simp) ?_
  refine AllReadyH.cons rfl (fun K hK => ?_) AllReadyH.nil
  go_simp
  (refine Calls.mono (H2.out _) ?_; rintro e w2 ⟨rfl, hb2⟩; have X2 := X1.below hb2)
  refine hK.out _ _ ?_ (fun hHeld => ?_)
  · exact ⟨⟨X2.pa.c0, X2.pa.c1, X2.pa.c2, X2.pa.c3, X2.pa.c4, X2.pa.c5, X2.pa.c6, X2.pa.c7, X2.pa.c8, X2.pa.c9, X2.pa.c10⟩, ⟨X2.pb.c0, X2.pb.c1, X2.pb.c2, X2.pb.c3, X2.pb.c4, X2.pb.c5, X2.pb.c6, X2.pb.c7, HD.out _ X2⟩⟩
  obtain ⟨z0, z1, z2, z3, z4, z5, z6, z7, z8, z9, z10⟩ := X2.pz
  obtain ⟨lz, fz⟩ := X2.fz
  have HX : Hid (SPZ w s q w2) := X2
  clear X0 X1 X2 hb1 hb2 H1 H2
  (try clear hK K)
  refine wpAnyH_ready (rs := [4]) (by kernel_rfl) (by simp) ?_
  refine AllReadyH.cons rfl (fun K hK => ?_) AllReadyH.nil
  go_simp
  refine hK.out _ _ ?_ (fun hHeld => ?_)
  · have d8 := HD.out _ HX.out
    obtain ⟨d0, d1, d2, d3, d4, d5, d6, d7, _⟩ := HX.out.pb
    refine ⟨SBox.conj ?_, ?_, ?_, ?_, ?_, ?_, ?_, ?_, ?_, ?_⟩
    · repeat (refine SBox.far ?_ (by omega))
      exact HX.out.pa
    all_goals
      (repeat (refine cell_far ?_ (by omega))) <;> assumption
  (try clear hK K)
  refine wpAnyH_done (by kernel_rfl) ?_ _
  go_wp2_with fail
  refine bodyPost_ret (v := r.val) (by simp [results, Tryd.results53, go_sem, Sp.val, z0, z1, z2, z3, z4, z5, z6, z7, z8, z9, z10]) rfl ⟨rfl, ?_⟩
  repeat (refine set_below ?_ (by omega) _)
  exact HX.out.be
set_option maxHeartbeats 4000000 in
theorem two_hull (s : Sp) (q : PT) (hq : KeysOk q) (w : World) (hi : In w q) : Calls Tryd.prog 54 #[s.val, q.val] w fun e w' => e = .returned (hullS s (keysP q)).val ∧ Below w.heap.size w w' := by
  have H1 : Hid (∀ w1, Below w.heap.size w w1 → Calls Tryd.prog 31 #[q.val] w1 fun e w' => e = .returned (keysP q).val ∧ Below w1.heap.size w1 w') := fun w1 hb => hq w1 (hi.keep hb)
  have H2 : Hid (∀ w1, Calls Tryd.prog 21 #[s.val, (keysP q).val] w1 fun e w' => e = .returned (hullS s (keysP q)).val ∧ Below w1.heap.size w1 w') := fun w1 => hull_any _ _ w1
  generalize hullS s (keysP q) = r at *
  generalize keysP q = kq at *
  obtain ⟨ap, cp, hlp, _⟩ := hi.lies.slice
  have HN : Hid _ := SPZ.new w s q 35 29 35
  clear hq hi
  have HD : Hid (∀ w1, SPZ w s q w1 → w1.cell? ⟨w.heap.size + 1, 8, none⟩ = some (.slice ap q.l.length cp)) := fun w1 h => by rw [h.pb.c8, hlp]
  unfold PT.val Sp.val at *
  rw [hlp]
  rw [pobj, hlp] at HN
  rw [hlp] at H1
  clear hlp
  go_enter Tryd.func54, Tryd.ntmps54
  go_wp2_with fail
  have X0 : SPZ w s q _ := HN.out.below (Below.refl _ _).drew
  clear HN
  refine wp_region_held_drew (S := fun w' => (w'.cell? ⟨w.heap.size, 0, none⟩ = some (.bool s.no) ∧ w'.cell? ⟨w.heap.size, 1, none⟩ = some (.bool s.hl) ∧ w'.cell? ⟨w.heap.size, 2, none⟩ = some (.bool s.ol) ∧ w'.cell? ⟨w.heap.size, 3, none⟩ = some (.bool s.lo.t) ∧ w'.cell? ⟨w.heap.size, 4, none⟩ = some (.int .i64 s.lo.n) ∧ w'.cell? ⟨w.heap.size, 5, none⟩ = some (.string s.lo.s) ∧ w'.cell? ⟨w.heap.size, 6, none⟩ = some (.bool s.hh) ∧ w'.cell? ⟨w.heap.size, 7, none⟩ = some (.bool s.oh) ∧ w'.cell? ⟨w.heap.size, 8, none⟩ = some (.bool s.hi.t) ∧ w'.cell? ⟨w.heap.size, 9, none⟩ = some (.int .i64 s.hi.n) ∧ w'.cell? ⟨w.heap.size, 10, none⟩ = some (.string s.hi.s)) ∧ (w'.cell? ⟨w.heap.size + 1, 0, none⟩ = some (.int .i64 q.op) ∧ w'.cell? ⟨w.heap.size + 1, 1, none⟩ = some (.int .i64 q.col) ∧ w'.cell? ⟨w.heap.size + 1, 2, none⟩ = some (.bool q.v.t) ∧ w'.cell? ⟨w.heap.size + 1, 3, none⟩ = some (.int .i64 q.v.n) ∧ w'.cell? ⟨w.heap.size + 1, 4, none⟩ = some (.string q.v.s) ∧ w'.cell? ⟨w.heap.size + 1, 5, none⟩ = some (.bool q.w.t) ∧ w'.cell? ⟨w.heap.size + 1, 6, none⟩ = some (.int .i64 q.w.n) ∧ w'.cell? ⟨w.heap.size + 1, 7, none⟩ = some (.string q.w.s) ∧ w'.cell? ⟨w.heap.size + 1, 8, none⟩ = some (.slice ap q.l.length cp))) (by kernel_rfl) ?_ (fun hHeld => ?_)
  · exact ⟨⟨X0.pa.c0, X0.pa.c1, X0.pa.c2, X0.pa.c3, X0.pa.c4, X0.pa.c5, X0.pa.c6, X0.pa.c7, X0.pa.c8, X0.pa.c9, X0.pa.c10⟩, ⟨X0.pb.c0, X0.pb.c1, X0.pb.c2, X0.pb.c3, X0.pb.c4, X0.pb.c5, X0.pb.c6, X0.pb.c7, HD.out _ X0⟩⟩
  (try clear hK K)
  refine wpAnyH_take (i := 0) (v := ?_) rfl (by kernel_rfl) (by kernel_rfl) (by kernel_rfl) (fun _ _ _ h => h) (Or.inl ⟨by rfl, ?_⟩) (by assumption) ?_
  rotate_left
  · intro w hSw; (try dsimp only at hSw); go_simp; (try with_reducible rfl)
  (try simp only [Act.put, List.getElem_toArray, List.getElem_cons_zero, List.setIfInBounds_toArray, List.set_cons_zero, List.set_cons_succ])
  refine wpAnyH_take (i := 1) (v := ?_) rfl (by kernel_rfl) (by kernel_rfl) (by kernel_rfl) (fun _ _ _ h => h) (Or.inl ⟨by rfl, ?_⟩) (by assumption) ?_
  rotate_left
  · intro w hSw; (try dsimp only at hSw); go_simp; (try with_reducible rfl)
  (try simp only [Act.put, List.getElem_toArray, List.getElem_cons_succ, List.getElem_cons_zero, List.setIfInBounds_toArray, List.set_cons_zero, List.set_cons_succ])
  (try clear hK K)
  refine wpAnyH_ready (rs := [2]) (by kernel_rfl) (by simp) ?_
  refine AllReadyH.cons rfl (fun K hK => ?_) AllReadyH.nil
  go_simp
  (refine Calls.mono (H1.out _ X0.be) ?_; rintro e w1 ⟨rfl, hb1⟩; have X1 := X0.below hb1)
  refine hK.out _ _ ?_ (fun hHeld => ?_)
  · exact ⟨⟨X1.pa.c0, X1.pa.c1, X1.pa.c2, X1.pa.c3, X1.pa.c4, X1.pa.c5, X1.pa.c6, X1.pa.c7, X1.pa.c8, X1.pa.c9, X1.pa.c10⟩, ⟨X1.pb.c0, X1.pb.c1, X1.pb.c2, X1.pb.c3, X1.pb.c4, X1.pb.c5, X1.pb.c6, X1.pb.c7, HD.out _ X1⟩⟩
  (try clear hK K)
  refine wpAnyH_ready (rs := [3]) (by kernel_rfl) (by simp) ?_
  refine AllReadyH.cons rfl (fun K hK => ?_) AllReadyH.nil
  go_simp
  (refine Calls.mono (H2.out _) ?_; rintro e w2 ⟨rfl, hb2⟩; have X2 := X1.below hb2)
  refine hK.out _ _ ?_ (fun hHeld => ?_)
  · exact ⟨⟨X2.pa.c0, X2.pa.c1, X2.pa.c2, X2.pa.c3, X2.pa.c4, X2.pa.c5, X2.pa.c6, X2.pa.c7, X2.pa.c8, X2.pa.c9, X2.pa.c10⟩, ⟨X2.pb.c0, X2.pb.c1, X2.pb.c2, X2.pb.c3, X2.pb.c4, X2.pb.c5, X2.pb.c6, X2.pb.c7, HD.out _ X2⟩⟩
  obtain ⟨z0, z1, z2, z3, z4, z5, z6, z7, z8, z9, z10⟩ := X2.pz
  obtain ⟨lz, fz⟩ := X2.fz
  have HX : Hid (SPZ w s q w2) := X2
  clear X0 X1 X2 hb1 hb2 H1 H2
  (try clear hK K)
  refine wpAnyH_ready (rs := [4]) (by kernel_rfl) (by simp) ?_
  refine AllReadyH.cons rfl (fun K hK => ?_) AllReadyH.nil
  go_simp
  refine hK.out _ _ ?_ (fun hHeld => ?_)
  · have d8 := HD.out _ HX.out
    obtain ⟨d0, d1, d2, d3, d4, d5, d6, d7, _⟩ := HX.out.pb
    refine ⟨SBox.conj ?_, ?_, ?_, ?_, ?_, ?_, ?_, ?_, ?_, ?_⟩
    · repeat (refine SBox.far ?_ (by omega))
      exact HX.out.pa
    all_goals
      (repeat (refine cell_far ?_ (by omega))) <;> assumption
  (try clear hK K)
  refine wpAnyH_done (by kernel_rfl) ?_ _
  go_wp2_with fail
  refine bodyPost_ret (v := r.val) (by simp [results, Tryd.results54, go_sem, Sp.val, z0, z1, z2, z3, z4, z5, z6, z7, z8, z9, z10]) rfl ⟨rfl, ?_⟩
  repeat (refine set_below ?_ (by omega) _)
  exact HX.out.be
theorem enters_k1 : Enters 53 := enters_of Tryd.func53 (by decide +kernel) rfl
theorem enters_k2 : Enters 54 := enters_of Tryd.func54 (by decide +kernel) rfl
theorem foldM_map (l : List PT) (s : Sp) : (l.map keysP).foldl meetS s = l.foldl (fun s q => meetS s (keysP q)) s := by rw [List.foldl_map]
theorem foldH_map (l : List PT) (s : Sp) : (l.map keysP).foldl hullS s = l.foldl (fun s q => hullS s (keysP q)) s := by rw [List.foldl_map]
end Go.Proofs.YtfkhfplibhnceaaDoor.Val
