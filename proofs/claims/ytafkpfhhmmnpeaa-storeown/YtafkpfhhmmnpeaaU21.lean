/- What the store's Get answers. -/
import Derived.Test.YtafkpfhhmmnpeaaU20
namespace Go.Proofs.Ytafkpfhhmmnpeaa.Val
open Go Go.RowKit
set_option maxRecDepth 100000

theorem stepH_pstore {ops : Array Oper} {o : Oper} {a : Act} {w : World} {K : Act → World → Prop} {Q : Exit → Act → World → Prop} {E : Prop} (hgd : o.guard = none) (x y : Operand) (ho : o.op = .store 74 x y) (b : Nat) (cs old : List Value) (hx : a.eval x = .pointer (some ⟨b, 0, none⟩)) (hy : a.eval y = .agg cs.toArray) (hp : PC cs) (ho2 : old.length = 14) (hold : w.heap[b]? = some (.cells old.toArray 74 (0, 0)))
    (h : ∀ w', w'.heap[b]? = some (.cells cs.toArray 74 (0, 0)) → Sv (fun k => k = b) w w' → K (a.put o.dst undef) w') : if Region.wanted o (yielded ops a.tmps) = true then Oper.wp Try.prog o a w K Q else E := by
  rw [if_pos (by simp [Region.wanted, hgd])]
  have ht := there_heap hold 14 ho2
  have hl : old.length = cs.length := by rw [ho2, hp.1]
  refine wp_store_mid 74 x y ho b 0 cs.toArray hx hy (by have := hp.1; simpa [this] using ht) (by have := hp.1; simp only [List.size_toArray, this]; exact isize_V) (all_oneCell_toArray hp.2) ?_
  have h2 := row_sets b 74 cs [] old w hold hl
  exact h _ (by simpa using h2) (by simpa using sv_sets b cs 0 w)
theorem heap_new (w : World) (o : Obj) (b : Nat) (hb : b = w.heap.size) : (w.alloc o).heap[b]? = some o := by subst hb; exact heap_alloc_new w o
theorem heap_below {w w' : World} {b : Nat} {o : Obj} (h : w.heap[b]? = some o) (hb : Below w.heap.size w w') : w'.heap[b]? = some o := by rw [hb.block b (Array.getElem?_eq_some_iff.1 h).1]; exact h
theorem field_tab (fv : Value) (tp : Option Addr) (w : World) : (Instr.field 76 (.agg #[fv, .pointer tp]) 1).run Try.prog w = .ok (.pointer tp) w := by
  simp [Instr.field, run_underlying Try.underlying76, asAgg, part, go_sem]
abbrev zobj : Obj := .cells (vcells Pl.zero).toArray 74 (0, 0)
set_option maxHeartbeats 8000000 in
theorem get_gen {w : World} {sv fv : Value} {tp : Option Addr} {n : Int} {k : Val} {pl : Pl} {th : Bool} (hw : hasR pl = true → 0 ≤ pl.w ∧ pl.w ≤ 4)
    (hat : ∀ w1, Below w.heap.size w w1 → Calls Try.prog 37 #[sv, .int .i64 n] w1 fun e w' => e = atAns fv tp ∧ Below w1.heap.size w1 w')
    (hgt : ∀ w1, Below w.heap.size w w1 → Calls Try.prog 38 #[.pointer tp, V k.t k.n k.s] w1 fun e w' => e = gans pl th ∧ Below w1.heap.size w1 w') :
    Calls Try.prog 13 #[sv, .int .i64 n, V k.t k.n k.s] w fun e w' => ∃ v', e = .returned (.tuple #[v', .int .i64 (if hasR pl then pl.m else 0), .bool (hasR pl)]) ∧ (if hasR pl then OwnRow w' w.heap.size 32 v' (rowP pl) else v' = .slice none 0 0) ∧ Below w.heap.size w w' := by
  have HAT : Hid _ := hat
  have HGT : Hid _ := hgt
  have HPC : Hid _ := PC.of pl
  have HHR : Hid (∀ w1, Calls Try.prog 39 #[.agg (vcells pl).toArray] w1 fun e w' => e = .returned (.bool (hasR pl)) ∧ Below w1.heap.size w1 w') := fun w1 => hasRow_any pl w1
  have HRW : Hid (hasR pl = true → ∀ w1, Calls Try.prog 40 #[.agg (vcells pl).toArray] w1 fun e w' => ∃ v', e = .returned v' ∧ OwnRow w' w1.heap.size 32 v' (rowP pl) ∧ Below w1.heap.size w1 w') := fun h w1 => prow_any pl w1 (hw h).1 (hw h).2
  have HKC : Hid (∀ w', Below (w.heap.size + 1) (w.alloc (vobj k 32)) w' → w'.cell? ⟨w.heap.size, 0, none⟩ = some (.bool k.t) ∧ w'.cell? ⟨w.heap.size, 1, none⟩ = some (.int .i64 k.n) ∧ w'.cell? ⟨w.heap.size, 2, none⟩ = some (.string k.s)) := fun w' hb => by
    obtain ⟨a0, a1, a2⟩ := (VBox.new w k 32).below (by simpa using hb)
    exact ⟨a0, a1, a2⟩
  have HC12 : Hid (∀ (w1 : World) (b : Nat), w1.heap[b]? = some (.cells (vcells pl).toArray 74 (0, 0)) → w1.cell? ⟨b, 13, none⟩ = some (.int .i64 pl.m)) := fun w1 b h => range_heap h 13 _ rfl
  have HW0 : Hid (∀ w', Below (w.heap.size + 1) (w.alloc (vobj k 32)) w' → Below w.heap.size w w' ∧ w.heap.size + 1 ≤ w'.heap.size) := fun w' hb => ⟨(alloc1 _ _).trans (hb.mono (by omega)), by have := hb.size; simpa using this⟩
  have HZL : Hid ((vcells Pl.zero).length = 14) := rfl
  have hfld := fun w1 => field_tab fv tp w1
  obtain ⟨hr, hhr⟩ : ∃ b, hasR pl = b := ⟨_, rfl⟩
  rw [hhr] at HHR HRW ⊢
  clear hhr
  clear hat hgt hw
  go_enter Try.func13, Try.ntmps13
  go_wp2_with fail
  have HB0 : Hid (Below (w.heap.size + 1) (w.alloc (vobj k 32)) (w.alloc (vobj k 32)).drew) := (Below.refl _ _).drew
  refine wp_region_held_drew (S := fun w' => w'.cell? ⟨w.heap.size, 0, none⟩ = some (.bool k.t) ∧ w'.cell? ⟨w.heap.size, 1, none⟩ = some (.int .i64 k.n) ∧ w'.cell? ⟨w.heap.size, 2, none⟩ = some (.string k.s)) (by kernel_rfl) ?_ (fun hHeld => ?_)
  · exact HKC.out _ HB0.out
  (try clear hK K)
  refine wpAnyH_take (i := 0) (v := ?_) rfl (by kernel_rfl) (by kernel_rfl) (by kernel_rfl) (fun _ _ _ h => h) (Or.inl ⟨by rfl, ?_⟩) (by assumption) ?_
  rotate_left
  · intro w hSw; (try dsimp only at hSw); go_simp; (try with_reducible rfl)
  (try simp only [Act.put, List.getElem_toArray, List.getElem_cons_zero, List.setIfInBounds_toArray, List.set_cons_zero, List.set_cons_succ])
  refine wpAnyH_take (i := 1) (v := ?_) rfl (by kernel_rfl) (by kernel_rfl) (by kernel_rfl) (fun _ _ _ h => h) (Or.inl ⟨by rfl, ?_⟩) (by assumption) ?_
  rotate_left
  · intro w hSw; (try dsimp only at hSw); go_simp; (try with_reducible rfl)
  (try simp only [Act.put, List.getElem_toArray, List.getElem_cons_succ, List.getElem_cons_zero, List.setIfInBounds_toArray, List.set_cons_zero, List.set_cons_succ])
  refine wpAnyH_take (i := 4) (v := ?_) rfl (by kernel_rfl) (by kernel_rfl) (by kernel_rfl) (fun _ _ _ h => h) (Or.inl ⟨by rfl, ?_⟩) (by assumption) ?_
  rotate_left
  · intro w hSw; (try dsimp only at hSw); go_simp; (try with_reducible rfl)
  (try simp only [Act.put, List.getElem_toArray, List.getElem_cons_succ, List.getElem_cons_zero, List.setIfInBounds_toArray, List.set_cons_zero, List.set_cons_succ])
  (try clear hK K)
  refine wpAnyH_ready (rs := [2, 9]) (by kernel_rfl) (by simp) ?_
  refine AllReadyH.cons rfl (fun K hK => ?_) (AllReadyH.cons rfl (fun K hK => ?_) AllReadyH.nil)
  · go_simp
    refine Calls.mono (HAT.out _ (HW0.out _ HB0.out).1) ?_
    rintro e w1 ⟨rfl, hb⟩
    have HB1 : Hid (Below (w.heap.size + 1) (w.alloc (vobj k 32)) w1) := HB0.out.trans (hb.mono (HW0.out _ HB0.out).2)
    clear hb HAT HB0
    refine hK.out _ _ ?_ (fun hHeld => ?_)
    · exact HKC.out _ HB1.out
    (try clear hK K)
    refine wpAnyH_take (i := 3) (v := ?_) rfl (by kernel_rfl) (by kernel_rfl) (by kernel_rfl) (fun _ _ _ h => h) (Or.inl ⟨by rfl, ?_⟩) (by assumption) ?_
    rotate_left
    · intro w hSw; (try dsimp only at hSw); go_simp; (try with_reducible rfl)
    (try simp only [Act.put, List.getElem_toArray, List.getElem_cons_succ, List.getElem_cons_zero, List.setIfInBounds_toArray, List.set_cons_zero, List.set_cons_succ])
    (try clear hK K)
    refine wpAnyH_ready (rs := [5, 9]) (by kernel_rfl) (by simp) ?_
    refine AllReadyH.cons rfl (fun K hK => ?_) (AllReadyH.cons rfl (fun K hK => ?_) AllReadyH.nil)
    · go_simp
      refine Calls.mono (HGT.out _ (HW0.out _ HB1.out).1) ?_
      rintro e w2 ⟨rfl, hb⟩
      have HB2 : Hid (Below (w.heap.size + 1) (w.alloc (vobj k 32)) w2) := HB1.out.trans (hb.mono (HW0.out _ HB1.out).2)
      clear hb HGT HB1
      refine hK.out _ _ ?_ (fun hHeld => ?_)
      · exact HKC.out _ HB2.out
      (try clear hK K)
      refine wpAnyH_take (i := 6) (v := ?_) rfl (by kernel_rfl) (by kernel_rfl) (by kernel_rfl) (fun _ _ _ h => h) (Or.inl ⟨by rfl, ?_⟩) (by assumption) ?_
      rotate_left
      · intro w hSw; (try dsimp only at hSw); go_simp; (try with_reducible rfl)
      (try simp only [Act.put, List.getElem_toArray, List.getElem_cons_succ, List.getElem_cons_zero, List.setIfInBounds_toArray, List.set_cons_zero, List.set_cons_succ])
      refine wpAnyH_take (i := 7) (v := ?_) rfl (by kernel_rfl) (by kernel_rfl) (by kernel_rfl) (fun _ _ _ h => h) (Or.inl ⟨by rfl, ?_⟩) (by assumption) ?_
      rotate_left
      · intro w hSw; (try dsimp only at hSw); go_simp; (try with_reducible rfl)
      (try simp only [Act.put, List.getElem_toArray, List.getElem_cons_succ, List.getElem_cons_zero, List.setIfInBounds_toArray, List.set_cons_zero, List.set_cons_succ])
      refine wpAnyH_take (i := 8) (v := ?_) rfl (by kernel_rfl) (by kernel_rfl) (by kernel_rfl) (fun _ _ _ h => h) (Or.inl ⟨by rfl, ?_⟩) (by assumption) ?_
      rotate_left
      · intro w hSw; (try dsimp only at hSw); go_simp; (try with_reducible rfl)
      (try simp only [Act.put, List.getElem_toArray, List.getElem_cons_succ, List.getElem_cons_zero, List.setIfInBounds_toArray, List.set_cons_zero, List.set_cons_succ])
      (try clear hK K)
      refine wpAnyH_ready (rs := [9]) (by kernel_rfl) (by simp) ?_
      refine AllReadyH.cons rfl (fun K hK => ?_) AllReadyH.nil
      (go_simp; (try clear hHeld))
      have HX3 : Hid ((w2.alloc zobj).heap[w2.heap.size]? = some zobj ∧ w.heap.size + 1 ≤ w2.heap.size) := ⟨heap_new _ _ _ (by simp), (HW0.out _ HB2.out).2⟩
      have HB3 : Hid (Below (w.heap.size + 1) (w.alloc (vobj k 32)) (w2.alloc zobj)) := HB2.out.alloc HX3.out.2 _
      refine hK.out _ _ ?_ (fun hHeld => ?_)
      · exact HKC.out _ HB3.out
      clear HB2
      (try clear hK K)
      refine wpAnyH_ready (rs := [10]) (by kernel_rfl) (by simp) ?_
      refine AllReadyH.cons rfl (fun K hK => ?_) AllReadyH.nil
      (refine stepH_pstore rfl _ _ rfl (w2.heap.size) (vcells pl) (vcells Pl.zero) rfl rfl HPC.out HZL.out HX3.out.1 ?_; intro wz hz1 hz2; have HBz : Hid (Below (w.heap.size + 1) (w.alloc (vobj k 32)) wz) := HB3.out.trans (hz2.below (HW0.out _ HB3.out).2 fun j hj e => by have := HX3.out.2; omega); have HZ : Hid (wz.heap[w2.heap.size]? = some (.cells (vcells pl).toArray 74 (0, 0))) := hz1; clear hz1 hz2 HX3 HB3; refine hK.out _ _ ?_ (fun hHeld => ?_))
      · exact HKC.out _ HBz.out
      (try clear hK K)
      refine wpAnyH_take (i := 11) (v := ?_) rfl (by kernel_rfl) (by kernel_rfl) (by kernel_rfl) (fun _ _ _ h => h) (Or.inl ⟨by rfl, ?_⟩) (by assumption) ?_
      rotate_left
      · intro w hSw; (try dsimp only at hSw); go_simp; (try with_reducible rfl)
      (try simp only [Act.put, List.getElem_toArray, List.getElem_cons_succ, List.getElem_cons_zero, List.setIfInBounds_toArray, List.set_cons_zero, List.set_cons_succ])
      (try clear hK K)
      refine wpAnyH_done (by kernel_rfl) ?_ _
      clear hHeld
      go_wp2_with (first | (refine step_pload rfl _ rfl (w2.heap.size) 0 rfl (vcells pl) (range_heap HZ.out) HPC.out ?_) | fail)
      refine Calls.mono (HHR.out _) ?_
      rintro e w6 ⟨rfl, hb⟩
      have HB6 : Hid (Below (w.heap.size + 1) (w.alloc (vobj k 32)) w6) := HBz.out.trans (hb.mono (HW0.out _ HBz.out).2)
      have HZ6 : Hid (w6.heap[w2.heap.size]? = some (.cells (vcells pl).toArray 74 (0, 0))) := heap_below HZ.out hb
      clear hb HZ HBz HHR
      cases hr
      · clear HRW
        go_wp2_with fail
        go_ret3
        exact ⟨_, rfl, rfl, (HW0.out _ HB6.out).1⟩
      · have HR : Hid _ := HRW.out rfl
        clear HRW
        go_wp2_with fail
        have HS : Hid (∀ wq, Below w6.heap.size w6 wq → wq.cell? ⟨w2.heap.size, 13, none⟩ = some (.int .i64 pl.m) ∧ wq.rangeAt (w2.heap.size) 0 (vcells pl)) := fun wq hb => ⟨HC12.out _ _ (heap_below HZ6.out hb), range_heap (heap_below HZ6.out hb)⟩
        clear HC12 HZ6
        refine wp_region_held_drew (S := fun w' => w'.cell? ⟨w2.heap.size, 13, none⟩ = some (.int .i64 pl.m) ∧ w'.rangeAt (w2.heap.size) 0 (vcells pl)) (by kernel_rfl) ?_ (fun hHeld => ?_)
        · exact HS.out _ (Below.refl _ _).drew
        (try clear hK K)
        refine wpAnyH_take (i := 0) (v := .agg ((vcells pl)).toArray) rfl (by kernel_rfl) (by kernel_rfl) (by kernel_rfl) (fun _ _ _ h => h) (yieldsIf_load_mid (by rfl) 74 _ rfl (w2.heap.size) (0) rfl ((vcells pl)) _ (fun _ h => h.2) Try.underlying74 rfl (by rw [HPC.out.1]; exact isize_V)) (by assumption) ?_
        (try simp only [Act.put, List.getElem_toArray, List.getElem_cons_zero, List.setIfInBounds_toArray, List.set_cons_zero, List.set_cons_succ])
        (try clear hK K)
        refine wpAnyH_take (i := 2) (v := ?_) rfl (by kernel_rfl) (by kernel_rfl) (by kernel_rfl) (fun _ _ _ h => h) (Or.inl ⟨by rfl, ?_⟩) (by assumption) ?_
        rotate_left
        · intro w hSw; (try dsimp only at hSw); go_simp; (try with_reducible rfl)
        (try simp only [Act.put, List.getElem_toArray, List.getElem_cons_succ, List.getElem_cons_zero, List.setIfInBounds_toArray, List.set_cons_zero, List.set_cons_succ])
        refine wpAnyH_take (i := 3) (v := ?_) rfl (by kernel_rfl) (by kernel_rfl) (by kernel_rfl) (fun _ _ _ h => h) (Or.inl ⟨by rfl, ?_⟩) (by assumption) ?_
        rotate_left
        · intro w hSw; (try dsimp only at hSw); go_simp; (try with_reducible rfl)
        (try simp only [Act.put, List.getElem_toArray, List.getElem_cons_succ, List.getElem_cons_zero, List.setIfInBounds_toArray, List.set_cons_zero, List.set_cons_succ])
        (try clear hK K)
        refine wpAnyH_ready (rs := [1]) (by kernel_rfl) (by simp) ?_
        refine AllReadyH.cons rfl (fun K hK => ?_) AllReadyH.nil
        go_simp
        (refine Calls.mono (HR.out _) ?_; rintro e w7 ⟨v', rfl, ho, hb⟩)
        refine hK.out _ _ ?_ (fun hHeld => ?_)
        · exact HS.out _ ((Below.refl _ _).drew.trans hb)
        have HB7 : Hid (Below w.heap.size w w7 ∧ OwnRow w7 w.heap.size 32 v' (rowP pl)) := ⟨(HW0.out _ HB6.out).1.trans ((Below.refl _ _).drew.trans (hb.mono (HW0.out _ HB6.out).1.size)), ho.mono (HW0.out _ HB6.out).1.size⟩
        clear hb ho HB6 HS HR
        (try clear hK K)
        refine wpAnyH_take (i := 4) (v := ?_) rfl (by kernel_rfl) (by kernel_rfl) (by kernel_rfl) (fun _ _ _ h => h) (Or.inl ⟨by rfl, ?_⟩) (by assumption) ?_
        rotate_left
        · intro w hSw; (try dsimp only at hSw); go_simp; (try with_reducible rfl)
        (try simp only [Act.put, List.getElem_toArray, List.getElem_cons_succ, List.getElem_cons_zero, List.setIfInBounds_toArray, List.set_cons_zero, List.set_cons_succ])
        refine wpAnyH_take (i := 5) (v := ?_) rfl (by kernel_rfl) (by kernel_rfl) (by kernel_rfl) (fun _ _ _ h => h) (Or.inl ⟨by rfl, ?_⟩) (by assumption) ?_
        rotate_left
        · intro w hSw; (try dsimp only at hSw); go_simp; (try with_reducible rfl)
        (try simp only [Act.put, List.getElem_toArray, List.getElem_cons_succ, List.getElem_cons_zero, List.setIfInBounds_toArray, List.set_cons_zero, List.set_cons_succ])
        refine wpAnyH_take (i := 6) (v := ?_) rfl (by kernel_rfl) (by kernel_rfl) (by kernel_rfl) (fun _ _ _ h => h) (Or.inl ⟨by rfl, ?_⟩) (by assumption) ?_
        rotate_left
        · intro w hSw; (try dsimp only at hSw); go_simp; (try with_reducible rfl)
        (try simp only [Act.put, List.getElem_toArray, List.getElem_cons_succ, List.getElem_cons_zero, List.setIfInBounds_toArray, List.set_cons_zero, List.set_cons_succ])
        (try clear hK K)
        refine wpAnyH_done (by kernel_rfl) ?_ _
        go_wp2_with fail
        go_ret3
        exact ⟨_, rfl, HB7.out.2, HB7.out.1⟩
    · go_simp
      have HX2 : Hid ((w1.alloc zobj).heap[w1.heap.size]? = some zobj ∧ w.heap.size + 1 ≤ w1.heap.size) := ⟨heap_new _ _ _ (by simp), (HW0.out _ HB1.out).2⟩
      have HB2 : Hid (Below (w.heap.size + 1) (w.alloc (vobj k 32)) (w1.alloc zobj)) := HB1.out.alloc HX2.out.2 _
      refine hK.out _ _ ?_ (fun hHeld => ?_)
      · exact HKC.out _ HB2.out
      clear HB1
      (try clear hK K)
      refine wpAnyH_ready (rs := [5]) (by kernel_rfl) (by simp) ?_
      refine AllReadyH.cons rfl (fun K hK => ?_) AllReadyH.nil
      (go_simp)
      refine Calls.mono (HGT.out _ (HW0.out _ HB2.out).1) ?_
      rintro e w3 ⟨rfl, hb⟩
      have HB3 : Hid (Below (w.heap.size + 1) (w.alloc (vobj k 32)) w3) := HB2.out.trans (hb.mono (HW0.out _ HB2.out).2)
      have HX3 : Hid (w3.heap[w1.heap.size]? = some zobj ∧ w.heap.size + 1 ≤ w1.heap.size) := ⟨heap_below HX2.out.1 hb, HX2.out.2⟩
      clear hb HGT HB2 HX2
      refine hK.out _ _ ?_ (fun hHeld => ?_)
      · exact HKC.out _ HB3.out
      (try clear hK K)
      refine wpAnyH_take (i := 6) (v := ?_) rfl (by kernel_rfl) (by kernel_rfl) (by kernel_rfl) (fun _ _ _ h => h) (Or.inl ⟨by rfl, ?_⟩) (by assumption) ?_
      rotate_left
      · intro w hSw; (try dsimp only at hSw); go_simp; (try with_reducible rfl)
      (try simp only [Act.put, List.getElem_toArray, List.getElem_cons_succ, List.getElem_cons_zero, List.setIfInBounds_toArray, List.set_cons_zero, List.set_cons_succ])
      refine wpAnyH_take (i := 7) (v := ?_) rfl (by kernel_rfl) (by kernel_rfl) (by kernel_rfl) (fun _ _ _ h => h) (Or.inl ⟨by rfl, ?_⟩) (by assumption) ?_
      rotate_left
      · intro w hSw; (try dsimp only at hSw); go_simp; (try with_reducible rfl)
      (try simp only [Act.put, List.getElem_toArray, List.getElem_cons_succ, List.getElem_cons_zero, List.setIfInBounds_toArray, List.set_cons_zero, List.set_cons_succ])
      refine wpAnyH_take (i := 8) (v := ?_) rfl (by kernel_rfl) (by kernel_rfl) (by kernel_rfl) (fun _ _ _ h => h) (Or.inl ⟨by rfl, ?_⟩) (by assumption) ?_
      rotate_left
      · intro w hSw; (try dsimp only at hSw); go_simp; (try with_reducible rfl)
      (try simp only [Act.put, List.getElem_toArray, List.getElem_cons_succ, List.getElem_cons_zero, List.setIfInBounds_toArray, List.set_cons_zero, List.set_cons_succ])
      (try clear hK K)
      refine wpAnyH_ready (rs := [10]) (by kernel_rfl) (by simp) ?_
      refine AllReadyH.cons rfl (fun K hK => ?_) AllReadyH.nil
      (refine stepH_pstore rfl _ _ rfl (w1.heap.size) (vcells pl) (vcells Pl.zero) rfl rfl HPC.out HZL.out HX3.out.1 ?_; intro wz hz1 hz2; have HBz : Hid (Below (w.heap.size + 1) (w.alloc (vobj k 32)) wz) := HB3.out.trans (hz2.below (HW0.out _ HB3.out).2 fun j hj e => by have := HX3.out.2; omega); have HZ : Hid (wz.heap[w1.heap.size]? = some (.cells (vcells pl).toArray 74 (0, 0))) := hz1; clear hz1 hz2 HX3 HB3; refine hK.out _ _ ?_ (fun hHeld => ?_))
      · exact HKC.out _ HBz.out
      (try clear hK K)
      refine wpAnyH_take (i := 11) (v := ?_) rfl (by kernel_rfl) (by kernel_rfl) (by kernel_rfl) (fun _ _ _ h => h) (Or.inl ⟨by rfl, ?_⟩) (by assumption) ?_
      rotate_left
      · intro w hSw; (try dsimp only at hSw); go_simp; (try with_reducible rfl)
      (try simp only [Act.put, List.getElem_toArray, List.getElem_cons_succ, List.getElem_cons_zero, List.setIfInBounds_toArray, List.set_cons_zero, List.set_cons_succ])
      (try clear hK K)
      refine wpAnyH_done (by kernel_rfl) ?_ _
      clear hHeld
      go_wp2_with (first | (refine step_pload rfl _ rfl (w1.heap.size) 0 rfl (vcells pl) (range_heap HZ.out) HPC.out ?_) | fail)
      refine Calls.mono (HHR.out _) ?_
      rintro e w6 ⟨rfl, hb⟩
      have HB6 : Hid (Below (w.heap.size + 1) (w.alloc (vobj k 32)) w6) := HBz.out.trans (hb.mono (HW0.out _ HBz.out).2)
      have HZ6 : Hid (w6.heap[w1.heap.size]? = some (.cells (vcells pl).toArray 74 (0, 0))) := heap_below HZ.out hb
      clear hb HZ HBz HHR
      cases hr
      · clear HRW
        go_wp2_with fail
        go_ret3
        exact ⟨_, rfl, rfl, (HW0.out _ HB6.out).1⟩
      · have HR : Hid _ := HRW.out rfl
        clear HRW
        go_wp2_with fail
        have HS : Hid (∀ wq, Below w6.heap.size w6 wq → wq.cell? ⟨w1.heap.size, 13, none⟩ = some (.int .i64 pl.m) ∧ wq.rangeAt (w1.heap.size) 0 (vcells pl)) := fun wq hb => ⟨HC12.out _ _ (heap_below HZ6.out hb), range_heap (heap_below HZ6.out hb)⟩
        clear HC12 HZ6
        refine wp_region_held_drew (S := fun w' => w'.cell? ⟨w1.heap.size, 13, none⟩ = some (.int .i64 pl.m) ∧ w'.rangeAt (w1.heap.size) 0 (vcells pl)) (by kernel_rfl) ?_ (fun hHeld => ?_)
        · exact HS.out _ (Below.refl _ _).drew
        (try clear hK K)
        refine wpAnyH_take (i := 0) (v := .agg ((vcells pl)).toArray) rfl (by kernel_rfl) (by kernel_rfl) (by kernel_rfl) (fun _ _ _ h => h) (yieldsIf_load_mid (by rfl) 74 _ rfl (w1.heap.size) (0) rfl ((vcells pl)) _ (fun _ h => h.2) Try.underlying74 rfl (by rw [HPC.out.1]; exact isize_V)) (by assumption) ?_
        (try simp only [Act.put, List.getElem_toArray, List.getElem_cons_zero, List.setIfInBounds_toArray, List.set_cons_zero, List.set_cons_succ])
        (try clear hK K)
        refine wpAnyH_take (i := 2) (v := ?_) rfl (by kernel_rfl) (by kernel_rfl) (by kernel_rfl) (fun _ _ _ h => h) (Or.inl ⟨by rfl, ?_⟩) (by assumption) ?_
        rotate_left
        · intro w hSw; (try dsimp only at hSw); go_simp; (try with_reducible rfl)
        (try simp only [Act.put, List.getElem_toArray, List.getElem_cons_succ, List.getElem_cons_zero, List.setIfInBounds_toArray, List.set_cons_zero, List.set_cons_succ])
        refine wpAnyH_take (i := 3) (v := ?_) rfl (by kernel_rfl) (by kernel_rfl) (by kernel_rfl) (fun _ _ _ h => h) (Or.inl ⟨by rfl, ?_⟩) (by assumption) ?_
        rotate_left
        · intro w hSw; (try dsimp only at hSw); go_simp; (try with_reducible rfl)
        (try simp only [Act.put, List.getElem_toArray, List.getElem_cons_succ, List.getElem_cons_zero, List.setIfInBounds_toArray, List.set_cons_zero, List.set_cons_succ])
        (try clear hK K)
        refine wpAnyH_ready (rs := [1]) (by kernel_rfl) (by simp) ?_
        refine AllReadyH.cons rfl (fun K hK => ?_) AllReadyH.nil
        go_simp
        (refine Calls.mono (HR.out _) ?_; rintro e w7 ⟨v', rfl, ho, hb⟩)
        refine hK.out _ _ ?_ (fun hHeld => ?_)
        · exact HS.out _ ((Below.refl _ _).drew.trans hb)
        have HB7 : Hid (Below w.heap.size w w7 ∧ OwnRow w7 w.heap.size 32 v' (rowP pl)) := ⟨(HW0.out _ HB6.out).1.trans ((Below.refl _ _).drew.trans (hb.mono (HW0.out _ HB6.out).1.size)), ho.mono (HW0.out _ HB6.out).1.size⟩
        clear hb ho HB6 HS HR
        (try clear hK K)
        refine wpAnyH_take (i := 4) (v := ?_) rfl (by kernel_rfl) (by kernel_rfl) (by kernel_rfl) (fun _ _ _ h => h) (Or.inl ⟨by rfl, ?_⟩) (by assumption) ?_
        rotate_left
        · intro w hSw; (try dsimp only at hSw); go_simp; (try with_reducible rfl)
        (try simp only [Act.put, List.getElem_toArray, List.getElem_cons_succ, List.getElem_cons_zero, List.setIfInBounds_toArray, List.set_cons_zero, List.set_cons_succ])
        refine wpAnyH_take (i := 5) (v := ?_) rfl (by kernel_rfl) (by kernel_rfl) (by kernel_rfl) (fun _ _ _ h => h) (Or.inl ⟨by rfl, ?_⟩) (by assumption) ?_
        rotate_left
        · intro w hSw; (try dsimp only at hSw); go_simp; (try with_reducible rfl)
        (try simp only [Act.put, List.getElem_toArray, List.getElem_cons_succ, List.getElem_cons_zero, List.setIfInBounds_toArray, List.set_cons_zero, List.set_cons_succ])
        refine wpAnyH_take (i := 6) (v := ?_) rfl (by kernel_rfl) (by kernel_rfl) (by kernel_rfl) (fun _ _ _ h => h) (Or.inl ⟨by rfl, ?_⟩) (by assumption) ?_
        rotate_left
        · intro w hSw; (try dsimp only at hSw); go_simp; (try with_reducible rfl)
        (try simp only [Act.put, List.getElem_toArray, List.getElem_cons_succ, List.getElem_cons_zero, List.setIfInBounds_toArray, List.set_cons_zero, List.set_cons_succ])
        (try clear hK K)
        refine wpAnyH_done (by kernel_rfl) ?_ _
        go_wp2_with fail
        go_ret3
        exact ⟨_, rfl, HB7.out.2, HB7.out.1⟩
  · go_simp
    have HX1 : Hid (((w.alloc (vobj k 32)).drew.alloc zobj).heap[w.heap.size + 1]? = some zobj ∧ w.heap.size + 1 ≤ (w.alloc (vobj k 32)).drew.heap.size) := ⟨heap_new _ _ _ (by simp), (HW0.out _ HB0.out).2⟩
    have HB1 : Hid (Below (w.heap.size + 1) (w.alloc (vobj k 32)) ((w.alloc (vobj k 32)).drew.alloc zobj)) := HB0.out.alloc HX1.out.2 _
    refine hK.out _ _ ?_ (fun hHeld => ?_)
    · exact HKC.out _ HB1.out
    clear HB0
    (try clear hK K)
    refine wpAnyH_ready (rs := [2]) (by kernel_rfl) (by simp) ?_
    refine AllReadyH.cons rfl (fun K hK => ?_) AllReadyH.nil
    (go_simp)
    refine Calls.mono (HAT.out _ (HW0.out _ HB1.out).1) ?_
    rintro e w2 ⟨rfl, hb⟩
    have HB2 : Hid (Below (w.heap.size + 1) (w.alloc (vobj k 32)) w2) := HB1.out.trans (hb.mono (HW0.out _ HB1.out).2)
    have HX2 : Hid (w2.heap[w.heap.size + 1]? = some zobj ∧ w.heap.size + 1 ≤ w.heap.size + 1) := ⟨heap_below HX1.out.1 hb, Nat.le_refl _⟩
    clear hb HAT HB1 HX1
    refine hK.out _ _ ?_ (fun hHeld => ?_)
    · exact HKC.out _ HB2.out
    (try clear hK K)
    refine wpAnyH_take (i := 3) (v := ?_) rfl (by kernel_rfl) (by kernel_rfl) (by kernel_rfl) (fun _ _ _ h => h) (Or.inl ⟨by rfl, ?_⟩) (by assumption) ?_
    rotate_left
    · intro w hSw; (try dsimp only at hSw); go_simp; (try with_reducible rfl)
    (try simp only [Act.put, List.getElem_toArray, List.getElem_cons_succ, List.getElem_cons_zero, List.setIfInBounds_toArray, List.set_cons_zero, List.set_cons_succ])
    (try clear hK K)
    refine wpAnyH_ready (rs := [5]) (by kernel_rfl) (by simp) ?_
    refine AllReadyH.cons rfl (fun K hK => ?_) AllReadyH.nil
    (go_simp)
    refine Calls.mono (HGT.out _ (HW0.out _ HB2.out).1) ?_
    rintro e w3 ⟨rfl, hb⟩
    have HB3 : Hid (Below (w.heap.size + 1) (w.alloc (vobj k 32)) w3) := HB2.out.trans (hb.mono (HW0.out _ HB2.out).2)
    have HX3 : Hid (w3.heap[w.heap.size + 1]? = some zobj ∧ w.heap.size + 1 ≤ w.heap.size + 1) := ⟨heap_below HX2.out.1 hb, Nat.le_refl _⟩
    clear hb HGT HB2 HX2
    refine hK.out _ _ ?_ (fun hHeld => ?_)
    · exact HKC.out _ HB3.out
    (try clear hK K)
    refine wpAnyH_take (i := 6) (v := ?_) rfl (by kernel_rfl) (by kernel_rfl) (by kernel_rfl) (fun _ _ _ h => h) (Or.inl ⟨by rfl, ?_⟩) (by assumption) ?_
    rotate_left
    · intro w hSw; (try dsimp only at hSw); go_simp; (try with_reducible rfl)
    (try simp only [Act.put, List.getElem_toArray, List.getElem_cons_succ, List.getElem_cons_zero, List.setIfInBounds_toArray, List.set_cons_zero, List.set_cons_succ])
    refine wpAnyH_take (i := 7) (v := ?_) rfl (by kernel_rfl) (by kernel_rfl) (by kernel_rfl) (fun _ _ _ h => h) (Or.inl ⟨by rfl, ?_⟩) (by assumption) ?_
    rotate_left
    · intro w hSw; (try dsimp only at hSw); go_simp; (try with_reducible rfl)
    (try simp only [Act.put, List.getElem_toArray, List.getElem_cons_succ, List.getElem_cons_zero, List.setIfInBounds_toArray, List.set_cons_zero, List.set_cons_succ])
    refine wpAnyH_take (i := 8) (v := ?_) rfl (by kernel_rfl) (by kernel_rfl) (by kernel_rfl) (fun _ _ _ h => h) (Or.inl ⟨by rfl, ?_⟩) (by assumption) ?_
    rotate_left
    · intro w hSw; (try dsimp only at hSw); go_simp; (try with_reducible rfl)
    (try simp only [Act.put, List.getElem_toArray, List.getElem_cons_succ, List.getElem_cons_zero, List.setIfInBounds_toArray, List.set_cons_zero, List.set_cons_succ])
    (try clear hK K)
    refine wpAnyH_ready (rs := [10]) (by kernel_rfl) (by simp) ?_
    refine AllReadyH.cons rfl (fun K hK => ?_) AllReadyH.nil
    (refine stepH_pstore rfl _ _ rfl (w.heap.size + 1) (vcells pl) (vcells Pl.zero) rfl rfl HPC.out HZL.out HX3.out.1 ?_; intro wz hz1 hz2; have HBz : Hid (Below (w.heap.size + 1) (w.alloc (vobj k 32)) wz) := HB3.out.trans (hz2.below (HW0.out _ HB3.out).2 fun j hj e => by have := HX3.out.2; omega); have HZ : Hid (wz.heap[w.heap.size + 1]? = some (.cells (vcells pl).toArray 74 (0, 0))) := hz1; clear hz1 hz2 HX3 HB3; refine hK.out _ _ ?_ (fun hHeld => ?_))
    · exact HKC.out _ HBz.out
    (try clear hK K)
    refine wpAnyH_take (i := 11) (v := ?_) rfl (by kernel_rfl) (by kernel_rfl) (by kernel_rfl) (fun _ _ _ h => h) (Or.inl ⟨by rfl, ?_⟩) (by assumption) ?_
    rotate_left
    · intro w hSw; (try dsimp only at hSw); go_simp; (try with_reducible rfl)
    (try simp only [Act.put, List.getElem_toArray, List.getElem_cons_succ, List.getElem_cons_zero, List.setIfInBounds_toArray, List.set_cons_zero, List.set_cons_succ])
    (try clear hK K)
    refine wpAnyH_done (by kernel_rfl) ?_ _
    clear hHeld
    go_wp2_with (first | (refine step_pload rfl _ rfl (w.heap.size + 1) 0 rfl (vcells pl) (range_heap HZ.out) HPC.out ?_) | fail)
    refine Calls.mono (HHR.out _) ?_
    rintro e w6 ⟨rfl, hb⟩
    have HB6 : Hid (Below (w.heap.size + 1) (w.alloc (vobj k 32)) w6) := HBz.out.trans (hb.mono (HW0.out _ HBz.out).2)
    have HZ6 : Hid (w6.heap[w.heap.size + 1]? = some (.cells (vcells pl).toArray 74 (0, 0))) := heap_below HZ.out hb
    clear hb HZ HBz HHR
    cases hr
    · clear HRW
      go_wp2_with fail
      go_ret3
      exact ⟨_, rfl, rfl, (HW0.out _ HB6.out).1⟩
    · have HR : Hid _ := HRW.out rfl
      clear HRW
      go_wp2_with fail
      have HS : Hid (∀ wq, Below w6.heap.size w6 wq → wq.cell? ⟨w.heap.size + 1, 13, none⟩ = some (.int .i64 pl.m) ∧ wq.rangeAt (w.heap.size + 1) 0 (vcells pl)) := fun wq hb => ⟨HC12.out _ _ (heap_below HZ6.out hb), range_heap (heap_below HZ6.out hb)⟩
      clear HC12 HZ6
      refine wp_region_held_drew (S := fun w' => w'.cell? ⟨w.heap.size + 1, 13, none⟩ = some (.int .i64 pl.m) ∧ w'.rangeAt (w.heap.size + 1) 0 (vcells pl)) (by kernel_rfl) ?_ (fun hHeld => ?_)
      · exact HS.out _ (Below.refl _ _).drew
      (try clear hK K)
      refine wpAnyH_take (i := 0) (v := .agg ((vcells pl)).toArray) rfl (by kernel_rfl) (by kernel_rfl) (by kernel_rfl) (fun _ _ _ h => h) (yieldsIf_load_mid (by rfl) 74 _ rfl (w.heap.size + 1) (0) rfl ((vcells pl)) _ (fun _ h => h.2) Try.underlying74 rfl (by rw [HPC.out.1]; exact isize_V)) (by assumption) ?_
      (try simp only [Act.put, List.getElem_toArray, List.getElem_cons_zero, List.setIfInBounds_toArray, List.set_cons_zero, List.set_cons_succ])
      (try clear hK K)
      refine wpAnyH_take (i := 2) (v := ?_) rfl (by kernel_rfl) (by kernel_rfl) (by kernel_rfl) (fun _ _ _ h => h) (Or.inl ⟨by rfl, ?_⟩) (by assumption) ?_
      rotate_left
      · intro w hSw; (try dsimp only at hSw); go_simp; (try with_reducible rfl)
      (try simp only [Act.put, List.getElem_toArray, List.getElem_cons_succ, List.getElem_cons_zero, List.setIfInBounds_toArray, List.set_cons_zero, List.set_cons_succ])
      refine wpAnyH_take (i := 3) (v := ?_) rfl (by kernel_rfl) (by kernel_rfl) (by kernel_rfl) (fun _ _ _ h => h) (Or.inl ⟨by rfl, ?_⟩) (by assumption) ?_
      rotate_left
      · intro w hSw; (try dsimp only at hSw); go_simp; (try with_reducible rfl)
      (try simp only [Act.put, List.getElem_toArray, List.getElem_cons_succ, List.getElem_cons_zero, List.setIfInBounds_toArray, List.set_cons_zero, List.set_cons_succ])
      (try clear hK K)
      refine wpAnyH_ready (rs := [1]) (by kernel_rfl) (by simp) ?_
      refine AllReadyH.cons rfl (fun K hK => ?_) AllReadyH.nil
      go_simp
      (refine Calls.mono (HR.out _) ?_; rintro e w7 ⟨v', rfl, ho, hb⟩)
      refine hK.out _ _ ?_ (fun hHeld => ?_)
      · exact HS.out _ ((Below.refl _ _).drew.trans hb)
      have HB7 : Hid (Below w.heap.size w w7 ∧ OwnRow w7 w.heap.size 32 v' (rowP pl)) := ⟨(HW0.out _ HB6.out).1.trans ((Below.refl _ _).drew.trans (hb.mono (HW0.out _ HB6.out).1.size)), ho.mono (HW0.out _ HB6.out).1.size⟩
      clear hb ho HB6 HS HR
      (try clear hK K)
      refine wpAnyH_take (i := 4) (v := ?_) rfl (by kernel_rfl) (by kernel_rfl) (by kernel_rfl) (fun _ _ _ h => h) (Or.inl ⟨by rfl, ?_⟩) (by assumption) ?_
      rotate_left
      · intro w hSw; (try dsimp only at hSw); go_simp; (try with_reducible rfl)
      (try simp only [Act.put, List.getElem_toArray, List.getElem_cons_succ, List.getElem_cons_zero, List.setIfInBounds_toArray, List.set_cons_zero, List.set_cons_succ])
      refine wpAnyH_take (i := 5) (v := ?_) rfl (by kernel_rfl) (by kernel_rfl) (by kernel_rfl) (fun _ _ _ h => h) (Or.inl ⟨by rfl, ?_⟩) (by assumption) ?_
      rotate_left
      · intro w hSw; (try dsimp only at hSw); go_simp; (try with_reducible rfl)
      (try simp only [Act.put, List.getElem_toArray, List.getElem_cons_succ, List.getElem_cons_zero, List.setIfInBounds_toArray, List.set_cons_zero, List.set_cons_succ])
      refine wpAnyH_take (i := 6) (v := ?_) rfl (by kernel_rfl) (by kernel_rfl) (by kernel_rfl) (fun _ _ _ h => h) (Or.inl ⟨by rfl, ?_⟩) (by assumption) ?_
      rotate_left
      · intro w hSw; (try dsimp only at hSw); go_simp; (try with_reducible rfl)
      (try simp only [Act.put, List.getElem_toArray, List.getElem_cons_succ, List.getElem_cons_zero, List.setIfInBounds_toArray, List.set_cons_zero, List.set_cons_succ])
      (try clear hK K)
      refine wpAnyH_done (by kernel_rfl) ?_ _
      go_wp2_with fail
      go_ret3
      exact ⟨_, rfl, HB7.out.2, HB7.out.1⟩
end Go.Proofs.Ytafkpfhhmmnpeaa.Val
/- A store's steps: a tree turned, the last number told on. -/
namespace Go.Proofs.Ytafkpfhhmmnpeaa.Val
open Go Go.RowKit
set_option maxRecDepth 100000

theorem Lies.sv {w w' : World} {X : Nat → Prop} {v : Value} {n : Nat} {xs : List Value} (h : Lies w v n xs) (hs : Sv X w w') (hx : ∀ g, v.ownBlock = some g → ¬ X g) : Lies w' v n xs := by
  obtain ⟨ao, c, rfl, h1, h2, h0, h3⟩ := h
  refine ⟨ao, c, rfl, h1, h2, h0, ?_⟩
  rcases h3 with h3 | ⟨b, o, rfl, h3⟩
  · exact .inl h3
  · refine .inr ⟨b, o, rfl, fun j u hj => ?_⟩
    have := h3 j u hj
    rw [hs.cell (World.block_lt_of_cell? w _ this) (hx b rfl)]; exact this
/-- The table i holds l', its tree lies at h'. -/
def setT (ts : List Tb) (i : Nat) (h' : Hd) (l' : List Pr) : List Tb := ts.modify i fun t => { t with h := h', l := l' }
theorem setT_len (ts : List Tb) (i : Nat) (h' : Hd) (l' : List Pr) : (setT ts i h' l').length = ts.length := by simp [setT]
theorem setT_at (ts : List Tb) (i : Nat) (h' : Hd) (l' : List Pr) (j : Nat) (hj : j < (setT ts i h' l').length) : (setT ts i h' l')[j] = if i = j then { ts[j]'(by rw [setT_len] at hj; exact hj) with h := h', l := l' } else ts[j]'(by rw [setT_len] at hj; exact hj) := by
  simp [setT, List.getElem_modify]
theorem setT_cells (ts : List Tb) (i : Nat) (h' : Hd) (l' : List Pr) (hp : ∀ hi : i < ts.length, h'.p = ts[i].h.p) : (setT ts i h' l').flatMap Tb.cells = ts.flatMap Tb.cells := by
  unfold setT
  induction ts generalizing i with
  | nil => simp
  | cons t ts ih =>
    cases i with
    | zero =>
      have := hp (by simp)
      simp only [List.modify_zero_cons, List.flatMap_cons]
      congr 1
      simp only [Tb.cells]
      rw [this]; rfl
    | succ i =>
      simp only [List.modify_succ_cons, List.flatMap_cons]
      rw [ih i fun hi => hp (by simpa using hi)]
section
variable {w w' : World} {p : Nat} {tv : Value} {room last : Int} {ts : List Tb}
theorem SM.lt (s : SM w p tv room last ts) : p < w.heap.size := World.block_lt_of_cell? w _ s.c0
theorem SM.step (s : SM w p tv room last ts) (i : Nat) (hi : i < ts.length) {h' : Hd} {l' : List Pr} (v : Mv w ts[i].h w' h') (t : Tr w' h' l') : SM w' p tv room last (setT ts i h' l') := by
  have hp := s.offp i hi
  have hlp := s.lt
  have keep : ∀ j, w'.cell? ⟨p, j, none⟩ = w.cell? ⟨p, j, none⟩ := fun j => v.sv.cell (p := ⟨p, j, none⟩) hlp hp
  have hfv : ∀ j (hj : j < (setT ts i h' l').length), (setT ts i h' l')[j].fv = (ts[j]'(by rw [setT_len] at hj; exact hj)).fv := fun j hj => by rw [setT_at]; split <;> rfl
  have hcl : ∀ j (hj : j < (setT ts i h' l').length), (setT ts i h' l')[j].cols = (ts[j]'(by rw [setT_len] at hj; exact hj)).cols := fun j hj => by rw [setT_at]; split <;> rfl
  have off : ∀ g, g < w.heap.size → (∀ j (hj : j < ts.length), ¬ ts[j].h.has g) → ∀ j (hj : j < (setT ts i h' l').length), ¬ (setT ts i h' l')[j].h.has g := fun g hg hx j hj => by
    rw [setT_at]
    split
    · intro hh
      rcases v.own g hh with h1 | h1
      · exact hx i hi h1
      · omega
    · exact hx j _
  refine ⟨by rw [keep]; exact s.c0, by rw [keep]; exact s.c1, by rw [keep]; exact s.c2, fun j => by rw [v.sv.frozen (p := ⟨p, j, none⟩) hlp hp]; exact s.fz j, ?_, fun j hj => ?_, fun j hj => ?_, fun a b ha hb hne k => ?_, ?_, fun g hg => ?_, fun a ha g hg => ?_⟩
  · rw [setT_len, setT_cells ts i h' l' fun _ => v.p]
    exact s.tab.sv v.sv fun g hg => (s.offt g hg).2.2 i hi
  · rw [hfv, hcl]
    rw [setT_len] at hj
    exact Lies.sv (s.forms j hj) v.sv fun g hg => (s.offf j hj g hg).2.2 i hi
  · rw [setT_at]
    rw [setT_len] at hj
    split
    · exact t
    · rename_i hne
      exact (s.trees j hj).sv v.sv fun k hk => s.apart j i hj hi (fun e => hne e.symm) k hk
  · rw [setT_len] at ha hb
    rw [setT_at, setT_at]
    split
    · rename_i e1
      subst e1
      rw [if_neg hne]
      intro hk hh
      rcases v.own k hk with h1 | h1
      · exact s.apart i b hi hb hne k h1 hh
      · have := (s.trees b hb).lt k hh; omega
    · split
      · rename_i e1 e2
        subst e2
        intro hk hh
        rcases v.own k hh with h1 | h1
        · exact s.apart a i ha hi hne k hk h1
        · have := (s.trees a ha).lt k hk; omega
      · exact s.apart a b ha hb hne k
  · exact off p hlp s.offp
  · obtain ⟨h1, h2, h3⟩ := s.offt g hg
    exact ⟨h1, Nat.lt_of_lt_of_le h2 v.sv.size, off g h2 h3⟩
  · rw [hfv] at hg
    rw [setT_len] at ha
    obtain ⟨h1, h2, h3⟩ := s.offf a ha g hg
    exact ⟨h1, Nat.lt_of_lt_of_le h2 v.sv.size, off g h2 h3⟩
theorem SM.told (s : SM w p tv room last ts) (n : Int) : SM (w.setCell ⟨p, 2, none⟩ (.int .i64 n)) p tv room n ts := by
  have hs : Sv (fun k => k = p) w (w.setCell ⟨p, 2, none⟩ (.int .i64 n)) := Sv.set (X := fun k => k = p) (Sv.refl _ w) (a := ⟨p, 2, none⟩) rfl _
  have hsz : (w.setCell ⟨p, 2, none⟩ (.int .i64 n)).heap.size = w.heap.size := by simp
  exact ⟨by rw [World.cell?_setCell_other _ _ _ _ (by simp)]; exact s.c0, by rw [World.cell?_setCell_other _ _ _ _ (by simp)]; exact s.c1, World.cell?_setCell_same _ _ _ s.c2, fun j => by rw [World.frozen?_setCell]; exact s.fz j,
    s.tab.sv hs fun g hg => (s.offt g hg).1, fun j hj => Lies.sv (s.forms j hj) hs fun g hg => (s.offf j hj g hg).1, fun j hj => (s.trees j hj).sv hs fun k hk e => s.offp j hj (by rw [← e]; exact hk), s.apart, s.offp,
    fun g hg => by rw [hsz]; exact s.offt g hg, fun i hi g hg => by rw [hsz]; exact s.offf i hi g hg⟩
/-- What a store's step may turn: its own block, and its trees'. -/
def Fp (p : Nat) (ts : List Tb) (k : Nat) : Prop := k = p ∨ ∃ j, ∃ hj : j < ts.length, ts[j].h.has k
/-- A step of a store's. -/
structure Ms (w : World) (p : Nat) (ts : List Tb) (w' : World) (ts' : List Tb) : Prop where
  sv : Sv (Fp p ts) w w'
  own : ∀ k, Fp p ts' k → Fp p ts k ∨ w.heap.size ≤ k
theorem Ms.of (hb : Below w.heap.size w w') : Ms w p ts w' ts := ⟨Sv.of hb, fun _ h => .inl h⟩
theorem Ms.trans {w1 w2 : World} {ts1 ts2 : List Tb} (a : Ms w p ts w1 ts1) (b : Ms w1 p ts1 w2 ts2) : Ms w p ts w2 ts2 := by
  refine ⟨⟨b.sv.os.trans a.sv.os, b.sv.tape.trans a.sv.tape, b.sv.output.trans a.sv.output, Nat.le_trans a.sv.size b.sv.size, fun k hk hx => ?_⟩, fun k hk => ?_⟩
  · refine (b.sv.block k (Nat.lt_of_lt_of_le hk a.sv.size) fun h1 => ?_).trans (a.sv.block k hk hx)
    rcases a.own k h1 with h2 | h2
    · exact hx h2
    · omega
  · rcases b.own k hk with h1 | h1
    · exact a.own k h1
    · exact .inr (Nat.le_trans a.sv.size h1)
theorem Ms.step (i : Nat) (hi : i < ts.length) {h' : Hd} {l' : List Pr} (v : Mv w ts[i].h w' h') : Ms w p ts w' (setT ts i h' l') := by
  refine ⟨⟨v.sv.os, v.sv.tape, v.sv.output, v.sv.size, fun k hk hx => v.sv.block k hk fun hh => hx (.inr ⟨i, hi, hh⟩)⟩, fun k hk => ?_⟩
  rcases hk with hk | ⟨j, hj, hk⟩
  · exact .inl (.inl hk)
  · rw [setT_at] at hk
    rw [setT_len] at hj
    split at hk
    · rcases v.own k hk with h1 | h1
      · exact .inl (.inr ⟨i, hi, h1⟩)
      · exact .inr h1
    · exact .inl (.inr ⟨j, hj, hk⟩)
theorem Ms.told (n : Int) : Ms w p ts (w.setCell ⟨p, 2, none⟩ (.int .i64 n)) ts :=
  ⟨Sv.set (X := Fp p ts) (Sv.refl _ w) (a := ⟨p, 2, none⟩) (.inl rfl) _, fun _ h => .inl h⟩
end
end Go.Proofs.Ytafkpfhhmmnpeaa.Val
