/- What the store's Insert does, for whatever its at, its tree, its Used and package row answer. -/
import Derived.Test.YtafkpfhhmmnpeaaU23
namespace Go.Proofs.Ytafkpfhhmmnpeaa.Val
open Go Go.RowKit
set_option maxRecDepth 100000

section
variable {w : World} {sv : Value} {p : Nat} {fa tp : Option Addr} {fl fc : Nat} {n : Int}
set_option maxHeartbeats 4000000 in
theorem ins_no {ra : Option Addr} {rn rc : Nat}
    (hat : ∀ w1, Below w.heap.size w w1 → Calls Try.prog 37 #[sv, .int .i64 n] w1 fun e w' => e = atAns (.slice fa fl fc) tp ∧ Below w1.heap.size w1 w')
    (hft : ∀ w1, Below w.heap.size w w1 → Calls Try.prog 46 #[.agg #[.slice fa fl fc], .slice ra rn rc] w1 fun e w' => e = .returned (.bool false) ∧ Below w1.heap.size w1 w')
    : Calls Try.prog 23 #[sv, .int .i64 n, .slice ra rn rc] w fun e w' => e = .returned (.tuple #[.int .i64 0, .int .i64 1]) ∧ Below w.heap.size w w' := by
  have HAT : Hid _ := hat
  have HFT : Hid _ := hft
  clear hat hft
  go_enter Try.func23, Try.ntmps23
  go_wp2_with fail
  refine Calls.mono (HAT.out _ (Below.refl _ _)) ?_
  rintro e w1 ⟨rfl, hb⟩
  have HB1 : Hid (Below w.heap.size w w1) := hb
  clear hb HAT
  go_wp2_with fail
  refine Calls.mono (HFT.out _ (HB1.out.alloc HB1.out.size _)) ?_
  rintro e w2 ⟨rfl, hb⟩
  have HB2 : Hid (Below w.heap.size w w2) := (HB1.out.alloc HB1.out.size _).trans (hb.mono (by have := HB1.out.size; simp; omega))
  clear hb HFT HB1
  go_wp2_with fail
  go_ret2
  exact ⟨rfl, HB2.out⟩
set_option maxHeartbeats 8000000 in
theorem ins_there {rb ro rc rn : Nat} {k : Val} {pl : Pl} {th : Bool} (hr : hasR pl = true)
    (hat : ∀ w1, Below w.heap.size w w1 → Calls Try.prog 37 #[sptr p, .int .i64 n] w1 fun e w' => e = atAns (.slice fa fl fc) tp ∧ Below w1.heap.size w1 w')
    (hft : ∀ w1, Below w.heap.size w w1 → Calls Try.prog 46 #[.agg #[.slice fa fl fc], .slice (some ⟨rb, ro, none⟩) (rn + 1) rc] w1 fun e w' => e = .returned (.bool true) ∧ Below w1.heap.size w1 w')
    (hgt : ∀ w1, Below w.heap.size w w1 → Calls Try.prog 38 #[.pointer tp, V k.t k.n k.s] w1 fun e w' => e = gans pl th ∧ Below w1.heap.size w1 w')
    (hk0 : w.cell? ⟨rb, ro, none⟩ = some (.bool k.t) ∧ w.cell? ⟨rb, ro + 1, none⟩ = some (.int .i64 k.n) ∧ w.cell? ⟨rb, ro + 2, none⟩ = some (.string k.s))
    : Calls Try.prog 23 #[sptr p, .int .i64 n, .slice (some ⟨rb, ro, none⟩) (rn + 1) rc] w fun e w' => e = .returned (.tuple #[.int .i64 0, .int .i64 60]) ∧ Below w.heap.size w w' := by
  have HAT : Hid _ := hat
  have HFT : Hid _ := hft
  have HGT : Hid _ := hgt
  have HPC : Hid _ := PC.of pl
  have HZL : Hid ((vcells Pl.zero).length = 14) := rfl
  have HHR : Hid (∀ w1, Calls Try.prog 39 #[.agg (vcells pl).toArray] w1 fun e w' => e = .returned (.bool (hasR pl)) ∧ Below w1.heap.size w1 w') := fun w1 => hasRow_any pl w1
  rw [hr] at HHR
  have HK0 : Hid (w.cell? ⟨rb, ro, none⟩ = some (.bool k.t) ∧ w.cell? ⟨rb, ro + 1, none⟩ = some (.int .i64 k.n) ∧ w.cell? ⟨rb, ro + 2, none⟩ = some (.string k.s)) := hk0
  clear hat hft hgt hr hk0
  go_enter Try.func23, Try.ntmps23
  go_wp2_with fail
  refine Calls.mono (HAT.out _ (Below.refl _ _)) ?_
  rintro e w1 ⟨rfl, hb⟩
  have HB1 : Hid (Below w.heap.size w w1) := hb
  clear hb HAT
  go_wp2_with fail
  have HR1 : Hid (RS w1.heap.size rb ro tp k (w1.alloc (tbobj fa fl fc tp))) := by
    obtain ⟨a, b, c⟩ := HK0.out
    have hb := HB1.out.alloc HB1.out.size (tbobj fa fl fc tp)
    exact ⟨tb_new _ _ _ _ _, cell_below a hb, cell_below b hb, cell_below c hb⟩
  refine Calls.mono (HFT.out _ (HB1.out.alloc HB1.out.size _)) ?_
  rintro e w2 ⟨rfl, hb⟩
  have HB2 : Hid (Below w.heap.size w w2 ∧ w.heap.size ≤ w1.heap.size) := ⟨(HB1.out.alloc HB1.out.size _).trans (hb.mono (by have := HB1.out.size; simp; omega)), HB1.out.size⟩
  have HR2 : Hid (RS w1.heap.size rb ro tp k w2) := HR1.out.below hb
  clear hb HFT HB1 HR1 HK0
  go_wp2_with fail
  refine wp_region_held_drew (S := fun w' => w'.cell? ⟨w1.heap.size, 1, none⟩ = some (.pointer tp) ∧ w'.cell? ⟨rb, ro, none⟩ = some (.bool k.t) ∧ w'.cell? ⟨rb, ro + 1, none⟩ = some (.int .i64 k.n) ∧ w'.cell? ⟨rb, ro + 2, none⟩ = some (.string k.s)) (by kernel_rfl) ?_ (fun hHeld => ?_)
  · exact HR2.out.below (Below.refl _ _).drew
  (try clear hK K)
  refine wpAnyH_take (i := 0) (v := ?_) rfl (by kernel_rfl) (by kernel_rfl) (by kernel_rfl) (fun _ _ _ h => h) (Or.inl ⟨by rfl, ?_⟩) (by assumption) ?_
  rotate_left
  · intro w hSw; (try dsimp only at hSw); go_simp; (try with_reducible rfl)
  (try simp only [Act.put, List.getElem_toArray, List.getElem_cons_zero, List.setIfInBounds_toArray, List.set_cons_zero, List.set_cons_succ])
  refine wpAnyH_take (i := 1) (v := ?_) rfl (by kernel_rfl) (by kernel_rfl) (by kernel_rfl) (fun _ _ _ h => h) (Or.inl ⟨by rfl, ?_⟩) (by assumption) ?_
  rotate_left
  · intro w hSw; (try dsimp only at hSw); go_simp; (try with_reducible rfl)
  (try simp only [Act.put, List.getElem_toArray, List.getElem_cons_succ, List.getElem_cons_zero, List.setIfInBounds_toArray, List.set_cons_zero, List.set_cons_succ])
  refine wpAnyH_take (i := 2) (v := ?_) rfl (by kernel_rfl) (by kernel_rfl) (by kernel_rfl) (fun _ _ _ h => h) (Or.inl ⟨by rfl, ?_⟩) (by assumption) ?_
  rotate_left
  · intro w hSw; (try dsimp only at hSw); go_simp; (try with_reducible rfl)
  (try simp only [Act.put, List.getElem_toArray, List.getElem_cons_succ, List.getElem_cons_zero, List.setIfInBounds_toArray, List.set_cons_zero, List.set_cons_succ])
  refine wpAnyH_take (i := 3) (v := ?_) rfl (by kernel_rfl) (by kernel_rfl) (by kernel_rfl) (fun _ _ _ h => h) (Or.inl ⟨by rfl, ?_⟩) (by assumption) ?_
  rotate_left
  · intro w hSw; (try dsimp only at hSw); go_simp; (try with_reducible rfl)
  (try simp only [Act.put, List.getElem_toArray, List.getElem_cons_succ, List.getElem_cons_zero, List.setIfInBounds_toArray, List.set_cons_zero, List.set_cons_succ])
  refine wpAnyH_take (i := 4) (v := ?_) rfl (by kernel_rfl) (by kernel_rfl) (by kernel_rfl) (fun _ _ _ h => h) (Or.inl ⟨by rfl, ?_⟩) (by assumption) ?_
  rotate_left
  · intro w hSw; (try dsimp only at hSw); go_simp; (try with_reducible rfl)
  (try simp only [Act.put, List.getElem_toArray, List.getElem_cons_succ, List.getElem_cons_zero, List.setIfInBounds_toArray, List.set_cons_zero, List.set_cons_succ])
  (try clear hK K)
  refine wpAnyH_ready (rs := [5, 9]) (by kernel_rfl) (by simp) ?_
  refine AllReadyH.cons rfl (fun K hK => ?_) (AllReadyH.cons rfl (fun K hK => ?_) AllReadyH.nil)
  · go_simp
    refine Calls.mono (HGT.out _ HB2.out.1.drew) ?_
    rintro e w3 ⟨rfl, hb⟩
    have HB3 : Hid (Below w.heap.size w w3 ∧ w.heap.size ≤ w1.heap.size) := ⟨HB2.out.1.drew.trans (hb.mono HB2.out.1.drew.size), HB2.out.2⟩
    have HR3 : Hid (RS w1.heap.size rb ro tp k w3) := (HR2.out.below (Below.refl _ _).drew).below hb
    clear hb HGT HB2 HR2
    refine hK.out _ _ ?_ (fun hHeld => ?_)
    · exact HR3.out
    (try clear hK K)
    refine wpAnyH_take (i := 6) (v := ?_) rfl (by kernel_rfl) (by kernel_rfl) (by kernel_rfl) (fun _ _ _ h => h) (Or.inl ⟨by rfl, ?_⟩) (by assumption) ?_
    rotate_left
    · intro w hSw; (try dsimp only at hSw); go_simp; (try with_reducible rfl)
    (try simp only [Act.put, List.getElem_toArray, List.getElem_cons_succ, List.getElem_cons_zero, List.setIfInBounds_toArray, List.set_cons_zero, List.set_cons_succ])
    refine wpAnyH_take (i := 7) (v := ?_) rfl (by kernel_rfl) (by kernel_rfl) (by kernel_rfl) (fun _ _ _ h => h) (Or.inl ⟨by rfl, ?_⟩) (by assumption) ?_
    rotate_left
    · intro w hSw; (try dsimp only at hSw); go_simp; (try with_reducible rfl)
    (try simp only [Act.put, List.getElem_toArray, List.getElem_cons_succ, List.getElem_cons_zero, List.setIfInBounds_toArray, List.set_cons_zero, List.set_cons_succ])
    refine wpAnyH_take (i := 8) (v := ?_) rfl (by kernel_rfl) (by kernel_rfl) (by kernel_rfl) (fun _ _ _ h => h) (Or.inl ⟨by rfl, ?_⟩) (by assumption) ?_
    rotate_left
    · intro w hSw; (try dsimp only at hSw); go_simp; (try with_reducible rfl)
    (try simp only [Act.put, List.getElem_toArray, List.getElem_cons_succ, List.getElem_cons_zero, List.setIfInBounds_toArray, List.set_cons_zero, List.set_cons_succ])
    (try clear hK K)
    refine wpAnyH_ready (rs := [9]) (by kernel_rfl) (by simp) ?_
    refine AllReadyH.cons rfl (fun K hK => ?_) AllReadyH.nil
    (go_simp; (try clear hHeld))
    have HX : Hid ((w3.alloc zobj).heap[w3.heap.size]? = some zobj ∧ w.heap.size ≤ w3.heap.size ∧ ¬ w1.heap.size = w3.heap.size ∧ ¬ rb = w3.heap.size) := by
      have h1 := World.block_lt_of_cell? w3 _ HR3.out.1
      have h2 := World.block_lt_of_cell? w3 _ HR3.out.2.1
      exact ⟨heap_new _ _ _ rfl, HB3.out.1.size, Nat.ne_of_lt h1, Nat.ne_of_lt h2⟩
    have HB4 : Hid (Below w.heap.size w (w3.alloc zobj) ∧ w.heap.size ≤ w1.heap.size) := ⟨HB3.out.1.alloc HB3.out.1.size _, HB3.out.2⟩
    have HR4 : Hid (RS w1.heap.size rb ro tp k (w3.alloc zobj)) := HR3.out.below (alloc1 _ _)
    clear HB3 HR3
    refine hK.out _ _ ?_ (fun hHeld => ?_)
    · exact HR4.out
    (try clear hK K)
    refine wpAnyH_ready (rs := [10]) (by kernel_rfl) (by simp) ?_
    refine AllReadyH.cons rfl (fun K hK => ?_) AllReadyH.nil
    (refine stepH_pstore rfl _ _ rfl (w3.heap.size) (vcells pl) (vcells Pl.zero) rfl rfl HPC.out HZL.out HX.out.1 ?_; intro wz hz1 hz2; have HBz : Hid (Below w.heap.size w wz ∧ w.heap.size ≤ w1.heap.size) := ⟨HB4.out.1.trans (hz2.below HB4.out.1.size fun j hj e => by have := HX.out.2.1; omega), HB4.out.2⟩; have HRz : Hid (RS w1.heap.size rb ro tp k wz) := HR4.out.sv hz2 HX.out.2.2.1 HX.out.2.2.2; have HZ : Hid (wz.heap[w3.heap.size]? = some (.cells (vcells pl).toArray 74 (0, 0)) ∧ w.heap.size ≤ w3.heap.size) := ⟨hz1, HX.out.2.1⟩; clear hz1 hz2 HX HB4 HR4; refine hK.out _ _ ?_ (fun hHeld => ?_))
    · exact HRz.out
    (try clear hK K)
    refine wpAnyH_take (i := 11) (v := ?_) rfl (by kernel_rfl) (by kernel_rfl) (by kernel_rfl) (fun _ _ _ h => h) (Or.inl ⟨by rfl, ?_⟩) (by assumption) ?_
    rotate_left
    · intro w hSw; (try dsimp only at hSw); go_simp; (try with_reducible rfl)
    (try simp only [Act.put, List.getElem_toArray, List.getElem_cons_succ, List.getElem_cons_zero, List.setIfInBounds_toArray, List.set_cons_zero, List.set_cons_succ])
    (try clear hK K)
    refine wpAnyH_done (by kernel_rfl) ?_ _
    clear hHeld
    go_wp2_with (first | (refine step_ploadW _ rfl (w3.heap.size) 0 rfl (vcells pl) (range_heap HZ.out.1) HPC.out (by rfl) ?_) | fail)
    refine Calls.mono (HHR.out _) ?_
    rintro e w6 ⟨rfl, hb⟩
    have HB6 : Hid (Below w.heap.size w w6 ∧ w.heap.size ≤ w1.heap.size) := ⟨HBz.out.1.trans (hb.mono HBz.out.1.size), HBz.out.2⟩
    have HR6 : Hid (RS w1.heap.size rb ro tp k w6) := HRz.out.below hb
    have HZ6 : Hid (w6.heap[w3.heap.size]? = some (.cells (vcells pl).toArray 74 (0, 0)) ∧ w.heap.size ≤ w3.heap.size) := ⟨heap_below HZ.out.1 hb, HZ.out.2⟩
    clear hb HZ HBz HRz HHR
    go_wp2_with fail
    go_ret2
    exact ⟨rfl, HB6.out.1⟩
  · go_simp
    have HX0 : Hid ((w2.drew.alloc zobj).heap[w2.heap.size]? = some zobj ∧ w.heap.size ≤ w2.heap.size ∧ ¬ w1.heap.size = w2.heap.size ∧ ¬ rb = w2.heap.size) := by
      have h1 := World.block_lt_of_cell? w2 _ HR2.out.1
      have h2 := World.block_lt_of_cell? w2 _ HR2.out.2.1
      exact ⟨heap_new _ _ _ (by simp), HB2.out.1.size, Nat.ne_of_lt h1, Nat.ne_of_lt h2⟩
    have HB5 : Hid (Below w.heap.size w (w2.drew.alloc zobj) ∧ w.heap.size ≤ w1.heap.size) := ⟨HB2.out.1.drew.alloc (by simpa using HB2.out.1.size) _, HB2.out.2⟩
    have HR5 : Hid (RS w1.heap.size rb ro tp k (w2.drew.alloc zobj)) := HR2.out.below ((Below.refl _ _).drew.alloc (by simp) _)
    refine hK.out _ _ ?_ (fun hHeld => ?_)
    · exact HR5.out
    (try clear hK K)
    refine wpAnyH_ready (rs := [5]) (by kernel_rfl) (by simp) ?_
    refine AllReadyH.cons rfl (fun K hK => ?_) AllReadyH.nil
    (go_simp)
    refine Calls.mono (HGT.out _ HB5.out.1) ?_
    rintro e w3 ⟨rfl, hb⟩
    have HB3 : Hid (Below w.heap.size w w3 ∧ w.heap.size ≤ w1.heap.size) := ⟨HB5.out.1.trans (hb.mono HB5.out.1.size), HB2.out.2⟩
    have HR3 : Hid (RS w1.heap.size rb ro tp k w3) := (HR5.out).below hb
    have HX : Hid (w3.heap[w2.heap.size]? = some zobj ∧ w.heap.size ≤ w2.heap.size ∧ ¬ w1.heap.size = w2.heap.size ∧ ¬ rb = w2.heap.size) := ⟨heap_below HX0.out.1 hb, HX0.out.2⟩
    clear hb HGT HB2 HR2 HB5 HR5 HX0
    refine hK.out _ _ ?_ (fun hHeld => ?_)
    · exact HR3.out
    (try clear hK K)
    refine wpAnyH_take (i := 6) (v := ?_) rfl (by kernel_rfl) (by kernel_rfl) (by kernel_rfl) (fun _ _ _ h => h) (Or.inl ⟨by rfl, ?_⟩) (by assumption) ?_
    rotate_left
    · intro w hSw; (try dsimp only at hSw); go_simp; (try with_reducible rfl)
    (try simp only [Act.put, List.getElem_toArray, List.getElem_cons_succ, List.getElem_cons_zero, List.setIfInBounds_toArray, List.set_cons_zero, List.set_cons_succ])
    refine wpAnyH_take (i := 7) (v := ?_) rfl (by kernel_rfl) (by kernel_rfl) (by kernel_rfl) (fun _ _ _ h => h) (Or.inl ⟨by rfl, ?_⟩) (by assumption) ?_
    rotate_left
    · intro w hSw; (try dsimp only at hSw); go_simp; (try with_reducible rfl)
    (try simp only [Act.put, List.getElem_toArray, List.getElem_cons_succ, List.getElem_cons_zero, List.setIfInBounds_toArray, List.set_cons_zero, List.set_cons_succ])
    refine wpAnyH_take (i := 8) (v := ?_) rfl (by kernel_rfl) (by kernel_rfl) (by kernel_rfl) (fun _ _ _ h => h) (Or.inl ⟨by rfl, ?_⟩) (by assumption) ?_
    rotate_left
    · intro w hSw; (try dsimp only at hSw); go_simp; (try with_reducible rfl)
    (try simp only [Act.put, List.getElem_toArray, List.getElem_cons_succ, List.getElem_cons_zero, List.setIfInBounds_toArray, List.set_cons_zero, List.set_cons_succ])
    (try clear hK K)
    refine wpAnyH_ready (rs := [10]) (by kernel_rfl) (by simp) ?_
    refine AllReadyH.cons rfl (fun K hK => ?_) AllReadyH.nil
    (refine stepH_pstore rfl _ _ rfl (w2.heap.size) (vcells pl) (vcells Pl.zero) rfl rfl HPC.out HZL.out HX.out.1 ?_; intro wz hz1 hz2; have HBz : Hid (Below w.heap.size w wz ∧ w.heap.size ≤ w1.heap.size) := ⟨HB3.out.1.trans (hz2.below HB3.out.1.size fun j hj e => by have := HX.out.2.1; omega), HB3.out.2⟩; have HRz : Hid (RS w1.heap.size rb ro tp k wz) := HR3.out.sv hz2 HX.out.2.2.1 HX.out.2.2.2; have HZ : Hid (wz.heap[w2.heap.size]? = some (.cells (vcells pl).toArray 74 (0, 0)) ∧ w.heap.size ≤ w2.heap.size) := ⟨hz1, HX.out.2.1⟩; clear hz1 hz2 HX HB3 HR3; refine hK.out _ _ ?_ (fun hHeld => ?_))
    · exact HRz.out
    (try clear hK K)
    refine wpAnyH_take (i := 11) (v := ?_) rfl (by kernel_rfl) (by kernel_rfl) (by kernel_rfl) (fun _ _ _ h => h) (Or.inl ⟨by rfl, ?_⟩) (by assumption) ?_
    rotate_left
    · intro w hSw; (try dsimp only at hSw); go_simp; (try with_reducible rfl)
    (try simp only [Act.put, List.getElem_toArray, List.getElem_cons_succ, List.getElem_cons_zero, List.setIfInBounds_toArray, List.set_cons_zero, List.set_cons_succ])
    (try clear hK K)
    refine wpAnyH_done (by kernel_rfl) ?_ _
    clear hHeld
    go_wp2_with (first | (refine step_ploadW _ rfl (w2.heap.size) 0 rfl (vcells pl) (range_heap HZ.out.1) HPC.out (by rfl) ?_) | fail)
    refine Calls.mono (HHR.out _) ?_
    rintro e w6 ⟨rfl, hb⟩
    have HB6 : Hid (Below w.heap.size w w6 ∧ w.heap.size ≤ w1.heap.size) := ⟨HBz.out.1.trans (hb.mono HBz.out.1.size), HBz.out.2⟩
    have HR6 : Hid (RS w1.heap.size rb ro tp k w6) := HRz.out.below hb
    have HZ6 : Hid (w6.heap[w2.heap.size]? = some (.cells (vcells pl).toArray 74 (0, 0)) ∧ w.heap.size ≤ w2.heap.size) := ⟨heap_below HZ.out.1 hb, HZ.out.2⟩
    clear hb HZ HBz HRz HHR
    go_wp2_with fail
    go_ret2
    exact ⟨rfl, HB6.out.1⟩
set_option maxHeartbeats 8000000 in
theorem ins_full {rb ro rc rn : Nat} {k : Val} {pl : Pl} {u room : Int} (hr : hasR pl = false) (hge : room ≤ u)
    (hat : ∀ w1, Below w.heap.size w w1 → Calls Try.prog 37 #[sptr p, .int .i64 n] w1 fun e w' => e = atAns (.slice fa fl fc) tp ∧ Below w1.heap.size w1 w')
    (hft : ∀ w1, Below w.heap.size w w1 → Calls Try.prog 46 #[.agg #[.slice fa fl fc], .slice (some ⟨rb, ro, none⟩) (rn + 1) rc] w1 fun e w' => e = .returned (.bool true) ∧ Below w1.heap.size w1 w')
    (hgt : ∀ w1, Below w.heap.size w w1 → Calls Try.prog 38 #[.pointer tp, V k.t k.n k.s] w1 fun e w' => e = gans pl false ∧ Below w1.heap.size w1 w')
    (hk0 : w.cell? ⟨rb, ro, none⟩ = some (.bool k.t) ∧ w.cell? ⟨rb, ro + 1, none⟩ = some (.int .i64 k.n) ∧ w.cell? ⟨rb, ro + 2, none⟩ = some (.string k.s))
    (hus : ∀ w1, Below w.heap.size w w1 → Calls Try.prog 16 #[sptr p] w1 fun e w' => e = .returned (.int .i64 u) ∧ Below w1.heap.size w1 w')
    (c1 : w.cell? ⟨p, 1, none⟩ = some (.int .i64 room))
    : Calls Try.prog 23 #[sptr p, .int .i64 n, .slice (some ⟨rb, ro, none⟩) (rn + 1) rc] w fun e w' => e = .returned (.tuple #[.int .i64 0, .int .i64 62]) ∧ Below w.heap.size w w' := by
  have HAT : Hid _ := hat
  have HFT : Hid _ := hft
  have HGT : Hid _ := hgt
  have HPC : Hid _ := PC.of pl
  have HZL : Hid ((vcells Pl.zero).length = 14) := rfl
  have HHR : Hid (∀ w1, Calls Try.prog 39 #[.agg (vcells pl).toArray] w1 fun e w' => e = .returned (.bool (hasR pl)) ∧ Below w1.heap.size w1 w') := fun w1 => hasRow_any pl w1
  rw [hr] at HHR
  have HK0 : Hid (w.cell? ⟨rb, ro, none⟩ = some (.bool k.t) ∧ w.cell? ⟨rb, ro + 1, none⟩ = some (.int .i64 k.n) ∧ w.cell? ⟨rb, ro + 2, none⟩ = some (.string k.s)) := hk0
  have HUS : Hid _ := hus
  have HC1 : Hid _ := c1
  clear hat hft hgt hr hk0 hus c1
  go_enter Try.func23, Try.ntmps23
  go_wp2_with fail
  refine Calls.mono (HAT.out _ (Below.refl _ _)) ?_
  rintro e w1 ⟨rfl, hb⟩
  have HB1 : Hid (Below w.heap.size w w1) := hb
  clear hb HAT
  go_wp2_with fail
  have HR1 : Hid (RS w1.heap.size rb ro tp k (w1.alloc (tbobj fa fl fc tp))) := by
    obtain ⟨a, b, c⟩ := HK0.out
    have hb := HB1.out.alloc HB1.out.size (tbobj fa fl fc tp)
    exact ⟨tb_new _ _ _ _ _, cell_below a hb, cell_below b hb, cell_below c hb⟩
  refine Calls.mono (HFT.out _ (HB1.out.alloc HB1.out.size _)) ?_
  rintro e w2 ⟨rfl, hb⟩
  have HB2 : Hid (Below w.heap.size w w2 ∧ w.heap.size ≤ w1.heap.size) := ⟨(HB1.out.alloc HB1.out.size _).trans (hb.mono (by have := HB1.out.size; simp; omega)), HB1.out.size⟩
  have HR2 : Hid (RS w1.heap.size rb ro tp k w2) := HR1.out.below hb
  clear hb HFT HB1 HR1 HK0
  go_wp2_with fail
  refine wp_region_held_drew (S := fun w' => w'.cell? ⟨w1.heap.size, 1, none⟩ = some (.pointer tp) ∧ w'.cell? ⟨rb, ro, none⟩ = some (.bool k.t) ∧ w'.cell? ⟨rb, ro + 1, none⟩ = some (.int .i64 k.n) ∧ w'.cell? ⟨rb, ro + 2, none⟩ = some (.string k.s)) (by kernel_rfl) ?_ (fun hHeld => ?_)
  · exact HR2.out.below (Below.refl _ _).drew
  (try clear hK K)
  refine wpAnyH_take (i := 0) (v := ?_) rfl (by kernel_rfl) (by kernel_rfl) (by kernel_rfl) (fun _ _ _ h => h) (Or.inl ⟨by rfl, ?_⟩) (by assumption) ?_
  rotate_left
  · intro w hSw; (try dsimp only at hSw); go_simp; (try with_reducible rfl)
  (try simp only [Act.put, List.getElem_toArray, List.getElem_cons_zero, List.setIfInBounds_toArray, List.set_cons_zero, List.set_cons_succ])
  refine wpAnyH_take (i := 1) (v := ?_) rfl (by kernel_rfl) (by kernel_rfl) (by kernel_rfl) (fun _ _ _ h => h) (Or.inl ⟨by rfl, ?_⟩) (by assumption) ?_
  rotate_left
  · intro w hSw; (try dsimp only at hSw); go_simp; (try with_reducible rfl)
  (try simp only [Act.put, List.getElem_toArray, List.getElem_cons_succ, List.getElem_cons_zero, List.setIfInBounds_toArray, List.set_cons_zero, List.set_cons_succ])
  refine wpAnyH_take (i := 2) (v := ?_) rfl (by kernel_rfl) (by kernel_rfl) (by kernel_rfl) (fun _ _ _ h => h) (Or.inl ⟨by rfl, ?_⟩) (by assumption) ?_
  rotate_left
  · intro w hSw; (try dsimp only at hSw); go_simp; (try with_reducible rfl)
  (try simp only [Act.put, List.getElem_toArray, List.getElem_cons_succ, List.getElem_cons_zero, List.setIfInBounds_toArray, List.set_cons_zero, List.set_cons_succ])
  refine wpAnyH_take (i := 3) (v := ?_) rfl (by kernel_rfl) (by kernel_rfl) (by kernel_rfl) (fun _ _ _ h => h) (Or.inl ⟨by rfl, ?_⟩) (by assumption) ?_
  rotate_left
  · intro w hSw; (try dsimp only at hSw); go_simp; (try with_reducible rfl)
  (try simp only [Act.put, List.getElem_toArray, List.getElem_cons_succ, List.getElem_cons_zero, List.setIfInBounds_toArray, List.set_cons_zero, List.set_cons_succ])
  refine wpAnyH_take (i := 4) (v := ?_) rfl (by kernel_rfl) (by kernel_rfl) (by kernel_rfl) (fun _ _ _ h => h) (Or.inl ⟨by rfl, ?_⟩) (by assumption) ?_
  rotate_left
  · intro w hSw; (try dsimp only at hSw); go_simp; (try with_reducible rfl)
  (try simp only [Act.put, List.getElem_toArray, List.getElem_cons_succ, List.getElem_cons_zero, List.setIfInBounds_toArray, List.set_cons_zero, List.set_cons_succ])
  (try clear hK K)
  refine wpAnyH_ready (rs := [5, 9]) (by kernel_rfl) (by simp) ?_
  refine AllReadyH.cons rfl (fun K hK => ?_) (AllReadyH.cons rfl (fun K hK => ?_) AllReadyH.nil)
  · go_simp
    refine Calls.mono (HGT.out _ HB2.out.1.drew) ?_
    rintro e w3 ⟨rfl, hb⟩
    have HB3 : Hid (Below w.heap.size w w3 ∧ w.heap.size ≤ w1.heap.size) := ⟨HB2.out.1.drew.trans (hb.mono HB2.out.1.drew.size), HB2.out.2⟩
    have HR3 : Hid (RS w1.heap.size rb ro tp k w3) := (HR2.out.below (Below.refl _ _).drew).below hb
    clear hb HGT HB2 HR2
    refine hK.out _ _ ?_ (fun hHeld => ?_)
    · exact HR3.out
    (try clear hK K)
    refine wpAnyH_take (i := 6) (v := ?_) rfl (by kernel_rfl) (by kernel_rfl) (by kernel_rfl) (fun _ _ _ h => h) (Or.inl ⟨by rfl, ?_⟩) (by assumption) ?_
    rotate_left
    · intro w hSw; (try dsimp only at hSw); go_simp; (try with_reducible rfl)
    (try simp only [Act.put, List.getElem_toArray, List.getElem_cons_succ, List.getElem_cons_zero, List.setIfInBounds_toArray, List.set_cons_zero, List.set_cons_succ])
    refine wpAnyH_take (i := 7) (v := ?_) rfl (by kernel_rfl) (by kernel_rfl) (by kernel_rfl) (fun _ _ _ h => h) (Or.inl ⟨by rfl, ?_⟩) (by assumption) ?_
    rotate_left
    · intro w hSw; (try dsimp only at hSw); go_simp; (try with_reducible rfl)
    (try simp only [Act.put, List.getElem_toArray, List.getElem_cons_succ, List.getElem_cons_zero, List.setIfInBounds_toArray, List.set_cons_zero, List.set_cons_succ])
    refine wpAnyH_take (i := 8) (v := ?_) rfl (by kernel_rfl) (by kernel_rfl) (by kernel_rfl) (fun _ _ _ h => h) (Or.inl ⟨by rfl, ?_⟩) (by assumption) ?_
    rotate_left
    · intro w hSw; (try dsimp only at hSw); go_simp; (try with_reducible rfl)
    (try simp only [Act.put, List.getElem_toArray, List.getElem_cons_succ, List.getElem_cons_zero, List.setIfInBounds_toArray, List.set_cons_zero, List.set_cons_succ])
    (try clear hK K)
    refine wpAnyH_ready (rs := [9]) (by kernel_rfl) (by simp) ?_
    refine AllReadyH.cons rfl (fun K hK => ?_) AllReadyH.nil
    (go_simp; (try clear hHeld))
    have HX : Hid ((w3.alloc zobj).heap[w3.heap.size]? = some zobj ∧ w.heap.size ≤ w3.heap.size ∧ ¬ w1.heap.size = w3.heap.size ∧ ¬ rb = w3.heap.size) := by
      have h1 := World.block_lt_of_cell? w3 _ HR3.out.1
      have h2 := World.block_lt_of_cell? w3 _ HR3.out.2.1
      exact ⟨heap_new _ _ _ rfl, HB3.out.1.size, Nat.ne_of_lt h1, Nat.ne_of_lt h2⟩
    have HB4 : Hid (Below w.heap.size w (w3.alloc zobj) ∧ w.heap.size ≤ w1.heap.size) := ⟨HB3.out.1.alloc HB3.out.1.size _, HB3.out.2⟩
    have HR4 : Hid (RS w1.heap.size rb ro tp k (w3.alloc zobj)) := HR3.out.below (alloc1 _ _)
    clear HB3 HR3
    refine hK.out _ _ ?_ (fun hHeld => ?_)
    · exact HR4.out
    (try clear hK K)
    refine wpAnyH_ready (rs := [10]) (by kernel_rfl) (by simp) ?_
    refine AllReadyH.cons rfl (fun K hK => ?_) AllReadyH.nil
    (refine stepH_pstore rfl _ _ rfl (w3.heap.size) (vcells pl) (vcells Pl.zero) rfl rfl HPC.out HZL.out HX.out.1 ?_; intro wz hz1 hz2; have HBz : Hid (Below w.heap.size w wz ∧ w.heap.size ≤ w1.heap.size) := ⟨HB4.out.1.trans (hz2.below HB4.out.1.size fun j hj e => by have := HX.out.2.1; omega), HB4.out.2⟩; have HRz : Hid (RS w1.heap.size rb ro tp k wz) := HR4.out.sv hz2 HX.out.2.2.1 HX.out.2.2.2; have HZ : Hid (wz.heap[w3.heap.size]? = some (.cells (vcells pl).toArray 74 (0, 0)) ∧ w.heap.size ≤ w3.heap.size) := ⟨hz1, HX.out.2.1⟩; clear hz1 hz2 HX HB4 HR4; refine hK.out _ _ ?_ (fun hHeld => ?_))
    · exact HRz.out
    (try clear hK K)
    refine wpAnyH_take (i := 11) (v := ?_) rfl (by kernel_rfl) (by kernel_rfl) (by kernel_rfl) (fun _ _ _ h => h) (Or.inl ⟨by rfl, ?_⟩) (by assumption) ?_
    rotate_left
    · intro w hSw; (try dsimp only at hSw); go_simp; (try with_reducible rfl)
    (try simp only [Act.put, List.getElem_toArray, List.getElem_cons_succ, List.getElem_cons_zero, List.setIfInBounds_toArray, List.set_cons_zero, List.set_cons_succ])
    (try clear hK K)
    refine wpAnyH_done (by kernel_rfl) ?_ _
    clear hHeld
    go_wp2_with (first | (refine step_ploadW _ rfl (w3.heap.size) 0 rfl (vcells pl) (range_heap HZ.out.1) HPC.out (by rfl) ?_) | fail)
    refine Calls.mono (HHR.out _) ?_
    rintro e w6 ⟨rfl, hb⟩
    have HB6 : Hid (Below w.heap.size w w6 ∧ w.heap.size ≤ w1.heap.size) := ⟨HBz.out.1.trans (hb.mono HBz.out.1.size), HBz.out.2⟩
    have HR6 : Hid (RS w1.heap.size rb ro tp k w6) := HRz.out.below hb
    have HZ6 : Hid (w6.heap[w3.heap.size]? = some (.cells (vcells pl).toArray 74 (0, 0)) ∧ w.heap.size ≤ w3.heap.size) := ⟨heap_below HZ.out.1 hb, HZ.out.2⟩
    clear hb HZ HBz HRz HHR
    have c1 : w6.cell? ⟨p, 1, none⟩ = some (.int .i64 room) := cell_below HC1.out HB6.out.1
    have HC6 : Hid (∀ wq, Below w6.heap.size w6 wq → wq.cell? ⟨p, 1, none⟩ = some (.int .i64 room)) := fun wq hb => cell_below c1 hb
    clear c1
    go_wp2_with fail
    refine wp_region_held_drew (S := fun w' => w'.cell? ⟨p, 1, none⟩ = some (.int .i64 room)) (by kernel_rfl) ?_ (fun hHeld => ?_)
    · exact HC6.out _ (Below.refl _ _).drew
    (try clear hK K)
    refine wpAnyH_take (i := 0) (v := ?_) rfl (by kernel_rfl) (by kernel_rfl) (by kernel_rfl) (fun _ _ _ h => h) (Or.inl ⟨by rfl, ?_⟩) (by assumption) ?_
    rotate_left
    · intro w hSw; (try dsimp only at hSw); go_simp; (try with_reducible rfl)
    (try simp only [Act.put, List.getElem_toArray, List.getElem_cons_zero, List.setIfInBounds_toArray, List.set_cons_zero, List.set_cons_succ])
    refine wpAnyH_take (i := 1) (v := ?_) rfl (by kernel_rfl) (by kernel_rfl) (by kernel_rfl) (fun _ _ _ h => h) (Or.inl ⟨by rfl, ?_⟩) (by assumption) ?_
    rotate_left
    · intro w hSw; (try dsimp only at hSw); go_simp; (try with_reducible rfl)
    (try simp only [Act.put, List.getElem_toArray, List.getElem_cons_succ, List.getElem_cons_zero, List.setIfInBounds_toArray, List.set_cons_zero, List.set_cons_succ])
    refine wpAnyH_take (i := 2) (v := ?_) rfl (by kernel_rfl) (by kernel_rfl) (by kernel_rfl) (fun _ _ _ h => h) (Or.inl ⟨by rfl, ?_⟩) (by assumption) ?_
    rotate_left
    · intro w hSw; (try dsimp only at hSw); go_simp; (try with_reducible rfl)
    (try simp only [Act.put, List.getElem_toArray, List.getElem_cons_succ, List.getElem_cons_zero, List.setIfInBounds_toArray, List.set_cons_zero, List.set_cons_succ])
    refine wpAnyH_take (i := 3) (v := ?_) rfl (by kernel_rfl) (by kernel_rfl) (by kernel_rfl) (fun _ _ _ h => h) (Or.inl ⟨by rfl, ?_⟩) (by assumption) ?_
    rotate_left
    · intro w hSw; (try dsimp only at hSw); go_simp; (try with_reducible rfl)
    (try simp only [Act.put, List.getElem_toArray, List.getElem_cons_succ, List.getElem_cons_zero, List.setIfInBounds_toArray, List.set_cons_zero, List.set_cons_succ])
    refine wpAnyH_take (i := 5) (v := ?_) rfl (by kernel_rfl) (by kernel_rfl) (by kernel_rfl) (fun _ _ _ h => h) (Or.inl ⟨by rfl, ?_⟩) (by assumption) ?_
    rotate_left
    · intro w hSw; (try dsimp only at hSw); go_simp; (try with_reducible rfl)
    (try simp only [Act.put, List.getElem_toArray, List.getElem_cons_succ, List.getElem_cons_zero, List.setIfInBounds_toArray, List.set_cons_zero, List.set_cons_succ])
    refine wpAnyH_take (i := 6) (v := ?_) rfl (by kernel_rfl) (by kernel_rfl) (by kernel_rfl) (fun _ _ _ h => h) (Or.inl ⟨by rfl, ?_⟩) (by assumption) ?_
    rotate_left
    · intro w hSw; (try dsimp only at hSw); go_simp; (try with_reducible rfl)
    (try simp only [Act.put, List.getElem_toArray, List.getElem_cons_succ, List.getElem_cons_zero, List.setIfInBounds_toArray, List.set_cons_zero, List.set_cons_succ])
    refine wpAnyH_take (i := 7) (v := ?_) rfl (by kernel_rfl) (by kernel_rfl) (by kernel_rfl) (fun _ _ _ h => h) (Or.inl ⟨by rfl, ?_⟩) (by assumption) ?_
    rotate_left
    · intro w hSw; (try dsimp only at hSw); go_simp; (try with_reducible rfl)
    (try simp only [Act.put, List.getElem_toArray, List.getElem_cons_succ, List.getElem_cons_zero, List.setIfInBounds_toArray, List.set_cons_zero, List.set_cons_succ])
    refine wpAnyH_take (i := 8) (v := ?_) rfl (by kernel_rfl) (by kernel_rfl) (by kernel_rfl) (fun _ _ _ h => h) (Or.inl ⟨by rfl, ?_⟩) (by assumption) ?_
    rotate_left
    · intro w hSw; (try dsimp only at hSw); go_simp; (try with_reducible rfl)
    (try simp only [Act.put, List.getElem_toArray, List.getElem_cons_succ, List.getElem_cons_zero, List.setIfInBounds_toArray, List.set_cons_zero, List.set_cons_succ])
    (try clear hK K)
    refine wpAnyH_ready (rs := [4]) (by kernel_rfl) (by simp) ?_
    refine AllReadyH.cons rfl (fun K hK => ?_) AllReadyH.nil
    go_simp
    (refine Calls.mono (HUS.out _ HB6.out.1.drew) ?_; rintro e wu ⟨rfl, hb⟩)
    refine hK.out _ _ ?_ (fun hHeld => ?_)
    · exact HC6.out _ ((Below.refl _ _).drew.trans hb)
    have HBu : Hid (Below w.heap.size w wu ∧ w.heap.size ≤ w1.heap.size) := ⟨HB6.out.1.drew.trans (hb.mono (by simpa using HB6.out.1.size)), HB6.out.2⟩
    have HRu : Hid (RS w1.heap.size rb ro tp k wu) := HR6.out.below ((Below.refl _ _).drew.trans hb)
    clear hb HB6 HR6 HZ6 HUS HC6 HC1
    (try clear hK K)
    refine wpAnyH_take (i := 9) (v := ?_) rfl (by kernel_rfl) (by kernel_rfl) (by kernel_rfl) (fun _ _ _ h => h) (Or.inl ⟨by rfl, ?_⟩) (by assumption) ?_
    rotate_left
    · intro w hSw; (try dsimp only at hSw); go_simp; (try with_reducible rfl)
    (try simp only [Act.put, List.getElem_toArray, List.getElem_cons_succ, List.getElem_cons_zero, List.setIfInBounds_toArray, List.set_cons_zero, List.set_cons_succ])
    refine wpAnyH_take (i := 10) (v := ?_) rfl (by kernel_rfl) (by kernel_rfl) (by kernel_rfl) (fun _ _ _ h => h) (Or.inl ⟨by rfl, ?_⟩) (by assumption) ?_
    rotate_left
    · intro w hSw; (try dsimp only at hSw); go_simp; (try with_reducible rfl)
    (try simp only [Act.put, List.getElem_toArray, List.getElem_cons_succ, List.getElem_cons_zero, List.setIfInBounds_toArray, List.set_cons_zero, List.set_cons_succ])
    refine wpAnyH_take (i := 11) (v := ?_) rfl (by kernel_rfl) (by kernel_rfl) (by kernel_rfl) (fun _ _ _ h => h) (Or.inl ⟨by rfl, ?_⟩) (by assumption) ?_
    rotate_left
    · intro w hSw; (try dsimp only at hSw); go_simp; (try with_reducible rfl)
    (try simp only [Act.put, List.getElem_toArray, List.getElem_cons_succ, List.getElem_cons_zero, List.setIfInBounds_toArray, List.set_cons_zero, List.set_cons_succ])
    (try clear hK K)
    refine wpAnyH_done (by kernel_rfl) ?_ _
    (try clear hHeld)
    go_wp2_with fail
    go_ret2
    exact ⟨rfl, HBu.out.1⟩
  · go_simp
    have HX0 : Hid ((w2.drew.alloc zobj).heap[w2.heap.size]? = some zobj ∧ w.heap.size ≤ w2.heap.size ∧ ¬ w1.heap.size = w2.heap.size ∧ ¬ rb = w2.heap.size) := by
      have h1 := World.block_lt_of_cell? w2 _ HR2.out.1
      have h2 := World.block_lt_of_cell? w2 _ HR2.out.2.1
      exact ⟨heap_new _ _ _ (by simp), HB2.out.1.size, Nat.ne_of_lt h1, Nat.ne_of_lt h2⟩
    have HB5 : Hid (Below w.heap.size w (w2.drew.alloc zobj) ∧ w.heap.size ≤ w1.heap.size) := ⟨HB2.out.1.drew.alloc (by simpa using HB2.out.1.size) _, HB2.out.2⟩
    have HR5 : Hid (RS w1.heap.size rb ro tp k (w2.drew.alloc zobj)) := HR2.out.below ((Below.refl _ _).drew.alloc (by simp) _)
    refine hK.out _ _ ?_ (fun hHeld => ?_)
    · exact HR5.out
    (try clear hK K)
    refine wpAnyH_ready (rs := [5]) (by kernel_rfl) (by simp) ?_
    refine AllReadyH.cons rfl (fun K hK => ?_) AllReadyH.nil
    (go_simp)
    refine Calls.mono (HGT.out _ HB5.out.1) ?_
    rintro e w3 ⟨rfl, hb⟩
    have HB3 : Hid (Below w.heap.size w w3 ∧ w.heap.size ≤ w1.heap.size) := ⟨HB5.out.1.trans (hb.mono HB5.out.1.size), HB2.out.2⟩
    have HR3 : Hid (RS w1.heap.size rb ro tp k w3) := (HR5.out).below hb
    have HX : Hid (w3.heap[w2.heap.size]? = some zobj ∧ w.heap.size ≤ w2.heap.size ∧ ¬ w1.heap.size = w2.heap.size ∧ ¬ rb = w2.heap.size) := ⟨heap_below HX0.out.1 hb, HX0.out.2⟩
    clear hb HGT HB2 HR2 HB5 HR5 HX0
    refine hK.out _ _ ?_ (fun hHeld => ?_)
    · exact HR3.out
    (try clear hK K)
    refine wpAnyH_take (i := 6) (v := ?_) rfl (by kernel_rfl) (by kernel_rfl) (by kernel_rfl) (fun _ _ _ h => h) (Or.inl ⟨by rfl, ?_⟩) (by assumption) ?_
    rotate_left
    · intro w hSw; (try dsimp only at hSw); go_simp; (try with_reducible rfl)
    (try simp only [Act.put, List.getElem_toArray, List.getElem_cons_succ, List.getElem_cons_zero, List.setIfInBounds_toArray, List.set_cons_zero, List.set_cons_succ])
    refine wpAnyH_take (i := 7) (v := ?_) rfl (by kernel_rfl) (by kernel_rfl) (by kernel_rfl) (fun _ _ _ h => h) (Or.inl ⟨by rfl, ?_⟩) (by assumption) ?_
    rotate_left
    · intro w hSw; (try dsimp only at hSw); go_simp; (try with_reducible rfl)
    (try simp only [Act.put, List.getElem_toArray, List.getElem_cons_succ, List.getElem_cons_zero, List.setIfInBounds_toArray, List.set_cons_zero, List.set_cons_succ])
    refine wpAnyH_take (i := 8) (v := ?_) rfl (by kernel_rfl) (by kernel_rfl) (by kernel_rfl) (fun _ _ _ h => h) (Or.inl ⟨by rfl, ?_⟩) (by assumption) ?_
    rotate_left
    · intro w hSw; (try dsimp only at hSw); go_simp; (try with_reducible rfl)
    (try simp only [Act.put, List.getElem_toArray, List.getElem_cons_succ, List.getElem_cons_zero, List.setIfInBounds_toArray, List.set_cons_zero, List.set_cons_succ])
    (try clear hK K)
    refine wpAnyH_ready (rs := [10]) (by kernel_rfl) (by simp) ?_
    refine AllReadyH.cons rfl (fun K hK => ?_) AllReadyH.nil
    (refine stepH_pstore rfl _ _ rfl (w2.heap.size) (vcells pl) (vcells Pl.zero) rfl rfl HPC.out HZL.out HX.out.1 ?_; intro wz hz1 hz2; have HBz : Hid (Below w.heap.size w wz ∧ w.heap.size ≤ w1.heap.size) := ⟨HB3.out.1.trans (hz2.below HB3.out.1.size fun j hj e => by have := HX.out.2.1; omega), HB3.out.2⟩; have HRz : Hid (RS w1.heap.size rb ro tp k wz) := HR3.out.sv hz2 HX.out.2.2.1 HX.out.2.2.2; have HZ : Hid (wz.heap[w2.heap.size]? = some (.cells (vcells pl).toArray 74 (0, 0)) ∧ w.heap.size ≤ w2.heap.size) := ⟨hz1, HX.out.2.1⟩; clear hz1 hz2 HX HB3 HR3; refine hK.out _ _ ?_ (fun hHeld => ?_))
    · exact HRz.out
    (try clear hK K)
    refine wpAnyH_take (i := 11) (v := ?_) rfl (by kernel_rfl) (by kernel_rfl) (by kernel_rfl) (fun _ _ _ h => h) (Or.inl ⟨by rfl, ?_⟩) (by assumption) ?_
    rotate_left
    · intro w hSw; (try dsimp only at hSw); go_simp; (try with_reducible rfl)
    (try simp only [Act.put, List.getElem_toArray, List.getElem_cons_succ, List.getElem_cons_zero, List.setIfInBounds_toArray, List.set_cons_zero, List.set_cons_succ])
    (try clear hK K)
    refine wpAnyH_done (by kernel_rfl) ?_ _
    clear hHeld
    go_wp2_with (first | (refine step_ploadW _ rfl (w2.heap.size) 0 rfl (vcells pl) (range_heap HZ.out.1) HPC.out (by rfl) ?_) | fail)
    refine Calls.mono (HHR.out _) ?_
    rintro e w6 ⟨rfl, hb⟩
    have HB6 : Hid (Below w.heap.size w w6 ∧ w.heap.size ≤ w1.heap.size) := ⟨HBz.out.1.trans (hb.mono HBz.out.1.size), HBz.out.2⟩
    have HR6 : Hid (RS w1.heap.size rb ro tp k w6) := HRz.out.below hb
    have HZ6 : Hid (w6.heap[w2.heap.size]? = some (.cells (vcells pl).toArray 74 (0, 0)) ∧ w.heap.size ≤ w2.heap.size) := ⟨heap_below HZ.out.1 hb, HZ.out.2⟩
    clear hb HZ HBz HRz HHR
    have c1 : w6.cell? ⟨p, 1, none⟩ = some (.int .i64 room) := cell_below HC1.out HB6.out.1
    have HC6 : Hid (∀ wq, Below w6.heap.size w6 wq → wq.cell? ⟨p, 1, none⟩ = some (.int .i64 room)) := fun wq hb => cell_below c1 hb
    clear c1
    go_wp2_with fail
    refine wp_region_held_drew (S := fun w' => w'.cell? ⟨p, 1, none⟩ = some (.int .i64 room)) (by kernel_rfl) ?_ (fun hHeld => ?_)
    · exact HC6.out _ (Below.refl _ _).drew
    (try clear hK K)
    refine wpAnyH_take (i := 0) (v := ?_) rfl (by kernel_rfl) (by kernel_rfl) (by kernel_rfl) (fun _ _ _ h => h) (Or.inl ⟨by rfl, ?_⟩) (by assumption) ?_
    rotate_left
    · intro w hSw; (try dsimp only at hSw); go_simp; (try with_reducible rfl)
    (try simp only [Act.put, List.getElem_toArray, List.getElem_cons_zero, List.setIfInBounds_toArray, List.set_cons_zero, List.set_cons_succ])
    refine wpAnyH_take (i := 1) (v := ?_) rfl (by kernel_rfl) (by kernel_rfl) (by kernel_rfl) (fun _ _ _ h => h) (Or.inl ⟨by rfl, ?_⟩) (by assumption) ?_
    rotate_left
    · intro w hSw; (try dsimp only at hSw); go_simp; (try with_reducible rfl)
    (try simp only [Act.put, List.getElem_toArray, List.getElem_cons_succ, List.getElem_cons_zero, List.setIfInBounds_toArray, List.set_cons_zero, List.set_cons_succ])
    refine wpAnyH_take (i := 2) (v := ?_) rfl (by kernel_rfl) (by kernel_rfl) (by kernel_rfl) (fun _ _ _ h => h) (Or.inl ⟨by rfl, ?_⟩) (by assumption) ?_
    rotate_left
    · intro w hSw; (try dsimp only at hSw); go_simp; (try with_reducible rfl)
    (try simp only [Act.put, List.getElem_toArray, List.getElem_cons_succ, List.getElem_cons_zero, List.setIfInBounds_toArray, List.set_cons_zero, List.set_cons_succ])
    refine wpAnyH_take (i := 3) (v := ?_) rfl (by kernel_rfl) (by kernel_rfl) (by kernel_rfl) (fun _ _ _ h => h) (Or.inl ⟨by rfl, ?_⟩) (by assumption) ?_
    rotate_left
    · intro w hSw; (try dsimp only at hSw); go_simp; (try with_reducible rfl)
    (try simp only [Act.put, List.getElem_toArray, List.getElem_cons_succ, List.getElem_cons_zero, List.setIfInBounds_toArray, List.set_cons_zero, List.set_cons_succ])
    refine wpAnyH_take (i := 5) (v := ?_) rfl (by kernel_rfl) (by kernel_rfl) (by kernel_rfl) (fun _ _ _ h => h) (Or.inl ⟨by rfl, ?_⟩) (by assumption) ?_
    rotate_left
    · intro w hSw; (try dsimp only at hSw); go_simp; (try with_reducible rfl)
    (try simp only [Act.put, List.getElem_toArray, List.getElem_cons_succ, List.getElem_cons_zero, List.setIfInBounds_toArray, List.set_cons_zero, List.set_cons_succ])
    refine wpAnyH_take (i := 6) (v := ?_) rfl (by kernel_rfl) (by kernel_rfl) (by kernel_rfl) (fun _ _ _ h => h) (Or.inl ⟨by rfl, ?_⟩) (by assumption) ?_
    rotate_left
    · intro w hSw; (try dsimp only at hSw); go_simp; (try with_reducible rfl)
    (try simp only [Act.put, List.getElem_toArray, List.getElem_cons_succ, List.getElem_cons_zero, List.setIfInBounds_toArray, List.set_cons_zero, List.set_cons_succ])
    refine wpAnyH_take (i := 7) (v := ?_) rfl (by kernel_rfl) (by kernel_rfl) (by kernel_rfl) (fun _ _ _ h => h) (Or.inl ⟨by rfl, ?_⟩) (by assumption) ?_
    rotate_left
    · intro w hSw; (try dsimp only at hSw); go_simp; (try with_reducible rfl)
    (try simp only [Act.put, List.getElem_toArray, List.getElem_cons_succ, List.getElem_cons_zero, List.setIfInBounds_toArray, List.set_cons_zero, List.set_cons_succ])
    refine wpAnyH_take (i := 8) (v := ?_) rfl (by kernel_rfl) (by kernel_rfl) (by kernel_rfl) (fun _ _ _ h => h) (Or.inl ⟨by rfl, ?_⟩) (by assumption) ?_
    rotate_left
    · intro w hSw; (try dsimp only at hSw); go_simp; (try with_reducible rfl)
    (try simp only [Act.put, List.getElem_toArray, List.getElem_cons_succ, List.getElem_cons_zero, List.setIfInBounds_toArray, List.set_cons_zero, List.set_cons_succ])
    (try clear hK K)
    refine wpAnyH_ready (rs := [4]) (by kernel_rfl) (by simp) ?_
    refine AllReadyH.cons rfl (fun K hK => ?_) AllReadyH.nil
    go_simp
    (refine Calls.mono (HUS.out _ HB6.out.1.drew) ?_; rintro e wu ⟨rfl, hb⟩)
    refine hK.out _ _ ?_ (fun hHeld => ?_)
    · exact HC6.out _ ((Below.refl _ _).drew.trans hb)
    have HBu : Hid (Below w.heap.size w wu ∧ w.heap.size ≤ w1.heap.size) := ⟨HB6.out.1.drew.trans (hb.mono (by simpa using HB6.out.1.size)), HB6.out.2⟩
    have HRu : Hid (RS w1.heap.size rb ro tp k wu) := HR6.out.below ((Below.refl _ _).drew.trans hb)
    clear hb HB6 HR6 HZ6 HUS HC6 HC1
    (try clear hK K)
    refine wpAnyH_take (i := 9) (v := ?_) rfl (by kernel_rfl) (by kernel_rfl) (by kernel_rfl) (fun _ _ _ h => h) (Or.inl ⟨by rfl, ?_⟩) (by assumption) ?_
    rotate_left
    · intro w hSw; (try dsimp only at hSw); go_simp; (try with_reducible rfl)
    (try simp only [Act.put, List.getElem_toArray, List.getElem_cons_succ, List.getElem_cons_zero, List.setIfInBounds_toArray, List.set_cons_zero, List.set_cons_succ])
    refine wpAnyH_take (i := 10) (v := ?_) rfl (by kernel_rfl) (by kernel_rfl) (by kernel_rfl) (fun _ _ _ h => h) (Or.inl ⟨by rfl, ?_⟩) (by assumption) ?_
    rotate_left
    · intro w hSw; (try dsimp only at hSw); go_simp; (try with_reducible rfl)
    (try simp only [Act.put, List.getElem_toArray, List.getElem_cons_succ, List.getElem_cons_zero, List.setIfInBounds_toArray, List.set_cons_zero, List.set_cons_succ])
    refine wpAnyH_take (i := 11) (v := ?_) rfl (by kernel_rfl) (by kernel_rfl) (by kernel_rfl) (fun _ _ _ h => h) (Or.inl ⟨by rfl, ?_⟩) (by assumption) ?_
    rotate_left
    · intro w hSw; (try dsimp only at hSw); go_simp; (try with_reducible rfl)
    (try simp only [Act.put, List.getElem_toArray, List.getElem_cons_succ, List.getElem_cons_zero, List.setIfInBounds_toArray, List.set_cons_zero, List.set_cons_succ])
    (try clear hK K)
    refine wpAnyH_done (by kernel_rfl) ?_ _
    (try clear hHeld)
    go_wp2_with fail
    go_ret2
    exact ⟨rfl, HBu.out.1⟩
set_option maxHeartbeats 16000000 in
theorem ins_again {rb ro rc rn : Nat} {k : Val} {pl nl : Pl} {last : Int} {X : Nat → Prop} {R : World → World → Prop} (hr : hasR pl = false)
    (hat : ∀ w1, Below w.heap.size w w1 → Calls Try.prog 37 #[sptr p, .int .i64 n] w1 fun e w' => e = atAns (.slice fa fl fc) tp ∧ Below w1.heap.size w1 w')
    (hft : ∀ w1, Below w.heap.size w w1 → Calls Try.prog 46 #[.agg #[.slice fa fl fc], .slice (some ⟨rb, ro, none⟩) (rn + 1) rc] w1 fun e w' => e = .returned (.bool true) ∧ Below w1.heap.size w1 w')
    (hgt : ∀ w1, Below w.heap.size w w1 → Calls Try.prog 38 #[.pointer tp, V k.t k.n k.s] w1 fun e w' => e = gans pl true ∧ Below w1.heap.size w1 w')
    (hk0 : w.cell? ⟨rb, ro, none⟩ = some (.bool k.t) ∧ w.cell? ⟨rb, ro + 1, none⟩ = some (.int .i64 k.n) ∧ w.cell? ⟨rb, ro + 2, none⟩ = some (.string k.s))
    (hl : IntKind.i64.wrap (last + 1) = last + 1)
    (htk : ∀ w1 w2, Below w.heap.size w w1 → Below (w1.setCell ⟨p, 2, none⟩ (.int .i64 (last + 1))).heap.size (w1.setCell ⟨p, 2, none⟩ (.int .i64 (last + 1))) w2 → Calls Try.prog 47 #[.slice (some ⟨rb, ro, none⟩) (rn + 1) rc, .int .i64 (last + 1)] w2 fun e w' => e = .returned (.agg (vcells nl).toArray) ∧ Below w2.heap.size w2 w')
    (hput : ∀ w1 w2, Below w.heap.size w w1 → Below (w1.setCell ⟨p, 2, none⟩ (.int .i64 (last + 1))).heap.size (w1.setCell ⟨p, 2, none⟩ (.int .i64 (last + 1))) w2 → Calls Try.prog 45 #[.pointer tp, V k.t k.n k.s, .agg (vcells nl).toArray] w2 fun e w' => (∃ b, e = .returned (.bool b)) ∧ Sv X w2 w' ∧ R w2 w')
    (hx : ∀ j, X j → j < w.heap.size) (hxr : ¬ X rb) (hxp : ¬ X p) (c2 : w.cell? ⟨p, 2, none⟩ = some (.int .i64 last)) (f2 : w.frozen? ⟨p, 2, none⟩ = false) (hrp : rb ≠ p)
    : Calls Try.prog 23 #[sptr p, .int .i64 n, .slice (some ⟨rb, ro, none⟩) (rn + 1) rc] w fun e w' => e = .returned (.tuple #[.int .i64 (last + 1), .int .i64 0]) ∧ ∃ w1 w2 w3, Below w.heap.size w w1 ∧ Below (w1.setCell ⟨p, 2, none⟩ (.int .i64 (last + 1))).heap.size (w1.setCell ⟨p, 2, none⟩ (.int .i64 (last + 1))) w2 ∧ R w2 w3 ∧ Below w3.heap.size w3 w' := by
  have HAT : Hid _ := hat
  have HFT : Hid _ := hft
  have HGT : Hid _ := hgt
  have HPC : Hid _ := PC.of pl
  have HZL : Hid ((vcells Pl.zero).length = 14) := rfl
  have HHR : Hid (∀ w1, Calls Try.prog 39 #[.agg (vcells pl).toArray] w1 fun e w' => e = .returned (.bool (hasR pl)) ∧ Below w1.heap.size w1 w') := fun w1 => hasRow_any pl w1
  rw [hr] at HHR
  have HK0 : Hid (w.cell? ⟨rb, ro, none⟩ = some (.bool k.t) ∧ w.cell? ⟨rb, ro + 1, none⟩ = some (.int .i64 k.n) ∧ w.cell? ⟨rb, ro + 2, none⟩ = some (.string k.s)) := hk0
  have HTK : Hid (∀ w2 w1, Below w.heap.size w w1 → Below (w1.setCell ⟨p, 2, none⟩ (.int .i64 (last + 1))).heap.size (w1.setCell ⟨p, 2, none⟩ (.int .i64 (last + 1))) w2 → Calls Try.prog 47 #[.slice (some ⟨rb, ro, none⟩) (rn + 1) rc, .int .i64 (last + 1)] w2 fun e w' => e = .returned (.agg (vcells nl).toArray) ∧ Below w2.heap.size w2 w') := fun w2 w1 h1 h2 => htk w1 w2 h1 h2
  have HPU : Hid _ := hput
  have HXX : Hid ((∀ j, X j → j < w.heap.size) ∧ ¬ X rb ∧ ¬ X p) := ⟨hx, hxr, hxp⟩
  have HC2 : Hid (w.cell? ⟨p, 2, none⟩ = some (.int .i64 last) ∧ w.frozen? ⟨p, 2, none⟩ = false ∧ p < w.heap.size ∧ ¬ rb = p) := ⟨c2, f2, World.block_lt_of_cell? _ _ c2, hrp⟩
  clear hat hft hgt hr hk0 htk hput hx hxr hxp c2 f2 hrp
  go_enter Try.func23, Try.ntmps23
  go_wp2_with fail
  refine Calls.mono (HAT.out _ (Below.refl _ _)) ?_
  rintro e w1 ⟨rfl, hb⟩
  have HB1 : Hid (Below w.heap.size w w1) := hb
  clear hb HAT
  go_wp2_with fail
  have HR1 : Hid (RS w1.heap.size rb ro tp k (w1.alloc (tbobj fa fl fc tp))) := by
    obtain ⟨a, b, c⟩ := HK0.out
    have hb := HB1.out.alloc HB1.out.size (tbobj fa fl fc tp)
    exact ⟨tb_new _ _ _ _ _, cell_below a hb, cell_below b hb, cell_below c hb⟩
  refine Calls.mono (HFT.out _ (HB1.out.alloc HB1.out.size _)) ?_
  rintro e w2 ⟨rfl, hb⟩
  have HB2 : Hid (Below w.heap.size w w2 ∧ w.heap.size ≤ w1.heap.size) := ⟨(HB1.out.alloc HB1.out.size _).trans (hb.mono (by have := HB1.out.size; simp; omega)), HB1.out.size⟩
  have HR2 : Hid (RS w1.heap.size rb ro tp k w2) := HR1.out.below hb
  clear hb HFT HB1 HR1 HK0
  go_wp2_with fail
  refine wp_region_held_drew (S := fun w' => w'.cell? ⟨w1.heap.size, 1, none⟩ = some (.pointer tp) ∧ w'.cell? ⟨rb, ro, none⟩ = some (.bool k.t) ∧ w'.cell? ⟨rb, ro + 1, none⟩ = some (.int .i64 k.n) ∧ w'.cell? ⟨rb, ro + 2, none⟩ = some (.string k.s)) (by kernel_rfl) ?_ (fun hHeld => ?_)
  · exact HR2.out.below (Below.refl _ _).drew
  (try clear hK K)
  refine wpAnyH_take (i := 0) (v := ?_) rfl (by kernel_rfl) (by kernel_rfl) (by kernel_rfl) (fun _ _ _ h => h) (Or.inl ⟨by rfl, ?_⟩) (by assumption) ?_
  rotate_left
  · intro w hSw; (try dsimp only at hSw); go_simp; (try with_reducible rfl)
  (try simp only [Act.put, List.getElem_toArray, List.getElem_cons_zero, List.setIfInBounds_toArray, List.set_cons_zero, List.set_cons_succ])
  refine wpAnyH_take (i := 1) (v := ?_) rfl (by kernel_rfl) (by kernel_rfl) (by kernel_rfl) (fun _ _ _ h => h) (Or.inl ⟨by rfl, ?_⟩) (by assumption) ?_
  rotate_left
  · intro w hSw; (try dsimp only at hSw); go_simp; (try with_reducible rfl)
  (try simp only [Act.put, List.getElem_toArray, List.getElem_cons_succ, List.getElem_cons_zero, List.setIfInBounds_toArray, List.set_cons_zero, List.set_cons_succ])
  refine wpAnyH_take (i := 2) (v := ?_) rfl (by kernel_rfl) (by kernel_rfl) (by kernel_rfl) (fun _ _ _ h => h) (Or.inl ⟨by rfl, ?_⟩) (by assumption) ?_
  rotate_left
  · intro w hSw; (try dsimp only at hSw); go_simp; (try with_reducible rfl)
  (try simp only [Act.put, List.getElem_toArray, List.getElem_cons_succ, List.getElem_cons_zero, List.setIfInBounds_toArray, List.set_cons_zero, List.set_cons_succ])
  refine wpAnyH_take (i := 3) (v := ?_) rfl (by kernel_rfl) (by kernel_rfl) (by kernel_rfl) (fun _ _ _ h => h) (Or.inl ⟨by rfl, ?_⟩) (by assumption) ?_
  rotate_left
  · intro w hSw; (try dsimp only at hSw); go_simp; (try with_reducible rfl)
  (try simp only [Act.put, List.getElem_toArray, List.getElem_cons_succ, List.getElem_cons_zero, List.setIfInBounds_toArray, List.set_cons_zero, List.set_cons_succ])
  refine wpAnyH_take (i := 4) (v := ?_) rfl (by kernel_rfl) (by kernel_rfl) (by kernel_rfl) (fun _ _ _ h => h) (Or.inl ⟨by rfl, ?_⟩) (by assumption) ?_
  rotate_left
  · intro w hSw; (try dsimp only at hSw); go_simp; (try with_reducible rfl)
  (try simp only [Act.put, List.getElem_toArray, List.getElem_cons_succ, List.getElem_cons_zero, List.setIfInBounds_toArray, List.set_cons_zero, List.set_cons_succ])
  (try clear hK K)
  refine wpAnyH_ready (rs := [5, 9]) (by kernel_rfl) (by simp) ?_
  refine AllReadyH.cons rfl (fun K hK => ?_) (AllReadyH.cons rfl (fun K hK => ?_) AllReadyH.nil)
  · go_simp
    refine Calls.mono (HGT.out _ HB2.out.1.drew) ?_
    rintro e w3 ⟨rfl, hb⟩
    have HB3 : Hid (Below w.heap.size w w3 ∧ w.heap.size ≤ w1.heap.size) := ⟨HB2.out.1.drew.trans (hb.mono HB2.out.1.drew.size), HB2.out.2⟩
    have HR3 : Hid (RS w1.heap.size rb ro tp k w3) := (HR2.out.below (Below.refl _ _).drew).below hb
    clear hb HGT HB2 HR2
    refine hK.out _ _ ?_ (fun hHeld => ?_)
    · exact HR3.out
    (try clear hK K)
    refine wpAnyH_take (i := 6) (v := ?_) rfl (by kernel_rfl) (by kernel_rfl) (by kernel_rfl) (fun _ _ _ h => h) (Or.inl ⟨by rfl, ?_⟩) (by assumption) ?_
    rotate_left
    · intro w hSw; (try dsimp only at hSw); go_simp; (try with_reducible rfl)
    (try simp only [Act.put, List.getElem_toArray, List.getElem_cons_succ, List.getElem_cons_zero, List.setIfInBounds_toArray, List.set_cons_zero, List.set_cons_succ])
    refine wpAnyH_take (i := 7) (v := ?_) rfl (by kernel_rfl) (by kernel_rfl) (by kernel_rfl) (fun _ _ _ h => h) (Or.inl ⟨by rfl, ?_⟩) (by assumption) ?_
    rotate_left
    · intro w hSw; (try dsimp only at hSw); go_simp; (try with_reducible rfl)
    (try simp only [Act.put, List.getElem_toArray, List.getElem_cons_succ, List.getElem_cons_zero, List.setIfInBounds_toArray, List.set_cons_zero, List.set_cons_succ])
    refine wpAnyH_take (i := 8) (v := ?_) rfl (by kernel_rfl) (by kernel_rfl) (by kernel_rfl) (fun _ _ _ h => h) (Or.inl ⟨by rfl, ?_⟩) (by assumption) ?_
    rotate_left
    · intro w hSw; (try dsimp only at hSw); go_simp; (try with_reducible rfl)
    (try simp only [Act.put, List.getElem_toArray, List.getElem_cons_succ, List.getElem_cons_zero, List.setIfInBounds_toArray, List.set_cons_zero, List.set_cons_succ])
    (try clear hK K)
    refine wpAnyH_ready (rs := [9]) (by kernel_rfl) (by simp) ?_
    refine AllReadyH.cons rfl (fun K hK => ?_) AllReadyH.nil
    (go_simp; (try clear hHeld))
    have HX : Hid ((w3.alloc zobj).heap[w3.heap.size]? = some zobj ∧ w.heap.size ≤ w3.heap.size ∧ ¬ w1.heap.size = w3.heap.size ∧ ¬ rb = w3.heap.size) := by
      have h1 := World.block_lt_of_cell? w3 _ HR3.out.1
      have h2 := World.block_lt_of_cell? w3 _ HR3.out.2.1
      exact ⟨heap_new _ _ _ rfl, HB3.out.1.size, Nat.ne_of_lt h1, Nat.ne_of_lt h2⟩
    have HB4 : Hid (Below w.heap.size w (w3.alloc zobj) ∧ w.heap.size ≤ w1.heap.size) := ⟨HB3.out.1.alloc HB3.out.1.size _, HB3.out.2⟩
    have HR4 : Hid (RS w1.heap.size rb ro tp k (w3.alloc zobj)) := HR3.out.below (alloc1 _ _)
    clear HB3 HR3
    refine hK.out _ _ ?_ (fun hHeld => ?_)
    · exact HR4.out
    (try clear hK K)
    refine wpAnyH_ready (rs := [10]) (by kernel_rfl) (by simp) ?_
    refine AllReadyH.cons rfl (fun K hK => ?_) AllReadyH.nil
    (refine stepH_pstore rfl _ _ rfl (w3.heap.size) (vcells pl) (vcells Pl.zero) rfl rfl HPC.out HZL.out HX.out.1 ?_; intro wz hz1 hz2; have HBz : Hid (Below w.heap.size w wz ∧ w.heap.size ≤ w1.heap.size) := ⟨HB4.out.1.trans (hz2.below HB4.out.1.size fun j hj e => by have := HX.out.2.1; omega), HB4.out.2⟩; have HRz : Hid (RS w1.heap.size rb ro tp k wz) := HR4.out.sv hz2 HX.out.2.2.1 HX.out.2.2.2; have HZ : Hid (wz.heap[w3.heap.size]? = some (.cells (vcells pl).toArray 74 (0, 0)) ∧ w.heap.size ≤ w3.heap.size) := ⟨hz1, HX.out.2.1⟩; clear hz1 hz2 HX HB4 HR4; refine hK.out _ _ ?_ (fun hHeld => ?_))
    · exact HRz.out
    (try clear hK K)
    refine wpAnyH_take (i := 11) (v := ?_) rfl (by kernel_rfl) (by kernel_rfl) (by kernel_rfl) (fun _ _ _ h => h) (Or.inl ⟨by rfl, ?_⟩) (by assumption) ?_
    rotate_left
    · intro w hSw; (try dsimp only at hSw); go_simp; (try with_reducible rfl)
    (try simp only [Act.put, List.getElem_toArray, List.getElem_cons_succ, List.getElem_cons_zero, List.setIfInBounds_toArray, List.set_cons_zero, List.set_cons_succ])
    (try clear hK K)
    refine wpAnyH_done (by kernel_rfl) ?_ _
    clear hHeld
    go_wp2_with (first | (refine step_ploadW _ rfl (w3.heap.size) 0 rfl (vcells pl) (range_heap HZ.out.1) HPC.out (by rfl) ?_) | fail)
    refine Calls.mono (HHR.out _) ?_
    rintro e w6 ⟨rfl, hb⟩
    have HB6 : Hid (Below w.heap.size w w6 ∧ w.heap.size ≤ w1.heap.size) := ⟨HBz.out.1.trans (hb.mono HBz.out.1.size), HBz.out.2⟩
    have HR6 : Hid (RS w1.heap.size rb ro tp k w6) := HRz.out.below hb
    have HZ6 : Hid (w6.heap[w3.heap.size]? = some (.cells (vcells pl).toArray 74 (0, 0)) ∧ w.heap.size ≤ w3.heap.size) := ⟨heap_below HZ.out.1 hb, HZ.out.2⟩
    clear hb HZ HBz HRz HHR
    go_wp2_with fail
    refine wp_region_held_drew (S := fun _ => True) (by kernel_rfl) ?_ (fun hHeld => ?_)
    · trivial
    (try clear hK K)
    refine wpAnyH_take (i := 0) (v := ?_) rfl (by kernel_rfl) (by kernel_rfl) (by kernel_rfl) (fun _ _ _ h => h) (Or.inl ⟨by rfl, ?_⟩) (by assumption) ?_
    rotate_left
    · intro w hSw; (try dsimp only at hSw); go_simp; (try with_reducible rfl)
    (try simp only [Act.put, List.getElem_toArray, List.getElem_cons_zero, List.setIfInBounds_toArray, List.set_cons_zero, List.set_cons_succ])
    refine wpAnyH_take (i := 1) (v := ?_) rfl (by kernel_rfl) (by kernel_rfl) (by kernel_rfl) (fun _ _ _ h => h) (Or.inl ⟨by rfl, ?_⟩) (by assumption) ?_
    rotate_left
    · intro w hSw; (try dsimp only at hSw); go_simp; (try with_reducible rfl)
    (try simp only [Act.put, List.getElem_toArray, List.getElem_cons_succ, List.getElem_cons_zero, List.setIfInBounds_toArray, List.set_cons_zero, List.set_cons_succ])
    refine wpAnyH_take (i := 2) (v := ?_) rfl (by kernel_rfl) (by kernel_rfl) (by kernel_rfl) (fun _ _ _ h => h) (Or.inl ⟨by rfl, ?_⟩) (by assumption) ?_
    rotate_left
    · intro w hSw; (try dsimp only at hSw); go_simp; (try with_reducible rfl)
    (try simp only [Act.put, List.getElem_toArray, List.getElem_cons_succ, List.getElem_cons_zero, List.setIfInBounds_toArray, List.set_cons_zero, List.set_cons_succ])
    (try clear hK K)
    refine wpAnyH_take (i := 3) (v := undef) rfl (by kernel_rfl) (by kernel_rfl) (by kernel_rfl) (fun _ _ _ h => h) (Or.inr ⟨by rfl, rfl⟩) (by assumption) ?_
    (try simp only [Act.put, List.getElem_toArray, List.getElem_cons_succ, List.getElem_cons_zero, List.setIfInBounds_toArray, List.set_cons_zero, List.set_cons_succ])
    refine wpAnyH_take (i := 4) (v := undef) rfl (by kernel_rfl) (by kernel_rfl) (by kernel_rfl) (fun _ _ _ h => h) (Or.inr ⟨by rfl, rfl⟩) (by assumption) ?_
    (try simp only [Act.put, List.getElem_toArray, List.getElem_cons_succ, List.getElem_cons_zero, List.setIfInBounds_toArray, List.set_cons_zero, List.set_cons_succ])
    refine wpAnyH_take (i := 5) (v := undef) rfl (by kernel_rfl) (by kernel_rfl) (by kernel_rfl) (fun _ _ _ h => h) (Or.inr ⟨by rfl, rfl⟩) (by assumption) ?_
    (try simp only [Act.put, List.getElem_toArray, List.getElem_cons_succ, List.getElem_cons_zero, List.setIfInBounds_toArray, List.set_cons_zero, List.set_cons_succ])
    refine wpAnyH_take (i := 6) (v := undef) rfl (by kernel_rfl) (by kernel_rfl) (by kernel_rfl) (fun _ _ _ h => h) (Or.inr ⟨by rfl, rfl⟩) (by assumption) ?_
    (try simp only [Act.put, List.getElem_toArray, List.getElem_cons_succ, List.getElem_cons_zero, List.setIfInBounds_toArray, List.set_cons_zero, List.set_cons_succ])
    refine wpAnyH_take (i := 7) (v := undef) rfl (by kernel_rfl) (by kernel_rfl) (by kernel_rfl) (fun _ _ _ h => h) (Or.inr ⟨by rfl, rfl⟩) (by assumption) ?_
    (try simp only [Act.put, List.getElem_toArray, List.getElem_cons_succ, List.getElem_cons_zero, List.setIfInBounds_toArray, List.set_cons_zero, List.set_cons_succ])
    refine wpAnyH_take (i := 8) (v := undef) rfl (by kernel_rfl) (by kernel_rfl) (by kernel_rfl) (fun _ _ _ h => h) (Or.inr ⟨by rfl, rfl⟩) (by assumption) ?_
    (try simp only [Act.put, List.getElem_toArray, List.getElem_cons_succ, List.getElem_cons_zero, List.setIfInBounds_toArray, List.set_cons_zero, List.set_cons_succ])
    refine wpAnyH_take (i := 9) (v := undef) rfl (by kernel_rfl) (by kernel_rfl) (by kernel_rfl) (fun _ _ _ h => h) (Or.inr ⟨by rfl, rfl⟩) (by assumption) ?_
    (try simp only [Act.put, List.getElem_toArray, List.getElem_cons_succ, List.getElem_cons_zero, List.setIfInBounds_toArray, List.set_cons_zero, List.set_cons_succ])
    (try clear hK K)
    refine wpAnyH_take (i := 10) (v := ?_) rfl (by kernel_rfl) (by kernel_rfl) (by kernel_rfl) (fun _ _ _ h => h) (Or.inl ⟨by rfl, ?_⟩) (by assumption) ?_
    rotate_left
    · intro w hSw; (try dsimp only at hSw); go_simp; (try with_reducible rfl)
    (try simp only [Act.put, List.getElem_toArray, List.getElem_cons_succ, List.getElem_cons_zero, List.setIfInBounds_toArray, List.set_cons_zero, List.set_cons_succ])
    refine wpAnyH_take (i := 11) (v := ?_) rfl (by kernel_rfl) (by kernel_rfl) (by kernel_rfl) (fun _ _ _ h => h) (Or.inl ⟨by rfl, ?_⟩) (by assumption) ?_
    rotate_left
    · intro w hSw; (try dsimp only at hSw); go_simp; (try with_reducible rfl)
    (try simp only [Act.put, List.getElem_toArray, List.getElem_cons_succ, List.getElem_cons_zero, List.setIfInBounds_toArray, List.set_cons_zero, List.set_cons_succ])
    (try clear hK K)
    refine wpAnyH_done (by kernel_rfl) ?_ _
    (try clear hHeld)
    have HBd : Hid (Below w.heap.size w w6.drew ∧ w.heap.size ≤ w1.heap.size) := ⟨HB6.out.1.drew, HB6.out.2⟩
    have HRd : Hid (RS w1.heap.size rb ro tp k w6.drew) := HR6.out.below (Below.refl _ _).drew
    clear HB6 HR6 HZ6
    have HB9 : Hid _ := HBd.out
    have c2 : w6.drew.cell? ⟨p, 2, none⟩ = some (.int .i64 last) := cell_below HC2.out.1 HB9.out.1
    have f2 : w6.drew.frozen? ⟨p, 2, none⟩ = false := (World.frozen?_of_block (HB9.out.1.block p HC2.out.2.2.1)).trans HC2.out.2.1
    have HS : Hid (Sv (fun j => j = p) w6.drew (w6.drew.setCell ⟨p, 2, none⟩ (.int .i64 (last + 1)))) := Sv.set (X := fun j => j = p) (Sv.refl _ _) (a := ⟨p, 2, none⟩) rfl _
    have HR9 : Hid (RS w1.heap.size rb ro tp k (w6.drew.setCell ⟨p, 2, none⟩ (.int .i64 (last + 1)))) := HRd.out.sv HS.out (by have := HC2.out.2.2.1; have := HB9.out.2; omega) HC2.out.2.2.2
    have HL9 : Hid ((w6.drew.setCell ⟨p, 2, none⟩ (.int .i64 (last + 1))).cell? ⟨p, 2, none⟩ = some (.int .i64 (last + 1))) := World.cell?_setCell_same _ _ _ c2
    go_wp2_with fail
    clear c2 f2 HS HRd HBd
    refine wp_region_held_drew (S := fun w' => w'.cell? ⟨w1.heap.size, 1, none⟩ = some (.pointer tp) ∧ w'.cell? ⟨rb, ro, none⟩ = some (.bool k.t) ∧ w'.cell? ⟨rb, ro + 1, none⟩ = some (.int .i64 k.n) ∧ w'.cell? ⟨rb, ro + 2, none⟩ = some (.string k.s) ∧ w'.cell? ⟨p, 2, none⟩ = some (.int .i64 (last + 1))) (by kernel_rfl) ?_ (fun hHeld => ?_)
    · have := HR9.out.below (Below.refl _ _).drew; exact ⟨this.1, this.2.1, this.2.2.1, this.2.2.2, cell_below HL9.out (Below.refl _ _).drew⟩
    (try clear hK K)
    refine wpAnyH_take (i := 0) (v := ?_) rfl (by kernel_rfl) (by kernel_rfl) (by kernel_rfl) (fun _ _ _ h => h) (Or.inl ⟨by rfl, ?_⟩) (by assumption) ?_
    rotate_left
    · intro w hSw; (try dsimp only at hSw); go_simp; (try with_reducible rfl)
    (try simp only [Act.put, List.getElem_toArray, List.getElem_cons_zero, List.setIfInBounds_toArray, List.set_cons_zero, List.set_cons_succ])
    refine wpAnyH_take (i := 1) (v := ?_) rfl (by kernel_rfl) (by kernel_rfl) (by kernel_rfl) (fun _ _ _ h => h) (Or.inl ⟨by rfl, ?_⟩) (by assumption) ?_
    rotate_left
    · intro w hSw; (try dsimp only at hSw); go_simp; (try with_reducible rfl)
    (try simp only [Act.put, List.getElem_toArray, List.getElem_cons_succ, List.getElem_cons_zero, List.setIfInBounds_toArray, List.set_cons_zero, List.set_cons_succ])
    refine wpAnyH_take (i := 2) (v := ?_) rfl (by kernel_rfl) (by kernel_rfl) (by kernel_rfl) (fun _ _ _ h => h) (Or.inl ⟨by rfl, ?_⟩) (by assumption) ?_
    rotate_left
    · intro w hSw; (try dsimp only at hSw); go_simp; (try with_reducible rfl)
    (try simp only [Act.put, List.getElem_toArray, List.getElem_cons_succ, List.getElem_cons_zero, List.setIfInBounds_toArray, List.set_cons_zero, List.set_cons_succ])
    refine wpAnyH_take (i := 3) (v := ?_) rfl (by kernel_rfl) (by kernel_rfl) (by kernel_rfl) (fun _ _ _ h => h) (Or.inl ⟨by rfl, ?_⟩) (by assumption) ?_
    rotate_left
    · intro w hSw; (try dsimp only at hSw); go_simp; (try with_reducible rfl)
    (try simp only [Act.put, List.getElem_toArray, List.getElem_cons_succ, List.getElem_cons_zero, List.setIfInBounds_toArray, List.set_cons_zero, List.set_cons_succ])
    refine wpAnyH_take (i := 4) (v := ?_) rfl (by kernel_rfl) (by kernel_rfl) (by kernel_rfl) (fun _ _ _ h => h) (Or.inl ⟨by rfl, ?_⟩) (by assumption) ?_
    rotate_left
    · intro w hSw; (try dsimp only at hSw); go_simp; (try with_reducible rfl)
    (try simp only [Act.put, List.getElem_toArray, List.getElem_cons_succ, List.getElem_cons_zero, List.setIfInBounds_toArray, List.set_cons_zero, List.set_cons_succ])
    refine wpAnyH_take (i := 5) (v := ?_) rfl (by kernel_rfl) (by kernel_rfl) (by kernel_rfl) (fun _ _ _ h => h) (Or.inl ⟨by rfl, ?_⟩) (by assumption) ?_
    rotate_left
    · intro w hSw; (try dsimp only at hSw); go_simp; (try with_reducible rfl)
    (try simp only [Act.put, List.getElem_toArray, List.getElem_cons_succ, List.getElem_cons_zero, List.setIfInBounds_toArray, List.set_cons_zero, List.set_cons_succ])
    refine wpAnyH_take (i := 6) (v := ?_) rfl (by kernel_rfl) (by kernel_rfl) (by kernel_rfl) (fun _ _ _ h => h) (Or.inl ⟨by rfl, ?_⟩) (by assumption) ?_
    rotate_left
    · intro w hSw; (try dsimp only at hSw); go_simp; (try with_reducible rfl)
    (try simp only [Act.put, List.getElem_toArray, List.getElem_cons_succ, List.getElem_cons_zero, List.setIfInBounds_toArray, List.set_cons_zero, List.set_cons_succ])
    refine wpAnyH_take (i := 7) (v := ?_) rfl (by kernel_rfl) (by kernel_rfl) (by kernel_rfl) (fun _ _ _ h => h) (Or.inl ⟨by rfl, ?_⟩) (by assumption) ?_
    rotate_left
    · intro w hSw; (try dsimp only at hSw); go_simp; (try with_reducible rfl)
    (try simp only [Act.put, List.getElem_toArray, List.getElem_cons_succ, List.getElem_cons_zero, List.setIfInBounds_toArray, List.set_cons_zero, List.set_cons_succ])
    refine wpAnyH_take (i := 8) (v := ?_) rfl (by kernel_rfl) (by kernel_rfl) (by kernel_rfl) (fun _ _ _ h => h) (Or.inl ⟨by rfl, ?_⟩) (by assumption) ?_
    rotate_left
    · intro w hSw; (try dsimp only at hSw); go_simp; (try with_reducible rfl)
    (try simp only [Act.put, List.getElem_toArray, List.getElem_cons_succ, List.getElem_cons_zero, List.setIfInBounds_toArray, List.set_cons_zero, List.set_cons_succ])
    refine wpAnyH_take (i := 9) (v := ?_) rfl (by kernel_rfl) (by kernel_rfl) (by kernel_rfl) (fun _ _ _ h => h) (Or.inl ⟨by rfl, ?_⟩) (by assumption) ?_
    rotate_left
    · intro w hSw; (try dsimp only at hSw); go_simp; (try with_reducible rfl)
    (try simp only [Act.put, List.getElem_toArray, List.getElem_cons_succ, List.getElem_cons_zero, List.setIfInBounds_toArray, List.set_cons_zero, List.set_cons_succ])
    (try clear hK K)
    refine wpAnyH_ready (rs := [10]) (by kernel_rfl) (by simp) ?_
    refine AllReadyH.cons rfl (fun K hK => ?_) AllReadyH.nil
    go_simp
    (refine Calls.mono (HTK.out _ w6.drew HB9.out.1 (Below.refl _ _).drew) ?_; rintro e w7 ⟨rfl, hb⟩)
    refine hK.out _ _ ?_ (fun hHeld => ?_)
    · have := HR9.out.below ((Below.refl _ _).drew.trans hb); exact ⟨this.1, this.2.1, this.2.2.1, this.2.2.2, cell_below HL9.out ((Below.refl _ _).drew.trans hb)⟩
    have HB7 : Hid (Below (w6.drew.setCell ⟨p, 2, none⟩ (.int .i64 (last + 1))).heap.size (w6.drew.setCell ⟨p, 2, none⟩ (.int .i64 (last + 1))) w7 ∧ w.heap.size ≤ w6.drew.heap.size) := ⟨(Below.refl _ _).drew.trans hb, HB9.out.1.size⟩
    have HR7 : Hid (RS w1.heap.size rb ro tp k w7) := HR9.out.below ((Below.refl _ _).drew.trans hb)
    have HL7 : Hid (w7.cell? ⟨p, 2, none⟩ = some (.int .i64 (last + 1))) := cell_below HL9.out ((Below.refl _ _).drew.trans hb)
    clear hb HR9 HL9 HTK
    (try clear hK K)
    refine wpAnyH_ready (rs := [11]) (by kernel_rfl) (by simp) ?_
    refine AllReadyH.cons rfl (fun K hK => ?_) AllReadyH.nil
    go_simp
    (refine Calls.mono (HPU.out _ _ HB9.out.1 HB7.out.1) ?_; rintro e w8 ⟨⟨pb, rfl⟩, hsv, hrr⟩)
    refine hK.out _ _ ?_ (fun hHeld => ?_)
    · have := HR7.out.sv hsv (fun h => by have := HXX.out.1 _ h; have := HB9.out.2; omega) HXX.out.2.1; exact ⟨this.1, this.2.1, this.2.2.1, this.2.2.2, by rw [hsv.cell (World.block_lt_of_cell? _ _ HL7.out) HXX.out.2.2]; exact HL7.out⟩
    have c2 : w8.cell? ⟨p, 2, none⟩ = some (.int .i64 (last + 1)) := by rw [hsv.cell (World.block_lt_of_cell? _ _ HL7.out) HXX.out.2.2]; exact HL7.out
    have HE : Hid (R w7 w8) := hrr
    clear hsv hrr HR7 HL7 HPU HXX
    (try clear hK K)
    refine wpAnyH_done (by kernel_rfl) ?_ _
    (try clear hHeld)
    go_wp2_with fail
    go_ret2
    exact ⟨rfl, w6.drew, w7, w8, HB9.out.1, HB7.out.1, HE.out, Below.refl _ _⟩
  · go_simp
    have HX0 : Hid ((w2.drew.alloc zobj).heap[w2.heap.size]? = some zobj ∧ w.heap.size ≤ w2.heap.size ∧ ¬ w1.heap.size = w2.heap.size ∧ ¬ rb = w2.heap.size) := by
      have h1 := World.block_lt_of_cell? w2 _ HR2.out.1
      have h2 := World.block_lt_of_cell? w2 _ HR2.out.2.1
      exact ⟨heap_new _ _ _ (by simp), HB2.out.1.size, Nat.ne_of_lt h1, Nat.ne_of_lt h2⟩
    have HB5 : Hid (Below w.heap.size w (w2.drew.alloc zobj) ∧ w.heap.size ≤ w1.heap.size) := ⟨HB2.out.1.drew.alloc (by simpa using HB2.out.1.size) _, HB2.out.2⟩
    have HR5 : Hid (RS w1.heap.size rb ro tp k (w2.drew.alloc zobj)) := HR2.out.below ((Below.refl _ _).drew.alloc (by simp) _)
    refine hK.out _ _ ?_ (fun hHeld => ?_)
    · exact HR5.out
    (try clear hK K)
    refine wpAnyH_ready (rs := [5]) (by kernel_rfl) (by simp) ?_
    refine AllReadyH.cons rfl (fun K hK => ?_) AllReadyH.nil
    (go_simp)
    refine Calls.mono (HGT.out _ HB5.out.1) ?_
    rintro e w3 ⟨rfl, hb⟩
    have HB3 : Hid (Below w.heap.size w w3 ∧ w.heap.size ≤ w1.heap.size) := ⟨HB5.out.1.trans (hb.mono HB5.out.1.size), HB2.out.2⟩
    have HR3 : Hid (RS w1.heap.size rb ro tp k w3) := (HR5.out).below hb
    have HX : Hid (w3.heap[w2.heap.size]? = some zobj ∧ w.heap.size ≤ w2.heap.size ∧ ¬ w1.heap.size = w2.heap.size ∧ ¬ rb = w2.heap.size) := ⟨heap_below HX0.out.1 hb, HX0.out.2⟩
    clear hb HGT HB2 HR2 HB5 HR5 HX0
    refine hK.out _ _ ?_ (fun hHeld => ?_)
    · exact HR3.out
    (try clear hK K)
    refine wpAnyH_take (i := 6) (v := ?_) rfl (by kernel_rfl) (by kernel_rfl) (by kernel_rfl) (fun _ _ _ h => h) (Or.inl ⟨by rfl, ?_⟩) (by assumption) ?_
    rotate_left
    · intro w hSw; (try dsimp only at hSw); go_simp; (try with_reducible rfl)
    (try simp only [Act.put, List.getElem_toArray, List.getElem_cons_succ, List.getElem_cons_zero, List.setIfInBounds_toArray, List.set_cons_zero, List.set_cons_succ])
    refine wpAnyH_take (i := 7) (v := ?_) rfl (by kernel_rfl) (by kernel_rfl) (by kernel_rfl) (fun _ _ _ h => h) (Or.inl ⟨by rfl, ?_⟩) (by assumption) ?_
    rotate_left
    · intro w hSw; (try dsimp only at hSw); go_simp; (try with_reducible rfl)
    (try simp only [Act.put, List.getElem_toArray, List.getElem_cons_succ, List.getElem_cons_zero, List.setIfInBounds_toArray, List.set_cons_zero, List.set_cons_succ])
    refine wpAnyH_take (i := 8) (v := ?_) rfl (by kernel_rfl) (by kernel_rfl) (by kernel_rfl) (fun _ _ _ h => h) (Or.inl ⟨by rfl, ?_⟩) (by assumption) ?_
    rotate_left
    · intro w hSw; (try dsimp only at hSw); go_simp; (try with_reducible rfl)
    (try simp only [Act.put, List.getElem_toArray, List.getElem_cons_succ, List.getElem_cons_zero, List.setIfInBounds_toArray, List.set_cons_zero, List.set_cons_succ])
    (try clear hK K)
    refine wpAnyH_ready (rs := [10]) (by kernel_rfl) (by simp) ?_
    refine AllReadyH.cons rfl (fun K hK => ?_) AllReadyH.nil
    (refine stepH_pstore rfl _ _ rfl (w2.heap.size) (vcells pl) (vcells Pl.zero) rfl rfl HPC.out HZL.out HX.out.1 ?_; intro wz hz1 hz2; have HBz : Hid (Below w.heap.size w wz ∧ w.heap.size ≤ w1.heap.size) := ⟨HB3.out.1.trans (hz2.below HB3.out.1.size fun j hj e => by have := HX.out.2.1; omega), HB3.out.2⟩; have HRz : Hid (RS w1.heap.size rb ro tp k wz) := HR3.out.sv hz2 HX.out.2.2.1 HX.out.2.2.2; have HZ : Hid (wz.heap[w2.heap.size]? = some (.cells (vcells pl).toArray 74 (0, 0)) ∧ w.heap.size ≤ w2.heap.size) := ⟨hz1, HX.out.2.1⟩; clear hz1 hz2 HX HB3 HR3; refine hK.out _ _ ?_ (fun hHeld => ?_))
    · exact HRz.out
    (try clear hK K)
    refine wpAnyH_take (i := 11) (v := ?_) rfl (by kernel_rfl) (by kernel_rfl) (by kernel_rfl) (fun _ _ _ h => h) (Or.inl ⟨by rfl, ?_⟩) (by assumption) ?_
    rotate_left
    · intro w hSw; (try dsimp only at hSw); go_simp; (try with_reducible rfl)
    (try simp only [Act.put, List.getElem_toArray, List.getElem_cons_succ, List.getElem_cons_zero, List.setIfInBounds_toArray, List.set_cons_zero, List.set_cons_succ])
    (try clear hK K)
    refine wpAnyH_done (by kernel_rfl) ?_ _
    clear hHeld
    go_wp2_with (first | (refine step_ploadW _ rfl (w2.heap.size) 0 rfl (vcells pl) (range_heap HZ.out.1) HPC.out (by rfl) ?_) | fail)
    refine Calls.mono (HHR.out _) ?_
    rintro e w6 ⟨rfl, hb⟩
    have HB6 : Hid (Below w.heap.size w w6 ∧ w.heap.size ≤ w1.heap.size) := ⟨HBz.out.1.trans (hb.mono HBz.out.1.size), HBz.out.2⟩
    have HR6 : Hid (RS w1.heap.size rb ro tp k w6) := HRz.out.below hb
    have HZ6 : Hid (w6.heap[w2.heap.size]? = some (.cells (vcells pl).toArray 74 (0, 0)) ∧ w.heap.size ≤ w2.heap.size) := ⟨heap_below HZ.out.1 hb, HZ.out.2⟩
    clear hb HZ HBz HRz HHR
    go_wp2_with fail
    refine wp_region_held_drew (S := fun _ => True) (by kernel_rfl) ?_ (fun hHeld => ?_)
    · trivial
    (try clear hK K)
    refine wpAnyH_take (i := 0) (v := ?_) rfl (by kernel_rfl) (by kernel_rfl) (by kernel_rfl) (fun _ _ _ h => h) (Or.inl ⟨by rfl, ?_⟩) (by assumption) ?_
    rotate_left
    · intro w hSw; (try dsimp only at hSw); go_simp; (try with_reducible rfl)
    (try simp only [Act.put, List.getElem_toArray, List.getElem_cons_zero, List.setIfInBounds_toArray, List.set_cons_zero, List.set_cons_succ])
    refine wpAnyH_take (i := 1) (v := ?_) rfl (by kernel_rfl) (by kernel_rfl) (by kernel_rfl) (fun _ _ _ h => h) (Or.inl ⟨by rfl, ?_⟩) (by assumption) ?_
    rotate_left
    · intro w hSw; (try dsimp only at hSw); go_simp; (try with_reducible rfl)
    (try simp only [Act.put, List.getElem_toArray, List.getElem_cons_succ, List.getElem_cons_zero, List.setIfInBounds_toArray, List.set_cons_zero, List.set_cons_succ])
    refine wpAnyH_take (i := 2) (v := ?_) rfl (by kernel_rfl) (by kernel_rfl) (by kernel_rfl) (fun _ _ _ h => h) (Or.inl ⟨by rfl, ?_⟩) (by assumption) ?_
    rotate_left
    · intro w hSw; (try dsimp only at hSw); go_simp; (try with_reducible rfl)
    (try simp only [Act.put, List.getElem_toArray, List.getElem_cons_succ, List.getElem_cons_zero, List.setIfInBounds_toArray, List.set_cons_zero, List.set_cons_succ])
    (try clear hK K)
    refine wpAnyH_take (i := 3) (v := undef) rfl (by kernel_rfl) (by kernel_rfl) (by kernel_rfl) (fun _ _ _ h => h) (Or.inr ⟨by rfl, rfl⟩) (by assumption) ?_
    (try simp only [Act.put, List.getElem_toArray, List.getElem_cons_succ, List.getElem_cons_zero, List.setIfInBounds_toArray, List.set_cons_zero, List.set_cons_succ])
    refine wpAnyH_take (i := 4) (v := undef) rfl (by kernel_rfl) (by kernel_rfl) (by kernel_rfl) (fun _ _ _ h => h) (Or.inr ⟨by rfl, rfl⟩) (by assumption) ?_
    (try simp only [Act.put, List.getElem_toArray, List.getElem_cons_succ, List.getElem_cons_zero, List.setIfInBounds_toArray, List.set_cons_zero, List.set_cons_succ])
    refine wpAnyH_take (i := 5) (v := undef) rfl (by kernel_rfl) (by kernel_rfl) (by kernel_rfl) (fun _ _ _ h => h) (Or.inr ⟨by rfl, rfl⟩) (by assumption) ?_
    (try simp only [Act.put, List.getElem_toArray, List.getElem_cons_succ, List.getElem_cons_zero, List.setIfInBounds_toArray, List.set_cons_zero, List.set_cons_succ])
    refine wpAnyH_take (i := 6) (v := undef) rfl (by kernel_rfl) (by kernel_rfl) (by kernel_rfl) (fun _ _ _ h => h) (Or.inr ⟨by rfl, rfl⟩) (by assumption) ?_
    (try simp only [Act.put, List.getElem_toArray, List.getElem_cons_succ, List.getElem_cons_zero, List.setIfInBounds_toArray, List.set_cons_zero, List.set_cons_succ])
    refine wpAnyH_take (i := 7) (v := undef) rfl (by kernel_rfl) (by kernel_rfl) (by kernel_rfl) (fun _ _ _ h => h) (Or.inr ⟨by rfl, rfl⟩) (by assumption) ?_
    (try simp only [Act.put, List.getElem_toArray, List.getElem_cons_succ, List.getElem_cons_zero, List.setIfInBounds_toArray, List.set_cons_zero, List.set_cons_succ])
    refine wpAnyH_take (i := 8) (v := undef) rfl (by kernel_rfl) (by kernel_rfl) (by kernel_rfl) (fun _ _ _ h => h) (Or.inr ⟨by rfl, rfl⟩) (by assumption) ?_
    (try simp only [Act.put, List.getElem_toArray, List.getElem_cons_succ, List.getElem_cons_zero, List.setIfInBounds_toArray, List.set_cons_zero, List.set_cons_succ])
    refine wpAnyH_take (i := 9) (v := undef) rfl (by kernel_rfl) (by kernel_rfl) (by kernel_rfl) (fun _ _ _ h => h) (Or.inr ⟨by rfl, rfl⟩) (by assumption) ?_
    (try simp only [Act.put, List.getElem_toArray, List.getElem_cons_succ, List.getElem_cons_zero, List.setIfInBounds_toArray, List.set_cons_zero, List.set_cons_succ])
    (try clear hK K)
    refine wpAnyH_take (i := 10) (v := ?_) rfl (by kernel_rfl) (by kernel_rfl) (by kernel_rfl) (fun _ _ _ h => h) (Or.inl ⟨by rfl, ?_⟩) (by assumption) ?_
    rotate_left
    · intro w hSw; (try dsimp only at hSw); go_simp; (try with_reducible rfl)
    (try simp only [Act.put, List.getElem_toArray, List.getElem_cons_succ, List.getElem_cons_zero, List.setIfInBounds_toArray, List.set_cons_zero, List.set_cons_succ])
    refine wpAnyH_take (i := 11) (v := ?_) rfl (by kernel_rfl) (by kernel_rfl) (by kernel_rfl) (fun _ _ _ h => h) (Or.inl ⟨by rfl, ?_⟩) (by assumption) ?_
    rotate_left
    · intro w hSw; (try dsimp only at hSw); go_simp; (try with_reducible rfl)
    (try simp only [Act.put, List.getElem_toArray, List.getElem_cons_succ, List.getElem_cons_zero, List.setIfInBounds_toArray, List.set_cons_zero, List.set_cons_succ])
    (try clear hK K)
    refine wpAnyH_done (by kernel_rfl) ?_ _
    (try clear hHeld)
    have HBd : Hid (Below w.heap.size w w6.drew ∧ w.heap.size ≤ w1.heap.size) := ⟨HB6.out.1.drew, HB6.out.2⟩
    have HRd : Hid (RS w1.heap.size rb ro tp k w6.drew) := HR6.out.below (Below.refl _ _).drew
    clear HB6 HR6 HZ6
    have HB9 : Hid _ := HBd.out
    have c2 : w6.drew.cell? ⟨p, 2, none⟩ = some (.int .i64 last) := cell_below HC2.out.1 HB9.out.1
    have f2 : w6.drew.frozen? ⟨p, 2, none⟩ = false := (World.frozen?_of_block (HB9.out.1.block p HC2.out.2.2.1)).trans HC2.out.2.1
    have HS : Hid (Sv (fun j => j = p) w6.drew (w6.drew.setCell ⟨p, 2, none⟩ (.int .i64 (last + 1)))) := Sv.set (X := fun j => j = p) (Sv.refl _ _) (a := ⟨p, 2, none⟩) rfl _
    have HR9 : Hid (RS w1.heap.size rb ro tp k (w6.drew.setCell ⟨p, 2, none⟩ (.int .i64 (last + 1)))) := HRd.out.sv HS.out (by have := HC2.out.2.2.1; have := HB9.out.2; omega) HC2.out.2.2.2
    have HL9 : Hid ((w6.drew.setCell ⟨p, 2, none⟩ (.int .i64 (last + 1))).cell? ⟨p, 2, none⟩ = some (.int .i64 (last + 1))) := World.cell?_setCell_same _ _ _ c2
    go_wp2_with fail
    clear c2 f2 HS HRd HBd
    refine wp_region_held_drew (S := fun w' => w'.cell? ⟨w1.heap.size, 1, none⟩ = some (.pointer tp) ∧ w'.cell? ⟨rb, ro, none⟩ = some (.bool k.t) ∧ w'.cell? ⟨rb, ro + 1, none⟩ = some (.int .i64 k.n) ∧ w'.cell? ⟨rb, ro + 2, none⟩ = some (.string k.s) ∧ w'.cell? ⟨p, 2, none⟩ = some (.int .i64 (last + 1))) (by kernel_rfl) ?_ (fun hHeld => ?_)
    · have := HR9.out.below (Below.refl _ _).drew; exact ⟨this.1, this.2.1, this.2.2.1, this.2.2.2, cell_below HL9.out (Below.refl _ _).drew⟩
    (try clear hK K)
    refine wpAnyH_take (i := 0) (v := ?_) rfl (by kernel_rfl) (by kernel_rfl) (by kernel_rfl) (fun _ _ _ h => h) (Or.inl ⟨by rfl, ?_⟩) (by assumption) ?_
    rotate_left
    · intro w hSw; (try dsimp only at hSw); go_simp; (try with_reducible rfl)
    (try simp only [Act.put, List.getElem_toArray, List.getElem_cons_zero, List.setIfInBounds_toArray, List.set_cons_zero, List.set_cons_succ])
    refine wpAnyH_take (i := 1) (v := ?_) rfl (by kernel_rfl) (by kernel_rfl) (by kernel_rfl) (fun _ _ _ h => h) (Or.inl ⟨by rfl, ?_⟩) (by assumption) ?_
    rotate_left
    · intro w hSw; (try dsimp only at hSw); go_simp; (try with_reducible rfl)
    (try simp only [Act.put, List.getElem_toArray, List.getElem_cons_succ, List.getElem_cons_zero, List.setIfInBounds_toArray, List.set_cons_zero, List.set_cons_succ])
    refine wpAnyH_take (i := 2) (v := ?_) rfl (by kernel_rfl) (by kernel_rfl) (by kernel_rfl) (fun _ _ _ h => h) (Or.inl ⟨by rfl, ?_⟩) (by assumption) ?_
    rotate_left
    · intro w hSw; (try dsimp only at hSw); go_simp; (try with_reducible rfl)
    (try simp only [Act.put, List.getElem_toArray, List.getElem_cons_succ, List.getElem_cons_zero, List.setIfInBounds_toArray, List.set_cons_zero, List.set_cons_succ])
    refine wpAnyH_take (i := 3) (v := ?_) rfl (by kernel_rfl) (by kernel_rfl) (by kernel_rfl) (fun _ _ _ h => h) (Or.inl ⟨by rfl, ?_⟩) (by assumption) ?_
    rotate_left
    · intro w hSw; (try dsimp only at hSw); go_simp; (try with_reducible rfl)
    (try simp only [Act.put, List.getElem_toArray, List.getElem_cons_succ, List.getElem_cons_zero, List.setIfInBounds_toArray, List.set_cons_zero, List.set_cons_succ])
    refine wpAnyH_take (i := 4) (v := ?_) rfl (by kernel_rfl) (by kernel_rfl) (by kernel_rfl) (fun _ _ _ h => h) (Or.inl ⟨by rfl, ?_⟩) (by assumption) ?_
    rotate_left
    · intro w hSw; (try dsimp only at hSw); go_simp; (try with_reducible rfl)
    (try simp only [Act.put, List.getElem_toArray, List.getElem_cons_succ, List.getElem_cons_zero, List.setIfInBounds_toArray, List.set_cons_zero, List.set_cons_succ])
    refine wpAnyH_take (i := 5) (v := ?_) rfl (by kernel_rfl) (by kernel_rfl) (by kernel_rfl) (fun _ _ _ h => h) (Or.inl ⟨by rfl, ?_⟩) (by assumption) ?_
    rotate_left
    · intro w hSw; (try dsimp only at hSw); go_simp; (try with_reducible rfl)
    (try simp only [Act.put, List.getElem_toArray, List.getElem_cons_succ, List.getElem_cons_zero, List.setIfInBounds_toArray, List.set_cons_zero, List.set_cons_succ])
    refine wpAnyH_take (i := 6) (v := ?_) rfl (by kernel_rfl) (by kernel_rfl) (by kernel_rfl) (fun _ _ _ h => h) (Or.inl ⟨by rfl, ?_⟩) (by assumption) ?_
    rotate_left
    · intro w hSw; (try dsimp only at hSw); go_simp; (try with_reducible rfl)
    (try simp only [Act.put, List.getElem_toArray, List.getElem_cons_succ, List.getElem_cons_zero, List.setIfInBounds_toArray, List.set_cons_zero, List.set_cons_succ])
    refine wpAnyH_take (i := 7) (v := ?_) rfl (by kernel_rfl) (by kernel_rfl) (by kernel_rfl) (fun _ _ _ h => h) (Or.inl ⟨by rfl, ?_⟩) (by assumption) ?_
    rotate_left
    · intro w hSw; (try dsimp only at hSw); go_simp; (try with_reducible rfl)
    (try simp only [Act.put, List.getElem_toArray, List.getElem_cons_succ, List.getElem_cons_zero, List.setIfInBounds_toArray, List.set_cons_zero, List.set_cons_succ])
    refine wpAnyH_take (i := 8) (v := ?_) rfl (by kernel_rfl) (by kernel_rfl) (by kernel_rfl) (fun _ _ _ h => h) (Or.inl ⟨by rfl, ?_⟩) (by assumption) ?_
    rotate_left
    · intro w hSw; (try dsimp only at hSw); go_simp; (try with_reducible rfl)
    (try simp only [Act.put, List.getElem_toArray, List.getElem_cons_succ, List.getElem_cons_zero, List.setIfInBounds_toArray, List.set_cons_zero, List.set_cons_succ])
    refine wpAnyH_take (i := 9) (v := ?_) rfl (by kernel_rfl) (by kernel_rfl) (by kernel_rfl) (fun _ _ _ h => h) (Or.inl ⟨by rfl, ?_⟩) (by assumption) ?_
    rotate_left
    · intro w hSw; (try dsimp only at hSw); go_simp; (try with_reducible rfl)
    (try simp only [Act.put, List.getElem_toArray, List.getElem_cons_succ, List.getElem_cons_zero, List.setIfInBounds_toArray, List.set_cons_zero, List.set_cons_succ])
    (try clear hK K)
    refine wpAnyH_ready (rs := [10]) (by kernel_rfl) (by simp) ?_
    refine AllReadyH.cons rfl (fun K hK => ?_) AllReadyH.nil
    go_simp
    (refine Calls.mono (HTK.out _ w6.drew HB9.out.1 (Below.refl _ _).drew) ?_; rintro e w7 ⟨rfl, hb⟩)
    refine hK.out _ _ ?_ (fun hHeld => ?_)
    · have := HR9.out.below ((Below.refl _ _).drew.trans hb); exact ⟨this.1, this.2.1, this.2.2.1, this.2.2.2, cell_below HL9.out ((Below.refl _ _).drew.trans hb)⟩
    have HB7 : Hid (Below (w6.drew.setCell ⟨p, 2, none⟩ (.int .i64 (last + 1))).heap.size (w6.drew.setCell ⟨p, 2, none⟩ (.int .i64 (last + 1))) w7 ∧ w.heap.size ≤ w6.drew.heap.size) := ⟨(Below.refl _ _).drew.trans hb, HB9.out.1.size⟩
    have HR7 : Hid (RS w1.heap.size rb ro tp k w7) := HR9.out.below ((Below.refl _ _).drew.trans hb)
    have HL7 : Hid (w7.cell? ⟨p, 2, none⟩ = some (.int .i64 (last + 1))) := cell_below HL9.out ((Below.refl _ _).drew.trans hb)
    clear hb HR9 HL9 HTK
    (try clear hK K)
    refine wpAnyH_ready (rs := [11]) (by kernel_rfl) (by simp) ?_
    refine AllReadyH.cons rfl (fun K hK => ?_) AllReadyH.nil
    go_simp
    (refine Calls.mono (HPU.out _ _ HB9.out.1 HB7.out.1) ?_; rintro e w8 ⟨⟨pb, rfl⟩, hsv, hrr⟩)
    refine hK.out _ _ ?_ (fun hHeld => ?_)
    · have := HR7.out.sv hsv (fun h => by have := HXX.out.1 _ h; have := HB9.out.2; omega) HXX.out.2.1; exact ⟨this.1, this.2.1, this.2.2.1, this.2.2.2, by rw [hsv.cell (World.block_lt_of_cell? _ _ HL7.out) HXX.out.2.2]; exact HL7.out⟩
    have c2 : w8.cell? ⟨p, 2, none⟩ = some (.int .i64 (last + 1)) := by rw [hsv.cell (World.block_lt_of_cell? _ _ HL7.out) HXX.out.2.2]; exact HL7.out
    have HE : Hid (R w7 w8) := hrr
    clear hsv hrr HR7 HL7 HPU HXX
    (try clear hK K)
    refine wpAnyH_done (by kernel_rfl) ?_ _
    (try clear hHeld)
    go_wp2_with fail
    go_ret2
    exact ⟨rfl, w6.drew, w7, w8, HB9.out.1, HB7.out.1, HE.out, Below.refl _ _⟩
set_option maxHeartbeats 16000000 in
theorem ins_new {rb ro rc rn : Nat} {k : Val} {pl nl : Pl} {last u room : Int} {X : Nat → Prop} {R : World → World → Prop} (hr : hasR pl = false) (hge : decide (room ≤ u) = false)
    (hat : ∀ w1, Below w.heap.size w w1 → Calls Try.prog 37 #[sptr p, .int .i64 n] w1 fun e w' => e = atAns (.slice fa fl fc) tp ∧ Below w1.heap.size w1 w')
    (hft : ∀ w1, Below w.heap.size w w1 → Calls Try.prog 46 #[.agg #[.slice fa fl fc], .slice (some ⟨rb, ro, none⟩) (rn + 1) rc] w1 fun e w' => e = .returned (.bool true) ∧ Below w1.heap.size w1 w')
    (hgt : ∀ w1, Below w.heap.size w w1 → Calls Try.prog 38 #[.pointer tp, V k.t k.n k.s] w1 fun e w' => e = gans pl false ∧ Below w1.heap.size w1 w')
    (hk0 : w.cell? ⟨rb, ro, none⟩ = some (.bool k.t) ∧ w.cell? ⟨rb, ro + 1, none⟩ = some (.int .i64 k.n) ∧ w.cell? ⟨rb, ro + 2, none⟩ = some (.string k.s))
    (hus : ∀ w1, Below w.heap.size w w1 → Calls Try.prog 16 #[sptr p] w1 fun e w' => e = .returned (.int .i64 u) ∧ Below w1.heap.size w1 w')
    (c1 : w.cell? ⟨p, 1, none⟩ = some (.int .i64 room))
    (hl : IntKind.i64.wrap (last + 1) = last + 1)
    (htk : ∀ w1 w2, Below w.heap.size w w1 → Below (w1.setCell ⟨p, 2, none⟩ (.int .i64 (last + 1))).heap.size (w1.setCell ⟨p, 2, none⟩ (.int .i64 (last + 1))) w2 → Calls Try.prog 47 #[.slice (some ⟨rb, ro, none⟩) (rn + 1) rc, .int .i64 (last + 1)] w2 fun e w' => e = .returned (.agg (vcells nl).toArray) ∧ Below w2.heap.size w2 w')
    (hput : ∀ w1 w2, Below w.heap.size w w1 → Below (w1.setCell ⟨p, 2, none⟩ (.int .i64 (last + 1))).heap.size (w1.setCell ⟨p, 2, none⟩ (.int .i64 (last + 1))) w2 → Calls Try.prog 45 #[.pointer tp, V k.t k.n k.s, .agg (vcells nl).toArray] w2 fun e w' => (∃ b, e = .returned (.bool b)) ∧ Sv X w2 w' ∧ R w2 w')
    (hx : ∀ j, X j → j < w.heap.size) (hxr : ¬ X rb) (hxp : ¬ X p) (c2 : w.cell? ⟨p, 2, none⟩ = some (.int .i64 last)) (f2 : w.frozen? ⟨p, 2, none⟩ = false) (hrp : rb ≠ p)
    : Calls Try.prog 23 #[sptr p, .int .i64 n, .slice (some ⟨rb, ro, none⟩) (rn + 1) rc] w fun e w' => e = .returned (.tuple #[.int .i64 (last + 1), .int .i64 0]) ∧ ∃ w1 w2 w3, Below w.heap.size w w1 ∧ Below (w1.setCell ⟨p, 2, none⟩ (.int .i64 (last + 1))).heap.size (w1.setCell ⟨p, 2, none⟩ (.int .i64 (last + 1))) w2 ∧ R w2 w3 ∧ Below w3.heap.size w3 w' := by
  have HAT : Hid _ := hat
  have HFT : Hid _ := hft
  have HGT : Hid _ := hgt
  have HPC : Hid _ := PC.of pl
  have HZL : Hid ((vcells Pl.zero).length = 14) := rfl
  have HHR : Hid (∀ w1, Calls Try.prog 39 #[.agg (vcells pl).toArray] w1 fun e w' => e = .returned (.bool (hasR pl)) ∧ Below w1.heap.size w1 w') := fun w1 => hasRow_any pl w1
  rw [hr] at HHR
  have HK0 : Hid (w.cell? ⟨rb, ro, none⟩ = some (.bool k.t) ∧ w.cell? ⟨rb, ro + 1, none⟩ = some (.int .i64 k.n) ∧ w.cell? ⟨rb, ro + 2, none⟩ = some (.string k.s)) := hk0
  have HTK : Hid (∀ w2 w1, Below w.heap.size w w1 → Below (w1.setCell ⟨p, 2, none⟩ (.int .i64 (last + 1))).heap.size (w1.setCell ⟨p, 2, none⟩ (.int .i64 (last + 1))) w2 → Calls Try.prog 47 #[.slice (some ⟨rb, ro, none⟩) (rn + 1) rc, .int .i64 (last + 1)] w2 fun e w' => e = .returned (.agg (vcells nl).toArray) ∧ Below w2.heap.size w2 w') := fun w2 w1 h1 h2 => htk w1 w2 h1 h2
  have HPU : Hid _ := hput
  have HXX : Hid ((∀ j, X j → j < w.heap.size) ∧ ¬ X rb ∧ ¬ X p) := ⟨hx, hxr, hxp⟩
  have HC2 : Hid (w.cell? ⟨p, 2, none⟩ = some (.int .i64 last) ∧ w.frozen? ⟨p, 2, none⟩ = false ∧ p < w.heap.size ∧ ¬ rb = p) := ⟨c2, f2, World.block_lt_of_cell? _ _ c2, hrp⟩
  have HUS : Hid _ := hus
  have HC1 : Hid _ := c1
  clear hat hft hgt hr hk0 htk hput hx hxr hxp c2 f2 hrp hus c1
  go_enter Try.func23, Try.ntmps23
  go_wp2_with fail
  refine Calls.mono (HAT.out _ (Below.refl _ _)) ?_
  rintro e w1 ⟨rfl, hb⟩
  have HB1 : Hid (Below w.heap.size w w1) := hb
  clear hb HAT
  go_wp2_with fail
  have HR1 : Hid (RS w1.heap.size rb ro tp k (w1.alloc (tbobj fa fl fc tp))) := by
    obtain ⟨a, b, c⟩ := HK0.out
    have hb := HB1.out.alloc HB1.out.size (tbobj fa fl fc tp)
    exact ⟨tb_new _ _ _ _ _, cell_below a hb, cell_below b hb, cell_below c hb⟩
  refine Calls.mono (HFT.out _ (HB1.out.alloc HB1.out.size _)) ?_
  rintro e w2 ⟨rfl, hb⟩
  have HB2 : Hid (Below w.heap.size w w2 ∧ w.heap.size ≤ w1.heap.size) := ⟨(HB1.out.alloc HB1.out.size _).trans (hb.mono (by have := HB1.out.size; simp; omega)), HB1.out.size⟩
  have HR2 : Hid (RS w1.heap.size rb ro tp k w2) := HR1.out.below hb
  clear hb HFT HB1 HR1 HK0
  go_wp2_with fail
  refine wp_region_held_drew (S := fun w' => w'.cell? ⟨w1.heap.size, 1, none⟩ = some (.pointer tp) ∧ w'.cell? ⟨rb, ro, none⟩ = some (.bool k.t) ∧ w'.cell? ⟨rb, ro + 1, none⟩ = some (.int .i64 k.n) ∧ w'.cell? ⟨rb, ro + 2, none⟩ = some (.string k.s)) (by kernel_rfl) ?_ (fun hHeld => ?_)
  · exact HR2.out.below (Below.refl _ _).drew
  (try clear hK K)
  refine wpAnyH_take (i := 0) (v := ?_) rfl (by kernel_rfl) (by kernel_rfl) (by kernel_rfl) (fun _ _ _ h => h) (Or.inl ⟨by rfl, ?_⟩) (by assumption) ?_
  rotate_left
  · intro w hSw; (try dsimp only at hSw); go_simp; (try with_reducible rfl)
  (try simp only [Act.put, List.getElem_toArray, List.getElem_cons_zero, List.setIfInBounds_toArray, List.set_cons_zero, List.set_cons_succ])
  refine wpAnyH_take (i := 1) (v := ?_) rfl (by kernel_rfl) (by kernel_rfl) (by kernel_rfl) (fun _ _ _ h => h) (Or.inl ⟨by rfl, ?_⟩) (by assumption) ?_
  rotate_left
  · intro w hSw; (try dsimp only at hSw); go_simp; (try with_reducible rfl)
  (try simp only [Act.put, List.getElem_toArray, List.getElem_cons_succ, List.getElem_cons_zero, List.setIfInBounds_toArray, List.set_cons_zero, List.set_cons_succ])
  refine wpAnyH_take (i := 2) (v := ?_) rfl (by kernel_rfl) (by kernel_rfl) (by kernel_rfl) (fun _ _ _ h => h) (Or.inl ⟨by rfl, ?_⟩) (by assumption) ?_
  rotate_left
  · intro w hSw; (try dsimp only at hSw); go_simp; (try with_reducible rfl)
  (try simp only [Act.put, List.getElem_toArray, List.getElem_cons_succ, List.getElem_cons_zero, List.setIfInBounds_toArray, List.set_cons_zero, List.set_cons_succ])
  refine wpAnyH_take (i := 3) (v := ?_) rfl (by kernel_rfl) (by kernel_rfl) (by kernel_rfl) (fun _ _ _ h => h) (Or.inl ⟨by rfl, ?_⟩) (by assumption) ?_
  rotate_left
  · intro w hSw; (try dsimp only at hSw); go_simp; (try with_reducible rfl)
  (try simp only [Act.put, List.getElem_toArray, List.getElem_cons_succ, List.getElem_cons_zero, List.setIfInBounds_toArray, List.set_cons_zero, List.set_cons_succ])
  refine wpAnyH_take (i := 4) (v := ?_) rfl (by kernel_rfl) (by kernel_rfl) (by kernel_rfl) (fun _ _ _ h => h) (Or.inl ⟨by rfl, ?_⟩) (by assumption) ?_
  rotate_left
  · intro w hSw; (try dsimp only at hSw); go_simp; (try with_reducible rfl)
  (try simp only [Act.put, List.getElem_toArray, List.getElem_cons_succ, List.getElem_cons_zero, List.setIfInBounds_toArray, List.set_cons_zero, List.set_cons_succ])
  (try clear hK K)
  refine wpAnyH_ready (rs := [5, 9]) (by kernel_rfl) (by simp) ?_
  refine AllReadyH.cons rfl (fun K hK => ?_) (AllReadyH.cons rfl (fun K hK => ?_) AllReadyH.nil)
  · go_simp
    refine Calls.mono (HGT.out _ HB2.out.1.drew) ?_
    rintro e w3 ⟨rfl, hb⟩
    have HB3 : Hid (Below w.heap.size w w3 ∧ w.heap.size ≤ w1.heap.size) := ⟨HB2.out.1.drew.trans (hb.mono HB2.out.1.drew.size), HB2.out.2⟩
    have HR3 : Hid (RS w1.heap.size rb ro tp k w3) := (HR2.out.below (Below.refl _ _).drew).below hb
    clear hb HGT HB2 HR2
    refine hK.out _ _ ?_ (fun hHeld => ?_)
    · exact HR3.out
    (try clear hK K)
    refine wpAnyH_take (i := 6) (v := ?_) rfl (by kernel_rfl) (by kernel_rfl) (by kernel_rfl) (fun _ _ _ h => h) (Or.inl ⟨by rfl, ?_⟩) (by assumption) ?_
    rotate_left
    · intro w hSw; (try dsimp only at hSw); go_simp; (try with_reducible rfl)
    (try simp only [Act.put, List.getElem_toArray, List.getElem_cons_succ, List.getElem_cons_zero, List.setIfInBounds_toArray, List.set_cons_zero, List.set_cons_succ])
    refine wpAnyH_take (i := 7) (v := ?_) rfl (by kernel_rfl) (by kernel_rfl) (by kernel_rfl) (fun _ _ _ h => h) (Or.inl ⟨by rfl, ?_⟩) (by assumption) ?_
    rotate_left
    · intro w hSw; (try dsimp only at hSw); go_simp; (try with_reducible rfl)
    (try simp only [Act.put, List.getElem_toArray, List.getElem_cons_succ, List.getElem_cons_zero, List.setIfInBounds_toArray, List.set_cons_zero, List.set_cons_succ])
    refine wpAnyH_take (i := 8) (v := ?_) rfl (by kernel_rfl) (by kernel_rfl) (by kernel_rfl) (fun _ _ _ h => h) (Or.inl ⟨by rfl, ?_⟩) (by assumption) ?_
    rotate_left
    · intro w hSw; (try dsimp only at hSw); go_simp; (try with_reducible rfl)
    (try simp only [Act.put, List.getElem_toArray, List.getElem_cons_succ, List.getElem_cons_zero, List.setIfInBounds_toArray, List.set_cons_zero, List.set_cons_succ])
    (try clear hK K)
    refine wpAnyH_ready (rs := [9]) (by kernel_rfl) (by simp) ?_
    refine AllReadyH.cons rfl (fun K hK => ?_) AllReadyH.nil
    (go_simp; (try clear hHeld))
    have HX : Hid ((w3.alloc zobj).heap[w3.heap.size]? = some zobj ∧ w.heap.size ≤ w3.heap.size ∧ ¬ w1.heap.size = w3.heap.size ∧ ¬ rb = w3.heap.size) := by
      have h1 := World.block_lt_of_cell? w3 _ HR3.out.1
      have h2 := World.block_lt_of_cell? w3 _ HR3.out.2.1
      exact ⟨heap_new _ _ _ rfl, HB3.out.1.size, Nat.ne_of_lt h1, Nat.ne_of_lt h2⟩
    have HB4 : Hid (Below w.heap.size w (w3.alloc zobj) ∧ w.heap.size ≤ w1.heap.size) := ⟨HB3.out.1.alloc HB3.out.1.size _, HB3.out.2⟩
    have HR4 : Hid (RS w1.heap.size rb ro tp k (w3.alloc zobj)) := HR3.out.below (alloc1 _ _)
    clear HB3 HR3
    refine hK.out _ _ ?_ (fun hHeld => ?_)
    · exact HR4.out
    (try clear hK K)
    refine wpAnyH_ready (rs := [10]) (by kernel_rfl) (by simp) ?_
    refine AllReadyH.cons rfl (fun K hK => ?_) AllReadyH.nil
    (refine stepH_pstore rfl _ _ rfl (w3.heap.size) (vcells pl) (vcells Pl.zero) rfl rfl HPC.out HZL.out HX.out.1 ?_; intro wz hz1 hz2; have HBz : Hid (Below w.heap.size w wz ∧ w.heap.size ≤ w1.heap.size) := ⟨HB4.out.1.trans (hz2.below HB4.out.1.size fun j hj e => by have := HX.out.2.1; omega), HB4.out.2⟩; have HRz : Hid (RS w1.heap.size rb ro tp k wz) := HR4.out.sv hz2 HX.out.2.2.1 HX.out.2.2.2; have HZ : Hid (wz.heap[w3.heap.size]? = some (.cells (vcells pl).toArray 74 (0, 0)) ∧ w.heap.size ≤ w3.heap.size) := ⟨hz1, HX.out.2.1⟩; clear hz1 hz2 HX HB4 HR4; refine hK.out _ _ ?_ (fun hHeld => ?_))
    · exact HRz.out
    (try clear hK K)
    refine wpAnyH_take (i := 11) (v := ?_) rfl (by kernel_rfl) (by kernel_rfl) (by kernel_rfl) (fun _ _ _ h => h) (Or.inl ⟨by rfl, ?_⟩) (by assumption) ?_
    rotate_left
    · intro w hSw; (try dsimp only at hSw); go_simp; (try with_reducible rfl)
    (try simp only [Act.put, List.getElem_toArray, List.getElem_cons_succ, List.getElem_cons_zero, List.setIfInBounds_toArray, List.set_cons_zero, List.set_cons_succ])
    (try clear hK K)
    refine wpAnyH_done (by kernel_rfl) ?_ _
    clear hHeld
    go_wp2_with (first | (refine step_ploadW _ rfl (w3.heap.size) 0 rfl (vcells pl) (range_heap HZ.out.1) HPC.out (by rfl) ?_) | fail)
    refine Calls.mono (HHR.out _) ?_
    rintro e w6 ⟨rfl, hb⟩
    have HB6 : Hid (Below w.heap.size w w6 ∧ w.heap.size ≤ w1.heap.size) := ⟨HBz.out.1.trans (hb.mono HBz.out.1.size), HBz.out.2⟩
    have HR6 : Hid (RS w1.heap.size rb ro tp k w6) := HRz.out.below hb
    have HZ6 : Hid (w6.heap[w3.heap.size]? = some (.cells (vcells pl).toArray 74 (0, 0)) ∧ w.heap.size ≤ w3.heap.size) := ⟨heap_below HZ.out.1 hb, HZ.out.2⟩
    clear hb HZ HBz HRz HHR
    have c1 : w6.cell? ⟨p, 1, none⟩ = some (.int .i64 room) := cell_below HC1.out HB6.out.1
    have HC6 : Hid (∀ wq, Below w6.heap.size w6 wq → wq.cell? ⟨p, 1, none⟩ = some (.int .i64 room)) := fun wq hb => cell_below c1 hb
    clear c1
    go_wp2_with fail
    refine wp_region_held_drew (S := fun w' => w'.cell? ⟨p, 1, none⟩ = some (.int .i64 room)) (by kernel_rfl) ?_ (fun hHeld => ?_)
    · exact HC6.out _ (Below.refl _ _).drew
    (try clear hK K)
    refine wpAnyH_take (i := 0) (v := ?_) rfl (by kernel_rfl) (by kernel_rfl) (by kernel_rfl) (fun _ _ _ h => h) (Or.inl ⟨by rfl, ?_⟩) (by assumption) ?_
    rotate_left
    · intro w hSw; (try dsimp only at hSw); go_simp; (try with_reducible rfl)
    (try simp only [Act.put, List.getElem_toArray, List.getElem_cons_zero, List.setIfInBounds_toArray, List.set_cons_zero, List.set_cons_succ])
    refine wpAnyH_take (i := 1) (v := ?_) rfl (by kernel_rfl) (by kernel_rfl) (by kernel_rfl) (fun _ _ _ h => h) (Or.inl ⟨by rfl, ?_⟩) (by assumption) ?_
    rotate_left
    · intro w hSw; (try dsimp only at hSw); go_simp; (try with_reducible rfl)
    (try simp only [Act.put, List.getElem_toArray, List.getElem_cons_succ, List.getElem_cons_zero, List.setIfInBounds_toArray, List.set_cons_zero, List.set_cons_succ])
    refine wpAnyH_take (i := 2) (v := ?_) rfl (by kernel_rfl) (by kernel_rfl) (by kernel_rfl) (fun _ _ _ h => h) (Or.inl ⟨by rfl, ?_⟩) (by assumption) ?_
    rotate_left
    · intro w hSw; (try dsimp only at hSw); go_simp; (try with_reducible rfl)
    (try simp only [Act.put, List.getElem_toArray, List.getElem_cons_succ, List.getElem_cons_zero, List.setIfInBounds_toArray, List.set_cons_zero, List.set_cons_succ])
    refine wpAnyH_take (i := 3) (v := ?_) rfl (by kernel_rfl) (by kernel_rfl) (by kernel_rfl) (fun _ _ _ h => h) (Or.inl ⟨by rfl, ?_⟩) (by assumption) ?_
    rotate_left
    · intro w hSw; (try dsimp only at hSw); go_simp; (try with_reducible rfl)
    (try simp only [Act.put, List.getElem_toArray, List.getElem_cons_succ, List.getElem_cons_zero, List.setIfInBounds_toArray, List.set_cons_zero, List.set_cons_succ])
    refine wpAnyH_take (i := 5) (v := ?_) rfl (by kernel_rfl) (by kernel_rfl) (by kernel_rfl) (fun _ _ _ h => h) (Or.inl ⟨by rfl, ?_⟩) (by assumption) ?_
    rotate_left
    · intro w hSw; (try dsimp only at hSw); go_simp; (try with_reducible rfl)
    (try simp only [Act.put, List.getElem_toArray, List.getElem_cons_succ, List.getElem_cons_zero, List.setIfInBounds_toArray, List.set_cons_zero, List.set_cons_succ])
    refine wpAnyH_take (i := 6) (v := ?_) rfl (by kernel_rfl) (by kernel_rfl) (by kernel_rfl) (fun _ _ _ h => h) (Or.inl ⟨by rfl, ?_⟩) (by assumption) ?_
    rotate_left
    · intro w hSw; (try dsimp only at hSw); go_simp; (try with_reducible rfl)
    (try simp only [Act.put, List.getElem_toArray, List.getElem_cons_succ, List.getElem_cons_zero, List.setIfInBounds_toArray, List.set_cons_zero, List.set_cons_succ])
    refine wpAnyH_take (i := 7) (v := ?_) rfl (by kernel_rfl) (by kernel_rfl) (by kernel_rfl) (fun _ _ _ h => h) (Or.inl ⟨by rfl, ?_⟩) (by assumption) ?_
    rotate_left
    · intro w hSw; (try dsimp only at hSw); go_simp; (try with_reducible rfl)
    (try simp only [Act.put, List.getElem_toArray, List.getElem_cons_succ, List.getElem_cons_zero, List.setIfInBounds_toArray, List.set_cons_zero, List.set_cons_succ])
    refine wpAnyH_take (i := 8) (v := ?_) rfl (by kernel_rfl) (by kernel_rfl) (by kernel_rfl) (fun _ _ _ h => h) (Or.inl ⟨by rfl, ?_⟩) (by assumption) ?_
    rotate_left
    · intro w hSw; (try dsimp only at hSw); go_simp; (try with_reducible rfl)
    (try simp only [Act.put, List.getElem_toArray, List.getElem_cons_succ, List.getElem_cons_zero, List.setIfInBounds_toArray, List.set_cons_zero, List.set_cons_succ])
    (try clear hK K)
    refine wpAnyH_ready (rs := [4]) (by kernel_rfl) (by simp) ?_
    refine AllReadyH.cons rfl (fun K hK => ?_) AllReadyH.nil
    go_simp
    (refine Calls.mono (HUS.out _ HB6.out.1.drew) ?_; rintro e wu ⟨rfl, hb⟩)
    refine hK.out _ _ ?_ (fun hHeld => ?_)
    · exact HC6.out _ ((Below.refl _ _).drew.trans hb)
    have HBu : Hid (Below w.heap.size w wu ∧ w.heap.size ≤ w1.heap.size) := ⟨HB6.out.1.drew.trans (hb.mono (by simpa using HB6.out.1.size)), HB6.out.2⟩
    have HRu : Hid (RS w1.heap.size rb ro tp k wu) := HR6.out.below ((Below.refl _ _).drew.trans hb)
    clear hb HB6 HR6 HZ6 HUS HC6 HC1
    (try clear hK K)
    refine wpAnyH_take (i := 9) (v := ?_) rfl (by kernel_rfl) (by kernel_rfl) (by kernel_rfl) (fun _ _ _ h => h) (Or.inl ⟨by rfl, ?_⟩) (by assumption) ?_
    rotate_left
    · intro w hSw; (try dsimp only at hSw); go_simp; (try with_reducible rfl)
    (try simp only [Act.put, List.getElem_toArray, List.getElem_cons_succ, List.getElem_cons_zero, List.setIfInBounds_toArray, List.set_cons_zero, List.set_cons_succ])
    refine wpAnyH_take (i := 10) (v := ?_) rfl (by kernel_rfl) (by kernel_rfl) (by kernel_rfl) (fun _ _ _ h => h) (Or.inl ⟨by rfl, ?_⟩) (by assumption) ?_
    rotate_left
    · intro w hSw; (try dsimp only at hSw); go_simp; (try with_reducible rfl)
    (try simp only [Act.put, List.getElem_toArray, List.getElem_cons_succ, List.getElem_cons_zero, List.setIfInBounds_toArray, List.set_cons_zero, List.set_cons_succ])
    refine wpAnyH_take (i := 11) (v := ?_) rfl (by kernel_rfl) (by kernel_rfl) (by kernel_rfl) (fun _ _ _ h => h) (Or.inl ⟨by rfl, ?_⟩) (by assumption) ?_
    rotate_left
    · intro w hSw; (try dsimp only at hSw); go_simp; (try with_reducible rfl)
    (try simp only [Act.put, List.getElem_toArray, List.getElem_cons_succ, List.getElem_cons_zero, List.setIfInBounds_toArray, List.set_cons_zero, List.set_cons_succ])
    (try clear hK K)
    refine wpAnyH_done (by kernel_rfl) ?_ _
    (try clear hHeld)
    have HB9 : Hid _ := HBu.out
    have c2 : wu.cell? ⟨p, 2, none⟩ = some (.int .i64 last) := cell_below HC2.out.1 HB9.out.1
    have f2 : wu.frozen? ⟨p, 2, none⟩ = false := (World.frozen?_of_block (HB9.out.1.block p HC2.out.2.2.1)).trans HC2.out.2.1
    have HS : Hid (Sv (fun j => j = p) wu (wu.setCell ⟨p, 2, none⟩ (.int .i64 (last + 1)))) := Sv.set (X := fun j => j = p) (Sv.refl _ _) (a := ⟨p, 2, none⟩) rfl _
    have HR9 : Hid (RS w1.heap.size rb ro tp k (wu.setCell ⟨p, 2, none⟩ (.int .i64 (last + 1)))) := HRu.out.sv HS.out (by have := HC2.out.2.2.1; have := HB9.out.2; omega) HC2.out.2.2.2
    have HL9 : Hid ((wu.setCell ⟨p, 2, none⟩ (.int .i64 (last + 1))).cell? ⟨p, 2, none⟩ = some (.int .i64 (last + 1))) := World.cell?_setCell_same _ _ _ c2
    go_wp2_with fail
    clear c2 f2 HS HRu HBu
    refine wp_region_held_drew (S := fun w' => w'.cell? ⟨w1.heap.size, 1, none⟩ = some (.pointer tp) ∧ w'.cell? ⟨rb, ro, none⟩ = some (.bool k.t) ∧ w'.cell? ⟨rb, ro + 1, none⟩ = some (.int .i64 k.n) ∧ w'.cell? ⟨rb, ro + 2, none⟩ = some (.string k.s) ∧ w'.cell? ⟨p, 2, none⟩ = some (.int .i64 (last + 1))) (by kernel_rfl) ?_ (fun hHeld => ?_)
    · have := HR9.out.below (Below.refl _ _).drew; exact ⟨this.1, this.2.1, this.2.2.1, this.2.2.2, cell_below HL9.out (Below.refl _ _).drew⟩
    (try clear hK K)
    refine wpAnyH_take (i := 0) (v := ?_) rfl (by kernel_rfl) (by kernel_rfl) (by kernel_rfl) (fun _ _ _ h => h) (Or.inl ⟨by rfl, ?_⟩) (by assumption) ?_
    rotate_left
    · intro w hSw; (try dsimp only at hSw); go_simp; (try with_reducible rfl)
    (try simp only [Act.put, List.getElem_toArray, List.getElem_cons_zero, List.setIfInBounds_toArray, List.set_cons_zero, List.set_cons_succ])
    refine wpAnyH_take (i := 1) (v := ?_) rfl (by kernel_rfl) (by kernel_rfl) (by kernel_rfl) (fun _ _ _ h => h) (Or.inl ⟨by rfl, ?_⟩) (by assumption) ?_
    rotate_left
    · intro w hSw; (try dsimp only at hSw); go_simp; (try with_reducible rfl)
    (try simp only [Act.put, List.getElem_toArray, List.getElem_cons_succ, List.getElem_cons_zero, List.setIfInBounds_toArray, List.set_cons_zero, List.set_cons_succ])
    refine wpAnyH_take (i := 2) (v := ?_) rfl (by kernel_rfl) (by kernel_rfl) (by kernel_rfl) (fun _ _ _ h => h) (Or.inl ⟨by rfl, ?_⟩) (by assumption) ?_
    rotate_left
    · intro w hSw; (try dsimp only at hSw); go_simp; (try with_reducible rfl)
    (try simp only [Act.put, List.getElem_toArray, List.getElem_cons_succ, List.getElem_cons_zero, List.setIfInBounds_toArray, List.set_cons_zero, List.set_cons_succ])
    refine wpAnyH_take (i := 3) (v := ?_) rfl (by kernel_rfl) (by kernel_rfl) (by kernel_rfl) (fun _ _ _ h => h) (Or.inl ⟨by rfl, ?_⟩) (by assumption) ?_
    rotate_left
    · intro w hSw; (try dsimp only at hSw); go_simp; (try with_reducible rfl)
    (try simp only [Act.put, List.getElem_toArray, List.getElem_cons_succ, List.getElem_cons_zero, List.setIfInBounds_toArray, List.set_cons_zero, List.set_cons_succ])
    refine wpAnyH_take (i := 4) (v := ?_) rfl (by kernel_rfl) (by kernel_rfl) (by kernel_rfl) (fun _ _ _ h => h) (Or.inl ⟨by rfl, ?_⟩) (by assumption) ?_
    rotate_left
    · intro w hSw; (try dsimp only at hSw); go_simp; (try with_reducible rfl)
    (try simp only [Act.put, List.getElem_toArray, List.getElem_cons_succ, List.getElem_cons_zero, List.setIfInBounds_toArray, List.set_cons_zero, List.set_cons_succ])
    refine wpAnyH_take (i := 5) (v := ?_) rfl (by kernel_rfl) (by kernel_rfl) (by kernel_rfl) (fun _ _ _ h => h) (Or.inl ⟨by rfl, ?_⟩) (by assumption) ?_
    rotate_left
    · intro w hSw; (try dsimp only at hSw); go_simp; (try with_reducible rfl)
    (try simp only [Act.put, List.getElem_toArray, List.getElem_cons_succ, List.getElem_cons_zero, List.setIfInBounds_toArray, List.set_cons_zero, List.set_cons_succ])
    refine wpAnyH_take (i := 6) (v := ?_) rfl (by kernel_rfl) (by kernel_rfl) (by kernel_rfl) (fun _ _ _ h => h) (Or.inl ⟨by rfl, ?_⟩) (by assumption) ?_
    rotate_left
    · intro w hSw; (try dsimp only at hSw); go_simp; (try with_reducible rfl)
    (try simp only [Act.put, List.getElem_toArray, List.getElem_cons_succ, List.getElem_cons_zero, List.setIfInBounds_toArray, List.set_cons_zero, List.set_cons_succ])
    refine wpAnyH_take (i := 7) (v := ?_) rfl (by kernel_rfl) (by kernel_rfl) (by kernel_rfl) (fun _ _ _ h => h) (Or.inl ⟨by rfl, ?_⟩) (by assumption) ?_
    rotate_left
    · intro w hSw; (try dsimp only at hSw); go_simp; (try with_reducible rfl)
    (try simp only [Act.put, List.getElem_toArray, List.getElem_cons_succ, List.getElem_cons_zero, List.setIfInBounds_toArray, List.set_cons_zero, List.set_cons_succ])
    refine wpAnyH_take (i := 8) (v := ?_) rfl (by kernel_rfl) (by kernel_rfl) (by kernel_rfl) (fun _ _ _ h => h) (Or.inl ⟨by rfl, ?_⟩) (by assumption) ?_
    rotate_left
    · intro w hSw; (try dsimp only at hSw); go_simp; (try with_reducible rfl)
    (try simp only [Act.put, List.getElem_toArray, List.getElem_cons_succ, List.getElem_cons_zero, List.setIfInBounds_toArray, List.set_cons_zero, List.set_cons_succ])
    refine wpAnyH_take (i := 9) (v := ?_) rfl (by kernel_rfl) (by kernel_rfl) (by kernel_rfl) (fun _ _ _ h => h) (Or.inl ⟨by rfl, ?_⟩) (by assumption) ?_
    rotate_left
    · intro w hSw; (try dsimp only at hSw); go_simp; (try with_reducible rfl)
    (try simp only [Act.put, List.getElem_toArray, List.getElem_cons_succ, List.getElem_cons_zero, List.setIfInBounds_toArray, List.set_cons_zero, List.set_cons_succ])
    (try clear hK K)
    refine wpAnyH_ready (rs := [10]) (by kernel_rfl) (by simp) ?_
    refine AllReadyH.cons rfl (fun K hK => ?_) AllReadyH.nil
    go_simp
    (refine Calls.mono (HTK.out _ wu HB9.out.1 (Below.refl _ _).drew) ?_; rintro e w7 ⟨rfl, hb⟩)
    refine hK.out _ _ ?_ (fun hHeld => ?_)
    · have := HR9.out.below ((Below.refl _ _).drew.trans hb); exact ⟨this.1, this.2.1, this.2.2.1, this.2.2.2, cell_below HL9.out ((Below.refl _ _).drew.trans hb)⟩
    have HB7 : Hid (Below (wu.setCell ⟨p, 2, none⟩ (.int .i64 (last + 1))).heap.size (wu.setCell ⟨p, 2, none⟩ (.int .i64 (last + 1))) w7 ∧ w.heap.size ≤ wu.heap.size) := ⟨(Below.refl _ _).drew.trans hb, HB9.out.1.size⟩
    have HR7 : Hid (RS w1.heap.size rb ro tp k w7) := HR9.out.below ((Below.refl _ _).drew.trans hb)
    have HL7 : Hid (w7.cell? ⟨p, 2, none⟩ = some (.int .i64 (last + 1))) := cell_below HL9.out ((Below.refl _ _).drew.trans hb)
    clear hb HR9 HL9 HTK
    (try clear hK K)
    refine wpAnyH_ready (rs := [11]) (by kernel_rfl) (by simp) ?_
    refine AllReadyH.cons rfl (fun K hK => ?_) AllReadyH.nil
    go_simp
    (refine Calls.mono (HPU.out _ _ HB9.out.1 HB7.out.1) ?_; rintro e w8 ⟨⟨pb, rfl⟩, hsv, hrr⟩)
    refine hK.out _ _ ?_ (fun hHeld => ?_)
    · have := HR7.out.sv hsv (fun h => by have := HXX.out.1 _ h; have := HB9.out.2; omega) HXX.out.2.1; exact ⟨this.1, this.2.1, this.2.2.1, this.2.2.2, by rw [hsv.cell (World.block_lt_of_cell? _ _ HL7.out) HXX.out.2.2]; exact HL7.out⟩
    have c2 : w8.cell? ⟨p, 2, none⟩ = some (.int .i64 (last + 1)) := by rw [hsv.cell (World.block_lt_of_cell? _ _ HL7.out) HXX.out.2.2]; exact HL7.out
    have HE : Hid (R w7 w8) := hrr
    clear hsv hrr HR7 HL7 HPU HXX
    (try clear hK K)
    refine wpAnyH_done (by kernel_rfl) ?_ _
    (try clear hHeld)
    go_wp2_with fail
    go_ret2
    exact ⟨rfl, wu, w7, w8, HB9.out.1, HB7.out.1, HE.out, Below.refl _ _⟩
  · go_simp
    have HX0 : Hid ((w2.drew.alloc zobj).heap[w2.heap.size]? = some zobj ∧ w.heap.size ≤ w2.heap.size ∧ ¬ w1.heap.size = w2.heap.size ∧ ¬ rb = w2.heap.size) := by
      have h1 := World.block_lt_of_cell? w2 _ HR2.out.1
      have h2 := World.block_lt_of_cell? w2 _ HR2.out.2.1
      exact ⟨heap_new _ _ _ (by simp), HB2.out.1.size, Nat.ne_of_lt h1, Nat.ne_of_lt h2⟩
    have HB5 : Hid (Below w.heap.size w (w2.drew.alloc zobj) ∧ w.heap.size ≤ w1.heap.size) := ⟨HB2.out.1.drew.alloc (by simpa using HB2.out.1.size) _, HB2.out.2⟩
    have HR5 : Hid (RS w1.heap.size rb ro tp k (w2.drew.alloc zobj)) := HR2.out.below ((Below.refl _ _).drew.alloc (by simp) _)
    refine hK.out _ _ ?_ (fun hHeld => ?_)
    · exact HR5.out
    (try clear hK K)
    refine wpAnyH_ready (rs := [5]) (by kernel_rfl) (by simp) ?_
    refine AllReadyH.cons rfl (fun K hK => ?_) AllReadyH.nil
    (go_simp)
    refine Calls.mono (HGT.out _ HB5.out.1) ?_
    rintro e w3 ⟨rfl, hb⟩
    have HB3 : Hid (Below w.heap.size w w3 ∧ w.heap.size ≤ w1.heap.size) := ⟨HB5.out.1.trans (hb.mono HB5.out.1.size), HB2.out.2⟩
    have HR3 : Hid (RS w1.heap.size rb ro tp k w3) := (HR5.out).below hb
    have HX : Hid (w3.heap[w2.heap.size]? = some zobj ∧ w.heap.size ≤ w2.heap.size ∧ ¬ w1.heap.size = w2.heap.size ∧ ¬ rb = w2.heap.size) := ⟨heap_below HX0.out.1 hb, HX0.out.2⟩
    clear hb HGT HB2 HR2 HB5 HR5 HX0
    refine hK.out _ _ ?_ (fun hHeld => ?_)
    · exact HR3.out
    (try clear hK K)
    refine wpAnyH_take (i := 6) (v := ?_) rfl (by kernel_rfl) (by kernel_rfl) (by kernel_rfl) (fun _ _ _ h => h) (Or.inl ⟨by rfl, ?_⟩) (by assumption) ?_
    rotate_left
    · intro w hSw; (try dsimp only at hSw); go_simp; (try with_reducible rfl)
    (try simp only [Act.put, List.getElem_toArray, List.getElem_cons_succ, List.getElem_cons_zero, List.setIfInBounds_toArray, List.set_cons_zero, List.set_cons_succ])
    refine wpAnyH_take (i := 7) (v := ?_) rfl (by kernel_rfl) (by kernel_rfl) (by kernel_rfl) (fun _ _ _ h => h) (Or.inl ⟨by rfl, ?_⟩) (by assumption) ?_
    rotate_left
    · intro w hSw; (try dsimp only at hSw); go_simp; (try with_reducible rfl)
    (try simp only [Act.put, List.getElem_toArray, List.getElem_cons_succ, List.getElem_cons_zero, List.setIfInBounds_toArray, List.set_cons_zero, List.set_cons_succ])
    refine wpAnyH_take (i := 8) (v := ?_) rfl (by kernel_rfl) (by kernel_rfl) (by kernel_rfl) (fun _ _ _ h => h) (Or.inl ⟨by rfl, ?_⟩) (by assumption) ?_
    rotate_left
    · intro w hSw; (try dsimp only at hSw); go_simp; (try with_reducible rfl)
    (try simp only [Act.put, List.getElem_toArray, List.getElem_cons_succ, List.getElem_cons_zero, List.setIfInBounds_toArray, List.set_cons_zero, List.set_cons_succ])
    (try clear hK K)
    refine wpAnyH_ready (rs := [10]) (by kernel_rfl) (by simp) ?_
    refine AllReadyH.cons rfl (fun K hK => ?_) AllReadyH.nil
    (refine stepH_pstore rfl _ _ rfl (w2.heap.size) (vcells pl) (vcells Pl.zero) rfl rfl HPC.out HZL.out HX.out.1 ?_; intro wz hz1 hz2; have HBz : Hid (Below w.heap.size w wz ∧ w.heap.size ≤ w1.heap.size) := ⟨HB3.out.1.trans (hz2.below HB3.out.1.size fun j hj e => by have := HX.out.2.1; omega), HB3.out.2⟩; have HRz : Hid (RS w1.heap.size rb ro tp k wz) := HR3.out.sv hz2 HX.out.2.2.1 HX.out.2.2.2; have HZ : Hid (wz.heap[w2.heap.size]? = some (.cells (vcells pl).toArray 74 (0, 0)) ∧ w.heap.size ≤ w2.heap.size) := ⟨hz1, HX.out.2.1⟩; clear hz1 hz2 HX HB3 HR3; refine hK.out _ _ ?_ (fun hHeld => ?_))
    · exact HRz.out
    (try clear hK K)
    refine wpAnyH_take (i := 11) (v := ?_) rfl (by kernel_rfl) (by kernel_rfl) (by kernel_rfl) (fun _ _ _ h => h) (Or.inl ⟨by rfl, ?_⟩) (by assumption) ?_
    rotate_left
    · intro w hSw; (try dsimp only at hSw); go_simp; (try with_reducible rfl)
    (try simp only [Act.put, List.getElem_toArray, List.getElem_cons_succ, List.getElem_cons_zero, List.setIfInBounds_toArray, List.set_cons_zero, List.set_cons_succ])
    (try clear hK K)
    refine wpAnyH_done (by kernel_rfl) ?_ _
    clear hHeld
    go_wp2_with (first | (refine step_ploadW _ rfl (w2.heap.size) 0 rfl (vcells pl) (range_heap HZ.out.1) HPC.out (by rfl) ?_) | fail)
    refine Calls.mono (HHR.out _) ?_
    rintro e w6 ⟨rfl, hb⟩
    have HB6 : Hid (Below w.heap.size w w6 ∧ w.heap.size ≤ w1.heap.size) := ⟨HBz.out.1.trans (hb.mono HBz.out.1.size), HBz.out.2⟩
    have HR6 : Hid (RS w1.heap.size rb ro tp k w6) := HRz.out.below hb
    have HZ6 : Hid (w6.heap[w2.heap.size]? = some (.cells (vcells pl).toArray 74 (0, 0)) ∧ w.heap.size ≤ w2.heap.size) := ⟨heap_below HZ.out.1 hb, HZ.out.2⟩
    clear hb HZ HBz HRz HHR
    have c1 : w6.cell? ⟨p, 1, none⟩ = some (.int .i64 room) := cell_below HC1.out HB6.out.1
    have HC6 : Hid (∀ wq, Below w6.heap.size w6 wq → wq.cell? ⟨p, 1, none⟩ = some (.int .i64 room)) := fun wq hb => cell_below c1 hb
    clear c1
    go_wp2_with fail
    refine wp_region_held_drew (S := fun w' => w'.cell? ⟨p, 1, none⟩ = some (.int .i64 room)) (by kernel_rfl) ?_ (fun hHeld => ?_)
    · exact HC6.out _ (Below.refl _ _).drew
    (try clear hK K)
    refine wpAnyH_take (i := 0) (v := ?_) rfl (by kernel_rfl) (by kernel_rfl) (by kernel_rfl) (fun _ _ _ h => h) (Or.inl ⟨by rfl, ?_⟩) (by assumption) ?_
    rotate_left
    · intro w hSw; (try dsimp only at hSw); go_simp; (try with_reducible rfl)
    (try simp only [Act.put, List.getElem_toArray, List.getElem_cons_zero, List.setIfInBounds_toArray, List.set_cons_zero, List.set_cons_succ])
    refine wpAnyH_take (i := 1) (v := ?_) rfl (by kernel_rfl) (by kernel_rfl) (by kernel_rfl) (fun _ _ _ h => h) (Or.inl ⟨by rfl, ?_⟩) (by assumption) ?_
    rotate_left
    · intro w hSw; (try dsimp only at hSw); go_simp; (try with_reducible rfl)
    (try simp only [Act.put, List.getElem_toArray, List.getElem_cons_succ, List.getElem_cons_zero, List.setIfInBounds_toArray, List.set_cons_zero, List.set_cons_succ])
    refine wpAnyH_take (i := 2) (v := ?_) rfl (by kernel_rfl) (by kernel_rfl) (by kernel_rfl) (fun _ _ _ h => h) (Or.inl ⟨by rfl, ?_⟩) (by assumption) ?_
    rotate_left
    · intro w hSw; (try dsimp only at hSw); go_simp; (try with_reducible rfl)
    (try simp only [Act.put, List.getElem_toArray, List.getElem_cons_succ, List.getElem_cons_zero, List.setIfInBounds_toArray, List.set_cons_zero, List.set_cons_succ])
    refine wpAnyH_take (i := 3) (v := ?_) rfl (by kernel_rfl) (by kernel_rfl) (by kernel_rfl) (fun _ _ _ h => h) (Or.inl ⟨by rfl, ?_⟩) (by assumption) ?_
    rotate_left
    · intro w hSw; (try dsimp only at hSw); go_simp; (try with_reducible rfl)
    (try simp only [Act.put, List.getElem_toArray, List.getElem_cons_succ, List.getElem_cons_zero, List.setIfInBounds_toArray, List.set_cons_zero, List.set_cons_succ])
    refine wpAnyH_take (i := 5) (v := ?_) rfl (by kernel_rfl) (by kernel_rfl) (by kernel_rfl) (fun _ _ _ h => h) (Or.inl ⟨by rfl, ?_⟩) (by assumption) ?_
    rotate_left
    · intro w hSw; (try dsimp only at hSw); go_simp; (try with_reducible rfl)
    (try simp only [Act.put, List.getElem_toArray, List.getElem_cons_succ, List.getElem_cons_zero, List.setIfInBounds_toArray, List.set_cons_zero, List.set_cons_succ])
    refine wpAnyH_take (i := 6) (v := ?_) rfl (by kernel_rfl) (by kernel_rfl) (by kernel_rfl) (fun _ _ _ h => h) (Or.inl ⟨by rfl, ?_⟩) (by assumption) ?_
    rotate_left
    · intro w hSw; (try dsimp only at hSw); go_simp; (try with_reducible rfl)
    (try simp only [Act.put, List.getElem_toArray, List.getElem_cons_succ, List.getElem_cons_zero, List.setIfInBounds_toArray, List.set_cons_zero, List.set_cons_succ])
    refine wpAnyH_take (i := 7) (v := ?_) rfl (by kernel_rfl) (by kernel_rfl) (by kernel_rfl) (fun _ _ _ h => h) (Or.inl ⟨by rfl, ?_⟩) (by assumption) ?_
    rotate_left
    · intro w hSw; (try dsimp only at hSw); go_simp; (try with_reducible rfl)
    (try simp only [Act.put, List.getElem_toArray, List.getElem_cons_succ, List.getElem_cons_zero, List.setIfInBounds_toArray, List.set_cons_zero, List.set_cons_succ])
    refine wpAnyH_take (i := 8) (v := ?_) rfl (by kernel_rfl) (by kernel_rfl) (by kernel_rfl) (fun _ _ _ h => h) (Or.inl ⟨by rfl, ?_⟩) (by assumption) ?_
    rotate_left
    · intro w hSw; (try dsimp only at hSw); go_simp; (try with_reducible rfl)
    (try simp only [Act.put, List.getElem_toArray, List.getElem_cons_succ, List.getElem_cons_zero, List.setIfInBounds_toArray, List.set_cons_zero, List.set_cons_succ])
    (try clear hK K)
    refine wpAnyH_ready (rs := [4]) (by kernel_rfl) (by simp) ?_
    refine AllReadyH.cons rfl (fun K hK => ?_) AllReadyH.nil
    go_simp
    (refine Calls.mono (HUS.out _ HB6.out.1.drew) ?_; rintro e wu ⟨rfl, hb⟩)
    refine hK.out _ _ ?_ (fun hHeld => ?_)
    · exact HC6.out _ ((Below.refl _ _).drew.trans hb)
    have HBu : Hid (Below w.heap.size w wu ∧ w.heap.size ≤ w1.heap.size) := ⟨HB6.out.1.drew.trans (hb.mono (by simpa using HB6.out.1.size)), HB6.out.2⟩
    have HRu : Hid (RS w1.heap.size rb ro tp k wu) := HR6.out.below ((Below.refl _ _).drew.trans hb)
    clear hb HB6 HR6 HZ6 HUS HC6 HC1
    (try clear hK K)
    refine wpAnyH_take (i := 9) (v := ?_) rfl (by kernel_rfl) (by kernel_rfl) (by kernel_rfl) (fun _ _ _ h => h) (Or.inl ⟨by rfl, ?_⟩) (by assumption) ?_
    rotate_left
    · intro w hSw; (try dsimp only at hSw); go_simp; (try with_reducible rfl)
    (try simp only [Act.put, List.getElem_toArray, List.getElem_cons_succ, List.getElem_cons_zero, List.setIfInBounds_toArray, List.set_cons_zero, List.set_cons_succ])
    refine wpAnyH_take (i := 10) (v := ?_) rfl (by kernel_rfl) (by kernel_rfl) (by kernel_rfl) (fun _ _ _ h => h) (Or.inl ⟨by rfl, ?_⟩) (by assumption) ?_
    rotate_left
    · intro w hSw; (try dsimp only at hSw); go_simp; (try with_reducible rfl)
    (try simp only [Act.put, List.getElem_toArray, List.getElem_cons_succ, List.getElem_cons_zero, List.setIfInBounds_toArray, List.set_cons_zero, List.set_cons_succ])
    refine wpAnyH_take (i := 11) (v := ?_) rfl (by kernel_rfl) (by kernel_rfl) (by kernel_rfl) (fun _ _ _ h => h) (Or.inl ⟨by rfl, ?_⟩) (by assumption) ?_
    rotate_left
    · intro w hSw; (try dsimp only at hSw); go_simp; (try with_reducible rfl)
    (try simp only [Act.put, List.getElem_toArray, List.getElem_cons_succ, List.getElem_cons_zero, List.setIfInBounds_toArray, List.set_cons_zero, List.set_cons_succ])
    (try clear hK K)
    refine wpAnyH_done (by kernel_rfl) ?_ _
    (try clear hHeld)
    have HB9 : Hid _ := HBu.out
    have c2 : wu.cell? ⟨p, 2, none⟩ = some (.int .i64 last) := cell_below HC2.out.1 HB9.out.1
    have f2 : wu.frozen? ⟨p, 2, none⟩ = false := (World.frozen?_of_block (HB9.out.1.block p HC2.out.2.2.1)).trans HC2.out.2.1
    have HS : Hid (Sv (fun j => j = p) wu (wu.setCell ⟨p, 2, none⟩ (.int .i64 (last + 1)))) := Sv.set (X := fun j => j = p) (Sv.refl _ _) (a := ⟨p, 2, none⟩) rfl _
    have HR9 : Hid (RS w1.heap.size rb ro tp k (wu.setCell ⟨p, 2, none⟩ (.int .i64 (last + 1)))) := HRu.out.sv HS.out (by have := HC2.out.2.2.1; have := HB9.out.2; omega) HC2.out.2.2.2
    have HL9 : Hid ((wu.setCell ⟨p, 2, none⟩ (.int .i64 (last + 1))).cell? ⟨p, 2, none⟩ = some (.int .i64 (last + 1))) := World.cell?_setCell_same _ _ _ c2
    go_wp2_with fail
    clear c2 f2 HS HRu HBu
    refine wp_region_held_drew (S := fun w' => w'.cell? ⟨w1.heap.size, 1, none⟩ = some (.pointer tp) ∧ w'.cell? ⟨rb, ro, none⟩ = some (.bool k.t) ∧ w'.cell? ⟨rb, ro + 1, none⟩ = some (.int .i64 k.n) ∧ w'.cell? ⟨rb, ro + 2, none⟩ = some (.string k.s) ∧ w'.cell? ⟨p, 2, none⟩ = some (.int .i64 (last + 1))) (by kernel_rfl) ?_ (fun hHeld => ?_)
    · have := HR9.out.below (Below.refl _ _).drew; exact ⟨this.1, this.2.1, this.2.2.1, this.2.2.2, cell_below HL9.out (Below.refl _ _).drew⟩
    (try clear hK K)
    refine wpAnyH_take (i := 0) (v := ?_) rfl (by kernel_rfl) (by kernel_rfl) (by kernel_rfl) (fun _ _ _ h => h) (Or.inl ⟨by rfl, ?_⟩) (by assumption) ?_
    rotate_left
    · intro w hSw; (try dsimp only at hSw); go_simp; (try with_reducible rfl)
    (try simp only [Act.put, List.getElem_toArray, List.getElem_cons_zero, List.setIfInBounds_toArray, List.set_cons_zero, List.set_cons_succ])
    refine wpAnyH_take (i := 1) (v := ?_) rfl (by kernel_rfl) (by kernel_rfl) (by kernel_rfl) (fun _ _ _ h => h) (Or.inl ⟨by rfl, ?_⟩) (by assumption) ?_
    rotate_left
    · intro w hSw; (try dsimp only at hSw); go_simp; (try with_reducible rfl)
    (try simp only [Act.put, List.getElem_toArray, List.getElem_cons_succ, List.getElem_cons_zero, List.setIfInBounds_toArray, List.set_cons_zero, List.set_cons_succ])
    refine wpAnyH_take (i := 2) (v := ?_) rfl (by kernel_rfl) (by kernel_rfl) (by kernel_rfl) (fun _ _ _ h => h) (Or.inl ⟨by rfl, ?_⟩) (by assumption) ?_
    rotate_left
    · intro w hSw; (try dsimp only at hSw); go_simp; (try with_reducible rfl)
    (try simp only [Act.put, List.getElem_toArray, List.getElem_cons_succ, List.getElem_cons_zero, List.setIfInBounds_toArray, List.set_cons_zero, List.set_cons_succ])
    refine wpAnyH_take (i := 3) (v := ?_) rfl (by kernel_rfl) (by kernel_rfl) (by kernel_rfl) (fun _ _ _ h => h) (Or.inl ⟨by rfl, ?_⟩) (by assumption) ?_
    rotate_left
    · intro w hSw; (try dsimp only at hSw); go_simp; (try with_reducible rfl)
    (try simp only [Act.put, List.getElem_toArray, List.getElem_cons_succ, List.getElem_cons_zero, List.setIfInBounds_toArray, List.set_cons_zero, List.set_cons_succ])
    refine wpAnyH_take (i := 4) (v := ?_) rfl (by kernel_rfl) (by kernel_rfl) (by kernel_rfl) (fun _ _ _ h => h) (Or.inl ⟨by rfl, ?_⟩) (by assumption) ?_
    rotate_left
    · intro w hSw; (try dsimp only at hSw); go_simp; (try with_reducible rfl)
    (try simp only [Act.put, List.getElem_toArray, List.getElem_cons_succ, List.getElem_cons_zero, List.setIfInBounds_toArray, List.set_cons_zero, List.set_cons_succ])
    refine wpAnyH_take (i := 5) (v := ?_) rfl (by kernel_rfl) (by kernel_rfl) (by kernel_rfl) (fun _ _ _ h => h) (Or.inl ⟨by rfl, ?_⟩) (by assumption) ?_
    rotate_left
    · intro w hSw; (try dsimp only at hSw); go_simp; (try with_reducible rfl)
    (try simp only [Act.put, List.getElem_toArray, List.getElem_cons_succ, List.getElem_cons_zero, List.setIfInBounds_toArray, List.set_cons_zero, List.set_cons_succ])
    refine wpAnyH_take (i := 6) (v := ?_) rfl (by kernel_rfl) (by kernel_rfl) (by kernel_rfl) (fun _ _ _ h => h) (Or.inl ⟨by rfl, ?_⟩) (by assumption) ?_
    rotate_left
    · intro w hSw; (try dsimp only at hSw); go_simp; (try with_reducible rfl)
    (try simp only [Act.put, List.getElem_toArray, List.getElem_cons_succ, List.getElem_cons_zero, List.setIfInBounds_toArray, List.set_cons_zero, List.set_cons_succ])
    refine wpAnyH_take (i := 7) (v := ?_) rfl (by kernel_rfl) (by kernel_rfl) (by kernel_rfl) (fun _ _ _ h => h) (Or.inl ⟨by rfl, ?_⟩) (by assumption) ?_
    rotate_left
    · intro w hSw; (try dsimp only at hSw); go_simp; (try with_reducible rfl)
    (try simp only [Act.put, List.getElem_toArray, List.getElem_cons_succ, List.getElem_cons_zero, List.setIfInBounds_toArray, List.set_cons_zero, List.set_cons_succ])
    refine wpAnyH_take (i := 8) (v := ?_) rfl (by kernel_rfl) (by kernel_rfl) (by kernel_rfl) (fun _ _ _ h => h) (Or.inl ⟨by rfl, ?_⟩) (by assumption) ?_
    rotate_left
    · intro w hSw; (try dsimp only at hSw); go_simp; (try with_reducible rfl)
    (try simp only [Act.put, List.getElem_toArray, List.getElem_cons_succ, List.getElem_cons_zero, List.setIfInBounds_toArray, List.set_cons_zero, List.set_cons_succ])
    refine wpAnyH_take (i := 9) (v := ?_) rfl (by kernel_rfl) (by kernel_rfl) (by kernel_rfl) (fun _ _ _ h => h) (Or.inl ⟨by rfl, ?_⟩) (by assumption) ?_
    rotate_left
    · intro w hSw; (try dsimp only at hSw); go_simp; (try with_reducible rfl)
    (try simp only [Act.put, List.getElem_toArray, List.getElem_cons_succ, List.getElem_cons_zero, List.setIfInBounds_toArray, List.set_cons_zero, List.set_cons_succ])
    (try clear hK K)
    refine wpAnyH_ready (rs := [10]) (by kernel_rfl) (by simp) ?_
    refine AllReadyH.cons rfl (fun K hK => ?_) AllReadyH.nil
    go_simp
    (refine Calls.mono (HTK.out _ wu HB9.out.1 (Below.refl _ _).drew) ?_; rintro e w7 ⟨rfl, hb⟩)
    refine hK.out _ _ ?_ (fun hHeld => ?_)
    · have := HR9.out.below ((Below.refl _ _).drew.trans hb); exact ⟨this.1, this.2.1, this.2.2.1, this.2.2.2, cell_below HL9.out ((Below.refl _ _).drew.trans hb)⟩
    have HB7 : Hid (Below (wu.setCell ⟨p, 2, none⟩ (.int .i64 (last + 1))).heap.size (wu.setCell ⟨p, 2, none⟩ (.int .i64 (last + 1))) w7 ∧ w.heap.size ≤ wu.heap.size) := ⟨(Below.refl _ _).drew.trans hb, HB9.out.1.size⟩
    have HR7 : Hid (RS w1.heap.size rb ro tp k w7) := HR9.out.below ((Below.refl _ _).drew.trans hb)
    have HL7 : Hid (w7.cell? ⟨p, 2, none⟩ = some (.int .i64 (last + 1))) := cell_below HL9.out ((Below.refl _ _).drew.trans hb)
    clear hb HR9 HL9 HTK
    (try clear hK K)
    refine wpAnyH_ready (rs := [11]) (by kernel_rfl) (by simp) ?_
    refine AllReadyH.cons rfl (fun K hK => ?_) AllReadyH.nil
    go_simp
    (refine Calls.mono (HPU.out _ _ HB9.out.1 HB7.out.1) ?_; rintro e w8 ⟨⟨pb, rfl⟩, hsv, hrr⟩)
    refine hK.out _ _ ?_ (fun hHeld => ?_)
    · have := HR7.out.sv hsv (fun h => by have := HXX.out.1 _ h; have := HB9.out.2; omega) HXX.out.2.1; exact ⟨this.1, this.2.1, this.2.2.1, this.2.2.2, by rw [hsv.cell (World.block_lt_of_cell? _ _ HL7.out) HXX.out.2.2]; exact HL7.out⟩
    have c2 : w8.cell? ⟨p, 2, none⟩ = some (.int .i64 (last + 1)) := by rw [hsv.cell (World.block_lt_of_cell? _ _ HL7.out) HXX.out.2.2]; exact HL7.out
    have HE : Hid (R w7 w8) := hrr
    clear hsv hrr HR7 HL7 HPU HXX
    (try clear hK K)
    refine wpAnyH_done (by kernel_rfl) ?_ _
    (try clear hHeld)
    go_wp2_with fail
    go_ret2
    exact ⟨rfl, wu, w7, w8, HB9.out.1, HB7.out.1, HE.out, Below.refl _ _⟩
end
end Go.Proofs.Ytafkpfhhmmnpeaa.Val

