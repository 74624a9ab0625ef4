/- What the store's Restore does, for whatever its at, its tree and package row answer. -/
import Derived.Test.YtafkpfhhmmnpeaaU23
namespace Go.Proofs.Ytafkpfhhmmnpeaa.Val
open Go Go.RowKit
set_option maxRecDepth 100000

section
variable {w : World} {sv : Value} {fa tp : Option Addr} {fl fc : Nat} {n : Int} {m : Int}
set_option maxHeartbeats 4000000 in
theorem rest_no {ra : Option Addr} {rn rc : Nat}
    (hat : ∀ w1, Below w.heap.size w w1 → Calls Try.prog 37 #[sv, .int .i64 n] w1 fun e w' => e = atAns (.slice fa fl fc) tp ∧ Below w1.heap.size w1 w')
    (hft : ∀ w1, Below w.heap.size w w1 → Calls Try.prog 46 #[.agg #[.slice fa fl fc], .slice ra rn rc] w1 fun e w' => e = .returned (.bool false) ∧ Below w1.heap.size w1 w')
    : Calls Try.prog 22 #[sv, .int .i64 n, .slice ra rn rc, .int .i64 m] w fun e w' => e = .returned (.int .i64 1) ∧ Below w.heap.size w w' := by
  have HAT : Hid _ := hat
  have HFT : Hid _ := hft
  clear hat hft
  go_enter Try.func22, Try.ntmps22
  go_wp2_with fail
  refine Calls.mono (HAT.out _ (Below.refl _ _)) ?_
  rintro e w1 ⟨rfl, hb⟩
  have HB1 : Hid (Below w.heap.size w w1) := hb
  clear hb HAT
  go_wp2_with fail
  refine Calls.mono (HFT.out _ (HB1.out.alloc HB1.out.size _)) ?_
  rintro e w2 ⟨rfl, hb⟩
  have HB2 : Hid (Below w.heap.size w w2) := (HB1.out.alloc HB1.out.size _).trans (hb.mono (by have := HB1.out.size; simp; omega))
  clear hb HFT HB1
  go_wp2_with fail
  go_ret
  exact ⟨rfl, HB2.out⟩
set_option maxHeartbeats 8000000 in
theorem rest_none {rb ro rc rn : Nat} {k : Val} {pl : Pl}
    (hat : ∀ w1, Below w.heap.size w w1 → Calls Try.prog 37 #[sv, .int .i64 n] w1 fun e w' => e = atAns (.slice fa fl fc) tp ∧ Below w1.heap.size w1 w')
    (hft : ∀ w1, Below w.heap.size w w1 → Calls Try.prog 46 #[.agg #[.slice fa fl fc], .slice (some ⟨rb, ro, none⟩) (rn + 1) rc] w1 fun e w' => e = .returned (.bool true) ∧ Below w1.heap.size w1 w')
    (hgt : ∀ w1, Below w.heap.size w w1 → Calls Try.prog 38 #[.pointer tp, V k.t k.n k.s] w1 fun e w' => e = gans pl false ∧ Below w1.heap.size w1 w')
    (hk0 : w.cell? ⟨rb, ro, none⟩ = some (.bool k.t) ∧ w.cell? ⟨rb, ro + 1, none⟩ = some (.int .i64 k.n) ∧ w.cell? ⟨rb, ro + 2, none⟩ = some (.string k.s))
    : Calls Try.prog 22 #[sv, .int .i64 n, .slice (some ⟨rb, ro, none⟩) (rn + 1) rc, .int .i64 m] w fun e w' => e = .returned (.int .i64 61) ∧ Below w.heap.size w w' := by
  have HAT : Hid _ := hat
  have HFT : Hid _ := hft
  have HGT : Hid _ := hgt
  have HPC : Hid _ := PC.of pl
  have HZL : Hid ((vcells Pl.zero).length = 14) := rfl
  have HHR : Hid (∀ w1, Calls Try.prog 39 #[.agg (vcells pl).toArray] w1 fun e w' => e = .returned (.bool (hasR pl)) ∧ Below w1.heap.size w1 w') := fun w1 => hasRow_any pl w1
  have HK0 : Hid (w.cell? ⟨rb, ro, none⟩ = some (.bool k.t) ∧ w.cell? ⟨rb, ro + 1, none⟩ = some (.int .i64 k.n) ∧ w.cell? ⟨rb, ro + 2, none⟩ = some (.string k.s)) := hk0
  clear hat hft hgt hk0
  go_enter Try.func22, Try.ntmps22
  go_wp2_with fail
  refine Calls.mono (HAT.out _ (Below.refl _ _)) ?_
  rintro e w1 ⟨rfl, hb⟩
  have HB1 : Hid (Below w.heap.size w w1) := hb
  clear hb HAT
  go_wp2_with fail
  have HR1 : Hid (RS w1.heap.size rb ro tp k (w1.alloc (tbobj fa fl fc tp))) := by
    obtain ⟨a, b, c⟩ := HK0.out
    have hb := HB1.out.alloc HB1.out.size (tbobj fa fl fc tp)
    exact ⟨tb_new _ _ _ _ _, cell_below a hb, cell_below b hb, cell_below c hb⟩
  refine Calls.mono (HFT.out _ (HB1.out.alloc HB1.out.size _)) ?_
  rintro e w2 ⟨rfl, hb⟩
  have HB2 : Hid (Below w.heap.size w w2 ∧ w.heap.size ≤ w1.heap.size) := ⟨(HB1.out.alloc HB1.out.size _).trans (hb.mono (by have := HB1.out.size; simp; omega)), HB1.out.size⟩
  have HR2 : Hid (RS w1.heap.size rb ro tp k w2) := HR1.out.below hb
  clear hb HFT HB1 HR1 HK0
  go_wp2_with fail
  refine wp_region_held_drew (S := fun w' => w'.cell? ⟨w1.heap.size, 1, none⟩ = some (.pointer tp) ∧ w'.cell? ⟨rb, ro, none⟩ = some (.bool k.t) ∧ w'.cell? ⟨rb, ro + 1, none⟩ = some (.int .i64 k.n) ∧ w'.cell? ⟨rb, ro + 2, none⟩ = some (.string k.s)) (by kernel_rfl) ?_ (fun hHeld => ?_)
  · exact HR2.out.below (Below.refl _ _).drew
  (try clear hK K)
  refine wpAnyH_take (i := 0) (v := ?_) rfl (by kernel_rfl) (by kernel_rfl) (by kernel_rfl) (fun _ _ _ h => h) (Or.inl ⟨by rfl, ?_⟩) (by assumption) ?_
  rotate_left
  · intro w hSw; (try dsimp only at hSw); go_simp; (try with_reducible rfl)
  (try simp only [Act.put, List.getElem_toArray, List.getElem_cons_zero, List.setIfInBounds_toArray, List.set_cons_zero, List.set_cons_succ])
  refine wpAnyH_take (i := 1) (v := ?_) rfl (by kernel_rfl) (by kernel_rfl) (by kernel_rfl) (fun _ _ _ h => h) (Or.inl ⟨by rfl, ?_⟩) (by assumption) ?_
  rotate_left
  · intro w hSw; (try dsimp only at hSw); go_simp; (try with_reducible rfl)
  (try simp only [Act.put, List.getElem_toArray, List.getElem_cons_succ, List.getElem_cons_zero, List.setIfInBounds_toArray, List.set_cons_zero, List.set_cons_succ])
  refine wpAnyH_take (i := 2) (v := ?_) rfl (by kernel_rfl) (by kernel_rfl) (by kernel_rfl) (fun _ _ _ h => h) (Or.inl ⟨by rfl, ?_⟩) (by assumption) ?_
  rotate_left
  · intro w hSw; (try dsimp only at hSw); go_simp; (try with_reducible rfl)
  (try simp only [Act.put, List.getElem_toArray, List.getElem_cons_succ, List.getElem_cons_zero, List.setIfInBounds_toArray, List.set_cons_zero, List.set_cons_succ])
  refine wpAnyH_take (i := 3) (v := ?_) rfl (by kernel_rfl) (by kernel_rfl) (by kernel_rfl) (fun _ _ _ h => h) (Or.inl ⟨by rfl, ?_⟩) (by assumption) ?_
  rotate_left
  · intro w hSw; (try dsimp only at hSw); go_simp; (try with_reducible rfl)
  (try simp only [Act.put, List.getElem_toArray, List.getElem_cons_succ, List.getElem_cons_zero, List.setIfInBounds_toArray, List.set_cons_zero, List.set_cons_succ])
  refine wpAnyH_take (i := 4) (v := ?_) rfl (by kernel_rfl) (by kernel_rfl) (by kernel_rfl) (fun _ _ _ h => h) (Or.inl ⟨by rfl, ?_⟩) (by assumption) ?_
  rotate_left
  · intro w hSw; (try dsimp only at hSw); go_simp; (try with_reducible rfl)
  (try simp only [Act.put, List.getElem_toArray, List.getElem_cons_succ, List.getElem_cons_zero, List.setIfInBounds_toArray, List.set_cons_zero, List.set_cons_succ])
  (try clear hK K)
  refine wpAnyH_ready (rs := [5, 9]) (by kernel_rfl) (by simp) ?_
  refine AllReadyH.cons rfl (fun K hK => ?_) (AllReadyH.cons rfl (fun K hK => ?_) AllReadyH.nil)
  · go_simp
    refine Calls.mono (HGT.out _ HB2.out.1.drew) ?_
    rintro e w3 ⟨rfl, hb⟩
    have HB3 : Hid (Below w.heap.size w w3 ∧ w.heap.size ≤ w1.heap.size) := ⟨HB2.out.1.drew.trans (hb.mono HB2.out.1.drew.size), HB2.out.2⟩
    have HR3 : Hid (RS w1.heap.size rb ro tp k w3) := (HR2.out.below (Below.refl _ _).drew).below hb
    clear hb HGT HB2 HR2
    refine hK.out _ _ ?_ (fun hHeld => ?_)
    · exact HR3.out
    (try clear hK K)
    refine wpAnyH_take (i := 6) (v := ?_) rfl (by kernel_rfl) (by kernel_rfl) (by kernel_rfl) (fun _ _ _ h => h) (Or.inl ⟨by rfl, ?_⟩) (by assumption) ?_
    rotate_left
    · intro w hSw; (try dsimp only at hSw); go_simp; (try with_reducible rfl)
    (try simp only [Act.put, List.getElem_toArray, List.getElem_cons_succ, List.getElem_cons_zero, List.setIfInBounds_toArray, List.set_cons_zero, List.set_cons_succ])
    refine wpAnyH_take (i := 7) (v := ?_) rfl (by kernel_rfl) (by kernel_rfl) (by kernel_rfl) (fun _ _ _ h => h) (Or.inl ⟨by rfl, ?_⟩) (by assumption) ?_
    rotate_left
    · intro w hSw; (try dsimp only at hSw); go_simp; (try with_reducible rfl)
    (try simp only [Act.put, List.getElem_toArray, List.getElem_cons_succ, List.getElem_cons_zero, List.setIfInBounds_toArray, List.set_cons_zero, List.set_cons_succ])
    refine wpAnyH_take (i := 8) (v := ?_) rfl (by kernel_rfl) (by kernel_rfl) (by kernel_rfl) (fun _ _ _ h => h) (Or.inl ⟨by rfl, ?_⟩) (by assumption) ?_
    rotate_left
    · intro w hSw; (try dsimp only at hSw); go_simp; (try with_reducible rfl)
    (try simp only [Act.put, List.getElem_toArray, List.getElem_cons_succ, List.getElem_cons_zero, List.setIfInBounds_toArray, List.set_cons_zero, List.set_cons_succ])
    (try clear hK K)
    refine wpAnyH_ready (rs := [9]) (by kernel_rfl) (by simp) ?_
    refine AllReadyH.cons rfl (fun K hK => ?_) AllReadyH.nil
    (go_simp; (try clear hHeld))
    have HX : Hid ((w3.alloc zobj).heap[w3.heap.size]? = some zobj ∧ w.heap.size ≤ w3.heap.size ∧ ¬ w1.heap.size = w3.heap.size ∧ ¬ rb = w3.heap.size) := by
      have h1 := World.block_lt_of_cell? w3 _ HR3.out.1
      have h2 := World.block_lt_of_cell? w3 _ HR3.out.2.1
      exact ⟨heap_new _ _ _ rfl, HB3.out.1.size, Nat.ne_of_lt h1, Nat.ne_of_lt h2⟩
    have HB4 : Hid (Below w.heap.size w (w3.alloc zobj) ∧ w.heap.size ≤ w1.heap.size) := ⟨HB3.out.1.alloc HB3.out.1.size _, HB3.out.2⟩
    have HR4 : Hid (RS w1.heap.size rb ro tp k (w3.alloc zobj)) := HR3.out.below (alloc1 _ _)
    clear HB3 HR3
    refine hK.out _ _ ?_ (fun hHeld => ?_)
    · exact HR4.out
    (try clear hK K)
    refine wpAnyH_ready (rs := [10]) (by kernel_rfl) (by simp) ?_
    refine AllReadyH.cons rfl (fun K hK => ?_) AllReadyH.nil
    (refine stepH_pstore rfl _ _ rfl (w3.heap.size) (vcells pl) (vcells Pl.zero) rfl rfl HPC.out HZL.out HX.out.1 ?_; intro wz hz1 hz2; have HBz : Hid (Below w.heap.size w wz ∧ w.heap.size ≤ w1.heap.size) := ⟨HB4.out.1.trans (hz2.below HB4.out.1.size fun j hj e => by have := HX.out.2.1; omega), HB4.out.2⟩; have HRz : Hid (RS w1.heap.size rb ro tp k wz) := HR4.out.sv hz2 HX.out.2.2.1 HX.out.2.2.2; have HZ : Hid (wz.heap[w3.heap.size]? = some (.cells (vcells pl).toArray 74 (0, 0)) ∧ w.heap.size ≤ w3.heap.size) := ⟨hz1, HX.out.2.1⟩; clear hz1 hz2 HX HB4 HR4; refine hK.out _ _ ?_ (fun hHeld => ?_))
    · exact HRz.out
    (try clear hK K)
    refine wpAnyH_take (i := 11) (v := ?_) rfl (by kernel_rfl) (by kernel_rfl) (by kernel_rfl) (fun _ _ _ h => h) (Or.inl ⟨by rfl, ?_⟩) (by assumption) ?_
    rotate_left
    · intro w hSw; (try dsimp only at hSw); go_simp; (try with_reducible rfl)
    (try simp only [Act.put, List.getElem_toArray, List.getElem_cons_succ, List.getElem_cons_zero, List.setIfInBounds_toArray, List.set_cons_zero, List.set_cons_succ])
    (try clear hK K)
    refine wpAnyH_done (by kernel_rfl) ?_ _
    clear hHeld
    have HB6 : Hid _ := HBz.out
    go_wp2_with fail
    go_ret
    exact ⟨rfl, HB6.out.1⟩
  · go_simp
    have HX0 : Hid ((w2.drew.alloc zobj).heap[w2.heap.size]? = some zobj ∧ w.heap.size ≤ w2.heap.size ∧ ¬ w1.heap.size = w2.heap.size ∧ ¬ rb = w2.heap.size) := by
      have h1 := World.block_lt_of_cell? w2 _ HR2.out.1
      have h2 := World.block_lt_of_cell? w2 _ HR2.out.2.1
      exact ⟨heap_new _ _ _ (by simp), HB2.out.1.size, Nat.ne_of_lt h1, Nat.ne_of_lt h2⟩
    have HB5 : Hid (Below w.heap.size w (w2.drew.alloc zobj) ∧ w.heap.size ≤ w1.heap.size) := ⟨HB2.out.1.drew.alloc (by simpa using HB2.out.1.size) _, HB2.out.2⟩
    have HR5 : Hid (RS w1.heap.size rb ro tp k (w2.drew.alloc zobj)) := HR2.out.below ((Below.refl _ _).drew.alloc (by simp) _)
    refine hK.out _ _ ?_ (fun hHeld => ?_)
    · exact HR5.out
    (try clear hK K)
    refine wpAnyH_ready (rs := [5]) (by kernel_rfl) (by simp) ?_
    refine AllReadyH.cons rfl (fun K hK => ?_) AllReadyH.nil
    (go_simp)
    refine Calls.mono (HGT.out _ HB5.out.1) ?_
    rintro e w3 ⟨rfl, hb⟩
    have HB3 : Hid (Below w.heap.size w w3 ∧ w.heap.size ≤ w1.heap.size) := ⟨HB5.out.1.trans (hb.mono HB5.out.1.size), HB2.out.2⟩
    have HR3 : Hid (RS w1.heap.size rb ro tp k w3) := (HR5.out).below hb
    have HX : Hid (w3.heap[w2.heap.size]? = some zobj ∧ w.heap.size ≤ w2.heap.size ∧ ¬ w1.heap.size = w2.heap.size ∧ ¬ rb = w2.heap.size) := ⟨heap_below HX0.out.1 hb, HX0.out.2⟩
    clear hb HGT HB2 HR2 HB5 HR5 HX0
    refine hK.out _ _ ?_ (fun hHeld => ?_)
    · exact HR3.out
    (try clear hK K)
    refine wpAnyH_take (i := 6) (v := ?_) rfl (by kernel_rfl) (by kernel_rfl) (by kernel_rfl) (fun _ _ _ h => h) (Or.inl ⟨by rfl, ?_⟩) (by assumption) ?_
    rotate_left
    · intro w hSw; (try dsimp only at hSw); go_simp; (try with_reducible rfl)
    (try simp only [Act.put, List.getElem_toArray, List.getElem_cons_succ, List.getElem_cons_zero, List.setIfInBounds_toArray, List.set_cons_zero, List.set_cons_succ])
    refine wpAnyH_take (i := 7) (v := ?_) rfl (by kernel_rfl) (by kernel_rfl) (by kernel_rfl) (fun _ _ _ h => h) (Or.inl ⟨by rfl, ?_⟩) (by assumption) ?_
    rotate_left
    · intro w hSw; (try dsimp only at hSw); go_simp; (try with_reducible rfl)
    (try simp only [Act.put, List.getElem_toArray, List.getElem_cons_succ, List.getElem_cons_zero, List.setIfInBounds_toArray, List.set_cons_zero, List.set_cons_succ])
    refine wpAnyH_take (i := 8) (v := ?_) rfl (by kernel_rfl) (by kernel_rfl) (by kernel_rfl) (fun _ _ _ h => h) (Or.inl ⟨by rfl, ?_⟩) (by assumption) ?_
    rotate_left
    · intro w hSw; (try dsimp only at hSw); go_simp; (try with_reducible rfl)
    (try simp only [Act.put, List.getElem_toArray, List.getElem_cons_succ, List.getElem_cons_zero, List.setIfInBounds_toArray, List.set_cons_zero, List.set_cons_succ])
    (try clear hK K)
    refine wpAnyH_ready (rs := [10]) (by kernel_rfl) (by simp) ?_
    refine AllReadyH.cons rfl (fun K hK => ?_) AllReadyH.nil
    (refine stepH_pstore rfl _ _ rfl (w2.heap.size) (vcells pl) (vcells Pl.zero) rfl rfl HPC.out HZL.out HX.out.1 ?_; intro wz hz1 hz2; have HBz : Hid (Below w.heap.size w wz ∧ w.heap.size ≤ w1.heap.size) := ⟨HB3.out.1.trans (hz2.below HB3.out.1.size fun j hj e => by have := HX.out.2.1; omega), HB3.out.2⟩; have HRz : Hid (RS w1.heap.size rb ro tp k wz) := HR3.out.sv hz2 HX.out.2.2.1 HX.out.2.2.2; have HZ : Hid (wz.heap[w2.heap.size]? = some (.cells (vcells pl).toArray 74 (0, 0)) ∧ w.heap.size ≤ w2.heap.size) := ⟨hz1, HX.out.2.1⟩; clear hz1 hz2 HX HB3 HR3; refine hK.out _ _ ?_ (fun hHeld => ?_))
    · exact HRz.out
    (try clear hK K)
    refine wpAnyH_take (i := 11) (v := ?_) rfl (by kernel_rfl) (by kernel_rfl) (by kernel_rfl) (fun _ _ _ h => h) (Or.inl ⟨by rfl, ?_⟩) (by assumption) ?_
    rotate_left
    · intro w hSw; (try dsimp only at hSw); go_simp; (try with_reducible rfl)
    (try simp only [Act.put, List.getElem_toArray, List.getElem_cons_succ, List.getElem_cons_zero, List.setIfInBounds_toArray, List.set_cons_zero, List.set_cons_succ])
    (try clear hK K)
    refine wpAnyH_done (by kernel_rfl) ?_ _
    clear hHeld
    have HB6 : Hid _ := HBz.out
    go_wp2_with fail
    go_ret
    exact ⟨rfl, HB6.out.1⟩
set_option maxHeartbeats 8000000 in
theorem rest_there {rb ro rc rn : Nat} {k : Val} {pl : Pl} (hr : hasR pl = true)
    (hat : ∀ w1, Below w.heap.size w w1 → Calls Try.prog 37 #[sv, .int .i64 n] w1 fun e w' => e = atAns (.slice fa fl fc) tp ∧ Below w1.heap.size w1 w')
    (hft : ∀ w1, Below w.heap.size w w1 → Calls Try.prog 46 #[.agg #[.slice fa fl fc], .slice (some ⟨rb, ro, none⟩) (rn + 1) rc] w1 fun e w' => e = .returned (.bool true) ∧ Below w1.heap.size w1 w')
    (hgt : ∀ w1, Below w.heap.size w w1 → Calls Try.prog 38 #[.pointer tp, V k.t k.n k.s] w1 fun e w' => e = gans pl true ∧ Below w1.heap.size w1 w')
    (hk0 : w.cell? ⟨rb, ro, none⟩ = some (.bool k.t) ∧ w.cell? ⟨rb, ro + 1, none⟩ = some (.int .i64 k.n) ∧ w.cell? ⟨rb, ro + 2, none⟩ = some (.string k.s))
    : Calls Try.prog 22 #[sv, .int .i64 n, .slice (some ⟨rb, ro, none⟩) (rn + 1) rc, .int .i64 m] w fun e w' => e = .returned (.int .i64 61) ∧ Below w.heap.size w w' := by
  have HAT : Hid _ := hat
  have HFT : Hid _ := hft
  have HGT : Hid _ := hgt
  have HPC : Hid _ := PC.of pl
  have HZL : Hid ((vcells Pl.zero).length = 14) := rfl
  have HHR : Hid (∀ w1, Calls Try.prog 39 #[.agg (vcells pl).toArray] w1 fun e w' => e = .returned (.bool (hasR pl)) ∧ Below w1.heap.size w1 w') := fun w1 => hasRow_any pl w1
  rw [hr] at HHR
  have HK0 : Hid (w.cell? ⟨rb, ro, none⟩ = some (.bool k.t) ∧ w.cell? ⟨rb, ro + 1, none⟩ = some (.int .i64 k.n) ∧ w.cell? ⟨rb, ro + 2, none⟩ = some (.string k.s)) := hk0
  clear hat hft hgt hr hk0
  go_enter Try.func22, Try.ntmps22
  go_wp2_with fail
  refine Calls.mono (HAT.out _ (Below.refl _ _)) ?_
  rintro e w1 ⟨rfl, hb⟩
  have HB1 : Hid (Below w.heap.size w w1) := hb
  clear hb HAT
  go_wp2_with fail
  have HR1 : Hid (RS w1.heap.size rb ro tp k (w1.alloc (tbobj fa fl fc tp))) := by
    obtain ⟨a, b, c⟩ := HK0.out
    have hb := HB1.out.alloc HB1.out.size (tbobj fa fl fc tp)
    exact ⟨tb_new _ _ _ _ _, cell_below a hb, cell_below b hb, cell_below c hb⟩
  refine Calls.mono (HFT.out _ (HB1.out.alloc HB1.out.size _)) ?_
  rintro e w2 ⟨rfl, hb⟩
  have HB2 : Hid (Below w.heap.size w w2 ∧ w.heap.size ≤ w1.heap.size) := ⟨(HB1.out.alloc HB1.out.size _).trans (hb.mono (by have := HB1.out.size; simp; omega)), HB1.out.size⟩
  have HR2 : Hid (RS w1.heap.size rb ro tp k w2) := HR1.out.below hb
  clear hb HFT HB1 HR1 HK0
  go_wp2_with fail
  refine wp_region_held_drew (S := fun w' => w'.cell? ⟨w1.heap.size, 1, none⟩ = some (.pointer tp) ∧ w'.cell? ⟨rb, ro, none⟩ = some (.bool k.t) ∧ w'.cell? ⟨rb, ro + 1, none⟩ = some (.int .i64 k.n) ∧ w'.cell? ⟨rb, ro + 2, none⟩ = some (.string k.s)) (by kernel_rfl) ?_ (fun hHeld => ?_)
  · exact HR2.out.below (Below.refl _ _).drew
  (try clear hK K)
  refine wpAnyH_take (i := 0) (v := ?_) rfl (by kernel_rfl) (by kernel_rfl) (by kernel_rfl) (fun _ _ _ h => h) (Or.inl ⟨by rfl, ?_⟩) (by assumption) ?_
  rotate_left
  · intro w hSw; (try dsimp only at hSw); go_simp; (try with_reducible rfl)
  (try simp only [Act.put, List.getElem_toArray, List.getElem_cons_zero, List.setIfInBounds_toArray, List.set_cons_zero, List.set_cons_succ])
  refine wpAnyH_take (i := 1) (v := ?_) rfl (by kernel_rfl) (by kernel_rfl) (by kernel_rfl) (fun _ _ _ h => h) (Or.inl ⟨by rfl, ?_⟩) (by assumption) ?_
  rotate_left
  · intro w hSw; (try dsimp only at hSw); go_simp; (try with_reducible rfl)
  (try simp only [Act.put, List.getElem_toArray, List.getElem_cons_succ, List.getElem_cons_zero, List.setIfInBounds_toArray, List.set_cons_zero, List.set_cons_succ])
  refine wpAnyH_take (i := 2) (v := ?_) rfl (by kernel_rfl) (by kernel_rfl) (by kernel_rfl) (fun _ _ _ h => h) (Or.inl ⟨by rfl, ?_⟩) (by assumption) ?_
  rotate_left
  · intro w hSw; (try dsimp only at hSw); go_simp; (try with_reducible rfl)
  (try simp only [Act.put, List.getElem_toArray, List.getElem_cons_succ, List.getElem_cons_zero, List.setIfInBounds_toArray, List.set_cons_zero, List.set_cons_succ])
  refine wpAnyH_take (i := 3) (v := ?_) rfl (by kernel_rfl) (by kernel_rfl) (by kernel_rfl) (fun _ _ _ h => h) (Or.inl ⟨by rfl, ?_⟩) (by assumption) ?_
  rotate_left
  · intro w hSw; (try dsimp only at hSw); go_simp; (try with_reducible rfl)
  (try simp only [Act.put, List.getElem_toArray, List.getElem_cons_succ, List.getElem_cons_zero, List.setIfInBounds_toArray, List.set_cons_zero, List.set_cons_succ])
  refine wpAnyH_take (i := 4) (v := ?_) rfl (by kernel_rfl) (by kernel_rfl) (by kernel_rfl) (fun _ _ _ h => h) (Or.inl ⟨by rfl, ?_⟩) (by assumption) ?_
  rotate_left
  · intro w hSw; (try dsimp only at hSw); go_simp; (try with_reducible rfl)
  (try simp only [Act.put, List.getElem_toArray, List.getElem_cons_succ, List.getElem_cons_zero, List.setIfInBounds_toArray, List.set_cons_zero, List.set_cons_succ])
  (try clear hK K)
  refine wpAnyH_ready (rs := [5, 9]) (by kernel_rfl) (by simp) ?_
  refine AllReadyH.cons rfl (fun K hK => ?_) (AllReadyH.cons rfl (fun K hK => ?_) AllReadyH.nil)
  · go_simp
    refine Calls.mono (HGT.out _ HB2.out.1.drew) ?_
    rintro e w3 ⟨rfl, hb⟩
    have HB3 : Hid (Below w.heap.size w w3 ∧ w.heap.size ≤ w1.heap.size) := ⟨HB2.out.1.drew.trans (hb.mono HB2.out.1.drew.size), HB2.out.2⟩
    have HR3 : Hid (RS w1.heap.size rb ro tp k w3) := (HR2.out.below (Below.refl _ _).drew).below hb
    clear hb HGT HB2 HR2
    refine hK.out _ _ ?_ (fun hHeld => ?_)
    · exact HR3.out
    (try clear hK K)
    refine wpAnyH_take (i := 6) (v := ?_) rfl (by kernel_rfl) (by kernel_rfl) (by kernel_rfl) (fun _ _ _ h => h) (Or.inl ⟨by rfl, ?_⟩) (by assumption) ?_
    rotate_left
    · intro w hSw; (try dsimp only at hSw); go_simp; (try with_reducible rfl)
    (try simp only [Act.put, List.getElem_toArray, List.getElem_cons_succ, List.getElem_cons_zero, List.setIfInBounds_toArray, List.set_cons_zero, List.set_cons_succ])
    refine wpAnyH_take (i := 7) (v := ?_) rfl (by kernel_rfl) (by kernel_rfl) (by kernel_rfl) (fun _ _ _ h => h) (Or.inl ⟨by rfl, ?_⟩) (by assumption) ?_
    rotate_left
    · intro w hSw; (try dsimp only at hSw); go_simp; (try with_reducible rfl)
    (try simp only [Act.put, List.getElem_toArray, List.getElem_cons_succ, List.getElem_cons_zero, List.setIfInBounds_toArray, List.set_cons_zero, List.set_cons_succ])
    refine wpAnyH_take (i := 8) (v := ?_) rfl (by kernel_rfl) (by kernel_rfl) (by kernel_rfl) (fun _ _ _ h => h) (Or.inl ⟨by rfl, ?_⟩) (by assumption) ?_
    rotate_left
    · intro w hSw; (try dsimp only at hSw); go_simp; (try with_reducible rfl)
    (try simp only [Act.put, List.getElem_toArray, List.getElem_cons_succ, List.getElem_cons_zero, List.setIfInBounds_toArray, List.set_cons_zero, List.set_cons_succ])
    (try clear hK K)
    refine wpAnyH_ready (rs := [9]) (by kernel_rfl) (by simp) ?_
    refine AllReadyH.cons rfl (fun K hK => ?_) AllReadyH.nil
    (go_simp; (try clear hHeld))
    have HX : Hid ((w3.alloc zobj).heap[w3.heap.size]? = some zobj ∧ w.heap.size ≤ w3.heap.size ∧ ¬ w1.heap.size = w3.heap.size ∧ ¬ rb = w3.heap.size) := by
      have h1 := World.block_lt_of_cell? w3 _ HR3.out.1
      have h2 := World.block_lt_of_cell? w3 _ HR3.out.2.1
      exact ⟨heap_new _ _ _ rfl, HB3.out.1.size, Nat.ne_of_lt h1, Nat.ne_of_lt h2⟩
    have HB4 : Hid (Below w.heap.size w (w3.alloc zobj) ∧ w.heap.size ≤ w1.heap.size) := ⟨HB3.out.1.alloc HB3.out.1.size _, HB3.out.2⟩
    have HR4 : Hid (RS w1.heap.size rb ro tp k (w3.alloc zobj)) := HR3.out.below (alloc1 _ _)
    clear HB3 HR3
    refine hK.out _ _ ?_ (fun hHeld => ?_)
    · exact HR4.out
    (try clear hK K)
    refine wpAnyH_ready (rs := [10]) (by kernel_rfl) (by simp) ?_
    refine AllReadyH.cons rfl (fun K hK => ?_) AllReadyH.nil
    (refine stepH_pstore rfl _ _ rfl (w3.heap.size) (vcells pl) (vcells Pl.zero) rfl rfl HPC.out HZL.out HX.out.1 ?_; intro wz hz1 hz2; have HBz : Hid (Below w.heap.size w wz ∧ w.heap.size ≤ w1.heap.size) := ⟨HB4.out.1.trans (hz2.below HB4.out.1.size fun j hj e => by have := HX.out.2.1; omega), HB4.out.2⟩; have HRz : Hid (RS w1.heap.size rb ro tp k wz) := HR4.out.sv hz2 HX.out.2.2.1 HX.out.2.2.2; have HZ : Hid (wz.heap[w3.heap.size]? = some (.cells (vcells pl).toArray 74 (0, 0)) ∧ w.heap.size ≤ w3.heap.size) := ⟨hz1, HX.out.2.1⟩; clear hz1 hz2 HX HB4 HR4; refine hK.out _ _ ?_ (fun hHeld => ?_))
    · exact HRz.out
    (try clear hK K)
    refine wpAnyH_take (i := 11) (v := ?_) rfl (by kernel_rfl) (by kernel_rfl) (by kernel_rfl) (fun _ _ _ h => h) (Or.inl ⟨by rfl, ?_⟩) (by assumption) ?_
    rotate_left
    · intro w hSw; (try dsimp only at hSw); go_simp; (try with_reducible rfl)
    (try simp only [Act.put, List.getElem_toArray, List.getElem_cons_succ, List.getElem_cons_zero, List.setIfInBounds_toArray, List.set_cons_zero, List.set_cons_succ])
    (try clear hK K)
    refine wpAnyH_done (by kernel_rfl) ?_ _
    clear hHeld
    go_wp2_with (first | (refine step_ploadW _ rfl (w3.heap.size) 0 rfl (vcells pl) (range_heap HZ.out.1) HPC.out (by rfl) ?_) | fail)
    refine Calls.mono (HHR.out _) ?_
    rintro e w6 ⟨rfl, hb⟩
    have HB6 : Hid (Below w.heap.size w w6 ∧ w.heap.size ≤ w1.heap.size) := ⟨HBz.out.1.trans (hb.mono HBz.out.1.size), HBz.out.2⟩
    have HR6 : Hid (RS w1.heap.size rb ro tp k w6) := HRz.out.below hb
    have HZ6 : Hid (w6.heap[w3.heap.size]? = some (.cells (vcells pl).toArray 74 (0, 0)) ∧ w.heap.size ≤ w3.heap.size) := ⟨heap_below HZ.out.1 hb, HZ.out.2⟩
    clear hb HZ HBz HRz HHR
    go_wp2_with fail
    go_ret
    exact ⟨rfl, HB6.out.1⟩
  · go_simp
    have HX0 : Hid ((w2.drew.alloc zobj).heap[w2.heap.size]? = some zobj ∧ w.heap.size ≤ w2.heap.size ∧ ¬ w1.heap.size = w2.heap.size ∧ ¬ rb = w2.heap.size) := by
      have h1 := World.block_lt_of_cell? w2 _ HR2.out.1
      have h2 := World.block_lt_of_cell? w2 _ HR2.out.2.1
      exact ⟨heap_new _ _ _ (by simp), HB2.out.1.size, Nat.ne_of_lt h1, Nat.ne_of_lt h2⟩
    have HB5 : Hid (Below w.heap.size w (w2.drew.alloc zobj) ∧ w.heap.size ≤ w1.heap.size) := ⟨HB2.out.1.drew.alloc (by simpa using HB2.out.1.size) _, HB2.out.2⟩
    have HR5 : Hid (RS w1.heap.size rb ro tp k (w2.drew.alloc zobj)) := HR2.out.below ((Below.refl _ _).drew.alloc (by simp) _)
    refine hK.out _ _ ?_ (fun hHeld => ?_)
    · exact HR5.out
    (try clear hK K)
    refine wpAnyH_ready (rs := [5]) (by kernel_rfl) (by simp) ?_
    refine AllReadyH.cons rfl (fun K hK => ?_) AllReadyH.nil
    (go_simp)
    refine Calls.mono (HGT.out _ HB5.out.1) ?_
    rintro e w3 ⟨rfl, hb⟩
    have HB3 : Hid (Below w.heap.size w w3 ∧ w.heap.size ≤ w1.heap.size) := ⟨HB5.out.1.trans (hb.mono HB5.out.1.size), HB2.out.2⟩
    have HR3 : Hid (RS w1.heap.size rb ro tp k w3) := (HR5.out).below hb
    have HX : Hid (w3.heap[w2.heap.size]? = some zobj ∧ w.heap.size ≤ w2.heap.size ∧ ¬ w1.heap.size = w2.heap.size ∧ ¬ rb = w2.heap.size) := ⟨heap_below HX0.out.1 hb, HX0.out.2⟩
    clear hb HGT HB2 HR2 HB5 HR5 HX0
    refine hK.out _ _ ?_ (fun hHeld => ?_)
    · exact HR3.out
    (try clear hK K)
    refine wpAnyH_take (i := 6) (v := ?_) rfl (by kernel_rfl) (by kernel_rfl) (by kernel_rfl) (fun _ _ _ h => h) (Or.inl ⟨by rfl, ?_⟩) (by assumption) ?_
    rotate_left
    · intro w hSw; (try dsimp only at hSw); go_simp; (try with_reducible rfl)
    (try simp only [Act.put, List.getElem_toArray, List.getElem_cons_succ, List.getElem_cons_zero, List.setIfInBounds_toArray, List.set_cons_zero, List.set_cons_succ])
    refine wpAnyH_take (i := 7) (v := ?_) rfl (by kernel_rfl) (by kernel_rfl) (by kernel_rfl) (fun _ _ _ h => h) (Or.inl ⟨by rfl, ?_⟩) (by assumption) ?_
    rotate_left
    · intro w hSw; (try dsimp only at hSw); go_simp; (try with_reducible rfl)
    (try simp only [Act.put, List.getElem_toArray, List.getElem_cons_succ, List.getElem_cons_zero, List.setIfInBounds_toArray, List.set_cons_zero, List.set_cons_succ])
    refine wpAnyH_take (i := 8) (v := ?_) rfl (by kernel_rfl) (by kernel_rfl) (by kernel_rfl) (fun _ _ _ h => h) (Or.inl ⟨by rfl, ?_⟩) (by assumption) ?_
    rotate_left
    · intro w hSw; (try dsimp only at hSw); go_simp; (try with_reducible rfl)
    (try simp only [Act.put, List.getElem_toArray, List.getElem_cons_succ, List.getElem_cons_zero, List.setIfInBounds_toArray, List.set_cons_zero, List.set_cons_succ])
    (try clear hK K)
    refine wpAnyH_ready (rs := [10]) (by kernel_rfl) (by simp) ?_
    refine AllReadyH.cons rfl (fun K hK => ?_) AllReadyH.nil
    (refine stepH_pstore rfl _ _ rfl (w2.heap.size) (vcells pl) (vcells Pl.zero) rfl rfl HPC.out HZL.out HX.out.1 ?_; intro wz hz1 hz2; have HBz : Hid (Below w.heap.size w wz ∧ w.heap.size ≤ w1.heap.size) := ⟨HB3.out.1.trans (hz2.below HB3.out.1.size fun j hj e => by have := HX.out.2.1; omega), HB3.out.2⟩; have HRz : Hid (RS w1.heap.size rb ro tp k wz) := HR3.out.sv hz2 HX.out.2.2.1 HX.out.2.2.2; have HZ : Hid (wz.heap[w2.heap.size]? = some (.cells (vcells pl).toArray 74 (0, 0)) ∧ w.heap.size ≤ w2.heap.size) := ⟨hz1, HX.out.2.1⟩; clear hz1 hz2 HX HB3 HR3; refine hK.out _ _ ?_ (fun hHeld => ?_))
    · exact HRz.out
    (try clear hK K)
    refine wpAnyH_take (i := 11) (v := ?_) rfl (by kernel_rfl) (by kernel_rfl) (by kernel_rfl) (fun _ _ _ h => h) (Or.inl ⟨by rfl, ?_⟩) (by assumption) ?_
    rotate_left
    · intro w hSw; (try dsimp only at hSw); go_simp; (try with_reducible rfl)
    (try simp only [Act.put, List.getElem_toArray, List.getElem_cons_succ, List.getElem_cons_zero, List.setIfInBounds_toArray, List.set_cons_zero, List.set_cons_succ])
    (try clear hK K)
    refine wpAnyH_done (by kernel_rfl) ?_ _
    clear hHeld
    go_wp2_with (first | (refine step_ploadW _ rfl (w2.heap.size) 0 rfl (vcells pl) (range_heap HZ.out.1) HPC.out (by rfl) ?_) | fail)
    refine Calls.mono (HHR.out _) ?_
    rintro e w6 ⟨rfl, hb⟩
    have HB6 : Hid (Below w.heap.size w w6 ∧ w.heap.size ≤ w1.heap.size) := ⟨HBz.out.1.trans (hb.mono HBz.out.1.size), HBz.out.2⟩
    have HR6 : Hid (RS w1.heap.size rb ro tp k w6) := HRz.out.below hb
    have HZ6 : Hid (w6.heap[w2.heap.size]? = some (.cells (vcells pl).toArray 74 (0, 0)) ∧ w.heap.size ≤ w2.heap.size) := ⟨heap_below HZ.out.1 hb, HZ.out.2⟩
    clear hb HZ HBz HRz HHR
    go_wp2_with fail
    go_ret
    exact ⟨rfl, HB6.out.1⟩
set_option maxHeartbeats 8000000 in
theorem rest_put {rb ro rc rn : Nat} {k : Val} {pl : Pl} {nl : Pl} {X : Nat → Prop} {R : World → World → Prop} (hr : hasR pl = false)
    (hat : ∀ w1, Below w.heap.size w w1 → Calls Try.prog 37 #[sv, .int .i64 n] w1 fun e w' => e = atAns (.slice fa fl fc) tp ∧ Below w1.heap.size w1 w')
    (hft : ∀ w1, Below w.heap.size w w1 → Calls Try.prog 46 #[.agg #[.slice fa fl fc], .slice (some ⟨rb, ro, none⟩) (rn + 1) rc] w1 fun e w' => e = .returned (.bool true) ∧ Below w1.heap.size w1 w')
    (hgt : ∀ w1, Below w.heap.size w w1 → Calls Try.prog 38 #[.pointer tp, V k.t k.n k.s] w1 fun e w' => e = gans pl true ∧ Below w1.heap.size w1 w')
    (hk0 : w.cell? ⟨rb, ro, none⟩ = some (.bool k.t) ∧ w.cell? ⟨rb, ro + 1, none⟩ = some (.int .i64 k.n) ∧ w.cell? ⟨rb, ro + 2, none⟩ = some (.string k.s))
    (htk : ∀ w1, Below w.heap.size w w1 → Calls Try.prog 47 #[.slice (some ⟨rb, ro, none⟩) (rn + 1) rc, .int .i64 m] w1 fun e w' => e = .returned (.agg (vcells nl).toArray) ∧ Below w1.heap.size w1 w')
    (hput : ∀ w1, Below w.heap.size w w1 → Calls Try.prog 45 #[.pointer tp, V k.t k.n k.s, .agg (vcells nl).toArray] w1 fun e w' => (∃ b, e = .returned (.bool b)) ∧ Sv X w1 w' ∧ R w1 w')
    (hx : ∀ j, X j → j < w.heap.size) (hxr : ¬ X rb)
    : Calls Try.prog 22 #[sv, .int .i64 n, .slice (some ⟨rb, ro, none⟩) (rn + 1) rc, .int .i64 m] w fun e w' => e = .returned (.int .i64 0) ∧ ∃ w1 w2, Below w.heap.size w w1 ∧ R w1 w2 ∧ Below w2.heap.size w2 w' := by
  have HAT : Hid _ := hat
  have HFT : Hid _ := hft
  have HGT : Hid _ := hgt
  have HPC : Hid _ := PC.of pl
  have HZL : Hid ((vcells Pl.zero).length = 14) := rfl
  have HHR : Hid (∀ w1, Calls Try.prog 39 #[.agg (vcells pl).toArray] w1 fun e w' => e = .returned (.bool (hasR pl)) ∧ Below w1.heap.size w1 w') := fun w1 => hasRow_any pl w1
  rw [hr] at HHR
  have HK0 : Hid (w.cell? ⟨rb, ro, none⟩ = some (.bool k.t) ∧ w.cell? ⟨rb, ro + 1, none⟩ = some (.int .i64 k.n) ∧ w.cell? ⟨rb, ro + 2, none⟩ = some (.string k.s)) := hk0
  have HTK : Hid _ := htk
  have HPU : Hid _ := hput
  have HXX : Hid ((∀ j, X j → j < w.heap.size) ∧ ¬ X rb) := ⟨hx, hxr⟩
  clear hat hft hgt hr hk0 htk hput hx hxr
  go_enter Try.func22, Try.ntmps22
  go_wp2_with fail
  refine Calls.mono (HAT.out _ (Below.refl _ _)) ?_
  rintro e w1 ⟨rfl, hb⟩
  have HB1 : Hid (Below w.heap.size w w1) := hb
  clear hb HAT
  go_wp2_with fail
  have HR1 : Hid (RS w1.heap.size rb ro tp k (w1.alloc (tbobj fa fl fc tp))) := by
    obtain ⟨a, b, c⟩ := HK0.out
    have hb := HB1.out.alloc HB1.out.size (tbobj fa fl fc tp)
    exact ⟨tb_new _ _ _ _ _, cell_below a hb, cell_below b hb, cell_below c hb⟩
  refine Calls.mono (HFT.out _ (HB1.out.alloc HB1.out.size _)) ?_
  rintro e w2 ⟨rfl, hb⟩
  have HB2 : Hid (Below w.heap.size w w2 ∧ w.heap.size ≤ w1.heap.size) := ⟨(HB1.out.alloc HB1.out.size _).trans (hb.mono (by have := HB1.out.size; simp; omega)), HB1.out.size⟩
  have HR2 : Hid (RS w1.heap.size rb ro tp k w2) := HR1.out.below hb
  clear hb HFT HB1 HR1 HK0
  go_wp2_with fail
  refine wp_region_held_drew (S := fun w' => w'.cell? ⟨w1.heap.size, 1, none⟩ = some (.pointer tp) ∧ w'.cell? ⟨rb, ro, none⟩ = some (.bool k.t) ∧ w'.cell? ⟨rb, ro + 1, none⟩ = some (.int .i64 k.n) ∧ w'.cell? ⟨rb, ro + 2, none⟩ = some (.string k.s)) (by kernel_rfl) ?_ (fun hHeld => ?_)
  · exact HR2.out.below (Below.refl _ _).drew
  (try clear hK K)
  refine wpAnyH_take (i := 0) (v := ?_) rfl (by kernel_rfl) (by kernel_rfl) (by kernel_rfl) (fun _ _ _ h => h) (Or.inl ⟨by rfl, ?_⟩) (by assumption) ?_
  rotate_left
  · intro w hSw; (try dsimp only at hSw); go_simp; (try with_reducible rfl)
  (try simp only [Act.put, List.getElem_toArray, List.getElem_cons_zero, List.setIfInBounds_toArray, List.set_cons_zero, List.set_cons_succ])
  refine wpAnyH_take (i := 1) (v := ?_) rfl (by kernel_rfl) (by kernel_rfl) (by kernel_rfl) (fun _ _ _ h => h) (Or.inl ⟨by rfl, ?_⟩) (by assumption) ?_
  rotate_left
  · intro w hSw; (try dsimp only at hSw); go_simp; (try with_reducible rfl)
  (try simp only [Act.put, List.getElem_toArray, List.getElem_cons_succ, List.getElem_cons_zero, List.setIfInBounds_toArray, List.set_cons_zero, List.set_cons_succ])
  refine wpAnyH_take (i := 2) (v := ?_) rfl (by kernel_rfl) (by kernel_rfl) (by kernel_rfl) (fun _ _ _ h => h) (Or.inl ⟨by rfl, ?_⟩) (by assumption) ?_
  rotate_left
  · intro w hSw; (try dsimp only at hSw); go_simp; (try with_reducible rfl)
  (try simp only [Act.put, List.getElem_toArray, List.getElem_cons_succ, List.getElem_cons_zero, List.setIfInBounds_toArray, List.set_cons_zero, List.set_cons_succ])
  refine wpAnyH_take (i := 3) (v := ?_) rfl (by kernel_rfl) (by kernel_rfl) (by kernel_rfl) (fun _ _ _ h => h) (Or.inl ⟨by rfl, ?_⟩) (by assumption) ?_
  rotate_left
  · intro w hSw; (try dsimp only at hSw); go_simp; (try with_reducible rfl)
  (try simp only [Act.put, List.getElem_toArray, List.getElem_cons_succ, List.getElem_cons_zero, List.setIfInBounds_toArray, List.set_cons_zero, List.set_cons_succ])
  refine wpAnyH_take (i := 4) (v := ?_) rfl (by kernel_rfl) (by kernel_rfl) (by kernel_rfl) (fun _ _ _ h => h) (Or.inl ⟨by rfl, ?_⟩) (by assumption) ?_
  rotate_left
  · intro w hSw; (try dsimp only at hSw); go_simp; (try with_reducible rfl)
  (try simp only [Act.put, List.getElem_toArray, List.getElem_cons_succ, List.getElem_cons_zero, List.setIfInBounds_toArray, List.set_cons_zero, List.set_cons_succ])
  (try clear hK K)
  refine wpAnyH_ready (rs := [5, 9]) (by kernel_rfl) (by simp) ?_
  refine AllReadyH.cons rfl (fun K hK => ?_) (AllReadyH.cons rfl (fun K hK => ?_) AllReadyH.nil)
  · go_simp
    refine Calls.mono (HGT.out _ HB2.out.1.drew) ?_
    rintro e w3 ⟨rfl, hb⟩
    have HB3 : Hid (Below w.heap.size w w3 ∧ w.heap.size ≤ w1.heap.size) := ⟨HB2.out.1.drew.trans (hb.mono HB2.out.1.drew.size), HB2.out.2⟩
    have HR3 : Hid (RS w1.heap.size rb ro tp k w3) := (HR2.out.below (Below.refl _ _).drew).below hb
    clear hb HGT HB2 HR2
    refine hK.out _ _ ?_ (fun hHeld => ?_)
    · exact HR3.out
    (try clear hK K)
    refine wpAnyH_take (i := 6) (v := ?_) rfl (by kernel_rfl) (by kernel_rfl) (by kernel_rfl) (fun _ _ _ h => h) (Or.inl ⟨by rfl, ?_⟩) (by assumption) ?_
    rotate_left
    · intro w hSw; (try dsimp only at hSw); go_simp; (try with_reducible rfl)
    (try simp only [Act.put, List.getElem_toArray, List.getElem_cons_succ, List.getElem_cons_zero, List.setIfInBounds_toArray, List.set_cons_zero, List.set_cons_succ])
    refine wpAnyH_take (i := 7) (v := ?_) rfl (by kernel_rfl) (by kernel_rfl) (by kernel_rfl) (fun _ _ _ h => h) (Or.inl ⟨by rfl, ?_⟩) (by assumption) ?_
    rotate_left
    · intro w hSw; (try dsimp only at hSw); go_simp; (try with_reducible rfl)
    (try simp only [Act.put, List.getElem_toArray, List.getElem_cons_succ, List.getElem_cons_zero, List.setIfInBounds_toArray, List.set_cons_zero, List.set_cons_succ])
    refine wpAnyH_take (i := 8) (v := ?_) rfl (by kernel_rfl) (by kernel_rfl) (by kernel_rfl) (fun _ _ _ h => h) (Or.inl ⟨by rfl, ?_⟩) (by assumption) ?_
    rotate_left
    · intro w hSw; (try dsimp only at hSw); go_simp; (try with_reducible rfl)
    (try simp only [Act.put, List.getElem_toArray, List.getElem_cons_succ, List.getElem_cons_zero, List.setIfInBounds_toArray, List.set_cons_zero, List.set_cons_succ])
    (try clear hK K)
    refine wpAnyH_ready (rs := [9]) (by kernel_rfl) (by simp) ?_
    refine AllReadyH.cons rfl (fun K hK => ?_) AllReadyH.nil
    (go_simp; (try clear hHeld))
    have HX : Hid ((w3.alloc zobj).heap[w3.heap.size]? = some zobj ∧ w.heap.size ≤ w3.heap.size ∧ ¬ w1.heap.size = w3.heap.size ∧ ¬ rb = w3.heap.size) := by
      have h1 := World.block_lt_of_cell? w3 _ HR3.out.1
      have h2 := World.block_lt_of_cell? w3 _ HR3.out.2.1
      exact ⟨heap_new _ _ _ rfl, HB3.out.1.size, Nat.ne_of_lt h1, Nat.ne_of_lt h2⟩
    have HB4 : Hid (Below w.heap.size w (w3.alloc zobj) ∧ w.heap.size ≤ w1.heap.size) := ⟨HB3.out.1.alloc HB3.out.1.size _, HB3.out.2⟩
    have HR4 : Hid (RS w1.heap.size rb ro tp k (w3.alloc zobj)) := HR3.out.below (alloc1 _ _)
    clear HB3 HR3
    refine hK.out _ _ ?_ (fun hHeld => ?_)
    · exact HR4.out
    (try clear hK K)
    refine wpAnyH_ready (rs := [10]) (by kernel_rfl) (by simp) ?_
    refine AllReadyH.cons rfl (fun K hK => ?_) AllReadyH.nil
    (refine stepH_pstore rfl _ _ rfl (w3.heap.size) (vcells pl) (vcells Pl.zero) rfl rfl HPC.out HZL.out HX.out.1 ?_; intro wz hz1 hz2; have HBz : Hid (Below w.heap.size w wz ∧ w.heap.size ≤ w1.heap.size) := ⟨HB4.out.1.trans (hz2.below HB4.out.1.size fun j hj e => by have := HX.out.2.1; omega), HB4.out.2⟩; have HRz : Hid (RS w1.heap.size rb ro tp k wz) := HR4.out.sv hz2 HX.out.2.2.1 HX.out.2.2.2; have HZ : Hid (wz.heap[w3.heap.size]? = some (.cells (vcells pl).toArray 74 (0, 0)) ∧ w.heap.size ≤ w3.heap.size) := ⟨hz1, HX.out.2.1⟩; clear hz1 hz2 HX HB4 HR4; refine hK.out _ _ ?_ (fun hHeld => ?_))
    · exact HRz.out
    (try clear hK K)
    refine wpAnyH_take (i := 11) (v := ?_) rfl (by kernel_rfl) (by kernel_rfl) (by kernel_rfl) (fun _ _ _ h => h) (Or.inl ⟨by rfl, ?_⟩) (by assumption) ?_
    rotate_left
    · intro w hSw; (try dsimp only at hSw); go_simp; (try with_reducible rfl)
    (try simp only [Act.put, List.getElem_toArray, List.getElem_cons_succ, List.getElem_cons_zero, List.setIfInBounds_toArray, List.set_cons_zero, List.set_cons_succ])
    (try clear hK K)
    refine wpAnyH_done (by kernel_rfl) ?_ _
    clear hHeld
    go_wp2_with (first | (refine step_ploadW _ rfl (w3.heap.size) 0 rfl (vcells pl) (range_heap HZ.out.1) HPC.out (by rfl) ?_) | fail)
    refine Calls.mono (HHR.out _) ?_
    rintro e w6 ⟨rfl, hb⟩
    have HB6 : Hid (Below w.heap.size w w6 ∧ w.heap.size ≤ w1.heap.size) := ⟨HBz.out.1.trans (hb.mono HBz.out.1.size), HBz.out.2⟩
    have HR6 : Hid (RS w1.heap.size rb ro tp k w6) := HRz.out.below hb
    have HZ6 : Hid (w6.heap[w3.heap.size]? = some (.cells (vcells pl).toArray 74 (0, 0)) ∧ w.heap.size ≤ w3.heap.size) := ⟨heap_below HZ.out.1 hb, HZ.out.2⟩
    clear hb HZ HBz HRz HHR
    go_wp2_with fail
    refine wp_region_held_drew (S := fun w' => w'.cell? ⟨w1.heap.size, 1, none⟩ = some (.pointer tp) ∧ w'.cell? ⟨rb, ro, none⟩ = some (.bool k.t) ∧ w'.cell? ⟨rb, ro + 1, none⟩ = some (.int .i64 k.n) ∧ w'.cell? ⟨rb, ro + 2, none⟩ = some (.string k.s)) (by kernel_rfl) ?_ (fun hHeld => ?_)
    · exact HR6.out.below (Below.refl _ _).drew
    (try clear hK K)
    refine wpAnyH_take (i := 0) (v := ?_) rfl (by kernel_rfl) (by kernel_rfl) (by kernel_rfl) (fun _ _ _ h => h) (Or.inl ⟨by rfl, ?_⟩) (by assumption) ?_
    rotate_left
    · intro w hSw; (try dsimp only at hSw); go_simp; (try with_reducible rfl)
    (try simp only [Act.put, List.getElem_toArray, List.getElem_cons_zero, List.setIfInBounds_toArray, List.set_cons_zero, List.set_cons_succ])
    refine wpAnyH_take (i := 1) (v := ?_) rfl (by kernel_rfl) (by kernel_rfl) (by kernel_rfl) (fun _ _ _ h => h) (Or.inl ⟨by rfl, ?_⟩) (by assumption) ?_
    rotate_left
    · intro w hSw; (try dsimp only at hSw); go_simp; (try with_reducible rfl)
    (try simp only [Act.put, List.getElem_toArray, List.getElem_cons_succ, List.getElem_cons_zero, List.setIfInBounds_toArray, List.set_cons_zero, List.set_cons_succ])
    refine wpAnyH_take (i := 2) (v := ?_) rfl (by kernel_rfl) (by kernel_rfl) (by kernel_rfl) (fun _ _ _ h => h) (Or.inl ⟨by rfl, ?_⟩) (by assumption) ?_
    rotate_left
    · intro w hSw; (try dsimp only at hSw); go_simp; (try with_reducible rfl)
    (try simp only [Act.put, List.getElem_toArray, List.getElem_cons_succ, List.getElem_cons_zero, List.setIfInBounds_toArray, List.set_cons_zero, List.set_cons_succ])
    refine wpAnyH_take (i := 3) (v := ?_) rfl (by kernel_rfl) (by kernel_rfl) (by kernel_rfl) (fun _ _ _ h => h) (Or.inl ⟨by rfl, ?_⟩) (by assumption) ?_
    rotate_left
    · intro w hSw; (try dsimp only at hSw); go_simp; (try with_reducible rfl)
    (try simp only [Act.put, List.getElem_toArray, List.getElem_cons_succ, List.getElem_cons_zero, List.setIfInBounds_toArray, List.set_cons_zero, List.set_cons_succ])
    refine wpAnyH_take (i := 4) (v := ?_) rfl (by kernel_rfl) (by kernel_rfl) (by kernel_rfl) (fun _ _ _ h => h) (Or.inl ⟨by rfl, ?_⟩) (by assumption) ?_
    rotate_left
    · intro w hSw; (try dsimp only at hSw); go_simp; (try with_reducible rfl)
    (try simp only [Act.put, List.getElem_toArray, List.getElem_cons_succ, List.getElem_cons_zero, List.setIfInBounds_toArray, List.set_cons_zero, List.set_cons_succ])
    refine wpAnyH_take (i := 5) (v := ?_) rfl (by kernel_rfl) (by kernel_rfl) (by kernel_rfl) (fun _ _ _ h => h) (Or.inl ⟨by rfl, ?_⟩) (by assumption) ?_
    rotate_left
    · intro w hSw; (try dsimp only at hSw); go_simp; (try with_reducible rfl)
    (try simp only [Act.put, List.getElem_toArray, List.getElem_cons_succ, List.getElem_cons_zero, List.setIfInBounds_toArray, List.set_cons_zero, List.set_cons_succ])
    refine wpAnyH_take (i := 6) (v := ?_) rfl (by kernel_rfl) (by kernel_rfl) (by kernel_rfl) (fun _ _ _ h => h) (Or.inl ⟨by rfl, ?_⟩) (by assumption) ?_
    rotate_left
    · intro w hSw; (try dsimp only at hSw); go_simp; (try with_reducible rfl)
    (try simp only [Act.put, List.getElem_toArray, List.getElem_cons_succ, List.getElem_cons_zero, List.setIfInBounds_toArray, List.set_cons_zero, List.set_cons_succ])
    (try clear hK K)
    refine wpAnyH_ready (rs := [7]) (by kernel_rfl) (by simp) ?_
    refine AllReadyH.cons rfl (fun K hK => ?_) AllReadyH.nil
    go_simp
    (refine Calls.mono (HTK.out _ HB6.out.1.drew) ?_; rintro e w7 ⟨rfl, hb⟩)
    refine hK.out _ _ ?_ (fun hHeld => ?_)
    · exact HR6.out.below ((Below.refl _ _).drew.trans hb)
    have HB7 : Hid (Below w.heap.size w w7 ∧ w.heap.size ≤ w1.heap.size) := ⟨HB6.out.1.drew.trans (hb.mono (by simpa using HB6.out.1.size)), HB6.out.2⟩
    have HR7 : Hid (RS w1.heap.size rb ro tp k w7) := HR6.out.below ((Below.refl _ _).drew.trans hb)
    have HZ7 : Hid (w7.heap[w3.heap.size]? = some (.cells (vcells pl).toArray 74 (0, 0)) ∧ w.heap.size ≤ w3.heap.size) := ⟨heap_below HZ6.out.1 ((Below.refl _ _).drew.trans hb), HZ6.out.2⟩
    clear hb HB6 HR6 HZ6 HTK
    (try clear hK K)
    refine wpAnyH_ready (rs := [8]) (by kernel_rfl) (by simp) ?_
    refine AllReadyH.cons rfl (fun K hK => ?_) AllReadyH.nil
    go_simp
    (refine Calls.mono (HPU.out _ HB7.out.1) ?_; rintro e w8 ⟨⟨pb, rfl⟩, hsv, hrr⟩)
    refine hK.out _ _ ?_ (fun hHeld => ?_)
    · exact HR7.out.sv hsv (fun h => by have := HXX.out.1 _ h; have := HB7.out.2; omega) HXX.out.2
    have HE : Hid (Below w.heap.size w w7 ∧ R w7 w8) := ⟨HB7.out.1, hrr⟩
    clear hsv hrr HB7 HR7 HZ7 HPU HXX
    (try clear hK K)
    refine wpAnyH_done (by kernel_rfl) ?_ _
    go_wp2_with fail
    go_ret
    exact ⟨rfl, w7, w8, HE.out.1, HE.out.2, Below.refl _ _⟩
  · go_simp
    have HX0 : Hid ((w2.drew.alloc zobj).heap[w2.heap.size]? = some zobj ∧ w.heap.size ≤ w2.heap.size ∧ ¬ w1.heap.size = w2.heap.size ∧ ¬ rb = w2.heap.size) := by
      have h1 := World.block_lt_of_cell? w2 _ HR2.out.1
      have h2 := World.block_lt_of_cell? w2 _ HR2.out.2.1
      exact ⟨heap_new _ _ _ (by simp), HB2.out.1.size, Nat.ne_of_lt h1, Nat.ne_of_lt h2⟩
    have HB5 : Hid (Below w.heap.size w (w2.drew.alloc zobj) ∧ w.heap.size ≤ w1.heap.size) := ⟨HB2.out.1.drew.alloc (by simpa using HB2.out.1.size) _, HB2.out.2⟩
    have HR5 : Hid (RS w1.heap.size rb ro tp k (w2.drew.alloc zobj)) := HR2.out.below ((Below.refl _ _).drew.alloc (by simp) _)
    refine hK.out _ _ ?_ (fun hHeld => ?_)
    · exact HR5.out
    (try clear hK K)
    refine wpAnyH_ready (rs := [5]) (by kernel_rfl) (by simp) ?_
    refine AllReadyH.cons rfl (fun K hK => ?_) AllReadyH.nil
    (go_simp)
    refine Calls.mono (HGT.out _ HB5.out.1) ?_
    rintro e w3 ⟨rfl, hb⟩
    have HB3 : Hid (Below w.heap.size w w3 ∧ w.heap.size ≤ w1.heap.size) := ⟨HB5.out.1.trans (hb.mono HB5.out.1.size), HB2.out.2⟩
    have HR3 : Hid (RS w1.heap.size rb ro tp k w3) := (HR5.out).below hb
    have HX : Hid (w3.heap[w2.heap.size]? = some zobj ∧ w.heap.size ≤ w2.heap.size ∧ ¬ w1.heap.size = w2.heap.size ∧ ¬ rb = w2.heap.size) := ⟨heap_below HX0.out.1 hb, HX0.out.2⟩
    clear hb HGT HB2 HR2 HB5 HR5 HX0
    refine hK.out _ _ ?_ (fun hHeld => ?_)
    · exact HR3.out
    (try clear hK K)
    refine wpAnyH_take (i := 6) (v := ?_) rfl (by kernel_rfl) (by kernel_rfl) (by kernel_rfl) (fun _ _ _ h => h) (Or.inl ⟨by rfl, ?_⟩) (by assumption) ?_
    rotate_left
    · intro w hSw; (try dsimp only at hSw); go_simp; (try with_reducible rfl)
    (try simp only [Act.put, List.getElem_toArray, List.getElem_cons_succ, List.getElem_cons_zero, List.setIfInBounds_toArray, List.set_cons_zero, List.set_cons_succ])
    refine wpAnyH_take (i := 7) (v := ?_) rfl (by kernel_rfl) (by kernel_rfl) (by kernel_rfl) (fun _ _ _ h => h) (Or.inl ⟨by rfl, ?_⟩) (by assumption) ?_
    rotate_left
    · intro w hSw; (try dsimp only at hSw); go_simp; (try with_reducible rfl)
    (try simp only [Act.put, List.getElem_toArray, List.getElem_cons_succ, List.getElem_cons_zero, List.setIfInBounds_toArray, List.set_cons_zero, List.set_cons_succ])
    refine wpAnyH_take (i := 8) (v := ?_) rfl (by kernel_rfl) (by kernel_rfl) (by kernel_rfl) (fun _ _ _ h => h) (Or.inl ⟨by rfl, ?_⟩) (by assumption) ?_
    rotate_left
    · intro w hSw; (try dsimp only at hSw); go_simp; (try with_reducible rfl)
    (try simp only [Act.put, List.getElem_toArray, List.getElem_cons_succ, List.getElem_cons_zero, List.setIfInBounds_toArray, List.set_cons_zero, List.set_cons_succ])
    (try clear hK K)
    refine wpAnyH_ready (rs := [10]) (by kernel_rfl) (by simp) ?_
    refine AllReadyH.cons rfl (fun K hK => ?_) AllReadyH.nil
    (refine stepH_pstore rfl _ _ rfl (w2.heap.size) (vcells pl) (vcells Pl.zero) rfl rfl HPC.out HZL.out HX.out.1 ?_; intro wz hz1 hz2; have HBz : Hid (Below w.heap.size w wz ∧ w.heap.size ≤ w1.heap.size) := ⟨HB3.out.1.trans (hz2.below HB3.out.1.size fun j hj e => by have := HX.out.2.1; omega), HB3.out.2⟩; have HRz : Hid (RS w1.heap.size rb ro tp k wz) := HR3.out.sv hz2 HX.out.2.2.1 HX.out.2.2.2; have HZ : Hid (wz.heap[w2.heap.size]? = some (.cells (vcells pl).toArray 74 (0, 0)) ∧ w.heap.size ≤ w2.heap.size) := ⟨hz1, HX.out.2.1⟩; clear hz1 hz2 HX HB3 HR3; refine hK.out _ _ ?_ (fun hHeld => ?_))
    · exact HRz.out
    (try clear hK K)
    refine wpAnyH_take (i := 11) (v := ?_) rfl (by kernel_rfl) (by kernel_rfl) (by kernel_rfl) (fun _ _ _ h => h) (Or.inl ⟨by rfl, ?_⟩) (by assumption) ?_
    rotate_left
    · intro w hSw; (try dsimp only at hSw); go_simp; (try with_reducible rfl)
    (try simp only [Act.put, List.getElem_toArray, List.getElem_cons_succ, List.getElem_cons_zero, List.setIfInBounds_toArray, List.set_cons_zero, List.set_cons_succ])
    (try clear hK K)
    refine wpAnyH_done (by kernel_rfl) ?_ _
    clear hHeld
    go_wp2_with (first | (refine step_ploadW _ rfl (w2.heap.size) 0 rfl (vcells pl) (range_heap HZ.out.1) HPC.out (by rfl) ?_) | fail)
    refine Calls.mono (HHR.out _) ?_
    rintro e w6 ⟨rfl, hb⟩
    have HB6 : Hid (Below w.heap.size w w6 ∧ w.heap.size ≤ w1.heap.size) := ⟨HBz.out.1.trans (hb.mono HBz.out.1.size), HBz.out.2⟩
    have HR6 : Hid (RS w1.heap.size rb ro tp k w6) := HRz.out.below hb
    have HZ6 : Hid (w6.heap[w2.heap.size]? = some (.cells (vcells pl).toArray 74 (0, 0)) ∧ w.heap.size ≤ w2.heap.size) := ⟨heap_below HZ.out.1 hb, HZ.out.2⟩
    clear hb HZ HBz HRz HHR
    go_wp2_with fail
    refine wp_region_held_drew (S := fun w' => w'.cell? ⟨w1.heap.size, 1, none⟩ = some (.pointer tp) ∧ w'.cell? ⟨rb, ro, none⟩ = some (.bool k.t) ∧ w'.cell? ⟨rb, ro + 1, none⟩ = some (.int .i64 k.n) ∧ w'.cell? ⟨rb, ro + 2, none⟩ = some (.string k.s)) (by kernel_rfl) ?_ (fun hHeld => ?_)
    · exact HR6.out.below (Below.refl _ _).drew
    (try clear hK K)
    refine wpAnyH_take (i := 0) (v := ?_) rfl (by kernel_rfl) (by kernel_rfl) (by kernel_rfl) (fun _ _ _ h => h) (Or.inl ⟨by rfl, ?_⟩) (by assumption) ?_
    rotate_left
    · intro w hSw; (try dsimp only at hSw); go_simp; (try with_reducible rfl)
    (try simp only [Act.put, List.getElem_toArray, List.getElem_cons_zero, List.setIfInBounds_toArray, List.set_cons_zero, List.set_cons_succ])
    refine wpAnyH_take (i := 1) (v := ?_) rfl (by kernel_rfl) (by kernel_rfl) (by kernel_rfl) (fun _ _ _ h => h) (Or.inl ⟨by rfl, ?_⟩) (by assumption) ?_
    rotate_left
    · intro w hSw; (try dsimp only at hSw); go_simp; (try with_reducible rfl)
    (try simp only [Act.put, List.getElem_toArray, List.getElem_cons_succ, List.getElem_cons_zero, List.setIfInBounds_toArray, List.set_cons_zero, List.set_cons_succ])
    refine wpAnyH_take (i := 2) (v := ?_) rfl (by kernel_rfl) (by kernel_rfl) (by kernel_rfl) (fun _ _ _ h => h) (Or.inl ⟨by rfl, ?_⟩) (by assumption) ?_
    rotate_left
    · intro w hSw; (try dsimp only at hSw); go_simp; (try with_reducible rfl)
    (try simp only [Act.put, List.getElem_toArray, List.getElem_cons_succ, List.getElem_cons_zero, List.setIfInBounds_toArray, List.set_cons_zero, List.set_cons_succ])
    refine wpAnyH_take (i := 3) (v := ?_) rfl (by kernel_rfl) (by kernel_rfl) (by kernel_rfl) (fun _ _ _ h => h) (Or.inl ⟨by rfl, ?_⟩) (by assumption) ?_
    rotate_left
    · intro w hSw; (try dsimp only at hSw); go_simp; (try with_reducible rfl)
    (try simp only [Act.put, List.getElem_toArray, List.getElem_cons_succ, List.getElem_cons_zero, List.setIfInBounds_toArray, List.set_cons_zero, List.set_cons_succ])
    refine wpAnyH_take (i := 4) (v := ?_) rfl (by kernel_rfl) (by kernel_rfl) (by kernel_rfl) (fun _ _ _ h => h) (Or.inl ⟨by rfl, ?_⟩) (by assumption) ?_
    rotate_left
    · intro w hSw; (try dsimp only at hSw); go_simp; (try with_reducible rfl)
    (try simp only [Act.put, List.getElem_toArray, List.getElem_cons_succ, List.getElem_cons_zero, List.setIfInBounds_toArray, List.set_cons_zero, List.set_cons_succ])
    refine wpAnyH_take (i := 5) (v := ?_) rfl (by kernel_rfl) (by kernel_rfl) (by kernel_rfl) (fun _ _ _ h => h) (Or.inl ⟨by rfl, ?_⟩) (by assumption) ?_
    rotate_left
    · intro w hSw; (try dsimp only at hSw); go_simp; (try with_reducible rfl)
    (try simp only [Act.put, List.getElem_toArray, List.getElem_cons_succ, List.getElem_cons_zero, List.setIfInBounds_toArray, List.set_cons_zero, List.set_cons_succ])
    refine wpAnyH_take (i := 6) (v := ?_) rfl (by kernel_rfl) (by kernel_rfl) (by kernel_rfl) (fun _ _ _ h => h) (Or.inl ⟨by rfl, ?_⟩) (by assumption) ?_
    rotate_left
    · intro w hSw; (try dsimp only at hSw); go_simp; (try with_reducible rfl)
    (try simp only [Act.put, List.getElem_toArray, List.getElem_cons_succ, List.getElem_cons_zero, List.setIfInBounds_toArray, List.set_cons_zero, List.set_cons_succ])
    (try clear hK K)
    refine wpAnyH_ready (rs := [7]) (by kernel_rfl) (by simp) ?_
    refine AllReadyH.cons rfl (fun K hK => ?_) AllReadyH.nil
    go_simp
    (refine Calls.mono (HTK.out _ HB6.out.1.drew) ?_; rintro e w7 ⟨rfl, hb⟩)
    refine hK.out _ _ ?_ (fun hHeld => ?_)
    · exact HR6.out.below ((Below.refl _ _).drew.trans hb)
    have HB7 : Hid (Below w.heap.size w w7 ∧ w.heap.size ≤ w1.heap.size) := ⟨HB6.out.1.drew.trans (hb.mono (by simpa using HB6.out.1.size)), HB6.out.2⟩
    have HR7 : Hid (RS w1.heap.size rb ro tp k w7) := HR6.out.below ((Below.refl _ _).drew.trans hb)
    have HZ7 : Hid (w7.heap[w2.heap.size]? = some (.cells (vcells pl).toArray 74 (0, 0)) ∧ w.heap.size ≤ w2.heap.size) := ⟨heap_below HZ6.out.1 ((Below.refl _ _).drew.trans hb), HZ6.out.2⟩
    clear hb HB6 HR6 HZ6 HTK
    (try clear hK K)
    refine wpAnyH_ready (rs := [8]) (by kernel_rfl) (by simp) ?_
    refine AllReadyH.cons rfl (fun K hK => ?_) AllReadyH.nil
    go_simp
    (refine Calls.mono (HPU.out _ HB7.out.1) ?_; rintro e w8 ⟨⟨pb, rfl⟩, hsv, hrr⟩)
    refine hK.out _ _ ?_ (fun hHeld => ?_)
    · exact HR7.out.sv hsv (fun h => by have := HXX.out.1 _ h; have := HB7.out.2; omega) HXX.out.2
    have HE : Hid (Below w.heap.size w w7 ∧ R w7 w8) := ⟨HB7.out.1, hrr⟩
    clear hsv hrr HB7 HR7 HZ7 HPU HXX
    (try clear hK K)
    refine wpAnyH_done (by kernel_rfl) ?_ _
    go_wp2_with fail
    go_ret
    exact ⟨rfl, w7, w8, HE.out.1, HE.out.2, Below.refl _ _⟩
end
end Go.Proofs.Ytafkpfhhmmnpeaa.Val

