/- What the store's Remove and Free do, for whatever its at and its tree answer. -/
import Derived.Test.YtafkpfhhmmnpeaaU23
import Derived.Test.YtafkpfhhmmnpeaaU21
namespace Go.Proofs.Ytafkpfhhmmnpeaa.Val
open Go Go.RowKit
set_option maxRecDepth 100000

section
variable {w : World} {sv : Value} {fa : Option Addr} {fl fc : Nat} {n : Int} {k : Val}
set_option maxHeartbeats 4000000 in
theorem remo_arg
    (hat : ∀ w1, Below w.heap.size w w1 → Calls Try.prog 37 #[sv, .int .i64 n] w1 fun e w' => e = atAns (.slice fa fl fc) none ∧ Below w1.heap.size w1 w')
    : Calls Try.prog 21 #[sv, .int .i64 n, V k.t k.n k.s] w fun e w' => e = .returned (.int .i64 1) ∧ Below w.heap.size w w' := by
  have HAT : Hid _ := hat
  clear hat
  go_enter Try.func21, Try.ntmps21
  go_wp2_with fail
  refine Calls.mono (HAT.out _ (alloc1 _ _)) ?_
  rintro e w1 ⟨rfl, hb⟩
  have HB1 : Hid (Below w.heap.size w w1) := back1 hb
  clear hb HAT
  go_wp2_with fail
  go_ret
  exact ⟨rfl, HB1.out.alloc HB1.out.size _⟩
set_option maxHeartbeats 8000000 in
theorem remo_none {q : Nat} {pl : Pl} {th : Bool} (hr : hasR pl = false)
    (hat : ∀ w1, Below w.heap.size w w1 → Calls Try.prog 37 #[sv, .int .i64 n] w1 fun e w' => e = atAns (.slice fa fl fc) (some ⟨q, 0, none⟩) ∧ Below w1.heap.size w1 w')
    (hgt : ∀ w1, Below w.heap.size w w1 → Calls Try.prog 38 #[sptr q, V k.t k.n k.s] w1 fun e w' => e = gans pl th ∧ Below w1.heap.size w1 w')
    : Calls Try.prog 21 #[sv, .int .i64 n, V k.t k.n k.s] w fun e w' => e = .returned (.int .i64 61) ∧ Below w.heap.size w w' := by
  have HAT : Hid _ := hat
  have HGT : Hid _ := hgt
  have HPC : Hid _ := PC.of pl
  have HHR : Hid (∀ w1, Calls Try.prog 39 #[.agg (vcells pl).toArray] w1 fun e w' => e = .returned (.bool (hasR pl)) ∧ Below w1.heap.size w1 w') := fun w1 => hasRow_any pl w1
  rw [hr] at HHR
  clear hat hgt hr
  go_enter Try.func21, Try.ntmps21
  go_wp2_with fail
  refine Calls.mono (HAT.out _ (alloc1 _ _)) ?_
  rintro e w1 ⟨rfl, hb⟩
  have HB1 : Hid (Below w.heap.size w w1) := back1 hb
  have HR1 : Hid (RS w1.heap.size w.heap.size 0 (some ⟨q, 0, none⟩) k (w1.alloc (tbobj fa fl fc (some ⟨q, 0, none⟩)))) := by
    obtain ⟨a, b, c⟩ := (VBox.new w k 32).below hb
    exact ⟨tb_new _ _ _ _ _, cell_alloc a _, cell_alloc b _, cell_alloc c _⟩
  have HB1' : Hid (Below w.heap.size w (w1.alloc (tbobj fa fl fc (some ⟨q, 0, none⟩)))) := HB1.out.alloc HB1.out.size _
  clear hb HAT HB1
  obtain ⟨a0, a1, a2, a3⟩ := HR1.out
  go_wp2_with fail
  refine Calls.mono (HGT.out _ HB1'.out) ?_
  rintro e w3 ⟨rfl, hb⟩
  have HB3 : Hid (Below w.heap.size w w3) := HB1'.out.trans (hb.mono HB1'.out.size)
  have HR3 : Hid (RS w1.heap.size w.heap.size 0 (some ⟨q, 0, none⟩) k w3) := HR1.out.below hb
  have HX : Hid ((w3.alloc zobj).heap[w3.heap.size]? = some zobj) := heap_new _ _ _ rfl
  clear hb HGT HB1' HR1 a0 a1 a2 a3
  go_wp2_with (first | (refine step_pwhole rfl _ _ rfl w3.heap.size (vcells pl) (vcells Pl.zero) rfl rfl HPC.out rfl HX.out ?_; intro wz hz1 hz2 hs) | (refine step_pload rfl _ rfl w3.heap.size 0 rfl (vcells pl) hz2 HPC.out ?_) | fail)
  have HBz : Hid (Below w.heap.size w wz) := (HB3.out.alloc HB3.out.size zobj).trans (hs.below (by have := HB3.out.size; simp; omega) fun j hj e => by have := HB3.out.size; omega)
  have HRz : Hid (RS w1.heap.size w.heap.size 0 (some ⟨q, 0, none⟩) k wz) := by
    have h1 := World.block_lt_of_cell? w3 _ HR3.out.1
    have h2 := World.block_lt_of_cell? w3 _ HR3.out.2.1
    exact (HR3.out.below (alloc1 _ zobj)).sv hs (Nat.ne_of_lt h1) (Nat.ne_of_lt h2)
  clear hz1 hz2 hs HX HB3 HR3
  refine Calls.mono (HHR.out _) ?_
  rintro e w6 ⟨rfl, hb⟩
  have HB6 : Hid (Below w.heap.size w w6) := HBz.out.trans (hb.mono HBz.out.size)
  have HR6 : Hid (RS w1.heap.size w.heap.size 0 (some ⟨q, 0, none⟩) k w6) := HRz.out.below hb
  clear hb HBz HRz HHR
  go_wp2_with fail
  go_ret
  exact ⟨rfl, HB6.out⟩
set_option maxHeartbeats 8000000 in
theorem remo_put {q : Nat} {pl : Pl} {R : World → World → Prop} {th : Bool} (hr : hasR pl = true)
    (hat : ∀ w1, Below w.heap.size w w1 → Calls Try.prog 37 #[sv, .int .i64 n] w1 fun e w' => e = atAns (.slice fa fl fc) (some ⟨q, 0, none⟩) ∧ Below w1.heap.size w1 w')
    (hgt : ∀ w1, Below w.heap.size w w1 → Calls Try.prog 38 #[sptr q, V k.t k.n k.s] w1 fun e w' => e = gans pl th ∧ Below w1.heap.size w1 w')
    (hput : ∀ w1, Below w.heap.size w w1 → Calls Try.prog 45 #[sptr q, V k.t k.n k.s, .agg (vcells Pl.zero).toArray] w1 fun e w' => (∃ b, e = .returned (.bool b)) ∧ R w1 w')
    : Calls Try.prog 21 #[sv, .int .i64 n, V k.t k.n k.s] w fun e w' => e = .returned (.int .i64 0) ∧ ∃ w1 w2, Below w.heap.size w w1 ∧ R w1 w2 ∧ Below w2.heap.size w2 w' := by
  have HAT : Hid _ := hat
  have HGT : Hid _ := hgt
  have HPC : Hid _ := PC.of pl
  have HHR : Hid (∀ w1, Calls Try.prog 39 #[.agg (vcells pl).toArray] w1 fun e w' => e = .returned (.bool (hasR pl)) ∧ Below w1.heap.size w1 w') := fun w1 => hasRow_any pl w1
  rw [hr] at HHR
  have HPU : Hid _ := hput
  clear hat hgt hr hput
  go_enter Try.func21, Try.ntmps21
  go_wp2_with fail
  refine Calls.mono (HAT.out _ (alloc1 _ _)) ?_
  rintro e w1 ⟨rfl, hb⟩
  have HB1 : Hid (Below w.heap.size w w1) := back1 hb
  have HR1 : Hid (RS w1.heap.size w.heap.size 0 (some ⟨q, 0, none⟩) k (w1.alloc (tbobj fa fl fc (some ⟨q, 0, none⟩)))) := by
    obtain ⟨a, b, c⟩ := (VBox.new w k 32).below hb
    exact ⟨tb_new _ _ _ _ _, cell_alloc a _, cell_alloc b _, cell_alloc c _⟩
  have HB1' : Hid (Below w.heap.size w (w1.alloc (tbobj fa fl fc (some ⟨q, 0, none⟩)))) := HB1.out.alloc HB1.out.size _
  clear hb HAT HB1
  obtain ⟨a0, a1, a2, a3⟩ := HR1.out
  go_wp2_with fail
  refine Calls.mono (HGT.out _ HB1'.out) ?_
  rintro e w3 ⟨rfl, hb⟩
  have HB3 : Hid (Below w.heap.size w w3) := HB1'.out.trans (hb.mono HB1'.out.size)
  have HR3 : Hid (RS w1.heap.size w.heap.size 0 (some ⟨q, 0, none⟩) k w3) := HR1.out.below hb
  have HX : Hid ((w3.alloc zobj).heap[w3.heap.size]? = some zobj) := heap_new _ _ _ rfl
  clear hb HGT HB1' HR1 a0 a1 a2 a3
  go_wp2_with (first | (refine step_pwhole rfl _ _ rfl w3.heap.size (vcells pl) (vcells Pl.zero) rfl rfl HPC.out rfl HX.out ?_; intro wz hz1 hz2 hs) | (refine step_pload rfl _ rfl w3.heap.size 0 rfl (vcells pl) hz2 HPC.out ?_) | fail)
  have HBz : Hid (Below w.heap.size w wz) := (HB3.out.alloc HB3.out.size zobj).trans (hs.below (by have := HB3.out.size; simp; omega) fun j hj e => by have := HB3.out.size; omega)
  have HRz : Hid (RS w1.heap.size w.heap.size 0 (some ⟨q, 0, none⟩) k wz) := by
    have h1 := World.block_lt_of_cell? w3 _ HR3.out.1
    have h2 := World.block_lt_of_cell? w3 _ HR3.out.2.1
    exact (HR3.out.below (alloc1 _ zobj)).sv hs (Nat.ne_of_lt h1) (Nat.ne_of_lt h2)
  clear hz1 hz2 hs HX HB3 HR3
  refine Calls.mono (HHR.out _) ?_
  rintro e w6 ⟨rfl, hb⟩
  have HB6 : Hid (Below w.heap.size w w6) := HBz.out.trans (hb.mono HBz.out.size)
  have HR6 : Hid (RS w1.heap.size w.heap.size 0 (some ⟨q, 0, none⟩) k w6) := HRz.out.below hb
  clear hb HBz HRz HHR
  obtain ⟨a0, a1, a2, a3⟩ := HR6.out
  go_wp2_with fail
  refine Calls.mono (HPU.out _ HB6.out) ?_
  rintro e w8 ⟨⟨pb, rfl⟩, hrr⟩
  have HE : Hid (R w6 w8) := hrr
  clear hrr HPU a0 a1 a2 a3 HR6
  go_wp2_with fail
  go_ret
  exact ⟨rfl, w6, w8, HB6.out, HE.out, Below.refl _ _⟩
set_option maxHeartbeats 4000000 in
theorem free_arg
    (hat : ∀ w1, Below w.heap.size w w1 → Calls Try.prog 37 #[sv, .int .i64 n] w1 fun e w' => e = atAns (.slice fa fl fc) none ∧ Below w1.heap.size w1 w')
    : Calls Try.prog 24 #[sv, .int .i64 n, V k.t k.n k.s] w fun e w' => e = .returned (.int .i64 1) ∧ Below w.heap.size w w' := by
  have HAT : Hid _ := hat
  clear hat
  go_enter Try.func24, Try.ntmps24
  go_wp2_with fail
  refine Calls.mono (HAT.out _ (alloc1 _ _)) ?_
  rintro e w1 ⟨rfl, hb⟩
  have HB1 : Hid (Below w.heap.size w w1) := back1 hb
  clear hb HAT
  go_wp2_with fail
  go_ret
  exact ⟨rfl, HB1.out.alloc HB1.out.size _⟩
set_option maxHeartbeats 8000000 in
theorem free_there {q : Nat} {pl : Pl} {th : Bool} (hr : hasR pl = true)
    (hat : ∀ w1, Below w.heap.size w w1 → Calls Try.prog 37 #[sv, .int .i64 n] w1 fun e w' => e = atAns (.slice fa fl fc) (some ⟨q, 0, none⟩) ∧ Below w1.heap.size w1 w')
    (hgt : ∀ w1, Below w.heap.size w w1 → Calls Try.prog 38 #[sptr q, V k.t k.n k.s] w1 fun e w' => e = gans pl th ∧ Below w1.heap.size w1 w')
    : Calls Try.prog 24 #[sv, .int .i64 n, V k.t k.n k.s] w fun e w' => e = .returned (.int .i64 60) ∧ Below w.heap.size w w' := by
  have HAT : Hid _ := hat
  have HGT : Hid _ := hgt
  have HPC : Hid _ := PC.of pl
  have HHR : Hid (∀ w1, Calls Try.prog 39 #[.agg (vcells pl).toArray] w1 fun e w' => e = .returned (.bool (hasR pl)) ∧ Below w1.heap.size w1 w') := fun w1 => hasRow_any pl w1
  rw [hr] at HHR
  clear hat hgt hr
  go_enter Try.func24, Try.ntmps24
  go_wp2_with fail
  refine Calls.mono (HAT.out _ (alloc1 _ _)) ?_
  rintro e w1 ⟨rfl, hb⟩
  have HB1 : Hid (Below w.heap.size w w1) := back1 hb
  have HR1 : Hid (RS w1.heap.size w.heap.size 0 (some ⟨q, 0, none⟩) k (w1.alloc (tbobj fa fl fc (some ⟨q, 0, none⟩)))) := by
    obtain ⟨a, b, c⟩ := (VBox.new w k 32).below hb
    exact ⟨tb_new _ _ _ _ _, cell_alloc a _, cell_alloc b _, cell_alloc c _⟩
  have HB1' : Hid (Below w.heap.size w (w1.alloc (tbobj fa fl fc (some ⟨q, 0, none⟩)))) := HB1.out.alloc HB1.out.size _
  clear hb HAT HB1
  obtain ⟨a0, a1, a2, a3⟩ := HR1.out
  go_wp2_with fail
  refine Calls.mono (HGT.out _ HB1'.out) ?_
  rintro e w3 ⟨rfl, hb⟩
  have HB3 : Hid (Below w.heap.size w w3) := HB1'.out.trans (hb.mono HB1'.out.size)
  have HR3 : Hid (RS w1.heap.size w.heap.size 0 (some ⟨q, 0, none⟩) k w3) := HR1.out.below hb
  have HX : Hid ((w3.alloc zobj).heap[w3.heap.size]? = some zobj) := heap_new _ _ _ rfl
  clear hb HGT HB1' HR1 a0 a1 a2 a3
  go_wp2_with (first | (refine step_pwhole rfl _ _ rfl w3.heap.size (vcells pl) (vcells Pl.zero) rfl rfl HPC.out rfl HX.out ?_; intro wz hz1 hz2 hs) | (refine step_pload rfl _ rfl w3.heap.size 0 rfl (vcells pl) hz2 HPC.out ?_) | fail)
  have HBz : Hid (Below w.heap.size w wz) := (HB3.out.alloc HB3.out.size zobj).trans (hs.below (by have := HB3.out.size; simp; omega) fun j hj e => by have := HB3.out.size; omega)
  have HRz : Hid (RS w1.heap.size w.heap.size 0 (some ⟨q, 0, none⟩) k wz) := by
    have h1 := World.block_lt_of_cell? w3 _ HR3.out.1
    have h2 := World.block_lt_of_cell? w3 _ HR3.out.2.1
    exact (HR3.out.below (alloc1 _ zobj)).sv hs (Nat.ne_of_lt h1) (Nat.ne_of_lt h2)
  clear hz1 hz2 hs HX HB3 HR3
  refine Calls.mono (HHR.out _) ?_
  rintro e w6 ⟨rfl, hb⟩
  have HB6 : Hid (Below w.heap.size w w6) := HBz.out.trans (hb.mono HBz.out.size)
  have HR6 : Hid (RS w1.heap.size w.heap.size 0 (some ⟨q, 0, none⟩) k w6) := HRz.out.below hb
  clear hb HBz HRz HHR
  go_wp2_with fail
  go_ret
  exact ⟨rfl, HB6.out⟩
set_option maxHeartbeats 8000000 in
theorem free_none {q : Nat} {pl : Pl} (hr : hasR pl = false)
    (hat : ∀ w1, Below w.heap.size w w1 → Calls Try.prog 37 #[sv, .int .i64 n] w1 fun e w' => e = atAns (.slice fa fl fc) (some ⟨q, 0, none⟩) ∧ Below w1.heap.size w1 w')
    (hgt : ∀ w1, Below w.heap.size w w1 → Calls Try.prog 38 #[sptr q, V k.t k.n k.s] w1 fun e w' => e = gans pl false ∧ Below w1.heap.size w1 w')
    : Calls Try.prog 24 #[sv, .int .i64 n, V k.t k.n k.s] w fun e w' => e = .returned (.int .i64 61) ∧ Below w.heap.size w w' := by
  have HAT : Hid _ := hat
  have HGT : Hid _ := hgt
  have HPC : Hid _ := PC.of pl
  have HHR : Hid (∀ w1, Calls Try.prog 39 #[.agg (vcells pl).toArray] w1 fun e w' => e = .returned (.bool (hasR pl)) ∧ Below w1.heap.size w1 w') := fun w1 => hasRow_any pl w1
  rw [hr] at HHR
  clear hat hgt hr
  go_enter Try.func24, Try.ntmps24
  go_wp2_with fail
  refine Calls.mono (HAT.out _ (alloc1 _ _)) ?_
  rintro e w1 ⟨rfl, hb⟩
  have HB1 : Hid (Below w.heap.size w w1) := back1 hb
  have HR1 : Hid (RS w1.heap.size w.heap.size 0 (some ⟨q, 0, none⟩) k (w1.alloc (tbobj fa fl fc (some ⟨q, 0, none⟩)))) := by
    obtain ⟨a, b, c⟩ := (VBox.new w k 32).below hb
    exact ⟨tb_new _ _ _ _ _, cell_alloc a _, cell_alloc b _, cell_alloc c _⟩
  have HB1' : Hid (Below w.heap.size w (w1.alloc (tbobj fa fl fc (some ⟨q, 0, none⟩)))) := HB1.out.alloc HB1.out.size _
  clear hb HAT HB1
  obtain ⟨a0, a1, a2, a3⟩ := HR1.out
  go_wp2_with fail
  refine Calls.mono (HGT.out _ HB1'.out) ?_
  rintro e w3 ⟨rfl, hb⟩
  have HB3 : Hid (Below w.heap.size w w3) := HB1'.out.trans (hb.mono HB1'.out.size)
  have HR3 : Hid (RS w1.heap.size w.heap.size 0 (some ⟨q, 0, none⟩) k w3) := HR1.out.below hb
  have HX : Hid ((w3.alloc zobj).heap[w3.heap.size]? = some zobj) := heap_new _ _ _ rfl
  clear hb HGT HB1' HR1 a0 a1 a2 a3
  go_wp2_with (first | (refine step_pwhole rfl _ _ rfl w3.heap.size (vcells pl) (vcells Pl.zero) rfl rfl HPC.out rfl HX.out ?_; intro wz hz1 hz2 hs) | (refine step_pload rfl _ rfl w3.heap.size 0 rfl (vcells pl) hz2 HPC.out ?_) | fail)
  have HBz : Hid (Below w.heap.size w wz) := (HB3.out.alloc HB3.out.size zobj).trans (hs.below (by have := HB3.out.size; simp; omega) fun j hj e => by have := HB3.out.size; omega)
  have HRz : Hid (RS w1.heap.size w.heap.size 0 (some ⟨q, 0, none⟩) k wz) := by
    have h1 := World.block_lt_of_cell? w3 _ HR3.out.1
    have h2 := World.block_lt_of_cell? w3 _ HR3.out.2.1
    exact (HR3.out.below (alloc1 _ zobj)).sv hs (Nat.ne_of_lt h1) (Nat.ne_of_lt h2)
  clear hz1 hz2 hs HX HB3 HR3
  refine Calls.mono (HHR.out _) ?_
  rintro e w6 ⟨rfl, hb⟩
  have HB6 : Hid (Below w.heap.size w w6) := HBz.out.trans (hb.mono HBz.out.size)
  have HR6 : Hid (RS w1.heap.size w.heap.size 0 (some ⟨q, 0, none⟩) k w6) := HRz.out.below hb
  clear hb HBz HRz HHR
  go_wp2_with fail
  go_ret
  exact ⟨rfl, HB6.out⟩
set_option maxHeartbeats 8000000 in
theorem free_put {q : Nat} {pl : Pl} {R : World → World → Prop} (hr : hasR pl = false)
    (hat : ∀ w1, Below w.heap.size w w1 → Calls Try.prog 37 #[sv, .int .i64 n] w1 fun e w' => e = atAns (.slice fa fl fc) (some ⟨q, 0, none⟩) ∧ Below w1.heap.size w1 w')
    (hgt : ∀ w1, Below w.heap.size w w1 → Calls Try.prog 38 #[sptr q, V k.t k.n k.s] w1 fun e w' => e = gans pl true ∧ Below w1.heap.size w1 w')
    (hput : ∀ w1, Below w.heap.size w w1 → Calls Try.prog 48 #[sptr q, V k.t k.n k.s] w1 fun e w' => (∃ b, e = .returned (.bool b)) ∧ R w1 w')
    : Calls Try.prog 24 #[sv, .int .i64 n, V k.t k.n k.s] w fun e w' => e = .returned (.int .i64 0) ∧ ∃ w1 w2, Below w.heap.size w w1 ∧ R w1 w2 ∧ Below w2.heap.size w2 w' := by
  have HAT : Hid _ := hat
  have HGT : Hid _ := hgt
  have HPC : Hid _ := PC.of pl
  have HHR : Hid (∀ w1, Calls Try.prog 39 #[.agg (vcells pl).toArray] w1 fun e w' => e = .returned (.bool (hasR pl)) ∧ Below w1.heap.size w1 w') := fun w1 => hasRow_any pl w1
  rw [hr] at HHR
  have HPU : Hid _ := hput
  clear hat hgt hr hput
  go_enter Try.func24, Try.ntmps24
  go_wp2_with fail
  refine Calls.mono (HAT.out _ (alloc1 _ _)) ?_
  rintro e w1 ⟨rfl, hb⟩
  have HB1 : Hid (Below w.heap.size w w1) := back1 hb
  have HR1 : Hid (RS w1.heap.size w.heap.size 0 (some ⟨q, 0, none⟩) k (w1.alloc (tbobj fa fl fc (some ⟨q, 0, none⟩)))) := by
    obtain ⟨a, b, c⟩ := (VBox.new w k 32).below hb
    exact ⟨tb_new _ _ _ _ _, cell_alloc a _, cell_alloc b _, cell_alloc c _⟩
  have HB1' : Hid (Below w.heap.size w (w1.alloc (tbobj fa fl fc (some ⟨q, 0, none⟩)))) := HB1.out.alloc HB1.out.size _
  clear hb HAT HB1
  obtain ⟨a0, a1, a2, a3⟩ := HR1.out
  go_wp2_with fail
  refine Calls.mono (HGT.out _ HB1'.out) ?_
  rintro e w3 ⟨rfl, hb⟩
  have HB3 : Hid (Below w.heap.size w w3) := HB1'.out.trans (hb.mono HB1'.out.size)
  have HR3 : Hid (RS w1.heap.size w.heap.size 0 (some ⟨q, 0, none⟩) k w3) := HR1.out.below hb
  have HX : Hid ((w3.alloc zobj).heap[w3.heap.size]? = some zobj) := heap_new _ _ _ rfl
  clear hb HGT HB1' HR1 a0 a1 a2 a3
  go_wp2_with (first | (refine step_pwhole rfl _ _ rfl w3.heap.size (vcells pl) (vcells Pl.zero) rfl rfl HPC.out rfl HX.out ?_; intro wz hz1 hz2 hs) | (refine step_pload rfl _ rfl w3.heap.size 0 rfl (vcells pl) hz2 HPC.out ?_) | fail)
  have HBz : Hid (Below w.heap.size w wz) := (HB3.out.alloc HB3.out.size zobj).trans (hs.below (by have := HB3.out.size; simp; omega) fun j hj e => by have := HB3.out.size; omega)
  have HRz : Hid (RS w1.heap.size w.heap.size 0 (some ⟨q, 0, none⟩) k wz) := by
    have h1 := World.block_lt_of_cell? w3 _ HR3.out.1
    have h2 := World.block_lt_of_cell? w3 _ HR3.out.2.1
    exact (HR3.out.below (alloc1 _ zobj)).sv hs (Nat.ne_of_lt h1) (Nat.ne_of_lt h2)
  clear hz1 hz2 hs HX HB3 HR3
  refine Calls.mono (HHR.out _) ?_
  rintro e w6 ⟨rfl, hb⟩
  have HB6 : Hid (Below w.heap.size w w6) := HBz.out.trans (hb.mono HBz.out.size)
  have HR6 : Hid (RS w1.heap.size w.heap.size 0 (some ⟨q, 0, none⟩) k w6) := HRz.out.below hb
  clear hb HBz HRz HHR
  obtain ⟨a0, a1, a2, a3⟩ := HR6.out
  go_wp2_with fail
  refine Calls.mono (HPU.out _ HB6.out) ?_
  rintro e w8 ⟨⟨pb, rfl⟩, hrr⟩
  have HE : Hid (R w6 w8) := hrr
  clear hrr HPU a0 a1 a2 a3 HR6
  go_wp2_with fail
  go_ret
  exact ⟨rfl, w6, w8, HB6.out, HE.out, Below.refl _ _⟩
end
end Go.Proofs.Ytafkpfhhmmnpeaa.Val
/- What the store's Used answers. -/
namespace Go.Proofs.Ytafkpfhhmmnpeaa.Val
open Go Go.RowKit
set_option maxRecDepth 100000

/-- How many places are taken. -/
def usedS (ts : List Tb) : Nat := (ts.map fun t => t.l.length).sum
theorem used_take {ts : List Tb} {j : Nat} (hj : j < ts.length) : usedS (ts.take (j + 1)) = usedS (ts.take j) + ts[j].l.length := by
  unfold usedS
  rw [List.take_succ_eq_append_getElem hj, List.map_append, List.sum_append]
  simp
theorem used_le (ts : List Tb) (j : Nat) : usedS (ts.take j) ≤ usedS ts := by
  unfold usedS
  conv => rhs; rw [← List.take_append_drop j ts, List.map_append, List.sum_append]
  omega
theorem used_set (ts : List Tb) (i : Nat) (hi : i < ts.length) (h' : Hd) (l' : List Pr) : usedS (setT ts i h' l') + ts[i].l.length = usedS ts + l'.length := by
  unfold setT usedS
  induction ts generalizing i with
  | nil => simp at hi
  | cons t ts ih =>
    cases i with
    | zero => simp; omega
    | succ i =>
      have := ih i (by simpa using hi)
      simp only [List.modify_succ_cons, List.map_cons, List.sum_cons, List.getElem_cons_succ] at this ⊢
      omega
section
variable {w w' : World} {p : Nat} {tv : Value} {room last : Int} {ts : List Tb}
set_option maxHeartbeats 4000000 in
theorem used_nil : Calls Try.prog 16 #[.pointer none] w fun e w' => e = .returned (.int .i64 0) ∧ Below w.heap.size w w' := by
  go_enter Try.func16, Try.ntmps16
  go_wp2_with fail
  go_ret
  exact ⟨rfl, Below.refl _ _⟩
set_option maxHeartbeats 4000000 in
theorem used_any (s : SM w p tv room last ts) (hu : usedS ts ≤ 1000000) (hl : ts.length ≤ 1000) : Calls Try.prog 16 #[sptr p] w fun e w' => e = .returned (.int .i64 (usedS ts)) ∧ Below w.heap.size w w' := by
  obtain ⟨ao, c, rfl, _⟩ := s.tv_slice
  have HS : Hid (SM w p (.slice ao ts.length c) room last ts) := s
  have c0 := s.c0
  have hp := s.lt
  have HU : Hid (usedS ts ≤ 1000000) := hu
  clear s hu
  go_enter Try.func16, Try.ntmps16
  go_wp2_with fail
  clear c0
  go_loopw [3, 13] (fun u i wr => ∃ j : Nat, j ≤ ts.length ∧ i = .int .i64 (j : Int) ∧ u = .int .i64 (usedS (ts.take j) : Nat) ∧ Hid (Below w.heap.size w wr)) (fun _ i _ => ts.length - (intOf i).toNat)
  case atStart => exact ⟨0, Nat.zero_le _, rfl, rfl, Below.refl _ _⟩
  case round =>
    obtain ⟨j, hj, rfl, rfl, HW⟩ := hrel
    by_cases h1 : j < ts.length
    · have S1 := HS.out.below HW.out
      obtain ⟨b, o, c', e, d0, d1⟩ := S1.at j h1
      obtain ⟨af, cf, hf, _⟩ := (S1.forms j h1).slice
      injection e with e1 e2 e3
      subst e1
      rw [hf] at d0
      have HL : Hid (∀ w1, Below wr.heap.size wr w1 → Calls Try.prog 42 #[sptr ts[j].h.p] w1 fun e w' => e = .returned (.int .i64 ts[j].l.length) ∧ Below w1.heap.size w1 w') := fun w1 hb => tr_len ((S1.trees j h1).below hb)
      have HT : Hid (usedS (ts.take (j + 1)) = usedS (ts.take j) + ts[j].l.length ∧ usedS (ts.take (j + 1)) ≤ 1000000 ∧ j < ts.length) := ⟨used_take h1, Nat.le_trans (used_le ts _) HU.out, h1⟩
      have hbl := World.block_lt_of_cell? _ _ d0
      clear S1 hf e2 e3
      generalize ts[j].h.p = q at *
      generalize ts[j].l.length = ln at *
      generalize ts[j].cols.length = cl at *
      generalize usedS (ts.take j) = us at *
      have u1 : us + ln ≤ 1000000 := by have := HT.out; omega
      have j0 : (0 : Int) ≤ (j : Int) := by omega
      have j1 : (j : Int) < (ts.length : Int) := by omega
      have j2 : j ≤ 1000 := by omega
      have hw1 : IntKind.i64.wrap ((us : Int) + (ln : Int)) = (us : Int) + (ln : Int) := by rw [IntKind.wrap_i64]; omega
      clear h1 hj
      go_wp2_with fail
      refine Calls.mono (HL.out _ (alloc1 _ _)) ?_
      rintro e w2 ⟨rfl, hb⟩
      have HW2 : Hid (Below w.heap.size w w2) := (HW.out.alloc HW.out.size _).trans (hb.mono (by have := HW.out.size; simp; omega))
      clear hb d0 d1 HL HW
      go_wp2_with fail
      go_roundw
      case rel => exact ⟨j + 1, HT.out.2.2, by go_num, by rw [HT.out.1]; simp, HW2.out⟩
      case measure => have := HT.out.2.2; simp [intOf]; omega
    · obtain rfl : j = ts.length := by omega
      have j1 : decide ((ts.length : Int) < (ts.length : Int)) = false := by simp
      rw [List.take_length]
      go_wp2_with fail
      go_ret
      exact ⟨rfl, HW.out⟩
end
end Go.Proofs.Ytafkpfhhmmnpeaa.Val
