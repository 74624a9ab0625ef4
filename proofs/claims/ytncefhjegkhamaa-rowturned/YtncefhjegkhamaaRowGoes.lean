/- What row.isNumbers, row.goes and the reference's number answer. -/
import Derived.Test.YtncefhjegkhamaaRowB
import Derived.Test.YtncefhjegkhamaaKept2
namespace Go.Proofs.Ytncefhjegkhamaa.Val
open Go.RowKit

theorem colAt_nat {cols : List Bool} {k : Nat} (h : k < cols.length) : colAt cols (k : Int) = cols[k] := by simp [colAt, h]
theorem isCol_iff {cols : List Bool} {i : Int} : isCol cols i = true ↔ 0 ≤ i ∧ i < cols.length := by simp [isCol]
theorem isCol_no {cols : List Bool} {i : Int} (h : ¬ (0 ≤ i ∧ i < cols.length)) : isCol cols i = false := by
  cases e : isCol cols i
  · rfl
  · exact absurd (isCol_iff.1 e) h
theorem back1' {w w1 : World} {o1 : Obj} (h : Below (w.alloc o1).heap.size (w.alloc o1) w1) : Below w.heap.size w w1 :=
  ((Below.refl _ _).alloc (Nat.le_refl _) _).trans (h.mono (by simp))
theorem in1' {w w1 : World} {v : Value} {T : TypeId} (h : Below (w.alloc (.cells #[v] T)).heap.size (w.alloc (.cells #[v] T)) w1) : w1.cell? ⟨w.heap.size, 0, none⟩ = some v := by
  rw [h.cell (by simp)]; simp
theorem suits_int (vc : Value) (cols : List Bool) (i : Int) (x : Val) (w : World) (h : BoolsIn w vc cols) (hs : x.s.size ≤ maxLen) (h0 : 0 ≤ i) (h1 : i < cols.length) :
    Calls Try.prog 24 #[.agg #[vc], .int .i64 i, V x.t x.n x.s] w fun e w' => e = .returned (.bool (suitV (colAt cols i) x)) ∧ Below w.heap.size w w' := by
  obtain ⟨k, rfl⟩ : ∃ k : Nat, i = k := ⟨i.toNat, by omega⟩
  have hk : k < cols.length := by omega
  rw [colAt_nat hk]
  exact suits_any vc cols k x w h hs hk
set_option maxHeartbeats 400000 in
theorem isNumbers_no (vc : Value) (cols : List Bool) (i : Int) (w : World) (h : BoolsIn w vc cols) (hi : isCol cols i = false) :
    Calls Try.prog 41 #[.agg #[vc], .int .i64 i] w fun e w' => e = .returned (.bool false) ∧ Below w.heap.size w w' := by
  have H : Hid (∀ w1, Below w.heap.size w w1 → Calls Try.prog 30 #[.agg #[vc], .int .i64 i] w1 fun e w' => e = .returned (.bool false) ∧ Below w1.heap.size w1 w') := fun w1 hb => by
    have := isColumn_any vc cols i w1 (h.below hb); rw [hi] at this; exact this
  clear h hi
  go_enter Try.func41, Try.ntmps41
  go_wp2_with fail
  refine Calls.mono (H.out _ ((Below.refl _ _).alloc (Nat.le_refl _) _)) ?_
  rintro e w1 ⟨rfl, hb1⟩
  go_wp2
  go_ret
  exact ⟨rfl, back1' hb1⟩
set_option maxHeartbeats 400000 in
theorem isNumbers_yes (vc : Value) (cols : List Bool) (k : Nat) (w : World) (h : BoolsIn w vc cols) (hk : k < cols.length) :
    Calls Try.prog 41 #[.agg #[vc], .int .i64 k] w fun e w' => e = .returned (.bool (!cols[k])) ∧ Below w.heap.size w w' := by
  have H : Hid (∀ w1, Below w.heap.size w w1 → Calls Try.prog 30 #[.agg #[vc], .int .i64 k] w1 fun e w' => e = .returned (.bool true) ∧ Below w1.heap.size w1 w') := fun w1 hb => by
    have := isColumn_any vc cols k w1 (h.below hb); rw [isCol_iff.2 ⟨by omega, by omega⟩] at this; exact this
  obtain ⟨ac, cc, rfl, lc⟩ := h.slice
  obtain ⟨b, o, rfl, hc⟩ := h.at k hk
  have hlt : b < w.heap.size := World.block_lt_of_cell? w _ hc
  have k0 : (0 : Int) ≤ (k : Int) := by omega
  have k1 : (k : Int) < (cols.length : Int) := by omega
  clear h
  generalize cols[k] = c at *
  go_enter Try.func41, Try.ntmps41
  go_wp2_with fail
  refine Calls.mono (H.out _ ((Below.refl _ _).alloc (Nat.le_refl _) _)) ?_
  rintro e w1 ⟨rfl, hb1⟩
  have c0 := in1' hb1
  have c1 : w1.cell? ⟨b, o + k, none⟩ = some (.bool c) := by rw [(back1' hb1).cell hlt]; exact hc
  go_wp2
  go_ret
  exact ⟨rfl, back1' hb1⟩
theorem isNumbers_any (vc : Value) (cols : List Bool) (i : Int) (w : World) (h : BoolsIn w vc cols) :
    Calls Try.prog 41 #[.agg #[vc], .int .i64 i] w fun e w' => e = .returned (.bool (isNum cols i)) ∧ Below w.heap.size w w' := by
  cases hi : isCol cols i
  · have e : isNum cols i = false := by unfold isNum; rw [hi]; rfl
    rw [e]; exact isNumbers_no vc cols i w h hi
  · obtain ⟨h0, h1⟩ := isCol_iff.1 hi
    obtain ⟨k, rfl⟩ : ∃ k : Nat, i = k := ⟨i.toNat, by omega⟩
    have hk : k < cols.length := by omega
    have e : isNum cols k = !cols[k] := by unfold isNum; rw [hi, colAt_nat hk]; rfl
    rw [e]; exact isNumbers_yes vc cols k w h hk
set_option maxHeartbeats 400000 in
theorem rnumber_any (vc : Value) (cols : List Bool) (i : Int) (w : World) (h : BoolsIn w vc cols) :
    Calls Try.prog 33 #[.agg #[vc], .int .i64 i] w fun e w' => e = .returned (.bool (isNum cols i)) ∧ Below w.heap.size w w' := by
  obtain ⟨ac, cc, rfl, lc⟩ := h.slice
  by_cases h0 : 0 ≤ i
  · by_cases h1 : i < cols.length
    · obtain ⟨k, rfl⟩ : ∃ k : Nat, i = k := ⟨i.toNat, by omega⟩
      have hk : k < cols.length := by omega
      have HE : Hid (isNum cols k = !cols[k]) := by show _ = _; unfold isNum; rw [isCol_iff.2 ⟨h0, h1⟩, colAt_nat hk]; rfl
      obtain ⟨b, o, rfl, hc⟩ := h.at k hk
      have hc' : ∀ ob, (w.alloc ob).cell? ⟨b, o + k, none⟩ = some (.bool cols[k]) := fun ob => by rw [World.cell?_alloc_some _ _ _ (by rw [hc]; rfl)]; exact hc
      clear h
      go_enter Try.func33, Try.ntmps33
      go_wp2
      go_ret
      exact ⟨ret_bool' HE.out.symm, (Below.refl _ _).alloc (Nat.le_refl _) _⟩
    · have HE : Hid (isNum cols i = false) := by show _ = _; unfold isNum; rw [isCol_no (by omega)]; rfl
      have h2 : decide (i < (cols.length : Int)) = false := by simpa using h1
      clear h
      go_enter Try.func33, Try.ntmps33
      go_wp2
      go_ret
      exact ⟨ret_bool' HE.out.symm, (Below.refl _ _).alloc (Nat.le_refl _) _⟩
  · have HE : Hid (isNum cols i = false) := by show _ = _; unfold isNum; rw [isCol_no (by omega)]; rfl
    have h2 : decide (0 ≤ i) = false := by simpa using h0
    clear h
    go_enter Try.func33, Try.ntmps33
    go_wp2
    go_ret
    exact ⟨ret_bool' HE.out.symm, (Below.refl _ _).alloc (Nat.le_refl _) _⟩

/-- Does what a set's Op names go with its column? -/
def goesB (cols : List Bool) (s : SetP) : Bool :=
  if s.op = 1 then suitV (colAt cols s.col) s.v
  else if s.op = 2 then isCol cols s.src && (colAt cols s.src == colAt cols s.col)
  else if s.op = 3 ∨ s.op = 4 ∨ s.op = 5 then isNum cols s.col && isNum cols s.src && suitV (colAt cols s.col) s.v
  else if s.op = 6 then isNum cols s.col && isNum cols s.src && isNum cols s.other
  else false
/-- A table's and a set's boxes, in memory. -/
def TS (w : World) (b : Nat) (v : Value) (c op f o : Int) (t : Bool) (n : Int) (s : ByteArray) : Prop :=
  w.cell? ⟨b, 0, none⟩ = some v ∧ w.cell? ⟨b + 1, 0, none⟩ = some (.int .i64 c) ∧ w.cell? ⟨b + 1, 1, none⟩ = some (.int .i64 op) ∧ w.cell? ⟨b + 1, 2, none⟩ = some (.int .i64 f) ∧ w.cell? ⟨b + 1, 3, none⟩ = some (.int .i64 o) ∧ w.cell? ⟨b + 1, 4, none⟩ = some (.bool t) ∧ w.cell? ⟨b + 1, 5, none⟩ = some (.int .i64 n) ∧ w.cell? ⟨b + 1, 6, none⟩ = some (.string s)
theorem TS.next {w1 w2 : World} {b : Nat} {v : Value} {c op f o : Int} {t : Bool} {n : Int} {s : ByteArray} (h : TS w1 b v c op f o t n s) (hb : Below w1.heap.size w1 w2) : TS w2 b v c op f o t n s := by
  obtain ⟨h0, h1, h2, h3, h4, h5, h6, h7⟩ := h
  refine ⟨?_, ?_, ?_, ?_, ?_, ?_, ?_, ?_⟩
  · rw [hb.cell (World.block_lt_of_cell? _ _ h0)]; exact h0
  · rw [hb.cell (World.block_lt_of_cell? _ _ h1)]; exact h1
  · rw [hb.cell (World.block_lt_of_cell? _ _ h2)]; exact h2
  · rw [hb.cell (World.block_lt_of_cell? _ _ h3)]; exact h3
  · rw [hb.cell (World.block_lt_of_cell? _ _ h4)]; exact h4
  · rw [hb.cell (World.block_lt_of_cell? _ _ h5)]; exact h5
  · rw [hb.cell (World.block_lt_of_cell? _ _ h6)]; exact h6
  · rw [hb.cell (World.block_lt_of_cell? _ _ h7)]; exact h7
theorem TS.new (w : World) (v : Value) (c op f o : Int) (t : Bool) (n : Int) (s : ByteArray) (T1 T2 : TypeId) :
    TS ((w.alloc (.cells #[v] T1)).alloc (.cells #[.int .i64 c, .int .i64 op, .int .i64 f, .int .i64 o, .bool t, .int .i64 n, .string s] T2)) w.heap.size v c op f o t n s := by
  refine ⟨?_, ?_, ?_, ?_, ?_, ?_, ?_, ?_⟩ <;> simp [go_sem]
theorem two_boxes (w : World) (o1 o2 : Obj) : Below w.heap.size w ((w.alloc o1).alloc o2) := ((Below.refl _ _).alloc (Nat.le_refl _) _).alloc (by simp) _
theorem back2 {w w1 : World} {o1 o2 : Obj} (h : Below ((w.alloc o1).alloc o2).heap.size ((w.alloc o1).alloc o2) w1) : Below w.heap.size w w1 :=
  (two_boxes w o1 o2).trans (h.mono (by simp; omega))
/-- A set as the machine has it. -/
abbrev SV (c op f o : Int) (t : Bool) (n : Int) (s : ByteArray) : Value := .agg #[.int .i64 c, .int .i64 op, .int .i64 f, .int .i64 o, .bool t, .int .i64 n, .string s]

set_option maxHeartbeats 400000 in
theorem goes_to (vc : Value) (c f o : Int) (t : Bool) (n : Int) (s : ByteArray) (w : World) (r : Bool)
    (H : Hid (∀ w1, Below w.heap.size w w1 → Calls Try.prog 24 #[.agg #[vc], .int .i64 c, V t n s] w1 fun e w' => e = .returned (.bool r) ∧ Below w1.heap.size w1 w')) :
    Calls Try.prog 31 #[.agg #[vc], SV c 1 f o t n s] w fun e w' => e = .returned (.bool r) ∧ Below w.heap.size w w' := by
  go_enter Try.func31, Try.ntmps31
  go_wp2_with fail
  refine Calls.mono (H.out _ (two_boxes _ _ _)) ?_
  rintro e w1 ⟨rfl, hb1⟩
  go_wp2
  go_ret
  exact ⟨rfl, back2 hb1⟩
set_option maxHeartbeats 400000 in
theorem goes_none (vc : Value) (c op f o : Int) (t : Bool) (n : Int) (s : ByteArray) (w : World) (h1 : (op == 1) = false) (h2 : (op == 2) = false) (h3 : (op == 3) = false) (h4 : (op == 4) = false) (h5 : (op == 5) = false) (h6 : (op == 6) = false) :
    Calls Try.prog 31 #[.agg #[vc], SV c op f o t n s] w fun e w' => e = .returned (.bool false) ∧ Below w.heap.size w w' := by
  go_enter Try.func31, Try.ntmps31
  go_wp2_with fail
  go_ret
  exact ⟨rfl, two_boxes _ _ _⟩
set_option maxHeartbeats 1000000 in
theorem goes_copy_no (vc : Value) (c f o : Int) (t : Bool) (n : Int) (s : ByteArray) (w : World)
    (H : Hid (∀ w1, Below w.heap.size w w1 → Calls Try.prog 30 #[.agg #[vc], .int .i64 f] w1 fun e w' => e = .returned (.bool false) ∧ Below w1.heap.size w1 w')) :
    Calls Try.prog 31 #[.agg #[vc], SV c 2 f o t n s] w fun e w' => e = .returned (.bool false) ∧ Below w.heap.size w w' := by
  go_enter Try.func31, Try.ntmps31
  go_wp2_with fail
  refine wp_region_held_drew (S := fun w' => TS w' w.heap.size vc c 2 f o t n s) (by kernel_rfl) ?_ (fun hHeld => ?_)
  · exact TS.new w vc c 2 f o t n s _ _
  unfold TS at *
  (try clear hK K)
  refine wpAnyH_take (i := 0) (v := ?_) rfl (by kernel_rfl) (by kernel_rfl) (by kernel_rfl) (fun _ _ _ h => h) (Or.inl ⟨by rfl, ?_⟩) (by assumption) ?_
  rotate_left
  · intro w hSw; (try dsimp only at hSw); go_simp; (try with_reducible rfl)
  (try simp only [Act.put, List.getElem_toArray, List.getElem_cons_zero, List.setIfInBounds_toArray, List.set_cons_zero, List.set_cons_succ])
  refine wpAnyH_take (i := 1) (v := ?_) rfl (by kernel_rfl) (by kernel_rfl) (by kernel_rfl) (fun _ _ _ h => h) (Or.inl ⟨by rfl, ?_⟩) (by assumption) ?_
  rotate_left
  · intro w hSw; (try dsimp only at hSw); go_simp; (try with_reducible rfl)
  (try simp only [Act.put, List.getElem_toArray, List.getElem_cons_succ, List.getElem_cons_zero, List.setIfInBounds_toArray, List.set_cons_zero, List.set_cons_succ])
  refine wpAnyH_take (i := 2) (v := ?_) rfl (by kernel_rfl) (by kernel_rfl) (by kernel_rfl) (fun _ _ _ h => h) (Or.inl ⟨by rfl, ?_⟩) (by assumption) ?_
  rotate_left
  · intro w hSw; (try dsimp only at hSw); go_simp; (try with_reducible rfl)
  (try simp only [Act.put, List.getElem_toArray, List.getElem_cons_succ, List.getElem_cons_zero, List.setIfInBounds_toArray, List.set_cons_zero, List.set_cons_succ])
  (try clear hK K)
  refine wpAnyH_ready (rs := [3]) (by kernel_rfl) (by simp) ?_
  refine AllReadyH.cons rfl (fun K hK => ?_) AllReadyH.nil
  go_simp
  (refine Calls.mono (H.out _ (two_boxes w _ _).drew) ?_; rintro e w1 ⟨rfl, hb1⟩)
  refine hK.out _ _ ?_ (fun hHeld => ?_)
  · exact TS.next (TS.new w vc c 2 f o t n s _ _) (undrew hb1)
  (try clear hK K)
  refine wpAnyH_take (i := 4) (v := ?_) rfl (by kernel_rfl) (by kernel_rfl) (by kernel_rfl) (fun _ _ _ h => h) (Or.inl ⟨by rfl, ?_⟩) (by assumption) ?_
  rotate_left
  · intro w hSw; (try dsimp only at hSw); go_simp; (try with_reducible rfl)
  (try simp only [Act.put, List.getElem_toArray, List.getElem_cons_succ, List.getElem_cons_zero, List.setIfInBounds_toArray, List.set_cons_zero, List.set_cons_succ])
  (try clear hK K)
  refine wpAnyH_take (i := 5) (v := undef) rfl (by kernel_rfl) (by kernel_rfl) (by kernel_rfl) (fun _ _ _ h => h) (Or.inr ⟨by rfl, rfl⟩) (by assumption) ?_
  (try simp only [Act.put, List.getElem_toArray, List.getElem_cons_succ, List.getElem_cons_zero, List.setIfInBounds_toArray, List.set_cons_zero, List.set_cons_succ])
  refine wpAnyH_take (i := 6) (v := undef) rfl (by kernel_rfl) (by kernel_rfl) (by kernel_rfl) (fun _ _ _ h => h) (Or.inr ⟨by rfl, rfl⟩) (by assumption) ?_
  (try simp only [Act.put, List.getElem_toArray, List.getElem_cons_succ, List.getElem_cons_zero, List.setIfInBounds_toArray, List.set_cons_zero, List.set_cons_succ])
  refine wpAnyH_take (i := 7) (v := undef) rfl (by kernel_rfl) (by kernel_rfl) (by kernel_rfl) (fun _ _ _ h => h) (Or.inr ⟨by rfl, rfl⟩) (by assumption) ?_
  (try simp only [Act.put, List.getElem_toArray, List.getElem_cons_succ, List.getElem_cons_zero, List.setIfInBounds_toArray, List.set_cons_zero, List.set_cons_succ])
  refine wpAnyH_take (i := 8) (v := undef) rfl (by kernel_rfl) (by kernel_rfl) (by kernel_rfl) (fun _ _ _ h => h) (Or.inr ⟨by rfl, rfl⟩) (by assumption) ?_
  (try simp only [Act.put, List.getElem_toArray, List.getElem_cons_succ, List.getElem_cons_zero, List.setIfInBounds_toArray, List.set_cons_zero, List.set_cons_succ])
  refine wpAnyH_take (i := 9) (v := undef) rfl (by kernel_rfl) (by kernel_rfl) (by kernel_rfl) (fun _ _ _ h => h) (Or.inr ⟨by rfl, rfl⟩) (by assumption) ?_
  (try simp only [Act.put, List.getElem_toArray, List.getElem_cons_succ, List.getElem_cons_zero, List.setIfInBounds_toArray, List.set_cons_zero, List.set_cons_succ])
  refine wpAnyH_take (i := 10) (v := undef) rfl (by kernel_rfl) (by kernel_rfl) (by kernel_rfl) (fun _ _ _ h => h) (Or.inr ⟨by rfl, rfl⟩) (by assumption) ?_
  (try simp only [Act.put, List.getElem_toArray, List.getElem_cons_succ, List.getElem_cons_zero, List.setIfInBounds_toArray, List.set_cons_zero, List.set_cons_succ])
  refine wpAnyH_take (i := 11) (v := undef) rfl (by kernel_rfl) (by kernel_rfl) (by kernel_rfl) (fun _ _ _ h => h) (Or.inr ⟨by rfl, rfl⟩) (by assumption) ?_
  (try simp only [Act.put, List.getElem_toArray, List.getElem_cons_succ, List.getElem_cons_zero, List.setIfInBounds_toArray, List.set_cons_zero, List.set_cons_succ])
  refine wpAnyH_take (i := 12) (v := undef) rfl (by kernel_rfl) (by kernel_rfl) (by kernel_rfl) (fun _ _ _ h => h) (Or.inr ⟨by rfl, rfl⟩) (by assumption) ?_
  (try simp only [Act.put, List.getElem_toArray, List.getElem_cons_succ, List.getElem_cons_zero, List.setIfInBounds_toArray, List.set_cons_zero, List.set_cons_succ])
  refine wpAnyH_take (i := 13) (v := undef) rfl (by kernel_rfl) (by kernel_rfl) (by kernel_rfl) (fun _ _ _ h => h) (Or.inr ⟨by rfl, rfl⟩) (by assumption) ?_
  (try simp only [Act.put, List.getElem_toArray, List.getElem_cons_succ, List.getElem_cons_zero, List.setIfInBounds_toArray, List.set_cons_zero, List.set_cons_succ])
  refine wpAnyH_take (i := 14) (v := undef) rfl (by kernel_rfl) (by kernel_rfl) (by kernel_rfl) (fun _ _ _ h => h) (Or.inr ⟨by rfl, rfl⟩) (by assumption) ?_
  (try simp only [Act.put, List.getElem_toArray, List.getElem_cons_succ, List.getElem_cons_zero, List.setIfInBounds_toArray, List.set_cons_zero, List.set_cons_succ])
  refine wpAnyH_take (i := 15) (v := undef) rfl (by kernel_rfl) (by kernel_rfl) (by kernel_rfl) (fun _ _ _ h => h) (Or.inr ⟨by rfl, rfl⟩) (by assumption) ?_
  (try simp only [Act.put, List.getElem_toArray, List.getElem_cons_succ, List.getElem_cons_zero, List.setIfInBounds_toArray, List.set_cons_zero, List.set_cons_succ])
  refine wpAnyH_take (i := 16) (v := undef) rfl (by kernel_rfl) (by kernel_rfl) (by kernel_rfl) (fun _ _ _ h => h) (Or.inr ⟨by rfl, rfl⟩) (by assumption) ?_
  (try simp only [Act.put, List.getElem_toArray, List.getElem_cons_succ, List.getElem_cons_zero, List.setIfInBounds_toArray, List.set_cons_zero, List.set_cons_succ])
  refine wpAnyH_take (i := 17) (v := undef) rfl (by kernel_rfl) (by kernel_rfl) (by kernel_rfl) (fun _ _ _ h => h) (Or.inr ⟨by rfl, rfl⟩) (by assumption) ?_
  (try simp only [Act.put, List.getElem_toArray, List.getElem_cons_succ, List.getElem_cons_zero, List.setIfInBounds_toArray, List.set_cons_zero, List.set_cons_succ])
  (try clear hK K)
  refine wpAnyH_take (i := 18) (v := ?_) rfl (by kernel_rfl) (by kernel_rfl) (by kernel_rfl) (fun _ _ _ h => h) (Or.inl ⟨by rfl, ?_⟩) (by assumption) ?_
  rotate_left
  · intro w hSw; (try dsimp only at hSw); go_simp; (try with_reducible rfl)
  (try simp only [Act.put, List.getElem_toArray, List.getElem_cons_succ, List.getElem_cons_zero, List.setIfInBounds_toArray, List.set_cons_zero, List.set_cons_succ])
  refine wpAnyH_take (i := 19) (v := ?_) rfl (by kernel_rfl) (by kernel_rfl) (by kernel_rfl) (fun _ _ _ h => h) (Or.inl ⟨by rfl, ?_⟩) (by assumption) ?_
  rotate_left
  · intro w hSw; (try dsimp only at hSw); go_simp; (try with_reducible rfl)
  (try simp only [Act.put, List.getElem_toArray, List.getElem_cons_succ, List.getElem_cons_zero, List.setIfInBounds_toArray, List.set_cons_zero, List.set_cons_succ])
  (try clear hK K)
  refine wpAnyH_done (by kernel_rfl) ?_ _
  go_wp2
  go_ret
  exact ⟨rfl, back2d hb1⟩
set_option maxHeartbeats 1000000 in
theorem goes_copy_yes (vc : Value) (cols : List Bool) (c f : Nat) (o : Int) (t : Bool) (n : Int) (s : ByteArray) (w : World) (h : BoolsIn w vc cols) (hc : c < cols.length) (hf : f < cols.length)
    (H : Hid (∀ w1, Below w.heap.size w w1 → Calls Try.prog 30 #[.agg #[vc], .int .i64 f] w1 fun e w' => e = .returned (.bool true) ∧ Below w1.heap.size w1 w')) :
    Calls Try.prog 31 #[.agg #[vc], SV c 2 f o t n s] w fun e w' => e = .returned (.bool (cols[f] == cols[c])) ∧ Below w.heap.size w w' := by
  obtain ⟨ac, cc, rfl, lc⟩ := h.slice
  obtain ⟨b, p, rfl, d1⟩ := h.at c hc
  obtain ⟨b', p', e', d2⟩ := h.at f hf
  cases e'
  have hlt : b < w.heap.size := World.block_lt_of_cell? w _ d1
  have k0 : (0 : Int) ≤ (c : Int) := by omega
  have k1 : (c : Int) < (cols.length : Int) := by omega
  have f0 : (0 : Int) ≤ (f : Int) := by omega
  have f1 : (f : Int) < (cols.length : Int) := by omega
  clear h
  generalize cols[c] = x at *
  generalize cols[f] = y at *
  go_enter Try.func31, Try.ntmps31
  go_wp2_with fail
  refine wp_region_held_drew (S := fun w' => TS w' w.heap.size (.slice (some ⟨b, p, none⟩) cols.length cc) c 2 f o t n s ∧ w'.cell? ⟨b, p + c, none⟩ = some (.bool x) ∧ w'.cell? ⟨b, p + f, none⟩ = some (.bool y)) (by kernel_rfl) ?_ (fun hHeld => ?_)
  · exact ⟨TS.new w _ c 2 f o t n s _ _, by simp [d1, World.cell?_alloc_some], by simp [d2, World.cell?_alloc_some]⟩
  unfold TS at *
  (try clear hK K)
  refine wpAnyH_take (i := 0) (v := ?_) rfl (by kernel_rfl) (by kernel_rfl) (by kernel_rfl) (fun _ _ _ h => h) (Or.inl ⟨by rfl, ?_⟩) (by assumption) ?_
  rotate_left
  · intro w hSw; (try dsimp only at hSw); go_simp; (try with_reducible rfl)
  (try simp only [Act.put, List.getElem_toArray, List.getElem_cons_zero, List.setIfInBounds_toArray, List.set_cons_zero, List.set_cons_succ])
  refine wpAnyH_take (i := 1) (v := ?_) rfl (by kernel_rfl) (by kernel_rfl) (by kernel_rfl) (fun _ _ _ h => h) (Or.inl ⟨by rfl, ?_⟩) (by assumption) ?_
  rotate_left
  · intro w hSw; (try dsimp only at hSw); go_simp; (try with_reducible rfl)
  (try simp only [Act.put, List.getElem_toArray, List.getElem_cons_succ, List.getElem_cons_zero, List.setIfInBounds_toArray, List.set_cons_zero, List.set_cons_succ])
  refine wpAnyH_take (i := 2) (v := ?_) rfl (by kernel_rfl) (by kernel_rfl) (by kernel_rfl) (fun _ _ _ h => h) (Or.inl ⟨by rfl, ?_⟩) (by assumption) ?_
  rotate_left
  · intro w hSw; (try dsimp only at hSw); go_simp; (try with_reducible rfl)
  (try simp only [Act.put, List.getElem_toArray, List.getElem_cons_succ, List.getElem_cons_zero, List.setIfInBounds_toArray, List.set_cons_zero, List.set_cons_succ])
  (try clear hK K)
  refine wpAnyH_ready (rs := [3]) (by kernel_rfl) (by simp) ?_
  refine AllReadyH.cons rfl (fun K hK => ?_) AllReadyH.nil
  go_simp
  (refine Calls.mono (H.out _ (two_boxes w _ _).drew) ?_; rintro e w1 ⟨rfl, hb1⟩)
  refine hK.out _ _ ?_ (fun hHeld => ?_)
  · exact ⟨TS.next (TS.new w _ c 2 f o t n s _ _) (undrew hb1), by rw [(back2d hb1).cell hlt]; exact d1, by rw [(back2d hb1).cell hlt]; exact d2⟩
  (try clear hK K)
  refine wpAnyH_take (i := 4) (v := ?_) rfl (by kernel_rfl) (by kernel_rfl) (by kernel_rfl) (fun _ _ _ h => h) (Or.inl ⟨by rfl, ?_⟩) (by assumption) ?_
  rotate_left
  · intro w hSw; (try dsimp only at hSw); go_simp; (try with_reducible rfl)
  (try simp only [Act.put, List.getElem_toArray, List.getElem_cons_succ, List.getElem_cons_zero, List.setIfInBounds_toArray, List.set_cons_zero, List.set_cons_succ])
  refine wpAnyH_take (i := 5) (v := ?_) rfl (by kernel_rfl) (by kernel_rfl) (by kernel_rfl) (fun _ _ _ h => h) (Or.inl ⟨by rfl, ?_⟩) (by assumption) ?_
  rotate_left
  · intro w hSw; (try dsimp only at hSw); go_simp; (try with_reducible rfl)
  (try simp only [Act.put, List.getElem_toArray, List.getElem_cons_succ, List.getElem_cons_zero, List.setIfInBounds_toArray, List.set_cons_zero, List.set_cons_succ])
  refine wpAnyH_take (i := 6) (v := ?_) rfl (by kernel_rfl) (by kernel_rfl) (by kernel_rfl) (fun _ _ _ h => h) (Or.inl ⟨by rfl, ?_⟩) (by assumption) ?_
  rotate_left
  · intro w hSw; (try dsimp only at hSw); go_simp; (try with_reducible rfl)
  (try simp only [Act.put, List.getElem_toArray, List.getElem_cons_succ, List.getElem_cons_zero, List.setIfInBounds_toArray, List.set_cons_zero, List.set_cons_succ])
  refine wpAnyH_take (i := 7) (v := ?_) rfl (by kernel_rfl) (by kernel_rfl) (by kernel_rfl) (fun _ _ _ h => h) (Or.inl ⟨by rfl, ?_⟩) (by assumption) ?_
  rotate_left
  · intro w hSw; (try dsimp only at hSw); go_simp; (try with_reducible rfl)
  (try simp only [Act.put, List.getElem_toArray, List.getElem_cons_succ, List.getElem_cons_zero, List.setIfInBounds_toArray, List.set_cons_zero, List.set_cons_succ])
  refine wpAnyH_take (i := 8) (v := ?_) rfl (by kernel_rfl) (by kernel_rfl) (by kernel_rfl) (fun _ _ _ h => h) (Or.inl ⟨by rfl, ?_⟩) (by assumption) ?_
  rotate_left
  · intro w hSw; (try dsimp only at hSw); go_simp; (try with_reducible rfl)
  (try simp only [Act.put, List.getElem_toArray, List.getElem_cons_succ, List.getElem_cons_zero, List.setIfInBounds_toArray, List.set_cons_zero, List.set_cons_succ])
  refine wpAnyH_take (i := 9) (v := ?_) rfl (by kernel_rfl) (by kernel_rfl) (by kernel_rfl) (fun _ _ _ h => h) (Or.inl ⟨by rfl, ?_⟩) (by assumption) ?_
  rotate_left
  · intro w hSw; (try dsimp only at hSw); go_simp; (try with_reducible rfl)
  (try simp only [Act.put, List.getElem_toArray, List.getElem_cons_succ, List.getElem_cons_zero, List.setIfInBounds_toArray, List.set_cons_zero, List.set_cons_succ])
  refine wpAnyH_take (i := 10) (v := ?_) rfl (by kernel_rfl) (by kernel_rfl) (by kernel_rfl) (fun _ _ _ h => h) (Or.inl ⟨by rfl, ?_⟩) (by assumption) ?_
  rotate_left
  · intro w hSw; (try dsimp only at hSw); go_simp; (try with_reducible rfl)
  (try simp only [Act.put, List.getElem_toArray, List.getElem_cons_succ, List.getElem_cons_zero, List.setIfInBounds_toArray, List.set_cons_zero, List.set_cons_succ])
  refine wpAnyH_take (i := 11) (v := ?_) rfl (by kernel_rfl) (by kernel_rfl) (by kernel_rfl) (fun _ _ _ h => h) (Or.inl ⟨by rfl, ?_⟩) (by assumption) ?_
  rotate_left
  · intro w hSw; (try dsimp only at hSw); go_simp; (try with_reducible rfl)
  (try simp only [Act.put, List.getElem_toArray, List.getElem_cons_succ, List.getElem_cons_zero, List.setIfInBounds_toArray, List.set_cons_zero, List.set_cons_succ])
  refine wpAnyH_take (i := 12) (v := ?_) rfl (by kernel_rfl) (by kernel_rfl) (by kernel_rfl) (fun _ _ _ h => h) (Or.inl ⟨by rfl, ?_⟩) (by assumption) ?_
  rotate_left
  · intro w hSw; (try dsimp only at hSw); go_simp; (try with_reducible rfl)
  (try simp only [Act.put, List.getElem_toArray, List.getElem_cons_succ, List.getElem_cons_zero, List.setIfInBounds_toArray, List.set_cons_zero, List.set_cons_succ])
  refine wpAnyH_take (i := 13) (v := ?_) rfl (by kernel_rfl) (by kernel_rfl) (by kernel_rfl) (fun _ _ _ h => h) (Or.inl ⟨by rfl, ?_⟩) (by assumption) ?_
  rotate_left
  · intro w hSw; (try dsimp only at hSw); go_simp; (try with_reducible rfl)
  (try simp only [Act.put, List.getElem_toArray, List.getElem_cons_succ, List.getElem_cons_zero, List.setIfInBounds_toArray, List.set_cons_zero, List.set_cons_succ])
  refine wpAnyH_take (i := 14) (v := ?_) rfl (by kernel_rfl) (by kernel_rfl) (by kernel_rfl) (fun _ _ _ h => h) (Or.inl ⟨by rfl, ?_⟩) (by assumption) ?_
  rotate_left
  · intro w hSw; (try dsimp only at hSw); go_simp; (try with_reducible rfl)
  (try simp only [Act.put, List.getElem_toArray, List.getElem_cons_succ, List.getElem_cons_zero, List.setIfInBounds_toArray, List.set_cons_zero, List.set_cons_succ])
  refine wpAnyH_take (i := 15) (v := ?_) rfl (by kernel_rfl) (by kernel_rfl) (by kernel_rfl) (fun _ _ _ h => h) (Or.inl ⟨by rfl, ?_⟩) (by assumption) ?_
  rotate_left
  · intro w hSw; (try dsimp only at hSw); go_simp; (try with_reducible rfl)
  (try simp only [Act.put, List.getElem_toArray, List.getElem_cons_succ, List.getElem_cons_zero, List.setIfInBounds_toArray, List.set_cons_zero, List.set_cons_succ])
  refine wpAnyH_take (i := 16) (v := ?_) rfl (by kernel_rfl) (by kernel_rfl) (by kernel_rfl) (fun _ _ _ h => h) (Or.inl ⟨by rfl, ?_⟩) (by assumption) ?_
  rotate_left
  · intro w hSw; (try dsimp only at hSw); go_simp; (try with_reducible rfl)
  (try simp only [Act.put, List.getElem_toArray, List.getElem_cons_succ, List.getElem_cons_zero, List.setIfInBounds_toArray, List.set_cons_zero, List.set_cons_succ])
  refine wpAnyH_take (i := 17) (v := ?_) rfl (by kernel_rfl) (by kernel_rfl) (by kernel_rfl) (fun _ _ _ h => h) (Or.inl ⟨by rfl, ?_⟩) (by assumption) ?_
  rotate_left
  · intro w hSw; (try dsimp only at hSw); go_simp; (try with_reducible rfl)
  (try simp only [Act.put, List.getElem_toArray, List.getElem_cons_succ, List.getElem_cons_zero, List.setIfInBounds_toArray, List.set_cons_zero, List.set_cons_succ])
  refine wpAnyH_take (i := 18) (v := ?_) rfl (by kernel_rfl) (by kernel_rfl) (by kernel_rfl) (fun _ _ _ h => h) (Or.inl ⟨by rfl, ?_⟩) (by assumption) ?_
  rotate_left
  · intro w hSw; (try dsimp only at hSw); go_simp; (try with_reducible rfl)
  (try simp only [Act.put, List.getElem_toArray, List.getElem_cons_succ, List.getElem_cons_zero, List.setIfInBounds_toArray, List.set_cons_zero, List.set_cons_succ])
  refine wpAnyH_take (i := 19) (v := ?_) rfl (by kernel_rfl) (by kernel_rfl) (by kernel_rfl) (fun _ _ _ h => h) (Or.inl ⟨by rfl, ?_⟩) (by assumption) ?_
  rotate_left
  · intro w hSw; (try dsimp only at hSw); go_simp; (try with_reducible rfl)
  (try simp only [Act.put, List.getElem_toArray, List.getElem_cons_succ, List.getElem_cons_zero, List.setIfInBounds_toArray, List.set_cons_zero, List.set_cons_succ])
  (try clear hK K)
  refine wpAnyH_done (by kernel_rfl) ?_ _
  go_wp2
  go_ret
  exact ⟨rfl, back2d hb1⟩
set_option maxHeartbeats 1000000 in
theorem goes_reckons (vc : Value) (c op f o : Int) (t : Bool) (n : Int) (s : ByteArray) (w : World) (bc bf r : Bool) (h1 : (op == 1) = false) (h2 : (op == 2) = false) (h3 : ((op == 3) = true) ∨ ((op == 3) = false ∧ (op == 4) = true) ∨ ((op == 3) = false ∧ (op == 4) = false ∧ (op == 5) = true))
    (HC : Hid (∀ w1, Below w.heap.size w w1 → Calls Try.prog 41 #[.agg #[vc], .int .i64 c] w1 fun e w' => e = .returned (.bool bc) ∧ Below w1.heap.size w1 w'))
    (HF : Hid (∀ w1, Below w.heap.size w w1 → Calls Try.prog 41 #[.agg #[vc], .int .i64 f] w1 fun e w' => e = .returned (.bool bf) ∧ Below w1.heap.size w1 w'))
    (HS : Hid (∀ w1, Below w.heap.size w w1 → Calls Try.prog 24 #[.agg #[vc], .int .i64 c, V t n s] w1 fun e w' => e = .returned (.bool r) ∧ Below w1.heap.size w1 w')) :
    Calls Try.prog 31 #[.agg #[vc], SV c op f o t n s] w fun e w' => e = .returned (.bool (bc && bf && r)) ∧ Below w.heap.size w w' := by
  rcases h3 with h3 | ⟨h3, h4⟩ | ⟨h3, h4, h5⟩ <;> cases bc <;> cases bf
  all_goals
    go_enter Try.func31, Try.ntmps31
    go_wp2_with fail
    refine Calls.mono (HC.out _ (two_boxes _ _ _)) ?_
    rintro e w1 ⟨rfl, hb1⟩
    have HB1 : Hid (Below w.heap.size w w1) := back2 hb1
    have ht := TS.next (TS.new w vc c op f o t n s _ _) hb1
    have HT : Hid (TS w1 w.heap.size vc c op f o t n s) := ht
    unfold TS at ht
    clear hb1
    go_wp2_with fail
  all_goals first | (go_ret; exact ⟨rfl, HB1.out⟩) | skip
  all_goals
    refine Calls.mono (HF.out _ HB1.out) ?_
    rintro e w2 ⟨rfl, hb2⟩
    have HB2 : Hid (Below w.heap.size w w2) := HB1.out.trans (hb2.mono HB1.out.size)
    clear ht
    have ht := TS.next HT.out hb2
    unfold TS at ht
    clear hb2
    go_wp2_with fail
  all_goals first | (go_ret; exact ⟨rfl, HB2.out⟩) | skip
  all_goals
    refine Calls.mono (HS.out _ HB2.out) ?_
    rintro e w3 ⟨rfl, hb3⟩
    have HB3 : Hid (Below w.heap.size w w3) := HB2.out.trans (hb3.mono HB2.out.size)
    clear hb3
    go_wp2_with fail
    go_ret
    exact ⟨rfl, HB3.out⟩
set_option maxHeartbeats 1000000 in
theorem goes_sum (vc : Value) (c f o : Int) (t : Bool) (n : Int) (s : ByteArray) (w : World) (bc bf r : Bool)
    (HC : Hid (∀ w1, Below w.heap.size w w1 → Calls Try.prog 41 #[.agg #[vc], .int .i64 c] w1 fun e w' => e = .returned (.bool bc) ∧ Below w1.heap.size w1 w'))
    (HF : Hid (∀ w1, Below w.heap.size w w1 → Calls Try.prog 41 #[.agg #[vc], .int .i64 f] w1 fun e w' => e = .returned (.bool bf) ∧ Below w1.heap.size w1 w'))
    (HS : Hid (∀ w1, Below w.heap.size w w1 → Calls Try.prog 41 #[.agg #[vc], .int .i64 o] w1 fun e w' => e = .returned (.bool r) ∧ Below w1.heap.size w1 w')) :
    Calls Try.prog 31 #[.agg #[vc], SV c 6 f o t n s] w fun e w' => e = .returned (.bool (bc && bf && r)) ∧ Below w.heap.size w w' := by
  cases bc <;> cases bf
  all_goals
    go_enter Try.func31, Try.ntmps31
    go_wp2_with fail
    refine Calls.mono (HC.out _ (two_boxes _ _ _)) ?_
    rintro e w1 ⟨rfl, hb1⟩
    have HB1 : Hid (Below w.heap.size w w1) := back2 hb1
    have ht := TS.next (TS.new w vc c 6 f o t n s _ _) hb1
    have HT : Hid (TS w1 w.heap.size vc c 6 f o t n s) := ht
    unfold TS at ht
    clear hb1
    go_wp2_with fail
  all_goals first | (go_ret; exact ⟨rfl, HB1.out⟩) | skip
  all_goals
    refine Calls.mono (HF.out _ HB1.out) ?_
    rintro e w2 ⟨rfl, hb2⟩
    have HB2 : Hid (Below w.heap.size w w2) := HB1.out.trans (hb2.mono HB1.out.size)
    clear ht
    have ht := TS.next HT.out hb2
    unfold TS at ht
    clear hb2
    go_wp2_with fail
  all_goals first | (go_ret; exact ⟨rfl, HB2.out⟩) | skip
  all_goals
    refine Calls.mono (HS.out _ HB2.out) ?_
    rintro e w3 ⟨rfl, hb3⟩
    have HB3 : Hid (Below w.heap.size w w3) := HB2.out.trans (hb3.mono HB2.out.size)
    clear hb3
    go_wp2_with fail
    go_ret
    exact ⟨rfl, HB3.out⟩
theorem op_cases (op : Int) : op = 1 ∨ op = 2 ∨ ((op == 1) = false ∧ (op == 2) = false ∧ (op = 3 ∨ op = 4 ∨ op = 5) ∧ (((op == 3) = true) ∨ ((op == 3) = false ∧ (op == 4) = true) ∨ ((op == 3) = false ∧ (op == 4) = false ∧ (op == 5) = true))) ∨ op = 6 ∨
    ((op == 1) = false ∧ (op == 2) = false ∧ (op == 3) = false ∧ (op == 4) = false ∧ (op == 5) = false ∧ (op == 6) = false) := by
  simp only [beq_iff_eq, beq_eq_false_iff_ne]
  omega
/-- goes, whatever the set, where its column is one. -/
theorem goes_any (vc : Value) (cols : List Bool) (s : SetP) (w : World) (h : BoolsIn w vc cols) (hs : s.v.s.size ≤ maxLen) (h0 : 0 ≤ s.col) (h1 : s.col < cols.length) :
    Calls Try.prog 31 #[.agg #[vc], SV s.col s.op s.src s.other s.v.t s.v.n s.v.s] w fun e w' => e = .returned (.bool (goesB cols s)) ∧ Below w.heap.size w w' := by
  have HN : ∀ i, Hid (∀ w1, Below w.heap.size w w1 → Calls Try.prog 41 #[.agg #[vc], .int .i64 i] w1 fun e w' => e = .returned (.bool (isNum cols i)) ∧ Below w1.heap.size w1 w') := fun i w1 hb => isNumbers_any vc cols i w1 (h.below hb)
  have HS : Hid (∀ w1, Below w.heap.size w w1 → Calls Try.prog 24 #[.agg #[vc], .int .i64 s.col, V s.v.t s.v.n s.v.s] w1 fun e w' => e = .returned (.bool (suitV (colAt cols s.col) s.v)) ∧ Below w1.heap.size w1 w') := fun w1 hb => suits_int vc cols s.col s.v w1 (h.below hb) hs h0 h1
  obtain ⟨c, op, f, o, v⟩ := s
  simp only at *
  rcases op_cases op with rfl | rfl | ⟨g1, g2, g3, g4⟩ | rfl | ⟨g1, g2, g3, g4, g5, g6⟩
  · exact goes_to vc c f o v.t v.n v.s w _ HS
  · cases hf : isCol cols f
    · have e : goesB cols ⟨c, 2, f, o, v⟩ = false := by simp [goesB, hf]
      rw [e]
      exact goes_copy_no vc c f o v.t v.n v.s w fun w1 hb => by have := isColumn_any vc cols f w1 (h.below hb); rw [hf] at this; exact this
    · obtain ⟨f0, f1⟩ := isCol_iff.1 hf
      obtain ⟨k, rfl⟩ : ∃ k : Nat, c = k := ⟨c.toNat, by omega⟩
      obtain ⟨j, rfl⟩ : ∃ j : Nat, f = j := ⟨f.toNat, by omega⟩
      have hk : k < cols.length := by omega
      have hj : j < cols.length := by omega
      have e : goesB cols ⟨k, 2, j, o, v⟩ = (cols[j] == cols[k]) := by simp [goesB, hf, colAt_nat hk, colAt_nat hj]
      rw [e]
      exact goes_copy_yes vc cols k j o v.t v.n v.s w h hk hj fun w1 hb => by have := isColumn_any vc cols j w1 (h.below hb); rw [hf] at this; exact this
  · have e : goesB cols ⟨c, op, f, o, v⟩ = (isNum cols c && isNum cols f && suitV (colAt cols c) v) := by
      have e1 : op ≠ 1 := by simpa using g1
      have e2 : op ≠ 2 := by simpa using g2
      simp [goesB, e1, e2, g3]
    rw [e]
    exact goes_reckons vc c op f o v.t v.n v.s w _ _ _ g1 g2 g4 (HN c) (HN f) HS
  · exact goes_sum vc c f o v.t v.n v.s w _ _ _ (HN c) (HN f) (HN o)
  · have e : goesB cols ⟨c, op, f, o, v⟩ = false := by
      have e1 : op ≠ 1 := by simpa using g1
      have e2 : op ≠ 2 := by simpa using g2
      have e3 : op ≠ 3 := by simpa using g3
      have e4 : op ≠ 4 := by simpa using g4
      have e5 : op ≠ 5 := by simpa using g5
      have e6 : op ≠ 6 := by simpa using g6
      simp [goesB, e1, e2, e3, e4, e5, e6]
    rw [e]
    exact goes_none vc c op f o v.t v.n v.s w g1 g2 g3 g4 g5 g6
end Go.Proofs.Ytncefhjegkhamaa.Val
