/- What row.Check and the reference's May answer. -/
import Derived.Test.YtafkpfhhmmnpeaaU1
import Derived.Test.YtafkpfhhmmnpeaaU2
import Derived.Test.YtafkpfhhmmnpeaaUO
import Derived.Deep.RegionHeld3
import Derived.BigQuiet
import Derived.Deep.QuietTactic
import Derived.WalkSmall
namespace Go.Proofs.Ytafkpfhhmmnpeaa.Val
open Go.RowKit

/-- May a table be? -/
def mayT (cols : List Bool) : Bool := decide (1 ≤ cols.length) && decide (cols.length ≤ 4)
theorem mayT_few {cols : List Bool} (h : cols.length < 1) : mayT cols = false := by unfold mayT; rw [decide_eq_false (by omega)]; rfl
theorem mayT_many {cols : List Bool} (h : ¬ cols.length ≤ 4) : mayT cols = false := by unfold mayT; rw [decide_eq_false h, Bool.and_false]
theorem mayT_yes {cols : List Bool} (h1 : 1 ≤ cols.length) (h : cols.length ≤ 4) : mayT cols = true := by unfold mayT; rw [decide_eq_true h, decide_eq_true h1]; rfl
theorem mayT_iff {cols : List Bool} : mayT cols = true ↔ 1 ≤ cols.length ∧ cols.length ≤ 4 := by simp only [mayT, Bool.and_eq_true, decide_eq_true_eq]
def isCol (cols : List Bool) (i : Int) : Bool := decide (0 ≤ i) && decide (i < cols.length)
def colAt (cols : List Bool) (i : Int) : Bool := cols.getD i.toNat false
def isNum (cols : List Bool) (i : Int) : Bool := isCol cols i && !colAt cols i
theorem colAt_of {cols : List Bool} {i : Int} (h : i.toNat < cols.length) : colAt cols i = cols[i.toNat] := by simp [colAt, h]
theorem ret_int' {k : IntKind} {a b : Int} (h : a = b) : Ending.returned (.int k a) = Ending.returned (.int k b) := by subst h; rfl
theorem ret_bool' {a b : Bool} (h : a = b) : Ending.returned (.bool a) = Ending.returned (.bool b) := by subst h; rfl
/-- An error's number. -/
def errIf (b : Bool) (n : Int) : Int := if b then n else 0

set_option maxHeartbeats 400000 in
theorem check_any (vc : Value) (cols : List Bool) (w : World) (h : BoolsIn w vc cols) :
    Calls Try.prog 28 #[.agg #[vc]] w fun e w' => e = .returned (.int .i64 (errIf (!mayT cols) 1)) ∧ Below w.heap.size w w' := by
  obtain ⟨ac, cc, rfl, lc⟩ := h.slice
  clear h
  by_cases h1 : cols.length < 1
  · go_enter Try.func28, Try.ntmps28
    go_wp2
    go_ret
    exact ⟨ret_int' (by rw [mayT_few h1]; rfl), (Below.refl _ _).alloc (Nat.le_refl _) _⟩
  · by_cases h2 : cols.length ≤ 4
    · go_enter Try.func28, Try.ntmps28
      go_wp2
      go_ret
      exact ⟨ret_int' (by rw [mayT_yes (by omega) h2]; rfl), (Below.refl _ _).alloc (Nat.le_refl _) _⟩
    · go_enter Try.func28, Try.ntmps28
      go_wp2
      go_ret
      exact ⟨ret_int' (by rw [mayT_many h2]; rfl), (Below.refl _ _).alloc (Nat.le_refl _) _⟩
set_option maxHeartbeats 400000 in
theorem rmay_any (vc : Value) (cols : List Bool) (w : World) (h : BoolsIn w vc cols) :
    Calls Try.prog 31 #[.agg #[vc]] w fun e w' => e = .returned (.bool (mayT cols)) ∧ Below w.heap.size w w' := by
  obtain ⟨ac, cc, rfl, lc⟩ := h.slice
  have HS : Hid (mayT cols = (decide (1 ≤ cols.length) && decide (cols.length ≤ 4))) := rfl
  clear h
  by_cases h1 : 1 ≤ cols.length
  · go_enter Try.func31, Try.ntmps31
    go_wp2
    go_ret
    exact ⟨ret_bool' (by rw [HS.out]; simp [h1]; omega), (Below.refl _ _).alloc (Nat.le_refl _) _⟩
  · go_enter Try.func31, Try.ntmps31
    go_wp2
    go_ret
    exact ⟨ret_bool' (by rw [HS.out]; simp [h1]), (Below.refl _ _).alloc (Nat.le_refl _) _⟩
end Go.Proofs.Ytafkpfhhmmnpeaa.Val
/- What row.isColumn answers, and the law's long. -/
namespace Go.Proofs.Ytafkpfhhmmnpeaa.Val
open Go.RowKit

end Go.Proofs.Ytafkpfhhmmnpeaa.Val
/- What the reference's Right answers, for any value. -/
namespace Go.Proofs.Ytafkpfhhmmnpeaa.Val
open Go.RowKit

set_option maxHeartbeats 400000 in
theorem rright_text (n : Int) (s : ByteArray) (w : World) (hs : s.size ≤ maxLen) (b : Bool) (h : (n == 0) = b) :
    Calls Try.prog 49 #[V true n s] w fun e w' => e = .returned (.bool (b && decide (s.size ≤ 12))) ∧ Below w.heap.size w w' := by
  unfold maxLen at hs
  cases b
  · go_enter Try.func49, Try.ntmps49
    go_wp2
    go_ret
    exact ⟨rfl, (Below.refl _ _).alloc (Nat.le_refl _) _⟩
  · go_enter Try.func49, Try.ntmps49
    go_wp2
    go_ret
    exact ⟨by simp; omega, (Below.refl _ _).alloc (Nat.le_refl _) _⟩
set_option maxHeartbeats 400000 in
theorem rright_number (n : Int) (s : ByteArray) (w : World) :
    Calls Try.prog 49 #[V false n s] w fun e w' => e = .returned (.bool s.toList.isEmpty) ∧ Below w.heap.size w w' := by
  go_enter Try.func49, Try.ntmps49
  go_wp2
  go_ret
  exact ⟨rfl, (Below.refl _ _).alloc (Nat.le_refl _) _⟩
theorem rright_any (t : Bool) (n : Int) (s : ByteArray) (w : World) (hs : s.size ≤ maxLen) :
    Calls Try.prog 49 #[V t n s] w fun e w' => e = .returned (.bool (rightV t n s)) ∧ Below w.heap.size w w' := by
  cases t
  · exact rright_number n s w
  · exact rright_text n s w hs _ rfl
end Go.Proofs.Ytafkpfhhmmnpeaa.Val
/- Plain: when a row fits a table. -/
namespace Go.Proofs.Ytafkpfhhmmnpeaa.Val
open Go.RowKit

/-- May a value stand in a column? -/
def suitV (c : Bool) (x : Val) : Bool := rightV x.t x.n x.s && x.t == c
def fitsL (cols : List Bool) (xs : List Val) : Bool := (cols.zip xs).all fun p => suitV p.1 p.2
/-- Does a row fit a table that may be? -/
def fitsRow (cols : List Bool) (xs : List Val) : Bool := mayT cols && decide (xs.length = cols.length) && fitsL cols xs
theorem fitsL_iff {cols : List Bool} {xs : List Val} : fitsL cols xs = true ↔ ∀ k (h1 : k < cols.length) (h2 : k < xs.length), suitV cols[k] xs[k] = true := by
  unfold fitsL
  rw [List.all_eq_true]
  refine ⟨fun h k h1 h2 => ?_, fun h p hp => ?_⟩
  · exact h (cols[k], xs[k]) (List.mem_iff_getElem.2 ⟨k, by simp; omega, by simp⟩)
  · obtain ⟨k, hk, rfl⟩ := List.mem_iff_getElem.1 hp
    rw [List.length_zip] at hk
    simpa using h k (by omega) (by omega)
theorem fitsL_no {cols : List Bool} {xs : List Val} {k : Nat} (h1 : k < cols.length) (h2 : k < xs.length) (h : suitV cols[k] xs[k] = false) : fitsL cols xs = false := by
  cases e : fitsL cols xs
  · rfl
  · rw [fitsL_iff.1 e k h1 h2] at h; cases h
/-- So far all suit. -/
def FitsTo (cols : List Bool) (xs : List Val) (k : Nat) : Prop := ∀ j (h1 : j < cols.length) (h2 : j < xs.length), j < k → suitV cols[j] xs[j] = true
theorem FitsTo.zero (cols : List Bool) (xs : List Val) : FitsTo cols xs 0 := fun j _ _ h => by omega
theorem FitsTo.next {cols : List Bool} {xs : List Val} {k : Nat} (h : FitsTo cols xs k) (h1 : k < cols.length) (h2 : k < xs.length) (hs : suitV cols[k] xs[k] = true) : FitsTo cols xs (k + 1) := fun j g1 g2 hj => by
  by_cases e : j = k
  · subst e; exact hs
  · exact h j g1 g2 (by omega)
theorem FitsTo.all {cols : List Bool} {xs : List Val} {k : Nat} (h : FitsTo cols xs k) (hk : xs.length ≤ k) : fitsL cols xs = true := fitsL_iff.2 fun j h1 h2 => h j h1 h2 (by omega)
theorem fitsRow_may {cols : List Bool} {xs : List Val} (h : mayT cols = false) : fitsRow cols xs = false := by unfold fitsRow; rw [h]; rfl
theorem fitsRow_len {cols : List Bool} {xs : List Val} (h : ¬ xs.length = cols.length) : fitsRow cols xs = false := by unfold fitsRow; rw [decide_eq_false h]; simp
theorem fitsRow_of {cols : List Bool} {xs : List Val} (h : mayT cols = true) (hl : xs.length = cols.length) : fitsRow cols xs = fitsL cols xs := by unfold fitsRow; rw [h, decide_eq_true hl]; rfl
end Go.Proofs.Ytafkpfhhmmnpeaa.Val
/- What row.suits and row.Fits answer, and the reference's Fits. -/
namespace Go.Proofs.Ytafkpfhhmmnpeaa.Val
open Go.RowKit

theorem back2d {w w1 : World} {o1 o2 : Obj} (h : Below ((w.alloc o1).alloc o2).drew.heap.size ((w.alloc o1).alloc o2).drew w1) : Below w.heap.size w w1 :=
  (((((Below.refl _ _).alloc (Nat.le_refl _) _).alloc (by simp) _).drew).trans (h.mono (by simp; omega)))
set_option maxHeartbeats 400000 in
theorem suits_no (vc : Value) (k : Int) (t : Bool) (n : Int) (s : ByteArray) (w : World) (hr : rightV t n s = false) (hs : s.size ≤ maxLen) :
    Calls Try.prog 65 #[.agg #[vc], .int .i64 k, V t n s] w fun e w' => e = .returned (.bool false) ∧ Below w.heap.size w w' := by
  have H : Hid (∀ w1, Calls Try.prog 52 #[V t n s] w1 fun e w' => e = .returned (.bool false) ∧ Below w1.heap.size w1 w') := fun w1 => by
    have := right_any t n s w1 hs; rw [hr] at this; exact this
  clear hr hs
  go_enter Try.func65, Try.ntmps65
  go_wp2
  refine wp_region_held_drew (S := fun w' => w'.cell? ⟨w.heap.size + 1, 0, none⟩ = some (.bool t) ∧ w'.cell? ⟨w.heap.size + 1, 1, none⟩ = some (.int .i64 n) ∧ w'.cell? ⟨w.heap.size + 1, 2, none⟩ = some (.string s)) (by kernel_rfl) ?_ (fun hHeld => ?_)
  · simp [go_sem]
  (try clear hK K)
  refine wpAnyH_take (i := 0) (v := ?_) rfl (by kernel_rfl) (by kernel_rfl) (by kernel_rfl) (fun _ _ _ h => h) (Or.inl ⟨by rfl, ?_⟩) (by assumption) ?_
  rotate_left
  · intro w hSw; (try dsimp only at hSw); go_simp; (try with_reducible rfl)
  (try simp only [Act.put, List.getElem_toArray, List.getElem_cons_zero, List.setIfInBounds_toArray, List.set_cons_zero, List.set_cons_succ])
  (try clear hK K)
  refine wpAnyH_ready (rs := [1]) (by kernel_rfl) (by simp) ?_
  refine AllReadyH.cons rfl (fun K hK => ?_) AllReadyH.nil
  go_simp
  (refine Calls.mono (H.out _) ?_; rintro e w1 ⟨rfl, hb1⟩)
  refine hK.out _ _ ?_ (fun hHeld => ?_)
  · refine ⟨?_, ?_, ?_⟩ <;> rw [hb1.cell (by simp)] <;> simp [go_sem]
  (try clear hK K)
  refine wpAnyH_take (i := 2) (v := ?_) rfl (by kernel_rfl) (by kernel_rfl) (by kernel_rfl) (fun _ _ _ h => h) (Or.inl ⟨by rfl, ?_⟩) (by assumption) ?_
  rotate_left
  · intro w hSw; (try dsimp only at hSw); go_simp; (try with_reducible rfl)
  (try simp only [Act.put, List.getElem_toArray, List.getElem_cons_succ, List.getElem_cons_zero, List.setIfInBounds_toArray, List.set_cons_zero, List.set_cons_succ])
  (try clear hK K)
  refine wpAnyH_take (i := 3) (v := undef) rfl (by kernel_rfl) (by kernel_rfl) (by kernel_rfl) (fun _ _ _ h => h) (Or.inr ⟨by rfl, rfl⟩) (by assumption) ?_
  (try simp only [Act.put, List.getElem_toArray, List.getElem_cons_succ, List.getElem_cons_zero, List.setIfInBounds_toArray, List.set_cons_zero, List.set_cons_succ])
  refine wpAnyH_take (i := 4) (v := undef) rfl (by kernel_rfl) (by kernel_rfl) (by kernel_rfl) (fun _ _ _ h => h) (Or.inr ⟨by rfl, rfl⟩) (by assumption) ?_
  (try simp only [Act.put, List.getElem_toArray, List.getElem_cons_succ, List.getElem_cons_zero, List.setIfInBounds_toArray, List.set_cons_zero, List.set_cons_succ])
  refine wpAnyH_take (i := 5) (v := undef) rfl (by kernel_rfl) (by kernel_rfl) (by kernel_rfl) (fun _ _ _ h => h) (Or.inr ⟨by rfl, rfl⟩) (by assumption) ?_
  (try simp only [Act.put, List.getElem_toArray, List.getElem_cons_succ, List.getElem_cons_zero, List.setIfInBounds_toArray, List.set_cons_zero, List.set_cons_succ])
  refine wpAnyH_take (i := 6) (v := undef) rfl (by kernel_rfl) (by kernel_rfl) (by kernel_rfl) (fun _ _ _ h => h) (Or.inr ⟨by rfl, rfl⟩) (by assumption) ?_
  (try simp only [Act.put, List.getElem_toArray, List.getElem_cons_succ, List.getElem_cons_zero, List.setIfInBounds_toArray, List.set_cons_zero, List.set_cons_succ])
  refine wpAnyH_take (i := 7) (v := undef) rfl (by kernel_rfl) (by kernel_rfl) (by kernel_rfl) (fun _ _ _ h => h) (Or.inr ⟨by rfl, rfl⟩) (by assumption) ?_
  (try simp only [Act.put, List.getElem_toArray, List.getElem_cons_succ, List.getElem_cons_zero, List.setIfInBounds_toArray, List.set_cons_zero, List.set_cons_succ])
  refine wpAnyH_take (i := 8) (v := undef) rfl (by kernel_rfl) (by kernel_rfl) (by kernel_rfl) (fun _ _ _ h => h) (Or.inr ⟨by rfl, rfl⟩) (by assumption) ?_
  (try simp only [Act.put, List.getElem_toArray, List.getElem_cons_succ, List.getElem_cons_zero, List.setIfInBounds_toArray, List.set_cons_zero, List.set_cons_succ])
  refine wpAnyH_take (i := 9) (v := undef) rfl (by kernel_rfl) (by kernel_rfl) (by kernel_rfl) (fun _ _ _ h => h) (Or.inr ⟨by rfl, rfl⟩) (by assumption) ?_
  (try simp only [Act.put, List.getElem_toArray, List.getElem_cons_succ, List.getElem_cons_zero, List.setIfInBounds_toArray, List.set_cons_zero, List.set_cons_succ])
  refine wpAnyH_take (i := 10) (v := undef) rfl (by kernel_rfl) (by kernel_rfl) (by kernel_rfl) (fun _ _ _ h => h) (Or.inr ⟨by rfl, rfl⟩) (by assumption) ?_
  (try simp only [Act.put, List.getElem_toArray, List.getElem_cons_succ, List.getElem_cons_zero, List.setIfInBounds_toArray, List.set_cons_zero, List.set_cons_succ])
  (try clear hK K)
  refine wpAnyH_take (i := 11) (v := ?_) rfl (by kernel_rfl) (by kernel_rfl) (by kernel_rfl) (fun _ _ _ h => h) (Or.inl ⟨by rfl, ?_⟩) (by assumption) ?_
  rotate_left
  · intro w hSw; (try dsimp only at hSw); go_simp; (try with_reducible rfl)
  (try simp only [Act.put, List.getElem_toArray, List.getElem_cons_succ, List.getElem_cons_zero, List.setIfInBounds_toArray, List.set_cons_zero, List.set_cons_succ])
  refine wpAnyH_take (i := 12) (v := ?_) rfl (by kernel_rfl) (by kernel_rfl) (by kernel_rfl) (fun _ _ _ h => h) (Or.inl ⟨by rfl, ?_⟩) (by assumption) ?_
  rotate_left
  · intro w hSw; (try dsimp only at hSw); go_simp; (try with_reducible rfl)
  (try simp only [Act.put, List.getElem_toArray, List.getElem_cons_succ, List.getElem_cons_zero, List.setIfInBounds_toArray, List.set_cons_zero, List.set_cons_succ])
  (try clear hK K)
  refine wpAnyH_done (by kernel_rfl) ?_ _
  go_wp2
  go_ret
  exact ⟨rfl, back2d hb1⟩
set_option maxHeartbeats 400000 in
theorem suits_yes (ac : Option Addr) (cc : Nat) (cols : List Bool) (k : Nat) (t : Bool) (n : Int) (s : ByteArray) (w : World) (h : BoolsIn w (.slice ac cols.length cc) cols) (hr : rightV t n s = true) (hs : s.size ≤ maxLen) (hk : k < cols.length) :
    Calls Try.prog 65 #[.agg #[.slice ac cols.length cc], .int .i64 k, V t n s] w fun e w' => e = .returned (.bool (t == cols[k])) ∧ Below w.heap.size w w' := by
  have H : Hid (∀ w1, Calls Try.prog 52 #[V t n s] w1 fun e w' => e = .returned (.bool true) ∧ Below w1.heap.size w1 w') := fun w1 => by
    have := right_any t n s w1 hs; rw [hr] at this; exact this
  obtain ⟨b, o, rfl, hc⟩ := h.at k hk
  have hlt : b < w.heap.size := World.block_lt_of_cell? w _ hc
  have k0 : (0 : Int) ≤ (k : Int) := by omega
  have k1 : (k : Int) < (cols.length : Int) := by omega
  clear hr hs h
  generalize cols[k] = c at *
  go_enter Try.func65, Try.ntmps65
  go_wp2
  refine wp_region_held_drew (S := fun w' => w'.cell? ⟨w.heap.size + 1, 0, none⟩ = some (.bool t) ∧ w'.cell? ⟨w.heap.size + 1, 1, none⟩ = some (.int .i64 n) ∧ w'.cell? ⟨w.heap.size + 1, 2, none⟩ = some (.string s) ∧ w'.cell? ⟨w.heap.size, 0, none⟩ = some (.slice (some ⟨b, o, none⟩) cols.length cc) ∧ w'.cell? ⟨b, o + k, none⟩ = some (.bool c)) (by kernel_rfl) ?_ (fun hHeld => ?_)
  · simp [go_sem, hc, World.cell?_alloc_some]
  (try clear hK K)
  refine wpAnyH_take (i := 0) (v := ?_) rfl (by kernel_rfl) (by kernel_rfl) (by kernel_rfl) (fun _ _ _ h => h) (Or.inl ⟨by rfl, ?_⟩) (by assumption) ?_
  rotate_left
  · intro w hSw; (try dsimp only at hSw); go_simp; (try with_reducible rfl)
  (try simp only [Act.put, List.getElem_toArray, List.getElem_cons_zero, List.setIfInBounds_toArray, List.set_cons_zero, List.set_cons_succ])
  (try clear hK K)
  refine wpAnyH_ready (rs := [1]) (by kernel_rfl) (by simp) ?_
  refine AllReadyH.cons rfl (fun K hK => ?_) AllReadyH.nil
  go_simp
  (refine Calls.mono (H.out _) ?_; rintro e w1 ⟨rfl, hb1⟩)
  refine hK.out _ _ ?_ (fun hHeld => ?_)
  · refine ⟨?_, ?_, ?_, ?_, ?_⟩ <;> rw [hb1.cell (by simp; try omega)] <;> simp [go_sem, hc, World.cell?_alloc_some]
  (try clear hK K)
  refine wpAnyH_take (i := 2) (v := ?_) rfl (by kernel_rfl) (by kernel_rfl) (by kernel_rfl) (fun _ _ _ h => h) (Or.inl ⟨by rfl, ?_⟩) (by assumption) ?_
  rotate_left
  · intro w hSw; (try dsimp only at hSw); go_simp; (try with_reducible rfl)
  (try simp only [Act.put, List.getElem_toArray, List.getElem_cons_succ, List.getElem_cons_zero, List.setIfInBounds_toArray, List.set_cons_zero, List.set_cons_succ])
  refine wpAnyH_take (i := 3) (v := ?_) rfl (by kernel_rfl) (by kernel_rfl) (by kernel_rfl) (fun _ _ _ h => h) (Or.inl ⟨by rfl, ?_⟩) (by assumption) ?_
  rotate_left
  · intro w hSw; (try dsimp only at hSw); go_simp; (try with_reducible rfl)
  (try simp only [Act.put, List.getElem_toArray, List.getElem_cons_succ, List.getElem_cons_zero, List.setIfInBounds_toArray, List.set_cons_zero, List.set_cons_succ])
  refine wpAnyH_take (i := 4) (v := ?_) rfl (by kernel_rfl) (by kernel_rfl) (by kernel_rfl) (fun _ _ _ h => h) (Or.inl ⟨by rfl, ?_⟩) (by assumption) ?_
  rotate_left
  · intro w hSw; (try dsimp only at hSw); go_simp; (try with_reducible rfl)
  (try simp only [Act.put, List.getElem_toArray, List.getElem_cons_succ, List.getElem_cons_zero, List.setIfInBounds_toArray, List.set_cons_zero, List.set_cons_succ])
  refine wpAnyH_take (i := 5) (v := ?_) rfl (by kernel_rfl) (by kernel_rfl) (by kernel_rfl) (fun _ _ _ h => h) (Or.inl ⟨by rfl, ?_⟩) (by assumption) ?_
  rotate_left
  · intro w hSw; (try dsimp only at hSw); go_simp; (try with_reducible rfl)
  (try simp only [Act.put, List.getElem_toArray, List.getElem_cons_succ, List.getElem_cons_zero, List.setIfInBounds_toArray, List.set_cons_zero, List.set_cons_succ])
  refine wpAnyH_take (i := 6) (v := ?_) rfl (by kernel_rfl) (by kernel_rfl) (by kernel_rfl) (fun _ _ _ h => h) (Or.inl ⟨by rfl, ?_⟩) (by assumption) ?_
  rotate_left
  · intro w hSw; (try dsimp only at hSw); go_simp; (try with_reducible rfl)
  (try simp only [Act.put, List.getElem_toArray, List.getElem_cons_succ, List.getElem_cons_zero, List.setIfInBounds_toArray, List.set_cons_zero, List.set_cons_succ])
  refine wpAnyH_take (i := 7) (v := ?_) rfl (by kernel_rfl) (by kernel_rfl) (by kernel_rfl) (fun _ _ _ h => h) (Or.inl ⟨by rfl, ?_⟩) (by assumption) ?_
  rotate_left
  · intro w hSw; (try dsimp only at hSw); go_simp; (try with_reducible rfl)
  (try simp only [Act.put, List.getElem_toArray, List.getElem_cons_succ, List.getElem_cons_zero, List.setIfInBounds_toArray, List.set_cons_zero, List.set_cons_succ])
  refine wpAnyH_take (i := 8) (v := ?_) rfl (by kernel_rfl) (by kernel_rfl) (by kernel_rfl) (fun _ _ _ h => h) (Or.inl ⟨by rfl, ?_⟩) (by assumption) ?_
  rotate_left
  · intro w hSw; (try dsimp only at hSw); go_simp; (try with_reducible rfl)
  (try simp only [Act.put, List.getElem_toArray, List.getElem_cons_succ, List.getElem_cons_zero, List.setIfInBounds_toArray, List.set_cons_zero, List.set_cons_succ])
  refine wpAnyH_take (i := 9) (v := ?_) rfl (by kernel_rfl) (by kernel_rfl) (by kernel_rfl) (fun _ _ _ h => h) (Or.inl ⟨by rfl, ?_⟩) (by assumption) ?_
  rotate_left
  · intro w hSw; (try dsimp only at hSw); go_simp; (try with_reducible rfl)
  (try simp only [Act.put, List.getElem_toArray, List.getElem_cons_succ, List.getElem_cons_zero, List.setIfInBounds_toArray, List.set_cons_zero, List.set_cons_succ])
  refine wpAnyH_take (i := 10) (v := ?_) rfl (by kernel_rfl) (by kernel_rfl) (by kernel_rfl) (fun _ _ _ h => h) (Or.inl ⟨by rfl, ?_⟩) (by assumption) ?_
  rotate_left
  · intro w hSw; (try dsimp only at hSw); go_simp; (try with_reducible rfl)
  (try simp only [Act.put, List.getElem_toArray, List.getElem_cons_succ, List.getElem_cons_zero, List.setIfInBounds_toArray, List.set_cons_zero, List.set_cons_succ])
  refine wpAnyH_take (i := 11) (v := ?_) rfl (by kernel_rfl) (by kernel_rfl) (by kernel_rfl) (fun _ _ _ h => h) (Or.inl ⟨by rfl, ?_⟩) (by assumption) ?_
  rotate_left
  · intro w hSw; (try dsimp only at hSw); go_simp; (try with_reducible rfl)
  (try simp only [Act.put, List.getElem_toArray, List.getElem_cons_succ, List.getElem_cons_zero, List.setIfInBounds_toArray, List.set_cons_zero, List.set_cons_succ])
  refine wpAnyH_take (i := 12) (v := ?_) rfl (by kernel_rfl) (by kernel_rfl) (by kernel_rfl) (fun _ _ _ h => h) (Or.inl ⟨by rfl, ?_⟩) (by assumption) ?_
  rotate_left
  · intro w hSw; (try dsimp only at hSw); go_simp; (try with_reducible rfl)
  (try simp only [Act.put, List.getElem_toArray, List.getElem_cons_succ, List.getElem_cons_zero, List.setIfInBounds_toArray, List.set_cons_zero, List.set_cons_succ])
  (try clear hK K)
  refine wpAnyH_done (by kernel_rfl) ?_ _
  go_wp2
  go_ret
  exact ⟨rfl, back2d hb1⟩
theorem suits_any (vc : Value) (cols : List Bool) (k : Nat) (x : Val) (w : World) (h : BoolsIn w vc cols) (hs : x.s.size ≤ maxLen) (hk : k < cols.length) :
    Calls Try.prog 65 #[.agg #[vc], .int .i64 k, V x.t x.n x.s] w fun e w' => e = .returned (.bool (suitV cols[k] x)) ∧ Below w.heap.size w w' := by
  obtain ⟨ac, cc, rfl, lc⟩ := h.slice
  cases hr : rightV x.t x.n x.s
  · have e : suitV cols[k] x = false := by unfold suitV; rw [hr]; rfl
    rw [e]; exact suits_no _ k x.t x.n x.s w hr hs
  · have e : suitV cols[k] x = (x.t == cols[k]) := by unfold suitV; rw [hr]; rfl
    rw [e]; exact suits_yes ac cc cols k x.t x.n x.s w h hr hs hk
end Go.Proofs.Ytafkpfhhmmnpeaa.Val
/- What row.Fits answers, and the reference's. -/
namespace Go.Proofs.Ytafkpfhhmmnpeaa.Val
open Go.RowKit

set_option maxHeartbeats 400000 in
theorem fits_no (vc vr : Value) (cols : List Bool) (xs : List Val) (w : World) (hc : BoolsIn w vc cols) (_hr : RowIn w vr xs) (h : mayT cols = false) :
    Calls Try.prog 46 #[.agg #[vc], vr] w fun e w' => e = .returned (.bool false) ∧ Below w.heap.size w w' := by
  have H : Hid (∀ w1, Below w.heap.size w w1 → Calls Try.prog 28 #[.agg #[vc]] w1 fun e w' => e = .returned (.int .i64 1) ∧ Below w1.heap.size w1 w') := fun w1 hb => by
    have := check_any vc cols w1 (hc.below hb); rw [h] at this; exact this
  clear h hc
  go_enter Try.func46, Try.ntmps46
  go_wp2_with fail
  refine Calls.mono (H.out _ ((Below.refl _ _).alloc (Nat.le_refl _) _)) ?_
  rintro e w1 ⟨rfl, hb1⟩
  go_wp2
  go_ret
  exact ⟨rfl, back1 hb1⟩
set_option maxHeartbeats 400000 in
theorem fits_len (vc vr : Value) (cols : List Bool) (xs : List Val) (w : World) (hc : BoolsIn w vc cols) (hr : RowIn w vr xs) (h : mayT cols = true) (hl : ¬ xs.length = cols.length) :
    Calls Try.prog 46 #[.agg #[vc], vr] w fun e w' => e = .returned (.bool false) ∧ Below w.heap.size w w' := by
  have H : Hid (∀ w1, Below w.heap.size w w1 → Calls Try.prog 28 #[.agg #[vc]] w1 fun e w' => e = .returned (.int .i64 0) ∧ Below w1.heap.size w1 w') := fun w1 hb => by
    have := check_any vc cols w1 (hc.below hb); rw [h] at this; exact this
  obtain ⟨ac, cc, rfl, lc⟩ := hc.slice
  obtain ⟨ar, cr, rfl, lr⟩ := hr.slice
  have hd : ((xs.length : Int) != (cols.length : Int)) = true := by simp; omega
  clear h hc hr hl
  go_enter Try.func46, Try.ntmps46
  go_wp2_with fail
  refine Calls.mono (H.out _ ((Below.refl _ _).alloc (Nat.le_refl _) _)) ?_
  rintro e w1 ⟨rfl, hb1⟩
  have c0 := in1 hb1
  go_wp2
  go_ret
  exact ⟨rfl, back1 hb1⟩
set_option maxHeartbeats 1000000 in
theorem fits_yes (vc vr : Value) (cols : List Bool) (xs : List Val) (w : World) (hc : BoolsIn w vc cols) (hr : RowIn w vr xs) (ho : RowOk xs) (h : mayT cols = true) (hl : xs.length = cols.length) :
    Calls Try.prog 46 #[.agg #[vc], vr] w fun e w' => e = .returned (.bool (fitsL cols xs)) ∧ Below w.heap.size w w' := by
  have H : Hid (∀ w1, Below w.heap.size w w1 → Calls Try.prog 28 #[.agg #[vc]] w1 fun e w' => e = .returned (.int .i64 0) ∧ Below w1.heap.size w1 w') := fun w1 hb => by
    have := check_any vc cols w1 (hc.below hb); rw [h] at this; exact this
  have HS : Hid (∀ w1 (k : Nat) (h1 : k < cols.length) (h2 : k < xs.length), Below w.heap.size w w1 → Calls Try.prog 65 #[.agg #[vc], .int .i64 k, V xs[k].t xs[k].n xs[k].s] w1 fun e w' => e = .returned (.bool (suitV cols[k] xs[k])) ∧ Below w1.heap.size w1 w') :=
    fun w1 k h1 h2 hb => suits_any vc cols k xs[k] w1 (hc.below hb) (ho _ (List.getElem_mem _)).2 h1
  obtain ⟨ac, cc, rfl, lc⟩ := hc.slice
  obtain ⟨ar, cr, rfl, lr⟩ := hr.slice
  have HR : Hid (RowIn w (.slice ar xs.length cr) xs) := hr
  have hd : ((xs.length : Int) != (cols.length : Int)) = false := by simp; omega
  clear h hc hr ho
  have HL : Hid (xs.length = cols.length) := hl
  clear hl
  go_enter Try.func46, Try.ntmps46
  go_wp2_with fail
  refine Calls.mono (H.out _ ((Below.refl _ _).alloc (Nat.le_refl _) _)) ?_
  rintro e w1 ⟨rfl, hb1⟩
  have c0 := in1 hb1
  have HB : Hid (Below (w.heap.size + 1) (w.alloc (.cells #[.slice ac cols.length cc] 60)) w1) := hb1.mono (by simp)
  clear hb1 H
  go_wp2_with fail
  go_loopw [20] (fun i wr => ∃ k : Nat, k ≤ xs.length ∧ i = .int .i64 k ∧ Hid (FitsTo cols xs k) ∧ Hid (Below (w.heap.size + 1) (w.alloc (.cells #[.slice ac cols.length cc] 60)) wr)) (fun i _ => xs.length - (intOf i).toNat)
  case atStart => exact ⟨0, Nat.zero_le _, rfl, FitsTo.zero _ _, HB⟩
  case round =>
    obtain ⟨k, hk, rfl, HT, HW⟩ := hrel
    clear HB c0
    have hBr : Below w.heap.size w wr := back1 (HW.out.mono (by simp))
    have c0 : wr.cell? ⟨w.heap.size, 0, none⟩ = some (.slice ac cols.length cc) := in1 (HW.out.mono (by simp))
    have hz : w.heap.size < wr.heap.size := World.block_lt_of_cell? wr _ c0
    by_cases hlt : k < xs.length
    · have hlt2 : k < cols.length := by rw [← HL.out]; exact hlt
      obtain ⟨b, o, rfl, d0, d1, d2⟩ := (HR.out.below hBr).at k hlt
      have HBr : Hid (Below w.heap.size w wr) := hBr
      clear hBr
      go_wp2_with fail
      refine Calls.mono (HS.out _ k hlt2 hlt (HBr.out.alloc (by omega) _)) ?_
      rintro e w2 ⟨rfl, hb2⟩
      have HB2 : Hid (Below (w.heap.size + 1) (w.alloc (.cells #[.slice ac cols.length cc] 60)) w2) := next1 HW.out (by omega) hb2
      clear hb2
      cases hs : suitV cols[k] xs[k]
      · have HN : Hid (fitsL cols xs = false) := fitsL_no hlt2 hlt hs
        go_wp2_with fail
        go_ret
        exact ⟨ret_bool' HN.out.symm, back1 (HB2.out.mono (by simp))⟩
      · have HN : Hid (FitsTo cols xs (k + 1)) := HT.out.next hlt2 hlt hs
        go_wp2_with fail
        go_roundw
        case rel => exact ⟨k + 1, by omega, by go_num, HN, HB2⟩
        case measure => simp [intOf]; omega
    · have HN : Hid (fitsL cols xs = true) := HT.out.all (by omega)
      go_wp2_with fail
      go_ret
      exact ⟨ret_bool' HN.out.symm, hBr⟩
theorem fits_any (vc vr : Value) (cols : List Bool) (xs : List Val) (w : World) (hc : BoolsIn w vc cols) (hr : RowIn w vr xs) (ho : RowOk xs) :
    Calls Try.prog 46 #[.agg #[vc], vr] w fun e w' => e = .returned (.bool (fitsRow cols xs)) ∧ Below w.heap.size w w' := by
  cases h : mayT cols
  · rw [fitsRow_may h]; exact fits_no vc vr cols xs w hc hr h
  · by_cases hl : xs.length = cols.length
    · rw [fitsRow_of h hl]; exact fits_yes vc vr cols xs w hc hr ho h hl
    · rw [fitsRow_len hl]; exact fits_len vc vr cols xs w hc hr h hl
end Go.Proofs.Ytafkpfhhmmnpeaa.Val
