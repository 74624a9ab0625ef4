/- What slices.ContainsFunc and pred.all answer of a list of predicates, whatever function they are handed. -/
import Derived.Test.YtfkhfplibhnceaaDoorPredFunc
import Derived.Test.YtfkhfplibhnceaaDoorPredBox
namespace Go.Proofs.YtfkhfplibhnceaaDoor.Val
open Go.RowKit

theorem enters_all1 : Enters 70 := enters_of Tryd.func70 (by decide +kernel) rfl
set_option maxHeartbeats 1000000 in
theorem contains_any (f : FuncId) (first cap : Array Value) (lv : Value) (l : List PT) (w : World) (X : Nat → Prop) (I : Nat → World → Prop) (g : Nat → Bool) (hI : I 0 w) (hE : Enters f)
    (hl : ∀ i w1, I i w1 → Lies w1 lv l.length (l.flatMap PT.cells))
    (hc : ∀ (i : Nat) (hi : i < l.length) (w1 : World), I i w1 → Calls Tryd.prog f (first.push l[i].val ++ cap) w1 fun e w2 => e = .returned (.bool (g i)) ∧ I (i + 1) w2 ∧ Sv X w1 w2) :
    Calls Tryd.prog 69 #[lv, FV f first cap] w fun e w' => Sv X w w' ∧
      ((∃ k : Nat, k < l.length ∧ g k = true ∧ (∀ j, j < k → g j = false) ∧ e = .returned (.bool true) ∧ I (k + 1) w') ∨ ((∀ j, j < l.length → g j = false) ∧ e = .returned (.bool false) ∧ I l.length w')) := by
  have H : Hid _ := index_any f first cap lv l w X I g hI hE hl hc
  clear hl hc hI hE
  go_enter Tryd.func69, Tryd.ntmps69
  go_wp2_with fail
  refine Calls.mono H.out ?_
  rintro e w1 ⟨hs, ⟨k, hk, hg, hj, rfl, hI⟩ | ⟨hj, rfl, hI⟩⟩
  · have HA : Hid (Sv X w w1 ∧ g k = true ∧ (∀ j, j < k → g j = false) ∧ I (k + 1) w1) := ⟨hs, hg, hj, hI⟩
    clear hs hg hj hI H
    have k0 : (0 : Int) ≤ (k : Int) := by omega
    go_wp2_with fail
    go_ret
    exact ⟨HA.out.1, .inl ⟨k, hk, HA.out.2.1, HA.out.2.2.1, rfl, HA.out.2.2.2⟩⟩
  · have HA : Hid (Sv X w w1 ∧ (∀ j, j < l.length → g j = false) ∧ I l.length w1) := ⟨hs, hj, hI⟩
    clear hs hj hI H
    go_wp2_with fail
    go_ret
    exact ⟨HA.out.1, .inr ⟨HA.out.2.1, rfl, HA.out.2.2⟩⟩
set_option maxHeartbeats 1000000 in
theorem all1_any (f : FuncId) (first cap : Array Value) (p : PT) (B : Nat) (w : World) (R : Bool → World → Prop) (hE : Enters f) (hB : w.cell? ⟨B, 0, none⟩ = some (FV f first cap))
    (hc : Calls Tryd.prog f (first.push p.val ++ cap) (w.alloc (.cells #[.int .i64 p.op, .int .i64 p.col, .bool p.v.t, .int .i64 p.v.n, .string p.v.s, .bool p.w.t, .int .i64 p.w.n, .string p.w.s, p.lv] 29)) fun e w2 => ∃ b, e = .returned (.bool b) ∧ R b w2) :
    Calls Tryd.prog 70 #[p.val, .pointer (some ⟨B, 0, none⟩)] w fun e w2 => ∃ b, e = .returned (.bool (!b)) ∧ R b w2 := by
  have H : Hid _ := hc
  have hE' : ∀ args w, (callFunc f args).run Tryd.prog w = .ok (.enter f args) w := hE
  have hlt : B < w.heap.size := World.block_lt_of_cell? w _ hB
  clear hc hE
  unfold PT.val
  go_enter Tryd.func70, Tryd.ntmps70
  go_wp2_with fail
  refine Calls.mono H.out ?_
  rintro e w1 ⟨b, rfl, hR⟩
  have HR : Hid (R b w1) := hR
  clear hR H hE'
  go_wp2_with fail
  go_ret
  exact ⟨b, rfl, HR.out⟩
set_option maxHeartbeats 1000000 in
theorem all_any (f : FuncId) (first cap : Array Value) (lv : Value) (l : List PT) (w : World) (X : Nat → Prop) (I : Nat → World → Prop) (g : Nat → Bool) (hI : I 0 w) (hE : Enters f)
    (hX : ∀ k, X k → k < w.heap.size) (hIa : ∀ i w1 o, I i w1 → I i (w1.alloc o)) (hl : ∀ i w1, I i w1 → Lies w1 lv l.length (l.flatMap PT.cells))
    (hc : ∀ (i : Nat) (hi : i < l.length) (w1 : World), I i w1 → Calls Tryd.prog f (first.push l[i].val ++ cap) w1 fun e w2 => e = .returned (.bool (g i)) ∧ I (i + 1) w2 ∧ Sv X w1 w2) :
    Calls Tryd.prog 66 #[lv, FV f first cap] w fun e w' => Sv X w w' ∧
      ((∃ k : Nat, k < l.length ∧ g k = false ∧ (∀ j, j < k → g j = true) ∧ e = .returned (.bool false) ∧ I (k + 1) w') ∨ ((∀ j, j < l.length → g j = true) ∧ e = .returned (.bool true) ∧ I l.length w')) := by
  have H : Hid _ := contains_any 70 #[] #[.pointer (some ⟨w.heap.size, 0, none⟩)] lv l (w.alloc (.cells #[FV f first cap] 43)) X (fun i w1 => I i w1 ∧ w1.cell? ⟨w.heap.size, 0, none⟩ = some (FV f first cap)) (fun i => !g i)
    ⟨hIa _ _ _ hI, by simp⟩ enters_all1 (fun i w1 h => hl i w1 h.1) (fun i hi w1 h => by
      obtain ⟨h1, h2⟩ := h
      have hlt : w.heap.size < w1.heap.size := World.block_lt_of_cell? w1 _ h2
      refine Calls.mono (all1_any f first cap l[i] w.heap.size w1 (fun b w2 => b = g i ∧ I (i + 1) w2 ∧ Sv X w1 w2) hE h2 ?_) ?_
      · refine Calls.mono (hc i hi _ (hIa _ _ _ h1)) ?_
        rintro e w2 ⟨rfl, k1, k2⟩
        exact ⟨_, rfl, rfl, k1, (Sv.alloc _ _ _).trans k2⟩
      · rintro e w2 ⟨b, rfl, rfl, k1, k2⟩
        refine ⟨rfl, ⟨k1, ?_⟩, k2⟩
        rw [k2.cell hlt (fun hx => by have := hX _ hx; simp at this)]
        exact h2)
  have HSA : Hid (Sv X w (w.alloc (.cells #[FV f first cap] 43))) := Sv.alloc _ _ _
  clear hl hc hI hE hIa hX
  go_enter Tryd.func66, Tryd.ntmps66
  go_wp2_with fail
  refine Calls.mono H.out ?_
  rintro e w1 ⟨hs, ⟨k, hk, hg, hj, rfl, hI, _⟩ | ⟨hj, rfl, hI, _⟩⟩
  · have HA : Hid (Sv X w w1 ∧ g k = false ∧ (∀ j, j < k → g j = true) ∧ I (k + 1) w1) := ⟨HSA.out.trans hs, by simpa using hg, fun j h => by simpa using hj j h, hI⟩
    clear hs hg hj hI H
    go_wp2_with fail
    go_ret
    exact ⟨HA.out.1, .inl ⟨k, hk, HA.out.2.1, HA.out.2.2.1, rfl, HA.out.2.2.2⟩⟩
  · have HA : Hid (Sv X w w1 ∧ (∀ j, j < l.length → g j = true) ∧ I l.length w1) := ⟨HSA.out.trans hs, fun j h => by simpa using hj j h, hI⟩
    clear hs hj hI H
    go_wp2_with fail
    go_ret
    exact ⟨HA.out.1, .inr ⟨HA.out.2.1, rfl, HA.out.2.2⟩⟩
/-- Functions that write nothing old. -/
theorem map_at {α β : Type} (f : α → β) (d : β) (l : List α) (i : Nat) (h : i < l.length) : ((l.map f)[i]?).getD d = f l[i] := by simp [h]
theorem all_pure (f : FuncId) (first cap : Array Value) (lv : Value) (l : List PT) (w : World) (g : PT → Bool) (hE : Enters f) (hl : InL w lv l)
    (hc : ∀ q ∈ l, ∀ w1, Below w.heap.size w w1 → Calls Tryd.prog f (first.push q.val ++ cap) w1 fun e w2 => e = .returned (.bool (g q)) ∧ Below w1.heap.size w1 w2) :
    Calls Tryd.prog 66 #[lv, FV f first cap] w fun e w' => e = .returned (.bool ((l.map g).all id)) ∧ Below w.heap.size w w' := by
  refine Calls.mono (all_any f first cap lv l w Nothing (fun _ w1 => Below w.heap.size w w1) (fun i => ((l.map g)[i]?).getD false) (Below.refl _ _) hE (fun k h => h.elim) (fun i w1 o h => h.alloc h.size _) (fun i w1 h => hl.1.below h) (fun i hi w1 h => ?_)) ?_
  · refine Calls.mono (hc l[i] (List.getElem_mem hi) w1 h) ?_
    rintro e w2 ⟨rfl, hb⟩
    exact ⟨by rw [map_at g false l i hi], on h hb, Sv.of hb⟩
  · rintro e w2 ⟨hs, ⟨k, hk, hg, _, rfl, _⟩ | ⟨hj, rfl, _⟩⟩
    · refine ⟨?_, hs.pure⟩
      rw [map_at g false l k hk] at hg
      have : (l.map g).all id = false := by
        rw [← Bool.not_eq_true, List.all_eq_true]
        intro h
        have := h (g l[k]) (List.mem_map.2 ⟨_, List.getElem_mem hk, rfl⟩)
        simp [hg] at this
      rw [this]
    · refine ⟨?_, hs.pure⟩
      have : (l.map g).all id = true := by
        rw [List.all_eq_true]
        intro x hx
        obtain ⟨q, hq, rfl⟩ := List.mem_map.1 hx
        obtain ⟨i, hi, rfl⟩ := List.mem_iff_getElem.1 hq
        have := hj i hi
        rw [map_at g false l i hi] at this
        exact this
      rw [this]
theorem contains_pure (f : FuncId) (first cap : Array Value) (lv : Value) (l : List PT) (w : World) (g : PT → Bool) (hE : Enters f) (hl : InL w lv l)
    (hc : ∀ q ∈ l, ∀ w1, Below w.heap.size w w1 → Calls Tryd.prog f (first.push q.val ++ cap) w1 fun e w2 => e = .returned (.bool (g q)) ∧ Below w1.heap.size w1 w2) :
    Calls Tryd.prog 69 #[lv, FV f first cap] w fun e w' => e = .returned (.bool ((l.map g).any id)) ∧ Below w.heap.size w w' := by
  refine Calls.mono (contains_any f first cap lv l w Nothing (fun _ w1 => Below w.heap.size w w1) (fun i => ((l.map g)[i]?).getD false) (Below.refl _ _) hE (fun i w1 h => hl.1.below h) (fun i hi w1 h => ?_)) ?_
  · refine Calls.mono (hc l[i] (List.getElem_mem hi) w1 h) ?_
    rintro e w2 ⟨rfl, hb⟩
    exact ⟨by rw [map_at g false l i hi], on h hb, Sv.of hb⟩
  · rintro e w2 ⟨hs, ⟨k, hk, hg, _, rfl, _⟩ | ⟨hj, rfl, _⟩⟩
    · refine ⟨?_, hs.pure⟩
      rw [map_at g false l k hk] at hg
      have : (l.map g).any id = true := by
        rw [List.any_eq_true]
        exact ⟨g l[k], List.mem_map.2 ⟨_, List.getElem_mem hk, rfl⟩, hg⟩
      rw [this]
    · refine ⟨?_, hs.pure⟩
      have : (l.map g).any id = false := by
        rw [← Bool.not_eq_true, List.any_eq_true]
        rintro ⟨x, hx, hx1⟩
        obtain ⟨q, hq, rfl⟩ := List.mem_map.1 hx
        obtain ⟨i, hi, rfl⟩ := List.mem_iff_getElem.1 hq
        have := hj i hi
        rw [map_at g false l i hi] at this
        simp [this] at hx1
      rw [this]
end Go.Proofs.YtfkhfplibhnceaaDoor.Val
