/- What the reference's Holds answers. -/
import Derived.Test.YtnfageikacfdoaaPredBox
import Derived.Test.YtnfageikacfdoaaRefCmp
import Derived.Test.YtnfageikacfdoaaRowOk
namespace Go.Proofs.Ytnfageikacfdoaa.Val
open Go.RowKit

theorem ret_b3 {a b : Bool} (h : a = b) : Ending.returned (.bool a) = Ending.returned (.bool b) := by subst h; rfl
theorem rcmp_any' (x y : Val) (w : World) (hx : x.s.size ≤ maxLen) (hy : y.s.size ≤ maxLen) :
    Calls Try.prog 44 #[V x.t x.n x.s, V y.t y.n y.s] w fun e w' => e = .returned (.int .i64 (cmpX x y)) ∧ Below w.heap.size w w' := rcmp_any _ _ _ _ _ _ _ hx hy
set_option maxHeartbeats 1000000 in
theorem rleaf_low (vr : Value) (p : PT) (w : World) (h : p.col < 0) :
    Calls Try.prog 33 #[p.val, vr] w fun e w' => e = .returned (.bool false) ∧ Below w.heap.size w w' := by
  unfold PT.val
  go_enter Try.func33, Try.ntmps33
  go_wp2_with fail
  go_ret
  exact ⟨rfl, alloc1 _ _⟩
set_option maxHeartbeats 1000000 in
theorem rleaf_high (ar : Option Addr) (n cr : Nat) (p : PT) (w : World) (h0 : decide (p.col < 0) = false) (h : (n : Int) ≤ p.col) :
    Calls Try.prog 33 #[p.val, .slice ar n cr] w fun e w' => e = .returned (.bool false) ∧ Below w.heap.size w w' := by
  unfold PT.val
  go_enter Try.func33, Try.ntmps33
  go_wp2_with fail
  go_ret
  exact ⟨rfl, alloc1 _ _⟩
set_option maxHeartbeats 2000000 in
theorem rleaf_mid (b o n cr k : Nat) (x : Val) (p : PT) (op : Int) (w : World) (hop : p.op = op) (ho : 3 ≤ op ∧ op ≤ 9) (hk : p.col = (k : Int)) (hn : k < n) (hx : x.s.size ≤ maxLen) (hv : p.v.s.size ≤ maxLen) (hu : p.w.s.size ≤ maxLen)
    (d0 : w.cell? ⟨b, o + k * 3, none⟩ = some (.bool x.t)) (d1 : w.cell? ⟨b, o + k * 3 + 1, none⟩ = some (.int .i64 x.n)) (d2 : w.cell? ⟨b, o + k * 3 + 2, none⟩ = some (.string x.s)) :
    Calls Try.prog 33 #[p.val, .slice (some ⟨b, o, none⟩) n cr] w fun e w' => e = .returned (.bool (standB op (cmpX x p.v) (cmpX x p.w))) ∧ Below w.heap.size w w' := by
  obtain ⟨c, hc⟩ : ∃ c, cmpX x p.v = c := ⟨_, rfl⟩
  obtain ⟨d, hd⟩ : ∃ d, cmpX x p.w = d := ⟨_, rfl⟩
  have H : Hid (∀ w1, Calls Try.prog 44 #[V x.t x.n x.s, V p.v.t p.v.n p.v.s] w1 fun e w' => e = .returned (.int .i64 c) ∧ Below w1.heap.size w1 w') := fun w1 => by have := rcmp_any' x p.v w1 hx hv; rw [hc] at this; exact this
  have H2 : Hid (∀ w1, Calls Try.prog 44 #[V x.t x.n x.s, V p.w.t p.w.n p.w.s] w1 fun e w' => e = .returned (.int .i64 d) ∧ Below w1.heap.size w1 w') := fun w1 => by have := rcmp_any' x p.w w1 hx hu; rw [hd] at this; exact this
  rw [hc, hd]
  have hlt2 : b < w.heap.size := World.block_lt_of_cell? w _ d0
  have k0 : (0 : Int) ≤ (k : Int) := by omega
  have k1 : (k : Int) < (n : Int) := by omega
  have k2 : decide ((k : Int) < 0) = false := by simp
  have k3 : decide ((n : Int) ≤ (k : Int)) = false := by simp; omega
  clear hc hd hx hv hu
  unfold PT.val
  rw [hk, hop]
  go_enter Try.func33, Try.ntmps33
  go_wp2_with fail
  refine Calls.mono (H.out _) ?_
  rintro e w1 ⟨rfl, hb⟩
  have HB : Hid (Below w.heap.size w w1) := back2 hb
  rw [← hk, ← hop] at hb
  obtain ⟨b0, b1, b2, b3, b4, b5, b6, b7, b8⟩ := ((Box.new w p 26).alloc (vobj x 23)).below hb
  obtain ⟨a0, a1, a2⟩ := (VBox.new (w.alloc (pobj p 26)) x 23).below hb
  have z : (w.alloc (pobj p 26)).heap.size = w.heap.size + 1 := by simp
  rw [z] at a0 a1 a2
  rw [hop] at b0
  clear hb z H hop hk d0 d1 d2 hlt2
  have h9 : op = 3 ∨ op = 4 ∨ op = 5 ∨ op = 6 ∨ op = 7 ∨ op = 8 ∨ op = 9 := by omega
  clear ho
  rcases h9 with rfl | rfl | rfl | rfl | rfl | rfl | rfl
  · clear H2
    go_wp2_with fail
    go_ret
    exact ⟨ret_b3 (by simp [standB]), HB.out⟩
  · clear H2
    go_wp2_with fail
    go_ret
    exact ⟨ret_b3 (by simp [standB]), HB.out⟩
  · clear H2
    go_wp2_with fail
    go_ret
    exact ⟨ret_b3 (by simp [standB]), HB.out⟩
  · clear H2
    go_wp2_with fail
    go_ret
    exact ⟨ret_b3 (by simp [standB]), HB.out⟩
  · clear H2
    go_wp2_with fail
    go_ret
    exact ⟨ret_b3 (by simp [standB]), HB.out⟩
  · clear H2
    go_wp2_with fail
    go_ret
    exact ⟨ret_b3 (by simp [standB]), HB.out⟩
  · by_cases hz : 0 ≤ c
    · go_wp2_with fail
      refine Calls.mono (H2.out _) ?_
      rintro e w2 ⟨rfl, hb2⟩
      go_wp2_with fail
      go_ret
      exact ⟨ret_b3 (by simp [standB, hz]), on HB.out hb2⟩
    · have hz' : decide (0 ≤ c) = false := by simp; omega
      clear H2
      go_wp2_with fail
      go_ret
      exact ⟨ret_b3 (by simp [standB]; omega), HB.out⟩
theorem rleaf_any (p : PT) (vr : Value) (r : List Val) (w : World) (hi : In w p) (hr : RowIn w vr r) (hok : RowOk r) (ho : 3 ≤ p.op ∧ p.op ≤ 9) :
    Calls Try.prog 33 #[p.val, vr] w fun e w' => e = .returned (.bool (leafB r p.op p.col p.v p.w)) ∧ Below w.heap.size w w' := by
  by_cases hlo : p.col < 0
  · rw [leaf_low hlo]
    exact rleaf_low vr p w hlo
  · obtain ⟨ar, cr, rfl, hn⟩ := hr.slice
    by_cases hhi : p.col < (r.length : Int)
    · obtain ⟨k, hk⟩ : ∃ k : Nat, p.col = (k : Int) := ⟨p.col.toNat, by omega⟩
      have hkl : k < r.length := by omega
      obtain ⟨b, o, rfl, d0, d1, d2⟩ := hr.at k hkl
      rw [hk, leaf_at hkl]
      exact rleaf_mid b o r.length cr k r[k] p p.op w rfl ho hk hkl (hok _ (List.getElem_mem hkl)).2 hi.sv hi.sw d0 d1 d2
    · rw [leaf_high (by omega) (by omega)]
      exact rleaf_high ar r.length cr p w (by simp; omega) (by omega)
def RHoldsOk (vr : Value) (r : List Val) (p : PT) : Prop := ∀ w, In w p → RowIn w vr r → Calls Try.prog 14 #[p.val, vr] w fun e w' => e = .returned (.bool (holdsP r p)) ∧ Below w.heap.size w w'
set_option maxHeartbeats 1000000 in
theorem rholds_leaf (vr : Value) (r : List Val) (hok : RowOk r) (p : PT) (ho : 3 ≤ p.op ∧ p.op ≤ 9) : RHoldsOk vr r p := by
  intro w hi hr
  obtain ⟨a, ha⟩ : ∃ a, holdsP r p = a := ⟨_, rfl⟩
  have hl := holds_leaf (r := r) (p := p) (by omega) (by omega) (by omega) (by omega)
  have H : Hid (∀ w1, Below w.heap.size w w1 → Calls Try.prog 33 #[p.val, vr] w1 fun e w' => e = .returned (.bool a) ∧ Below w1.heap.size w1 w') := fun w1 hb => by rw [← ha, hl]; exact rleaf_any p vr r w1 (hi.keep hb) (hr.below hb) hok ho
  rw [ha]
  have h1 : 3 ≤ p.op := ho.1
  have h2 : p.op ≤ 9 := ho.2
  clear ha hl hi hr ho
  unfold PT.val at *
  go_enter Try.func14, Try.ntmps14
  go_wp2_with fail
  refine Calls.mono (H.out _ (alloc1 _ _)) ?_
  rintro e w1 ⟨rfl, hb⟩
  go_wp2_with fail
  go_ret
  exact ⟨rfl, back1 hb⟩
end Go.Proofs.Ytnfageikacfdoaa.Val
