/- The law ValueOrders answers true for any three values, in a world that holds the table of digits. -/
import Derived.Test.YtmgkjojifhchkaaDoorOrderPlain
import Derived.Test.YtmgkjojifhchkaaDoorCmp
import Derived.Test.YtmgkjojifhchkaaDoorAwake
namespace Go.Proofs.YtmgkjojifhchkaaDoor.Val
open Go.RowKit

/-- Three values boxed, behind what keeps them. -/
theorem kept3 {w w1 : World} {x0 x1 x2 y0 y1 y2 z0 z1 z2 : Value} {T : TypeId} {B : Nat} (hB : B = w.heap.size + 3) (h : Below B (((w.alloc (.cells #[x0, x1, x2] T)).alloc (.cells #[y0, y1, y2] T)).alloc (.cells #[z0, z1, z2] T)) w1) :
    (w1.cell? ⟨w.heap.size, 0, none⟩ = some x0 ∧ w1.cell? ⟨w.heap.size, 1, none⟩ = some x1 ∧ w1.cell? ⟨w.heap.size, 2, none⟩ = some x2) ∧
    (w1.cell? ⟨w.heap.size + 1, 0, none⟩ = some y0 ∧ w1.cell? ⟨w.heap.size + 1, 1, none⟩ = some y1 ∧ w1.cell? ⟨w.heap.size + 1, 2, none⟩ = some y2) ∧
    (w1.cell? ⟨w.heap.size + 1 + 1, 0, none⟩ = some z0 ∧ w1.cell? ⟨w.heap.size + 1 + 1, 1, none⟩ = some z1 ∧ w1.cell? ⟨w.heap.size + 1 + 1, 2, none⟩ = some z2) := by
  subst hB
  have hl : ∀ b o, b < w.heap.size + 3 → w1.cell? ⟨b, o, none⟩ = _ := fun b o hb => h.cell (p := ⟨b, o, none⟩) hb
  refine ⟨⟨?_, ?_, ?_⟩, ⟨?_, ?_, ?_⟩, ⟨?_, ?_, ?_⟩⟩ <;> rw [hl _ _ (by omega)] <;> simp [go_sem]

/-- The calls of Compare that the law makes, told by their answers. -/
def Says (ta : Bool) (na : Int) (sa : ByteArray) (tb : Bool) (nb : Int) (sb : ByteArray) (x : Int) : Prop := ∀ w : World, Calls Tryd.prog 11 #[V ta na sa, V tb nb sb] w fun e w' => e = .returned (.int .i64 x) ∧ Below w.heap.size w w'
set_option maxHeartbeats 1000000 in
theorem orders_both (ta : Bool) (na : Int) (sa : ByteArray) (tb : Bool) (nb : Int) (sb : ByteArray) (tc : Bool) (nc : Int) (sc : ByteArray) (x y z : Int) (w : World) (hT : HasTab w) (hg : 0 < w.heap.size)
    (h1 : Says ta na sa tb nb sb x) (h2 : Says tb nb sb tc nc sc y) (h3 : Says ta na sa tc nc sc z) (h4 : Says tb nb sb ta na sa (-x)) (h5 : Says ta na sa ta na sa 0) (lo : -1 ≤ x) (hi : x ≤ 1) (x0 : x ≤ 0) (y0 : y ≤ 0) (z0 : z ≤ 0) (bx bY : Bool) (ex : (x == 0) = bx) (ey : (y == 0) = bY) (ez : (z == 0) = (bx && bY)) :
    Calls Tryd.prog 6 #[V ta na sa, V tb nb sb, V tc nc sc] w fun e w' => e = .returned (.bool true) ∧ Below w.heap.size w w' := by
  have H0 : Hid (∀ w1 : World, Below w.heap.size w w1 → Calls Tryd.prog 10 #[] w1 fun e w' => e = .returned (.bool true) ∧ Below w1.heap.size w1 w') := fun w1 hb => awake_any w1 (hT.below hb hg) (Nat.lt_of_lt_of_le hg hb.size)
  clear hT hg
  cases bx <;> cases bY
  all_goals
    go_enter Tryd.func6, Tryd.ntmps6
    go_wp2_with fail
    refine Calls.mono (H0.out _ ((((Below.refl _ _).alloc (Nat.le_refl _) _).alloc (by simp) _).alloc (by simp; omega) _)) ?_
    rintro e w1 ⟨rfl, hb⟩
    have K1 : Hid (Below (w.heap.size + 3) _ w1) := hb.mono (by simp)
    obtain ⟨⟨a0, a1, a2⟩, ⟨b0, b1, b2⟩, c0, c1, c2⟩ := kept3 rfl K1.out
    have z1 : w.heap.size + 3 ≤ w1.heap.size := by have := hb.size; simp at this; omega
    clear hb H0
    go_wp2_with fail
    refine Calls.mono (h1 _) ?_
    rintro e w2 ⟨rfl, hb⟩
    have K2 : Hid (Below (w.heap.size + 3) _ w2) := K1.out.trans (hb.mono (by omega))
    obtain ⟨⟨a0, a1, a2⟩, ⟨b0, b1, b2⟩, c0, c1, c2⟩ := kept3 rfl K2.out
    have z2 : w.heap.size + 3 ≤ w2.heap.size := Nat.le_trans z1 hb.size
    clear hb
    go_wp2_with fail
    refine Calls.mono (h2 _) ?_
    rintro e w3 ⟨rfl, hb⟩
    have K3 : Hid (Below (w.heap.size + 3) _ w3) := K2.out.trans (hb.mono (by omega))
    obtain ⟨⟨a0, a1, a2⟩, ⟨b0, b1, b2⟩, c0, c1, c2⟩ := kept3 rfl K3.out
    have z3 : w.heap.size + 3 ≤ w3.heap.size := Nat.le_trans z2 hb.size
    clear hb
    go_wp2_with fail
    refine Calls.mono (h3 _) ?_
    rintro e w4 ⟨rfl, hb⟩
    have K4 : Hid (Below (w.heap.size + 3) _ w4) := K3.out.trans (hb.mono (by omega))
    obtain ⟨⟨a0, a1, a2⟩, ⟨b0, b1, b2⟩, c0, c1, c2⟩ := kept3 rfl K4.out
    have z4 : w.heap.size + 3 ≤ w4.heap.size := Nat.le_trans z3 hb.size
    clear hb
    go_wp2_with fail
    refine Calls.mono (h4 _) ?_
    rintro e w5 ⟨rfl, hb⟩
    have K5 : Hid (Below (w.heap.size + 3) _ w5) := K4.out.trans (hb.mono (by omega))
    obtain ⟨⟨a0, a1, a2⟩, ⟨b0, b1, b2⟩, c0, c1, c2⟩ := kept3 rfl K5.out
    have z5 : w.heap.size + 3 ≤ w5.heap.size := Nat.le_trans z4 hb.size
    clear hb
    go_wp2_with fail
    refine Calls.mono (h5 _) ?_
    rintro e w6 ⟨rfl, hb⟩
    have K6 : Hid (Below (w.heap.size + 3) _ w6) := K5.out.trans (hb.mono (by omega))
    obtain ⟨⟨a0, a1, a2⟩, ⟨b0, b1, b2⟩, c0, c1, c2⟩ := kept3 rfl K6.out
    have z6 : w.heap.size + 3 ≤ w6.heap.size := Nat.le_trans z5 hb.size
    clear hb
    go_wp2
    all_goals
      go_ret
      exact ⟨rfl, ((((Below.refl _ _).alloc (Nat.le_refl _) _).alloc (by simp) _).alloc (by simp; omega) _).trans (K6.out.mono (by omega))⟩
set_option maxHeartbeats 1000000 in
theorem orders_first (ta : Bool) (na : Int) (sa : ByteArray) (tb : Bool) (nb : Int) (sb : ByteArray) (tc : Bool) (nc : Int) (sc : ByteArray) (x y z : Int) (w : World) (hT : HasTab w) (hg : 0 < w.heap.size)
    (h1 : Says ta na sa tb nb sb x) (h2 : Says tb nb sb tc nc sc y) (h3 : Says ta na sa tc nc sc z) (h4 : Says tb nb sb ta na sa (-x)) (h5 : Says ta na sa ta na sa 0) (lo : -1 ≤ x) (hi : x ≤ 1) (x0 : x < 0) (y0 : 0 < y) :
    Calls Tryd.prog 6 #[V ta na sa, V tb nb sb, V tc nc sc] w fun e w' => e = .returned (.bool true) ∧ Below w.heap.size w w' := by
  have H0 : Hid (∀ w1 : World, Below w.heap.size w w1 → Calls Tryd.prog 10 #[] w1 fun e w' => e = .returned (.bool true) ∧ Below w1.heap.size w1 w') := fun w1 hb => awake_any w1 (hT.below hb hg) (Nat.lt_of_lt_of_le hg hb.size)
  clear hT hg
  go_enter Tryd.func6, Tryd.ntmps6
  go_wp2_with fail
  refine Calls.mono (H0.out _ ((((Below.refl _ _).alloc (Nat.le_refl _) _).alloc (by simp) _).alloc (by simp; omega) _)) ?_
  rintro e w1 ⟨rfl, hb⟩
  have K1 : Hid (Below (w.heap.size + 3) _ w1) := hb.mono (by simp)
  obtain ⟨⟨a0, a1, a2⟩, ⟨b0, b1, b2⟩, c0, c1, c2⟩ := kept3 rfl K1.out
  have z1 : w.heap.size + 3 ≤ w1.heap.size := by have := hb.size; simp at this; omega
  clear hb H0
  go_wp2_with fail
  refine Calls.mono (h1 _) ?_
  rintro e w2 ⟨rfl, hb⟩
  have K2 : Hid (Below (w.heap.size + 3) _ w2) := K1.out.trans (hb.mono (by omega))
  obtain ⟨⟨a0, a1, a2⟩, ⟨b0, b1, b2⟩, c0, c1, c2⟩ := kept3 rfl K2.out
  have z2 : w.heap.size + 3 ≤ w2.heap.size := Nat.le_trans z1 hb.size
  clear hb
  go_wp2_with fail
  refine Calls.mono (h2 _) ?_
  rintro e w3 ⟨rfl, hb⟩
  have K3 : Hid (Below (w.heap.size + 3) _ w3) := K2.out.trans (hb.mono (by omega))
  obtain ⟨⟨a0, a1, a2⟩, ⟨b0, b1, b2⟩, c0, c1, c2⟩ := kept3 rfl K3.out
  have z3 : w.heap.size + 3 ≤ w3.heap.size := Nat.le_trans z2 hb.size
  clear hb
  go_wp2_with fail
  refine Calls.mono (h3 _) ?_
  rintro e w4 ⟨rfl, hb⟩
  have K4 : Hid (Below (w.heap.size + 3) _ w4) := K3.out.trans (hb.mono (by omega))
  obtain ⟨⟨a0, a1, a2⟩, ⟨b0, b1, b2⟩, c0, c1, c2⟩ := kept3 rfl K4.out
  have z4 : w.heap.size + 3 ≤ w4.heap.size := Nat.le_trans z3 hb.size
  clear hb
  go_wp2_with fail
  refine Calls.mono (h4 _) ?_
  rintro e w5 ⟨rfl, hb⟩
  have K5 : Hid (Below (w.heap.size + 3) _ w5) := K4.out.trans (hb.mono (by omega))
  obtain ⟨⟨a0, a1, a2⟩, ⟨b0, b1, b2⟩, c0, c1, c2⟩ := kept3 rfl K5.out
  have z5 : w.heap.size + 3 ≤ w5.heap.size := Nat.le_trans z4 hb.size
  clear hb
  go_wp2_with fail
  refine Calls.mono (h5 _) ?_
  rintro e w6 ⟨rfl, hb⟩
  have K6 : Hid (Below (w.heap.size + 3) _ w6) := K5.out.trans (hb.mono (by omega))
  obtain ⟨⟨a0, a1, a2⟩, ⟨b0, b1, b2⟩, c0, c1, c2⟩ := kept3 rfl K6.out
  have z6 : w.heap.size + 3 ≤ w6.heap.size := Nat.le_trans z5 hb.size
  clear hb
  go_wp2
  all_goals
    go_ret
    exact ⟨rfl, ((((Below.refl _ _).alloc (Nat.le_refl _) _).alloc (by simp) _).alloc (by simp; omega) _).trans (K6.out.mono (by omega))⟩
set_option maxHeartbeats 1000000 in
theorem orders_second (ta : Bool) (na : Int) (sa : ByteArray) (tb : Bool) (nb : Int) (sb : ByteArray) (tc : Bool) (nc : Int) (sc : ByteArray) (x y z : Int) (w : World) (hT : HasTab w) (hg : 0 < w.heap.size)
    (h1 : Says ta na sa tb nb sb x) (h2 : Says tb nb sb tc nc sc y) (h3 : Says ta na sa tc nc sc z) (h4 : Says tb nb sb ta na sa (-x)) (h5 : Says ta na sa ta na sa 0) (lo : -1 ≤ x) (hi : x ≤ 1) (x0 : 0 ≤ x) (y0 : y < 0) (xy : 0 < x) :
    Calls Tryd.prog 6 #[V ta na sa, V tb nb sb, V tc nc sc] w fun e w' => e = .returned (.bool true) ∧ Below w.heap.size w w' := by
  have H0 : Hid (∀ w1 : World, Below w.heap.size w w1 → Calls Tryd.prog 10 #[] w1 fun e w' => e = .returned (.bool true) ∧ Below w1.heap.size w1 w') := fun w1 hb => awake_any w1 (hT.below hb hg) (Nat.lt_of_lt_of_le hg hb.size)
  clear hT hg
  go_enter Tryd.func6, Tryd.ntmps6
  go_wp2_with fail
  refine Calls.mono (H0.out _ ((((Below.refl _ _).alloc (Nat.le_refl _) _).alloc (by simp) _).alloc (by simp; omega) _)) ?_
  rintro e w1 ⟨rfl, hb⟩
  have K1 : Hid (Below (w.heap.size + 3) _ w1) := hb.mono (by simp)
  obtain ⟨⟨a0, a1, a2⟩, ⟨b0, b1, b2⟩, c0, c1, c2⟩ := kept3 rfl K1.out
  have z1 : w.heap.size + 3 ≤ w1.heap.size := by have := hb.size; simp at this; omega
  clear hb H0
  go_wp2_with fail
  refine Calls.mono (h1 _) ?_
  rintro e w2 ⟨rfl, hb⟩
  have K2 : Hid (Below (w.heap.size + 3) _ w2) := K1.out.trans (hb.mono (by omega))
  obtain ⟨⟨a0, a1, a2⟩, ⟨b0, b1, b2⟩, c0, c1, c2⟩ := kept3 rfl K2.out
  have z2 : w.heap.size + 3 ≤ w2.heap.size := Nat.le_trans z1 hb.size
  clear hb
  go_wp2_with fail
  refine Calls.mono (h2 _) ?_
  rintro e w3 ⟨rfl, hb⟩
  have K3 : Hid (Below (w.heap.size + 3) _ w3) := K2.out.trans (hb.mono (by omega))
  obtain ⟨⟨a0, a1, a2⟩, ⟨b0, b1, b2⟩, c0, c1, c2⟩ := kept3 rfl K3.out
  have z3 : w.heap.size + 3 ≤ w3.heap.size := Nat.le_trans z2 hb.size
  clear hb
  go_wp2_with fail
  refine Calls.mono (h3 _) ?_
  rintro e w4 ⟨rfl, hb⟩
  have K4 : Hid (Below (w.heap.size + 3) _ w4) := K3.out.trans (hb.mono (by omega))
  obtain ⟨⟨a0, a1, a2⟩, ⟨b0, b1, b2⟩, c0, c1, c2⟩ := kept3 rfl K4.out
  have z4 : w.heap.size + 3 ≤ w4.heap.size := Nat.le_trans z3 hb.size
  clear hb
  go_wp2_with fail
  refine Calls.mono (h4 _) ?_
  rintro e w5 ⟨rfl, hb⟩
  have K5 : Hid (Below (w.heap.size + 3) _ w5) := K4.out.trans (hb.mono (by omega))
  obtain ⟨⟨a0, a1, a2⟩, ⟨b0, b1, b2⟩, c0, c1, c2⟩ := kept3 rfl K5.out
  have z5 : w.heap.size + 3 ≤ w5.heap.size := Nat.le_trans z4 hb.size
  clear hb
  go_wp2_with fail
  refine Calls.mono (h5 _) ?_
  rintro e w6 ⟨rfl, hb⟩
  have K6 : Hid (Below (w.heap.size + 3) _ w6) := K5.out.trans (hb.mono (by omega))
  obtain ⟨⟨a0, a1, a2⟩, ⟨b0, b1, b2⟩, c0, c1, c2⟩ := kept3 rfl K6.out
  have z6 : w.heap.size + 3 ≤ w6.heap.size := Nat.le_trans z5 hb.size
  clear hb
  go_wp2
  all_goals
    go_ret
    exact ⟨rfl, ((((Below.refl _ _).alloc (Nat.le_refl _) _).alloc (by simp) _).alloc (by simp; omega) _).trans (K6.out.mono (by omega))⟩
set_option maxHeartbeats 1000000 in
theorem orders_third (ta : Bool) (na : Int) (sa : ByteArray) (tb : Bool) (nb : Int) (sb : ByteArray) (tc : Bool) (nc : Int) (sc : ByteArray) (x y z : Int) (w : World) (hT : HasTab w) (hg : 0 < w.heap.size)
    (h1 : Says ta na sa tb nb sb x) (h2 : Says tb nb sb tc nc sc y) (h3 : Says ta na sa tc nc sc z) (h4 : Says tb nb sb ta na sa (-x)) (h5 : Says ta na sa ta na sa 0) (lo : -1 ≤ x) (hi : x ≤ 1) (x0 : 0 ≤ x) (y0 : 0 ≤ y) (z0 : 0 ≤ z) (xy : 0 < x ∨ 0 < y) :
    Calls Tryd.prog 6 #[V ta na sa, V tb nb sb, V tc nc sc] w fun e w' => e = .returned (.bool true) ∧ Below w.heap.size w w' := by
  have H0 : Hid (∀ w1 : World, Below w.heap.size w w1 → Calls Tryd.prog 10 #[] w1 fun e w' => e = .returned (.bool true) ∧ Below w1.heap.size w1 w') := fun w1 hb => awake_any w1 (hT.below hb hg) (Nat.lt_of_lt_of_le hg hb.size)
  clear hT hg
  rcases xy with xy | xy
  all_goals
    go_enter Tryd.func6, Tryd.ntmps6
    go_wp2_with fail
    refine Calls.mono (H0.out _ ((((Below.refl _ _).alloc (Nat.le_refl _) _).alloc (by simp) _).alloc (by simp; omega) _)) ?_
    rintro e w1 ⟨rfl, hb⟩
    have K1 : Hid (Below (w.heap.size + 3) _ w1) := hb.mono (by simp)
    obtain ⟨⟨a0, a1, a2⟩, ⟨b0, b1, b2⟩, c0, c1, c2⟩ := kept3 rfl K1.out
    have z1 : w.heap.size + 3 ≤ w1.heap.size := by have := hb.size; simp at this; omega
    clear hb H0
    go_wp2_with fail
    refine Calls.mono (h1 _) ?_
    rintro e w2 ⟨rfl, hb⟩
    have K2 : Hid (Below (w.heap.size + 3) _ w2) := K1.out.trans (hb.mono (by omega))
    obtain ⟨⟨a0, a1, a2⟩, ⟨b0, b1, b2⟩, c0, c1, c2⟩ := kept3 rfl K2.out
    have z2 : w.heap.size + 3 ≤ w2.heap.size := Nat.le_trans z1 hb.size
    clear hb
    go_wp2_with fail
    refine Calls.mono (h2 _) ?_
    rintro e w3 ⟨rfl, hb⟩
    have K3 : Hid (Below (w.heap.size + 3) _ w3) := K2.out.trans (hb.mono (by omega))
    obtain ⟨⟨a0, a1, a2⟩, ⟨b0, b1, b2⟩, c0, c1, c2⟩ := kept3 rfl K3.out
    have z3 : w.heap.size + 3 ≤ w3.heap.size := Nat.le_trans z2 hb.size
    clear hb
    go_wp2_with fail
    refine Calls.mono (h3 _) ?_
    rintro e w4 ⟨rfl, hb⟩
    have K4 : Hid (Below (w.heap.size + 3) _ w4) := K3.out.trans (hb.mono (by omega))
    obtain ⟨⟨a0, a1, a2⟩, ⟨b0, b1, b2⟩, c0, c1, c2⟩ := kept3 rfl K4.out
    have z4 : w.heap.size + 3 ≤ w4.heap.size := Nat.le_trans z3 hb.size
    clear hb
    go_wp2_with fail
    refine Calls.mono (h4 _) ?_
    rintro e w5 ⟨rfl, hb⟩
    have K5 : Hid (Below (w.heap.size + 3) _ w5) := K4.out.trans (hb.mono (by omega))
    obtain ⟨⟨a0, a1, a2⟩, ⟨b0, b1, b2⟩, c0, c1, c2⟩ := kept3 rfl K5.out
    have z5 : w.heap.size + 3 ≤ w5.heap.size := Nat.le_trans z4 hb.size
    clear hb
    go_wp2_with fail
    refine Calls.mono (h5 _) ?_
    rintro e w6 ⟨rfl, hb⟩
    have K6 : Hid (Below (w.heap.size + 3) _ w6) := K5.out.trans (hb.mono (by omega))
    obtain ⟨⟨a0, a1, a2⟩, ⟨b0, b1, b2⟩, c0, c1, c2⟩ := kept3 rfl K6.out
    have z6 : w.heap.size + 3 ≤ w6.heap.size := Nat.le_trans z5 hb.size
    clear hb
    go_wp2
    all_goals
      go_ret
      exact ⟨rfl, ((((Below.refl _ _).alloc (Nat.le_refl _) _).alloc (by simp) _).alloc (by simp; omega) _).trans (K6.out.mono (by omega))⟩
theorem says_any (ta : Bool) (na : Int) (sa : ByteArray) (tb : Bool) (nb : Int) (sb : ByteArray) : Says ta na sa tb nb sb (cmpV ta na sa tb nb sb) := fun w => cmp_any ta na sa tb nb sb w
theorem orders_walk (ta : Bool) (na : Int) (sa : ByteArray) (tb : Bool) (nb : Int) (sb : ByteArray) (tc : Bool) (nc : Int) (sc : ByteArray) (w : World) (hT : HasTab w) (hg : 0 < w.heap.size) :
    Calls Tryd.prog 6 #[V ta na sa, V tb nb sb, V tc nc sc] w fun e w' => e = .returned (.bool true) ∧ Below w.heap.size w w' := by
  have G := goesV ta na sa tb nb sb tc nc sc
  have h1 := says_any ta na sa tb nb sb
  have h2 := says_any tb nb sb tc nc sc
  have h3 := says_any ta na sa tc nc sc
  have h4 := says_any tb nb sb ta na sa
  have h5 := says_any ta na sa ta na sa
  rw [cmpV_turn] at h4
  rw [cmpV_self] at h5
  generalize cmpV ta na sa tb nb sb = x at *
  generalize cmpV tb nb sb tc nc sc = y at *
  generalize cmpV ta na sa tc nc sc = z at *
  obtain ⟨g1, g2, g3, g4, g5, g6, g7, g8, g9, g10⟩ := G
  by_cases x0 : x ≤ 0
  · by_cases y0 : y ≤ 0
    · refine orders_both ta na sa tb nb sb tc nc sc x y z w hT hg h1 h2 h3 h4 h5 g1 g2 x0 y0 (g7 x0 y0) _ _ rfl rfl ?_
      rw [Bool.eq_iff_iff]
      simp only [Bool.and_eq_true, beq_iff_eq]
      constructor
      · intro hz
        have : ¬ (x < 0 ∨ y < 0) := fun h => by have := g9 x0 y0 h; omega
        omega
      · intro h; exact g8 h.1 h.2
    · by_cases x1 : x < 0
      · exact orders_first ta na sa tb nb sb tc nc sc x y z w hT hg h1 h2 h3 h4 h5 g1 g2 x1 (by omega)
      · exact orders_third ta na sa tb nb sb tc nc sc x y z w hT hg h1 h2 h3 h4 h5 g1 g2 (by omega) (by omega) (g10 (by omega) (by omega)) (Or.inr (by omega))
  · by_cases y0 : y < 0
    · exact orders_second ta na sa tb nb sb tc nc sc x y z w hT hg h1 h2 h3 h4 h5 g1 g2 (by omega) y0 (by omega)
    · exact orders_third ta na sa tb nb sb tc nc sc x y z w hT hg h1 h2 h3 h4 h5 g1 g2 (by omega) (by omega) (g10 (by omega) (by omega)) (Or.inl (by omega))
end Go.Proofs.YtmgkjojifhchkaaDoor.Val
