/- A text's byte, as a list's. -/
import Derived.WalkKit
import Derived.Test.YtkkbbpldeeajaaaDoorU1
import Derived.WalkSmall
import Derived.Test.YtkkbbpldeeajaaaDoorUR
import Derived.BigRegion
import Derived.BigQuiet
namespace Go.Proofs.YtkkbbpldeeajaaaDoor.Val
open Go

theorem byte_at (s : ByteArray) (k : Nat) (h : k < s.size) : s.data.toList[k]? = some s[k] := by
  simp [h]; rfl
end Go.Proofs.YtkkbbpldeeajaaaDoor.Val
/- Plain facts: two texts held against one another byte by byte. No program. -/
namespace Go.Proofs.YtkkbbpldeeajaaaDoor.Val
open Go

theorem less_append : ∀ (p a b : List UInt8), Op.bytesLess (p ++ a) (p ++ b) = Op.bytesLess a b
  | [], _, _ => rfl
  | c :: p, a, b => by simp [Op.bytesLess, less_append p a b, UInt8.lt_irrefl]
theorem cmpS_of_less {a b : List UInt8} (h : Op.bytesLess a b = true) : cmpS a b = -1 := by
  rcases cmpS_cases a b with ⟨_, rfl⟩ | ⟨h1, _⟩ | ⟨_, k⟩
  · rw [less_irrefl] at h; cases h
  · exact h1
  · exact (less_not h k).elim
theorem cmpS_of_more {a b : List UInt8} (h : Op.bytesLess b a = true) : cmpS a b = 1 := by
  rw [cmpS_turn, cmpS_of_less h]; rfl
theorem split_at {a : List UInt8} {k : Nat} {x : UInt8} (h : a[k]? = some x) : a = a.take k ++ x :: a.drop (k + 1) := by
  obtain ⟨hk, hx⟩ := List.getElem?_eq_some_iff.1 h
  rw [← hx, List.getElem_cons_drop, List.take_append_drop]
theorem cmpS_lt_at {a b : List UInt8} {k : Nat} {x y : UInt8} (ht : a.take k = b.take k) (hx : a[k]? = some x) (hy : b[k]? = some y) (h : x < y) : cmpS a b = -1 := by
  apply cmpS_of_less
  rw [split_at hx, split_at hy, ht, less_append]
  simp [Op.bytesLess, h]
theorem cmpS_gt_at {a b : List UInt8} {k : Nat} {x y : UInt8} (ht : a.take k = b.take k) (hx : a[k]? = some x) (hy : b[k]? = some y) (h : y < x) : cmpS a b = 1 := by
  rw [cmpS_turn, cmpS_lt_at ht.symm hy hx h]; rfl
theorem cmp_take_next {a b : List UInt8} {k : Nat} {x : UInt8} (ht : a.take k = b.take k) (hx : a[k]? = some x) (hy : b[k]? = some x) : a.take (k + 1) = b.take (k + 1) := by
  rw [List.take_add_one, List.take_add_one, ht, hx, hy]
theorem cmpS_short {a b : List UInt8} {k : Nat} (ht : a.take k = b.take k) (ha : a.length = k) (hb : k < b.length) : cmpS a b = -1 := by
  apply cmpS_of_less
  have e : a = b.take k := by rw [← ht, ← ha, List.take_length]
  obtain ⟨y, hy⟩ : ∃ y, b[k]? = some y := ⟨_, List.getElem?_eq_getElem hb⟩
  rw [e]
  conv => lhs; arg 2; rw [split_at hy]
  have := less_append (b.take k) [] (y :: b.drop (k + 1))
  simpa [Op.bytesLess] using this
theorem cmpS_long {a b : List UInt8} {k : Nat} (ht : a.take k = b.take k) (hb : b.length = k) (ha : k < a.length) : cmpS a b = 1 := by
  rw [cmpS_turn, cmpS_short ht.symm hb ha]; rfl
theorem cmpS_same {a b : List UInt8} {k : Nat} (ht : a.take k = b.take k) (ha : a.length = k) (hb : b.length = k) : cmpS a b = 0 := by
  have : a = b := by rw [← List.take_length (l := a), ha, ht, ← hb, List.take_length]
  rw [this]; exact cmpS_self b
end Go.Proofs.YtkkbbpldeeajaaaDoor.Val
/- What the reference's Compare and Right answer, for any values. -/
namespace Go.Proofs.YtkkbbpldeeajaaaDoor.Val
open Go.RowKit

set_option maxHeartbeats 400000 in
theorem rcmp_nt (na nb : Int) (sa sb : ByteArray) (w : World) :
    Calls Tryd.prog 91 #[V false na sa, V true nb sb] w fun e w' => e = .returned (.int .i64 (-1)) ∧ Below w.heap.size w w' := by
  go_enter Tryd.func91, Tryd.ntmps91
  go_wp2
  go_ret
  exact ⟨rfl, ((Below.refl _ _).alloc (Nat.le_refl _) _).alloc (by simp) _⟩
set_option maxHeartbeats 400000 in
theorem rcmp_tn (na nb : Int) (sa sb : ByteArray) (w : World) :
    Calls Tryd.prog 91 #[V true na sa, V false nb sb] w fun e w' => e = .returned (.int .i64 1) ∧ Below w.heap.size w w' := by
  go_enter Tryd.func91, Tryd.ntmps91
  go_wp2
  go_ret
  exact ⟨rfl, ((Below.refl _ _).alloc (Nat.le_refl _) _).alloc (by simp) _⟩
set_option maxHeartbeats 400000 in
theorem rcmp_nn (na nb : Int) (sa sb : ByteArray) (w : World) :
    Calls Tryd.prog 91 #[V false na sa, V false nb sb] w fun e w' => e = .returned (.int .i64 (cmpN na nb)) ∧ Below w.heap.size w w' := by
  by_cases h1 : na < nb
  · go_enter Tryd.func91, Tryd.ntmps91
    go_wp2
    go_ret
    exact ⟨ret_int (cmpN_lt (by simp; omega) h1), ((Below.refl _ _).alloc (Nat.le_refl _) _).alloc (by simp) _⟩
  · by_cases h2 : nb < na
    · go_enter Tryd.func91, Tryd.ntmps91
      go_wp2
      go_ret
      exact ⟨ret_int (cmpN_gt (by simp; omega) (by omega)), ((Below.refl _ _).alloc (Nat.le_refl _) _).alloc (by simp) _⟩
    · go_enter Tryd.func91, Tryd.ntmps91
      go_wp2
      go_ret
      exact ⟨ret_int (cmpN_eq (by simp; omega)), ((Below.refl _ _).alloc (Nat.le_refl _) _).alloc (by simp) _⟩

theorem below2 {w : World} {o1 o2 : Obj} : Below w.heap.size w ((w.alloc o1).alloc o2) := ((Below.refl _ _).alloc (Nat.le_refl _) _).alloc (by simp) _
set_option maxHeartbeats 1000000 in
theorem rcmp_tt (na nb : Int) (sa sb : ByteArray) (w : World) (ha : sa.size ≤ maxLen) (_hb : sb.size ≤ maxLen) :
    Calls Tryd.prog 91 #[V true na sa, V true nb sb] w fun e w' => e = .returned (.int .i64 (cmpS sa.data.toList sb.data.toList)) ∧ Below w.heap.size w w' := by
  unfold maxLen at ha _hb
  have la : sa.data.toList.length = sa.size := by simp
  have lb : sb.data.toList.length = sb.size := by simp
  have LA : Hid (sa.data.toList.length = sa.size) := la
  have LB : Hid (sb.data.toList.length = sb.size) := lb
  clear la lb
  go_enter Tryd.func91, Tryd.ntmps91
  go_wp2
  go_loopw [5] (fun i wr => ∃ k : Nat, k ≤ sa.size ∧ k ≤ sb.size ∧ i = .int .i64 k ∧ Hid (sa.data.toList.take k = sb.data.toList.take k) ∧ Hid (∃ q, wr = ((w.alloc (.cells #[.bool true, .int .i64 na, .string sa] 25)).alloc (.cells #[.bool true, .int .i64 nb, .string sb] 25)).drewN q))
    (fun i _ => sa.size - (intOf i).toNat)
  case atStart => exact ⟨0, Nat.zero_le _, Nat.zero_le _, rfl, rfl, 0, rfl⟩
  case round =>
    obtain ⟨k, hka, hkb, rfl, HT, HW⟩ := hrel
    obtain ⟨q, hq⟩ := HW.out
    subst hq
    by_cases h1 : k < sa.size
    · by_cases h2 : k < sb.size
      · have i0 : (0 : Int) ≤ (k : Int) := by omega
        have i1 : (k : Int) < (sa.size : Int) := by omega
        have i2 : (k : Int) < (sb.size : Int) := by omega
        have e1 : Hid _ := byte_at sa k h1
        have e2 : Hid _ := byte_at sb k h2
        by_cases h3 : sa[k].toNat < sb[k].toNat
        · have HR : Hid (cmpS sa.data.toList sb.data.toList = -1) := cmpS_lt_at HT.out e1.out e2.out (UInt8.lt_iff_toNat_lt.2 h3)
          have j1 : (sa[k].toNat : Int) < (sb[k].toNat : Int) := by omega
          clear HT e1 e2 h3
          go_wp2
          go_quiet (fail)
          go_wp2
          go_ret
          exact ⟨ret_int HR.out.symm, by (repeat (refine below_drewN ?_ _)); exact below2⟩
        · by_cases h4 : sb[k].toNat < sa[k].toNat
          · have HR : Hid (cmpS sa.data.toList sb.data.toList = 1) := cmpS_gt_at HT.out e1.out e2.out (UInt8.lt_iff_toNat_lt.2 h4)
            have j1 : (sb[k].toNat : Int) < (sa[k].toNat : Int) := by omega
            clear HT e1 e2 h3 h4
            go_wp2
            go_quiet (fail)
            go_wp2
            go_quiet (fail)
            go_wp2
            go_ret
            exact ⟨ret_int HR.out.symm, by (repeat (refine below_drewN ?_ _)); exact below2⟩
          · have h5 : sa[k].toNat = sb[k].toNat := by omega
            have h6 : sa[k] = sb[k] := UInt8.toNat_inj.1 h5
            have HN : Hid (sa.data.toList.take (k + 1) = sb.data.toList.take (k + 1)) := cmp_take_next HT.out e1.out (e2.out.trans (by rw [h6]))
            have j1 : ¬ (sb[k].toNat : Int) < (sa[k].toNat : Int) := by omega
            have j2 : ¬ (sa[k].toNat : Int) < (sb[k].toNat : Int) := by omega
            clear HT e1 e2 h3 h4 h5 h6
            go_wp2
            go_quiet (fail)
            go_wp2
            go_quiet (fail)
            go_wp2
            go_roundw
            case rel => exact ⟨k + 1, by omega, by omega, by go_num, HN, _, rfl⟩
            case measure => simp [intOf]; omega
      · have HR : Hid (cmpS sa.data.toList sb.data.toList = 1) := cmpS_long HT.out (LB.out.trans (by omega)) (by rw [LA.out]; exact h1)
        have i1 : (k : Int) < (sa.size : Int) := by omega
        have i2 : decide ((k : Int) < (sb.size : Int)) = false := by simp; omega
        have i3 : (sb.size : Int) < (sa.size : Int) := by omega
        clear HT
        go_wp2
        go_ret
        exact ⟨ret_int HR.out.symm, by (repeat (refine below_drewN ?_ _)); exact below2⟩
    · have i1 : decide ((k : Int) < (sa.size : Int)) = false := by simp; omega
      by_cases h2 : k < sb.size
      · have HR : Hid (cmpS sa.data.toList sb.data.toList = -1) := cmpS_short HT.out (LA.out.trans (by omega)) (by rw [LB.out]; exact h2)
        have i3 : (sa.size : Int) < (sb.size : Int) := by omega
        clear HT
        go_wp2
        go_ret
        exact ⟨ret_int HR.out.symm, by (repeat (refine below_drewN ?_ _)); exact below2⟩
      · have HR : Hid (cmpS sa.data.toList sb.data.toList = 0) := cmpS_same HT.out (LA.out.trans (by omega)) (LB.out.trans (by omega))
        have i3 : ¬ (sa.size : Int) < (sb.size : Int) := by omega
        have i4 : ¬ (sb.size : Int) < (sa.size : Int) := by omega
        clear HT
        go_wp2
        go_ret
        exact ⟨ret_int HR.out.symm, by (repeat (refine below_drewN ?_ _)); exact below2⟩
theorem rcmp_any (ta : Bool) (na : Int) (sa : ByteArray) (tb : Bool) (nb : Int) (sb : ByteArray) (w : World) (ha : sa.size ≤ maxLen) (hb : sb.size ≤ maxLen) :
    Calls Tryd.prog 91 #[V ta na sa, V tb nb sb] w fun e w' => e = .returned (.int .i64 (cmpV ta na sa tb nb sb)) ∧ Below w.heap.size w w' := by
  cases ta <;> cases tb
  · exact rcmp_nn na nb sa sb w
  · exact rcmp_nt na nb sa sb w
  · exact rcmp_tn na nb sa sb w
  · have := rcmp_tt na nb sa sb w ha hb
    rw [← ByteArray.toList_eq, ← ByteArray.toList_eq] at this
    exact this
end Go.Proofs.YtkkbbpldeeajaaaDoor.Val
/- What the reference's Holds answers. -/
namespace Go.Proofs.YtkkbbpldeeajaaaDoor.Val
open Go.RowKit

theorem ret_b3 {a b : Bool} (h : a = b) : Ending.returned (.bool a) = Ending.returned (.bool b) := by subst h; rfl
theorem rcmp_any' (x y : Val) (w : World) (hx : x.s.size ≤ maxLen) (hy : y.s.size ≤ maxLen) :
    Calls Tryd.prog 91 #[V x.t x.n x.s, V y.t y.n y.s] w fun e w' => e = .returned (.int .i64 (cmpX x y)) ∧ Below w.heap.size w w' := rcmp_any _ _ _ _ _ _ _ hx hy
set_option maxHeartbeats 1000000 in
theorem rleaf_low (vr : Value) (p : PT) (w : World) (h : p.col < 0) :
    Calls Tryd.prog 81 #[p.val, vr] w fun e w' => e = .returned (.bool false) ∧ Below w.heap.size w w' := by
  unfold PT.val
  go_enter Tryd.func81, Tryd.ntmps81
  go_wp2_with fail
  go_ret
  exact ⟨rfl, alloc1 _ _⟩
set_option maxHeartbeats 1000000 in
theorem rleaf_high (ar : Option Addr) (n cr : Nat) (p : PT) (w : World) (h0 : decide (p.col < 0) = false) (h : (n : Int) ≤ p.col) :
    Calls Tryd.prog 81 #[p.val, .slice ar n cr] w fun e w' => e = .returned (.bool false) ∧ Below w.heap.size w w' := by
  unfold PT.val
  go_enter Tryd.func81, Tryd.ntmps81
  go_wp2_with fail
  go_ret
  exact ⟨rfl, alloc1 _ _⟩
set_option maxHeartbeats 2000000 in
theorem rleaf_mid (b o n cr k : Nat) (x : Val) (p : PT) (op : Int) (w : World) (hop : p.op = op) (ho : 3 ≤ op ∧ op ≤ 9) (hk : p.col = (k : Int)) (hn : k < n) (hx : x.s.size ≤ maxLen) (hv : p.v.s.size ≤ maxLen) (hu : p.w.s.size ≤ maxLen)
    (d0 : w.cell? ⟨b, o + k * 3, none⟩ = some (.bool x.t)) (d1 : w.cell? ⟨b, o + k * 3 + 1, none⟩ = some (.int .i64 x.n)) (d2 : w.cell? ⟨b, o + k * 3 + 2, none⟩ = some (.string x.s)) :
    Calls Tryd.prog 81 #[p.val, .slice (some ⟨b, o, none⟩) n cr] w fun e w' => e = .returned (.bool (standB op (cmpX x p.v) (cmpX x p.w))) ∧ Below w.heap.size w w' := by
  obtain ⟨c, hc⟩ : ∃ c, cmpX x p.v = c := ⟨_, rfl⟩
  obtain ⟨d, hd⟩ : ∃ d, cmpX x p.w = d := ⟨_, rfl⟩
  have H : Hid (∀ w1, Calls Tryd.prog 91 #[V x.t x.n x.s, V p.v.t p.v.n p.v.s] w1 fun e w' => e = .returned (.int .i64 c) ∧ Below w1.heap.size w1 w') := fun w1 => by have := rcmp_any' x p.v w1 hx hv; rw [hc] at this; exact this
  have H2 : Hid (∀ w1, Calls Tryd.prog 91 #[V x.t x.n x.s, V p.w.t p.w.n p.w.s] w1 fun e w' => e = .returned (.int .i64 d) ∧ Below w1.heap.size w1 w') := fun w1 => by have := rcmp_any' x p.w w1 hx hu; rw [hd] at this; exact this
  rw [hc, hd]
  have hlt2 : b < w.heap.size := World.block_lt_of_cell? w _ d0
  have k0 : (0 : Int) ≤ (k : Int) := by omega
  have k1 : (k : Int) < (n : Int) := by omega
  have k2 : decide ((k : Int) < 0) = false := by simp
  have k3 : decide ((n : Int) ≤ (k : Int)) = false := by simp; omega
  clear hc hd hx hv hu
  unfold PT.val
  rw [hk, hop]
  go_enter Tryd.func81, Tryd.ntmps81
  go_wp2_with fail
  refine Calls.mono (H.out _) ?_
  rintro e w1 ⟨rfl, hb⟩
  have HB : Hid (Below w.heap.size w w1) := back2 hb
  rw [← hk, ← hop] at hb
  obtain ⟨b0, b1, b2, b3, b4, b5, b6, b7, b8⟩ := ((Box.new w p 29).alloc (vobj x 25)).below hb
  obtain ⟨a0, a1, a2⟩ := (VBox.new (w.alloc (pobj p 29)) x 25).below hb
  have z : (w.alloc (pobj p 29)).heap.size = w.heap.size + 1 := by simp
  rw [z] at a0 a1 a2
  rw [hop] at b0
  clear hb z H hop hk d0 d1 d2 hlt2
  have h9 : op = 3 ∨ op = 4 ∨ op = 5 ∨ op = 6 ∨ op = 7 ∨ op = 8 ∨ op = 9 := by omega
  clear ho
  rcases h9 with rfl | rfl | rfl | rfl | rfl | rfl | rfl
  · clear H2
    go_wp2_with fail
    go_ret
    exact ⟨ret_b3 (by simp [standB]), HB.out⟩
  · clear H2
    go_wp2_with fail
    go_ret
    exact ⟨ret_b3 (by simp [standB]), HB.out⟩
  · clear H2
    go_wp2_with fail
    go_ret
    exact ⟨ret_b3 (by simp [standB]), HB.out⟩
  · clear H2
    go_wp2_with fail
    go_ret
    exact ⟨ret_b3 (by simp [standB]), HB.out⟩
  · clear H2
    go_wp2_with fail
    go_ret
    exact ⟨ret_b3 (by simp [standB]), HB.out⟩
  · clear H2
    go_wp2_with fail
    go_ret
    exact ⟨ret_b3 (by simp [standB]), HB.out⟩
  · by_cases hz : 0 ≤ c
    · go_wp2_with fail
      refine Calls.mono (H2.out _) ?_
      rintro e w2 ⟨rfl, hb2⟩
      go_wp2_with fail
      go_ret
      exact ⟨ret_b3 (by simp [standB, hz]), on HB.out hb2⟩
    · have hz' : decide (0 ≤ c) = false := by simp; omega
      clear H2
      go_wp2_with fail
      go_ret
      exact ⟨ret_b3 (by simp [standB]; omega), HB.out⟩
theorem rleaf_any (p : PT) (vr : Value) (r : List Val) (w : World) (hi : In w p) (hr : RowIn w vr r) (hok : RowOk r) (ho : 3 ≤ p.op ∧ p.op ≤ 9) :
    Calls Tryd.prog 81 #[p.val, vr] w fun e w' => e = .returned (.bool (leafB r p.op p.col p.v p.w)) ∧ Below w.heap.size w w' := by
  by_cases hlo : p.col < 0
  · rw [leaf_low hlo]
    exact rleaf_low vr p w hlo
  · obtain ⟨ar, cr, rfl, hn⟩ := hr.slice
    by_cases hhi : p.col < (r.length : Int)
    · obtain ⟨k, hk⟩ : ∃ k : Nat, p.col = (k : Int) := ⟨p.col.toNat, by omega⟩
      have hkl : k < r.length := by omega
      obtain ⟨b, o, rfl, d0, d1, d2⟩ := hr.at k hkl
      rw [hk, leaf_at hkl]
      exact rleaf_mid b o r.length cr k r[k] p p.op w rfl ho hk hkl (hok _ (List.getElem_mem hkl)).2 hi.sv hi.sw d0 d1 d2
    · rw [leaf_high (by omega) (by omega)]
      exact rleaf_high ar r.length cr p w (by simp; omega) (by omega)
def RHoldsOk (vr : Value) (r : List Val) (p : PT) : Prop := ∀ w, In w p → RowIn w vr r → Calls Tryd.prog 65 #[p.val, vr] w fun e w' => e = .returned (.bool (holdsP r p)) ∧ Below w.heap.size w w'
set_option maxHeartbeats 1000000 in
theorem rholds_leaf (vr : Value) (r : List Val) (hok : RowOk r) (p : PT) (ho : 3 ≤ p.op ∧ p.op ≤ 9) : RHoldsOk vr r p := by
  intro w hi hr
  obtain ⟨a, ha⟩ : ∃ a, holdsP r p = a := ⟨_, rfl⟩
  have hl := holds_leaf (r := r) (p := p) (by omega) (by omega) (by omega) (by omega)
  have H : Hid (∀ w1, Below w.heap.size w w1 → Calls Tryd.prog 81 #[p.val, vr] w1 fun e w' => e = .returned (.bool a) ∧ Below w1.heap.size w1 w') := fun w1 hb => by rw [← ha, hl]; exact rleaf_any p vr r w1 (hi.keep hb) (hr.below hb) hok ho
  rw [ha]
  have h1 : 3 ≤ p.op := ho.1
  have h2 : p.op ≤ 9 := ho.2
  clear ha hl hi hr ho
  unfold PT.val at *
  go_enter Tryd.func65, Tryd.ntmps65
  go_wp2_with fail
  refine Calls.mono (H.out _ (alloc1 _ _)) ?_
  rintro e w1 ⟨rfl, hb⟩
  go_wp2_with fail
  go_ret
  exact ⟨rfl, back1 hb⟩
end Go.Proofs.YtkkbbpldeeajaaaDoor.Val
/- What the reference's Holds answers: by its parts. -/
namespace Go.Proofs.YtkkbbpldeeajaaaDoor.Val
open Go.RowKit

/-- What holds of the first k. -/
structure Sofar (r : List Val) (l : List PT) (k : Nat) (fa fs ff : Bool) : Prop where
  all : fa = ((l.take k).map (holdsP r)).all id
  any : fs = ((l.take k).map (holdsP r)).any id
  one : ff = (((l.take k).map (holdsP r)).head?).getD false
theorem Sofar.next {r : List Val} {l : List PT} {k : Nat} {fa fs ff : Bool} (h : Sofar r l k fa fs ff) (hk : k < l.length) : Sofar r l (k + 1) (fa && holdsP r l[k]) (fs || holdsP r l[k]) (if k = 0 then holdsP r l[k] else ff) := by
  obtain ⟨h1, h2, h3⟩ := h
  have ht : l.take (k + 1) = l.take k ++ [l[k]] := by rw [List.take_add_one, List.getElem?_eq_getElem hk]; rfl
  refine ⟨?_, ?_, ?_⟩
  · rw [ht, h1, List.map_append, List.all_append]; simp only [List.map_cons, List.map_nil, List.all_cons, List.all_nil, id, Bool.and_true]
  · rw [ht, h2, List.map_append, List.any_append]; simp only [List.map_cons, List.map_nil, List.any_cons, List.any_nil, id, Bool.or_false]
  · cases l with
    | nil => simp at hk
    | cons q l =>
      cases k with
      | zero => simp
      | succ k => rw [h3]; simp
theorem Sofar.end {r : List Val} {p : PT} {fa fs ff : Bool} (h : Sofar r p.l p.l.length fa fs ff) (hn : ¬ (3 ≤ p.op ∧ p.op ≤ 9)) : holdsP r p = if p.op = 1 then true else if p.op = 10 then !ff else if p.op = 11 then fa else if p.op = 12 then fs else false := by
  obtain ⟨h1, h2, h3⟩ := h
  rw [List.take_length] at h1 h2 h3
  by_cases e1 : p.op = 1
  · rw [if_pos e1, holds_1 e1]
  rw [if_neg e1]
  by_cases e2 : p.op = 10
  · rw [if_pos e2, holds_10 e2, h3]
  rw [if_neg e2]
  by_cases e3 : p.op = 11
  · rw [if_pos e3, holds_11 e3, h1]
  rw [if_neg e3]
  by_cases e4 : p.op = 12
  · rw [if_pos e4, holds_12 e4, h2]
  rw [if_neg e4, holds_leaf e1 e2 e3 e4]
  unfold leafB
  split
  · rfl
  · split
    · rfl
    · unfold standB
      rw [if_neg (by omega), if_neg (by omega), if_neg (by omega), if_neg (by omega), if_neg (by omega), if_neg (by omega), if_neg (by omega)]
set_option maxHeartbeats 4000000 in
theorem rholds_step (vr : Value) (r : List Val) (p : PT) (hn : (decide (3 ≤ p.op) = false) ∨ (3 ≤ p.op ∧ decide (p.op ≤ 9) = false)) (ih : ∀ q ∈ p.l, RHoldsOk vr r q) : RHoldsOk vr r p := by
  intro w hi hr
  obtain ⟨ao, c, hlv, hln⟩ := hi.lies.slice
  have HI : Hid (In w p ∧ RowIn w vr r ∧ ∀ q ∈ p.l, RHoldsOk vr r q) := ⟨hi, hr, ih⟩
  have HLV : Hid (p.lv = .slice ao p.l.length c) := hlv
  have HN : Hid (¬ (3 ≤ p.op ∧ p.op ≤ 9)) := by
    rw [Hid]; intro ⟨h1, h2⟩
    rcases hn with h | ⟨_, h⟩
    · simp at h; omega
    · simp at h; omega
  obtain ⟨op, hop⟩ : ∃ op, p.op = op := ⟨_, rfl⟩
  have HOP : Hid (p.op = op) := hop
  rw [hop] at hn
  clear hi hr ih
  unfold PT.val
  rw [hlv, hop]
  clear hlv hop
  have START : ∀ Q : Prop, (Hid (Box (w.alloc (pobj p 29)) w.heap.size p) → Q) → Q := fun Q h => h (Box.new w p _)
  obtain ⟨a, ha⟩ : ∃ a, holdsP r p = a := ⟨_, rfl⟩
  have HANS : Hid (holdsP r p = a) := ha
  rw [ha]
  clear ha START
  rcases hn with hn | ⟨hn1, hn⟩
  all_goals
    go_enter Tryd.func65, Tryd.ntmps65
    go_wp2_with fail
    go_loopw [5, 6, 7, 8] (fun ua us uf i wr => ∃ (k : Nat) (fa fs ff : Bool), k ≤ p.l.length ∧ ua = .bool fa ∧ us = .bool fs ∧ uf = .bool ff ∧ i = .int .i64 k ∧ Hid (Sofar r p.l k fa fs ff) ∧ Hid (Below w.heap.size w wr ∧ Box wr w.heap.size p))
      (fun _ _ _ i _ => p.l.length - (intOf i).toNat)
    case atStart => exact ⟨0, true, false, false, Nat.zero_le _, rfl, rfl, rfl, rfl, ⟨by simp, by simp, by simp⟩, alloc1 _ _, by have := Box.new w p 29; rw [pobj, HLV.out, HOP.out] at this; exact this⟩
    case round =>
      obtain ⟨k, fa, fs, ff, hk, rfl, rfl, rfl, rfl, HF, HB⟩ := hrel
      have hc := HB.out.2.c8
      rw [HLV.out] at hc
      have hlt : w.heap.size < wr.heap.size := World.block_lt_of_cell? _ _ hc
      by_cases h1 : k < p.l.length
      · have i0 : (0 : Int) ≤ (k : Int) := by omega
        have i1 : (k : Int) < (p.l.length : Int) := by omega
        have hin : In wr p := HI.out.1.keep HB.out.1
        have hl := hin.lies
        rw [HLV.out] at hl
        obtain ⟨b, o, rfl, hat⟩ := lies_at hl k h1
        have hm := List.getElem_mem h1
        obtain ⟨g, hg⟩ : ∃ g, holdsP r p.l[k] = g := ⟨_, rfl⟩
        have HQ : Hid (Calls Tryd.prog 65 #[p.l[k].val, vr] wr fun e w' => e = .returned (.bool g) ∧ Below wr.heap.size wr w') := by
          rw [← hg]; exact HI.out.2.2 _ hm wr (hin.part _ hm) (HI.out.2.1.below HB.out.1)
        have hnx := HF.out.next h1
        rw [hg] at hnx
        have HF1 : Hid (Sofar r p.l (k + 1) (fa && g) (fs || g) (if k = 0 then g else ff)) := hnx
        clear hm hl hin hg hnx HF
        obtain ⟨c0, c1, c2, c3, c4, c5, c6, c7, c8⟩ := hat
        unfold PT.val at HQ
        go_wp2_with fail
        refine Calls.mono HQ.out ?_
        rintro e w1 ⟨rfl, hb⟩
        have HB1 : Hid (Below w.heap.size w w1 ∧ Box w1 w.heap.size p) := ⟨on HB.out.1 hb, HB.out.2.below hb⟩
        clear hb HB hc c0 c1 c2 c3 c4 c5 c6 c7 c8 HQ hlt
        by_cases h0 : k = 0
        · subst h0
          cases fa <;> cases fs
          all_goals
            go_wp2_with fail
            go_roundw
            case rel => exact ⟨1, _, _, _, by omega, rfl, rfl, rfl, by go_num, HF1, HB1⟩
            case measure => simp [intOf]; omega
        · have h0' : ((k : Int) == 0) = false := by rw [beq_eq_false_iff_ne]; omega
          have HF2 : Hid (Sofar r p.l (k + 1) (fa && g) (fs || g) ff) := by have := HF1.out; rw [if_neg h0] at this; exact this
          clear HF1
          cases fa <;> cases fs
          all_goals
            go_wp2_with fail
            go_roundw
            case rel => exact ⟨k + 1, _, _, _, by omega, rfl, rfl, rfl, by go_num, HF2, HB1⟩
            case measure => simp [intOf]; omega
      · have i1 : decide ((k : Int) < (p.l.length : Int)) = false := by simp; omega
        obtain rfl : k = p.l.length := by omega
        have hend := HF.out.end HN.out
        rw [HANS.out, HOP.out] at hend
        have HE : Hid (a = if op = 1 then true else if op = 10 then !ff else if op = 11 then fa else if op = 12 then fs else false) := hend
        have b0 := HB.out.2.c0
        rw [HOP.out] at b0
        clear HI HF hend HANS HOP HN
        by_cases e1 : op = 1
        · first
            | (exfalso; omega)
            | (subst e1; go_wp2_with fail; go_ret; exact ⟨ret_b3 (by rw [HE.out]; rfl), HB.out.1⟩)
            | fail
        have e1' : (op == 1) = false := by simpa using e1
        by_cases e2 : op = 10
        · subst e2
          go_wp2_with fail
          go_ret
          exact ⟨ret_b3 (by rw [HE.out]; rfl), HB.out.1⟩
        have e2' : (op == 10) = false := by simpa using e2
        by_cases e3 : op = 11
        · subst e3
          go_wp2_with fail
          go_ret
          exact ⟨ret_b3 (by rw [HE.out]; rfl), HB.out.1⟩
        have e3' : (op == 11) = false := by simpa using e3
        by_cases e4 : op = 12
        · subst e4
          go_wp2_with fail
          go_ret
          exact ⟨ret_b3 (by rw [HE.out]; rfl), HB.out.1⟩
        have e4' : (op == 12) = false := by simpa using e4
        have HE2 : Hid (a = false) := by have := HE.out; rw [if_neg e1, if_neg e2, if_neg e3, if_neg e4] at this; exact this
        clear e1 e2 e3 e4 HE
        go_wp2_with fail
        go_ret
        exact ⟨ret_b3 (by rw [HE2.out]), HB.out.1⟩
theorem rholds_ok (vr : Value) (r : List Val) (hok : RowOk r) (p : PT) : RHoldsOk vr r p := by
  induction p using PT.ind with
  | h p ih =>
    by_cases h : 3 ≤ p.op ∧ p.op ≤ 9
    · exact rholds_leaf vr r hok p h
    · refine rholds_step vr r p ?_ ih
      by_cases h3 : 3 ≤ p.op
      · exact .inr ⟨h3, by simp; omega⟩
      · exact .inl (by simpa using h3)
end Go.Proofs.YtkkbbpldeeajaaaDoor.Val
