/- Plain facts: two texts held against one another byte by byte. No program. -/
import Derived.Test.YtooblmldmbbejaaU1
import Derived.WalkKit
import Derived.Test.YtooblmldmbbejaaU2
import Derived.WalkSmall
import Derived.BigRegion
import Derived.BigQuiet
import Derived.Test.YtooblmldmbbejaaU16
namespace Go.Proofs.Ytooblmldmbbejaa.Val
open Go

theorem less_append : ∀ (p a b : List UInt8), Op.bytesLess (p ++ a) (p ++ b) = Op.bytesLess a b
  | [], _, _ => rfl
  | c :: p, a, b => by simp [Op.bytesLess, less_append p a b, UInt8.lt_irrefl]
theorem cmpS_of_less {a b : List UInt8} (h : Op.bytesLess a b = true) : cmpS a b = -1 := by
  rcases cmpS_cases a b with ⟨_, rfl⟩ | ⟨h1, _⟩ | ⟨_, k⟩
  · rw [less_irrefl] at h; cases h
  · exact h1
  · exact (less_not h k).elim
theorem cmpS_of_more {a b : List UInt8} (h : Op.bytesLess b a = true) : cmpS a b = 1 := by
  rw [cmpS_turn, cmpS_of_less h]; rfl
theorem split_at {a : List UInt8} {k : Nat} {x : UInt8} (h : a[k]? = some x) : a = a.take k ++ x :: a.drop (k + 1) := by
  obtain ⟨hk, hx⟩ := List.getElem?_eq_some_iff.1 h
  rw [← hx, List.getElem_cons_drop, List.take_append_drop]
theorem cmpS_lt_at {a b : List UInt8} {k : Nat} {x y : UInt8} (ht : a.take k = b.take k) (hx : a[k]? = some x) (hy : b[k]? = some y) (h : x < y) : cmpS a b = -1 := by
  apply cmpS_of_less
  rw [split_at hx, split_at hy, ht, less_append]
  simp [Op.bytesLess, h]
theorem cmpS_gt_at {a b : List UInt8} {k : Nat} {x y : UInt8} (ht : a.take k = b.take k) (hx : a[k]? = some x) (hy : b[k]? = some y) (h : y < x) : cmpS a b = 1 := by
  rw [cmpS_turn, cmpS_lt_at ht.symm hy hx h]; rfl
theorem take_next {a b : List UInt8} {k : Nat} {x : UInt8} (ht : a.take k = b.take k) (hx : a[k]? = some x) (hy : b[k]? = some x) : a.take (k + 1) = b.take (k + 1) := by
  rw [List.take_add_one, List.take_add_one, ht, hx, hy]
theorem cmpS_short {a b : List UInt8} {k : Nat} (ht : a.take k = b.take k) (ha : a.length = k) (hb : k < b.length) : cmpS a b = -1 := by
  apply cmpS_of_less
  have e : a = b.take k := by rw [← ht, ← ha, List.take_length]
  obtain ⟨y, hy⟩ : ∃ y, b[k]? = some y := ⟨_, List.getElem?_eq_getElem hb⟩
  rw [e]
  conv => lhs; arg 2; rw [split_at hy]
  have := less_append (b.take k) [] (y :: b.drop (k + 1))
  simpa [Op.bytesLess] using this
theorem cmpS_long {a b : List UInt8} {k : Nat} (ht : a.take k = b.take k) (hb : b.length = k) (ha : k < a.length) : cmpS a b = 1 := by
  rw [cmpS_turn, cmpS_short ht.symm hb ha]; rfl
theorem cmpS_same {a b : List UInt8} {k : Nat} (ht : a.take k = b.take k) (ha : a.length = k) (hb : b.length = k) : cmpS a b = 0 := by
  have : a = b := by rw [← List.take_length (l := a), ha, ht, ← hb, List.take_length]
  rw [this]; exact cmpS_self b
end Go.Proofs.Ytooblmldmbbejaa.Val
/- A text's byte, as a list's. -/
namespace Go.Proofs.Ytooblmldmbbejaa.Val
open Go

theorem byte_at (s : ByteArray) (k : Nat) (h : k < s.size) : s.data.toList[k]? = some s[k] := by
  simp [h]; rfl
end Go.Proofs.Ytooblmldmbbejaa.Val
/- What the reference's Right answers, for any value. -/
namespace Go.Proofs.Ytooblmldmbbejaa.Val
open Go.RowKit

set_option maxHeartbeats 400000 in
theorem rright_text (n : Int) (s : ByteArray) (w : World) (hs : s.size ≤ maxLen) (b : Bool) (h : (n == 0) = b) :
    Calls Try.prog 38 #[V true n s] w fun e w' => e = .returned (.bool (b && decide (s.size ≤ 12))) ∧ Below w.heap.size w w' := by
  unfold maxLen at hs
  cases b
  · go_enter Try.func38, Try.ntmps38
    go_wp2
    go_ret
    exact ⟨rfl, (Below.refl _ _).alloc (Nat.le_refl _) _⟩
  · go_enter Try.func38, Try.ntmps38
    go_wp2
    go_ret
    exact ⟨by simp; omega, (Below.refl _ _).alloc (Nat.le_refl _) _⟩
set_option maxHeartbeats 400000 in
theorem rright_number (n : Int) (s : ByteArray) (w : World) :
    Calls Try.prog 38 #[V false n s] w fun e w' => e = .returned (.bool s.toList.isEmpty) ∧ Below w.heap.size w w' := by
  go_enter Try.func38, Try.ntmps38
  go_wp2
  go_ret
  exact ⟨rfl, (Below.refl _ _).alloc (Nat.le_refl _) _⟩
theorem rright_any (t : Bool) (n : Int) (s : ByteArray) (w : World) (hs : s.size ≤ maxLen) :
    Calls Try.prog 38 #[V t n s] w fun e w' => e = .returned (.bool (rightV t n s)) ∧ Below w.heap.size w w' := by
  cases t
  · exact rright_number n s w
  · exact rright_text n s w hs _ rfl
end Go.Proofs.Ytooblmldmbbejaa.Val
/- What the reference's Compare and Right answer, for any values. -/
namespace Go.Proofs.Ytooblmldmbbejaa.Val
open Go.RowKit

set_option maxHeartbeats 400000 in
theorem rcmp_nt (na nb : Int) (sa sb : ByteArray) (w : World) :
    Calls Try.prog 19 #[V false na sa, V true nb sb] w fun e w' => e = .returned (.int .i64 (-1)) ∧ Below w.heap.size w w' := by
  go_enter Try.func19, Try.ntmps19
  go_wp2
  go_ret
  exact ⟨rfl, ((Below.refl _ _).alloc (Nat.le_refl _) _).alloc (by simp) _⟩
set_option maxHeartbeats 400000 in
theorem rcmp_tn (na nb : Int) (sa sb : ByteArray) (w : World) :
    Calls Try.prog 19 #[V true na sa, V false nb sb] w fun e w' => e = .returned (.int .i64 1) ∧ Below w.heap.size w w' := by
  go_enter Try.func19, Try.ntmps19
  go_wp2
  go_ret
  exact ⟨rfl, ((Below.refl _ _).alloc (Nat.le_refl _) _).alloc (by simp) _⟩
set_option maxHeartbeats 400000 in
theorem rcmp_nn (na nb : Int) (sa sb : ByteArray) (w : World) :
    Calls Try.prog 19 #[V false na sa, V false nb sb] w fun e w' => e = .returned (.int .i64 (cmpN na nb)) ∧ Below w.heap.size w w' := by
  by_cases h1 : na < nb
  · go_enter Try.func19, Try.ntmps19
    go_wp2
    go_ret
    exact ⟨ret_int (cmpN_lt (by simp; omega) h1), ((Below.refl _ _).alloc (Nat.le_refl _) _).alloc (by simp) _⟩
  · by_cases h2 : nb < na
    · go_enter Try.func19, Try.ntmps19
      go_wp2
      go_ret
      exact ⟨ret_int (cmpN_gt (by simp; omega) (by omega)), ((Below.refl _ _).alloc (Nat.le_refl _) _).alloc (by simp) _⟩
    · go_enter Try.func19, Try.ntmps19
      go_wp2
      go_ret
      exact ⟨ret_int (cmpN_eq (by simp; omega)), ((Below.refl _ _).alloc (Nat.le_refl _) _).alloc (by simp) _⟩

theorem below2 {w : World} {o1 o2 : Obj} : Below w.heap.size w ((w.alloc o1).alloc o2) := ((Below.refl _ _).alloc (Nat.le_refl _) _).alloc (by simp) _
set_option maxHeartbeats 1000000 in
theorem rcmp_tt (na nb : Int) (sa sb : ByteArray) (w : World) (ha : sa.size ≤ maxLen) (_hb : sb.size ≤ maxLen) :
    Calls Try.prog 19 #[V true na sa, V true nb sb] w fun e w' => e = .returned (.int .i64 (cmpS sa.data.toList sb.data.toList)) ∧ Below w.heap.size w w' := by
  unfold maxLen at ha _hb
  have la : sa.data.toList.length = sa.size := by simp
  have lb : sb.data.toList.length = sb.size := by simp
  have LA : Hid (sa.data.toList.length = sa.size) := la
  have LB : Hid (sb.data.toList.length = sb.size) := lb
  clear la lb
  go_enter Try.func19, Try.ntmps19
  go_wp2
  go_loopw [5] (fun i wr => ∃ k : Nat, k ≤ sa.size ∧ k ≤ sb.size ∧ i = .int .i64 k ∧ Hid (sa.data.toList.take k = sb.data.toList.take k) ∧ Hid (∃ q, wr = ((w.alloc (.cells #[.bool true, .int .i64 na, .string sa] 30)).alloc (.cells #[.bool true, .int .i64 nb, .string sb] 30)).drewN q))
    (fun i _ => sa.size - (intOf i).toNat)
  case atStart => exact ⟨0, Nat.zero_le _, Nat.zero_le _, rfl, rfl, 0, rfl⟩
  case round =>
    obtain ⟨k, hka, hkb, rfl, HT, HW⟩ := hrel
    obtain ⟨q, hq⟩ := HW.out
    subst hq
    by_cases h1 : k < sa.size
    · by_cases h2 : k < sb.size
      · have i0 : (0 : Int) ≤ (k : Int) := by omega
        have i1 : (k : Int) < (sa.size : Int) := by omega
        have i2 : (k : Int) < (sb.size : Int) := by omega
        have e1 : Hid _ := byte_at sa k h1
        have e2 : Hid _ := byte_at sb k h2
        by_cases h3 : sa[k].toNat < sb[k].toNat
        · have HR : Hid (cmpS sa.data.toList sb.data.toList = -1) := cmpS_lt_at HT.out e1.out e2.out (UInt8.lt_iff_toNat_lt.2 h3)
          have j1 : (sa[k].toNat : Int) < (sb[k].toNat : Int) := by omega
          clear HT e1 e2 h3
          go_wp2
          go_quiet (fail)
          go_wp2
          go_ret
          exact ⟨ret_int HR.out.symm, by (repeat (refine below_drewN ?_ _)); exact below2⟩
        · by_cases h4 : sb[k].toNat < sa[k].toNat
          · have HR : Hid (cmpS sa.data.toList sb.data.toList = 1) := cmpS_gt_at HT.out e1.out e2.out (UInt8.lt_iff_toNat_lt.2 h4)
            have j1 : (sb[k].toNat : Int) < (sa[k].toNat : Int) := by omega
            clear HT e1 e2 h3 h4
            go_wp2
            go_quiet (fail)
            go_wp2
            go_quiet (fail)
            go_wp2
            go_ret
            exact ⟨ret_int HR.out.symm, by (repeat (refine below_drewN ?_ _)); exact below2⟩
          · have h5 : sa[k].toNat = sb[k].toNat := by omega
            have h6 : sa[k] = sb[k] := UInt8.toNat_inj.1 h5
            have HN : Hid (sa.data.toList.take (k + 1) = sb.data.toList.take (k + 1)) := take_next HT.out e1.out (e2.out.trans (by rw [h6]))
            have j1 : ¬ (sb[k].toNat : Int) < (sa[k].toNat : Int) := by omega
            have j2 : ¬ (sa[k].toNat : Int) < (sb[k].toNat : Int) := by omega
            clear HT e1 e2 h3 h4 h5 h6
            go_wp2
            go_quiet (fail)
            go_wp2
            go_quiet (fail)
            go_wp2
            go_roundw
            case rel => exact ⟨k + 1, by omega, by omega, by go_num, HN, _, rfl⟩
            case measure => simp [intOf]; omega
      · have HR : Hid (cmpS sa.data.toList sb.data.toList = 1) := cmpS_long HT.out (LB.out.trans (by omega)) (by rw [LA.out]; exact h1)
        have i1 : (k : Int) < (sa.size : Int) := by omega
        have i2 : decide ((k : Int) < (sb.size : Int)) = false := by simp; omega
        have i3 : (sb.size : Int) < (sa.size : Int) := by omega
        clear HT
        go_wp2
        go_ret
        exact ⟨ret_int HR.out.symm, by (repeat (refine below_drewN ?_ _)); exact below2⟩
    · have i1 : decide ((k : Int) < (sa.size : Int)) = false := by simp; omega
      by_cases h2 : k < sb.size
      · have HR : Hid (cmpS sa.data.toList sb.data.toList = -1) := cmpS_short HT.out (LA.out.trans (by omega)) (by rw [LB.out]; exact h2)
        have i3 : (sa.size : Int) < (sb.size : Int) := by omega
        clear HT
        go_wp2
        go_ret
        exact ⟨ret_int HR.out.symm, by (repeat (refine below_drewN ?_ _)); exact below2⟩
      · have HR : Hid (cmpS sa.data.toList sb.data.toList = 0) := cmpS_same HT.out (LA.out.trans (by omega)) (LB.out.trans (by omega))
        have i3 : ¬ (sa.size : Int) < (sb.size : Int) := by omega
        have i4 : ¬ (sb.size : Int) < (sa.size : Int) := by omega
        clear HT
        go_wp2
        go_ret
        exact ⟨ret_int HR.out.symm, by (repeat (refine below_drewN ?_ _)); exact below2⟩
theorem rcmp_any (ta : Bool) (na : Int) (sa : ByteArray) (tb : Bool) (nb : Int) (sb : ByteArray) (w : World) (ha : sa.size ≤ maxLen) (hb : sb.size ≤ maxLen) :
    Calls Try.prog 19 #[V ta na sa, V tb nb sb] w fun e w' => e = .returned (.int .i64 (cmpV ta na sa tb nb sb)) ∧ Below w.heap.size w w' := by
  cases ta <;> cases tb
  · exact rcmp_nn na nb sa sb w
  · exact rcmp_nt na nb sa sb w
  · exact rcmp_tn na nb sa sb w
  · have := rcmp_tt na nb sa sb w ha hb
    rw [← ByteArray.toList_eq, ← ByteArray.toList_eq] at this
    exact this
end Go.Proofs.Ytooblmldmbbejaa.Val
/- What the reference's Within and Clean answer. -/
namespace Go.Proofs.Ytooblmldmbbejaa.Val
open Go.RowKit

theorem rcmpX_any (x y : Val) (w : World) (hx : x.s.size ≤ maxLen) (hy : y.s.size ≤ maxLen) : Calls Try.prog 19 #[V x.t x.n x.s, V y.t y.n y.s] w fun e w' => e = .returned (.int .i64 (cmpX x y)) ∧ Below w.heap.size w w' := rcmp_any _ _ _ _ _ _ w hx hy
/-- What the reference says. -/
def rinB (no hl ol hh oh : Bool) (lo hi : Int) : Bool := !no && (!(hl && (decide (lo < 0) || (lo == 0 && ol))) && (!hh || decide (hi < 0) || (hi == 0 && !oh)))
theorem rin_eq (s : Sp) (x : Val) : rinB s.no s.hl s.ol s.hh s.oh (cmpX x s.lo) (cmpX x s.hi) = withinS s x := by
  rw [within_eq, loB_eq, hiB_eq]
  unfold rinB
  have t := turnX x s.lo
  have g1 := (goesX x s.lo s.lo).lo
  have g2 := (goesX x s.lo s.lo).hi
  have e1 : (isZ (lowE s) || !sideB (cmpX (lowE s).x x) (lowE s).op) = !(s.hl && (decide (cmpX x s.lo < 0) || (cmpX x s.lo == 0 && s.ol))) := by
    unfold lowE
    cases s.hl
    · rw [if_neg (by simp), isZ_zero]; rfl
    · rw [if_pos rfl, isZ_has rfl]
      show (false || !sideB (cmpX s.lo x) s.ol) = _
      rw [t]
      generalize cmpX x s.lo = c at *
      rw [Bool.eq_iff_iff]; simp [sideB]; try omega
  have e2 : (isZ (uppE s) || !sideB (cmpX x (uppE s).x) (uppE s).op) = (!s.hh || decide (cmpX x s.hi < 0) || (cmpX x s.hi == 0 && !s.oh)) := by
    have h1 := (goesX x s.hi s.hi).lo
    have h2 := (goesX x s.hi s.hi).hi
    unfold uppE
    cases s.hh
    · rw [if_neg (by simp), isZ_zero]; rfl
    · rw [if_pos rfl, isZ_has rfl]
      show (false || !sideB (cmpX x s.hi) s.oh) = _
      generalize cmpX x s.hi = c at *
      rcases (by omega : c < 0 ∨ c = 0 ∨ 0 < c) with h | h | h
      · have h' : ¬ 0 < c := by omega
        have h'' : c ≠ 0 := by omega
        simp [sideB, h, h', h'']
      · subst h; simp [sideB]
      · have h' : ¬ c < 0 := by omega
        have h'' : c ≠ 0 := by omega
        simp [sideB, h, h', h'']
  rw [e1, e2]
set_option maxHeartbeats 8000000 in
theorem rwithin_any (s : Sp) (x : Val) (w : World) (hs : s.ok) (hx : x.s.size ≤ maxLen) : Calls Try.prog 28 #[s.val, V x.t x.n x.s] w fun e w' => e = .returned (.bool (withinS s x)) ∧ Below w.heap.size w w' := by
  have HL : Hid (∀ w1, Calls Try.prog 19 #[V x.t x.n x.s, V s.lo.t s.lo.n s.lo.s] w1 fun e w' => e = .returned (.int .i64 (cmpX x s.lo)) ∧ Below w1.heap.size w1 w') := fun w1 => rcmpX_any x s.lo w1 hx hs.1
  have HH : Hid (∀ w1, Calls Try.prog 19 #[V x.t x.n x.s, V s.hi.t s.hi.n s.hi.s] w1 fun e w' => e = .returned (.int .i64 (cmpX x s.hi)) ∧ Below w1.heap.size w1 w') := fun w1 => rcmpX_any x s.hi w1 hx hs.2
  have HR : Hid (withinS s x = rinB s.no s.hl s.ol s.hh s.oh (cmpX x s.lo) (cmpX x s.hi)) := (rin_eq s x).symm
  have HN : Hid _ := SVB.new w s x 40 30
  generalize withinS s x = r at *
  generalize cmpX x s.lo = lo at *
  generalize cmpX x s.hi = hi at *
  unfold Sp.val
  unfold sobj at HN
  obtain ⟨no, hl, ol, l, hh, oh, u⟩ := s
  simp only at *
  clear hs hx
  cases no
  case true =>
    clear HL HH HN
    go_enter Try.func28, Try.ntmps28
    go_wp2_with fail
    go_ret
    exact ⟨by rw [HR.out]; rfl, back1 (alloc1 _ _)⟩
  go_enter Try.func28, Try.ntmps28
  go_wp2_with fail
  refine Calls.mono (HL.out _) ?_
  rintro e w1 ⟨rfl, hb⟩
  have X1 : Hid (SVB w ⟨false, hl, ol, l, hh, oh, u⟩ x w1) := HN.out.below hb
  clear hb HN HL
  obtain ⟨⟨a0, a1, a2, a3, a4, a5, a6, a7, a8, a9, a10⟩, ⟨v0, v1, v2⟩, _⟩ := X1.out
  go_wp2_with fail
  refine Calls.mono (HH.out _) ?_
  rintro e w2 ⟨rfl, hb⟩
  have X2 : Hid (SVB w ⟨false, hl, ol, l, hh, oh, u⟩ x w2) := X1.out.below hb
  clear hb X1 HH a0 a1 a2 a3 a4 a5 a6 a7 a8 a9 a10 v0 v1 v2
  obtain ⟨⟨a0, a1, a2, a3, a4, a5, a6, a7, a8, a9, a10⟩, _, _⟩ := X2.out
  simp only at a0 a1 a2 a3 a4 a5 a6 a7 a8 a9 a10
  have HF : Hid (∀ (hl ol : Bool), (hl && (decide (lo < 0) || (lo == 0 && ol))) = true → r = rinB false hl ol hh oh lo hi → r = false) := fun hl ol h1 h2 => by rw [h2]; unfold rinB; rw [h1]; rfl
  have HG : Hid (∀ (hl ol : Bool), (hl && (decide (lo < 0) || (lo == 0 && ol))) = false → r = rinB false hl ol hh oh lo hi → r = (!hh || decide (hi < 0) || (hi == 0 && !oh))) := fun hl ol h1 h2 => by rw [h2]; unfold rinB; rw [h1]; rfl
  have LC : hl = false ∨ (hl = true ∧ lo < 0) ∨ (hl = true ∧ lo = 0 ∧ ol = true) ∨ (hl = true ∧ lo = 0 ∧ ol = false) ∨ (hl = true ∧ 0 < lo) := by
    cases hl <;> cases ol <;> simp <;> omega
  rcases LC with rfl | ⟨rfl, h⟩ | ⟨rfl, rfl, rfl⟩ | ⟨rfl, rfl, rfl⟩ | ⟨rfl, h⟩
  · have HV : Hid (r = (!hh || decide (hi < 0) || (hi == 0 && !oh))) := HG.out _ _ (rfl) HR.out
    clear HF HG
    rcases (by cases hh <;> cases oh <;> simp <;> omega : hh = false ∨ (hh = true ∧ hi < 0) ∨ (hh = true ∧ hi = 0 ∧ oh = true) ∨ (hh = true ∧ hi = 0 ∧ oh = false) ∨ (hh = true ∧ 0 < hi)) with rfl | ⟨rfl, k⟩ | ⟨rfl, rfl, rfl⟩ | ⟨rfl, rfl, rfl⟩ | ⟨rfl, k⟩
    · clear HR
      go_wp2_with fail
      go_ret
      exact ⟨by rw [HV.out]; rfl, X2.out.be⟩
    · clear HR
      go_wp2_with fail
      go_ret
      exact ⟨by rw [HV.out]; simp [k], X2.out.be⟩
    · clear HR
      go_wp2_with fail
      go_ret
      exact ⟨by rw [HV.out]; rfl, X2.out.be⟩
    · clear HR
      go_wp2_with fail
      go_ret
      exact ⟨by rw [HV.out]; rfl, X2.out.be⟩
    · have k1 : decide (hi < 0) = false := by simp; omega
      have k2 : (hi == 0) = false := by simp; omega
      clear HR
      go_wp2_with fail
      go_ret
      exact ⟨by rw [HV.out, k1, k2]; rfl, X2.out.be⟩
  · have HV : Hid (r = false) := HF.out _ _ (by simp [h]) HR.out
    clear HF HG HR
    go_wp2_with fail
    go_ret
    exact ⟨by rw [HV.out]; rfl, X2.out.be⟩
  · have HV : Hid (r = false) := HF.out _ _ (rfl) HR.out
    clear HF HG HR
    go_wp2_with fail
    go_ret
    exact ⟨by rw [HV.out]; rfl, X2.out.be⟩
  · have HV : Hid (r = (!hh || decide (hi < 0) || (hi == 0 && !oh))) := HG.out _ _ (rfl) HR.out
    clear HF HG
    rcases (by cases hh <;> cases oh <;> simp <;> omega : hh = false ∨ (hh = true ∧ hi < 0) ∨ (hh = true ∧ hi = 0 ∧ oh = true) ∨ (hh = true ∧ hi = 0 ∧ oh = false) ∨ (hh = true ∧ 0 < hi)) with rfl | ⟨rfl, k⟩ | ⟨rfl, rfl, rfl⟩ | ⟨rfl, rfl, rfl⟩ | ⟨rfl, k⟩
    · clear HR
      go_wp2_with fail
      go_ret
      exact ⟨by rw [HV.out]; rfl, X2.out.be⟩
    · clear HR
      go_wp2_with fail
      go_ret
      exact ⟨by rw [HV.out]; simp [k], X2.out.be⟩
    · clear HR
      go_wp2_with fail
      go_ret
      exact ⟨by rw [HV.out]; rfl, X2.out.be⟩
    · clear HR
      go_wp2_with fail
      go_ret
      exact ⟨by rw [HV.out]; rfl, X2.out.be⟩
    · have k1 : decide (hi < 0) = false := by simp; omega
      have k2 : (hi == 0) = false := by simp; omega
      clear HR
      go_wp2_with fail
      go_ret
      exact ⟨by rw [HV.out, k1, k2]; rfl, X2.out.be⟩
  · have HV : Hid (r = (!hh || decide (hi < 0) || (hi == 0 && !oh))) := HG.out _ _ (by simp; omega) HR.out
    have k3 : decide (lo < 0) = false := by simp; omega
    have k4 : (lo == 0) = false := by simp; omega
    clear HF HG
    rcases (by cases hh <;> cases oh <;> simp <;> omega : hh = false ∨ (hh = true ∧ hi < 0) ∨ (hh = true ∧ hi = 0 ∧ oh = true) ∨ (hh = true ∧ hi = 0 ∧ oh = false) ∨ (hh = true ∧ 0 < hi)) with rfl | ⟨rfl, k⟩ | ⟨rfl, rfl, rfl⟩ | ⟨rfl, rfl, rfl⟩ | ⟨rfl, k⟩
    · clear HR
      go_wp2_with fail
      go_ret
      exact ⟨by rw [HV.out]; rfl, X2.out.be⟩
    · clear HR
      go_wp2_with fail
      go_ret
      exact ⟨by rw [HV.out]; simp [k], X2.out.be⟩
    · clear HR
      go_wp2_with fail
      go_ret
      exact ⟨by rw [HV.out]; rfl, X2.out.be⟩
    · clear HR
      go_wp2_with fail
      go_ret
      exact ⟨by rw [HV.out]; rfl, X2.out.be⟩
    · have k1 : decide (hi < 0) = false := by simp; omega
      have k2 : (hi == 0) = false := by simp; omega
      clear HR
      go_wp2_with fail
      go_ret
      exact ⟨by rw [HV.out, k1, k2]; rfl, X2.out.be⟩
end Go.Proofs.Ytooblmldmbbejaa.Val
