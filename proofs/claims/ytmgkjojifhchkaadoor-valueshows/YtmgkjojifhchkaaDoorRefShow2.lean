/- What the reference's Show answers, for any value. -/
import Derived.Test.YtmgkjojifhchkaaDoorRefShow
namespace Go.Proofs.YtmgkjojifhchkaaDoor.Val
open Go.RowKit

theorem rright2_any (t : Bool) (n : Int) (s : ByteArray) (w : World) (hs : s.size ≤ maxLen) :
    Calls Tryd.prog 14 #[V t n s] w fun e w' => e = .returned (.bool (rightV t n s)) ∧ Below w.heap.size w w' := by
  cases t
  · exact rright_number n s w
  · exact rright_text n s w hs _ rfl

set_option maxHeartbeats 400000 in
theorem rshow_wrong (t : Bool) (n : Int) (s : ByteArray) (w : World) (hs : s.size ≤ maxLen) (h : rightV t n s = false) :
    Calls Tryd.prog 24 #[V t n s] w fun e w' => e = .returned (.string ⟨#[]⟩) ∧ Below w.heap.size w w' := by
  have H := (rright2_any t n s · hs)
  rw [h] at H
  go_enter Tryd.func24, Tryd.ntmps24
  go_wp2_with fail
  refine (H _).mono ?_
  rintro e w1 ⟨rfl, hb1⟩
  go_wp2
  go_ret
  exact ⟨rfl, ((Below.refl _ _).alloc (Nat.le_refl _) _).trans (hb1.mono (by simp))⟩
set_option maxHeartbeats 400000 in
theorem rshow_number (n : Int) (w : World) (hn : fits n = true) :
    Calls Tryd.prog 24 #[V false n ⟨#[]⟩] w fun e w' => e = .returned (.string ⟨(Lib.itoa n).toArray⟩) ∧ Below w.heap.size w w' := by
  have H : Hid (∀ w1 : World, Calls Tryd.prog 14 #[V false n ⟨#[]⟩] w1 fun e w' => e = .returned (.bool true) ∧ Below w1.heap.size w1 w') := fun w1 => by
    have := rright_number n ⟨#[]⟩ w1
    rw [ByteArray.toList_eq] at this
    exact this
  have HD : Hid (∀ w1 : World, Calls Tryd.prog 33 #[.int .i64 n] w1 fun e w' => e = .returned (.string ⟨(Lib.itoa n).toArray⟩) ∧ Below w1.heap.size w1 w') := fun w1 => digits_any n w1 hn
  clear hn
  generalize (⟨(Lib.itoa n).toArray⟩ : ByteArray) = q at *
  go_enter Tryd.func24, Tryd.ntmps24
  go_wp2_with fail
  refine Calls.mono (H.out _) ?_
  rintro e w1 ⟨rfl, hb1⟩
  have HB : Hid (Below w.heap.size w w1) := ((Below.refl _ _).alloc (Nat.le_refl _) _).trans (hb1.mono (by simp))
  obtain ⟨⟨c0, c1, c2⟩, -, hz⟩ := kept1 (hb1.mono (by simp))
  clear hb1
  go_wp2_with fail
  refine Calls.mono (HD.out _) ?_
  rintro e w2 ⟨rfl, hb2⟩
  go_wp2
  go_ret
  exact ⟨rfl, HB.out.trans (hb2.mono (by omega))⟩

set_option maxHeartbeats 1000000 in
theorem rshow_text (s : ByteArray) (w : World) (hl : s.size ≤ 12) :
    Calls Tryd.prog 24 #[V true 0 s] w fun e w' => e = .returned (.string ⟨(120 :: shex s.data.toList).toArray⟩) ∧ Below w.heap.size w w' := by
  have H : Hid (∀ w1 : World, Calls Tryd.prog 14 #[V true 0 s] w1 fun e w' => e = .returned (.bool true) ∧ Below w1.heap.size w1 w') := fun w1 => by
    have := rright_text 0 s w1 (by unfold maxLen; omega) true rfl
    rw [decide_eq_true hl] at this
    exact this
  obtain ⟨i0, hi, hz0, hz1, hz2⟩ := info_parts info_u8
  go_enter Tryd.func24, Tryd.ntmps24
  go_wp2_with fail
  refine Calls.mono (H.out _) ?_
  rintro e w1 ⟨rfl, hb1⟩
  have HB : Hid (Below w.heap.size w w1) := ((Below.refl _ _).alloc (Nat.le_refl _) _).trans (hb1.mono (by simp))
  obtain ⟨⟨c0, c1, c2⟩, -, hz⟩ := kept1 (hb1.mono (by simp))
  have C2 : Hid (w1.cell? ⟨w.heap.size, 2, none⟩ = some (.string s)) := c2
  clear hb1 H
  go_wp2
  clear c0 c1 c2
  go_loopw [4, 5] (fun v i wr => ∃ k : Nat, k ≤ s.size ∧ i = .int .i64 k ∧ wr.ownsRow w1.heap.size 5 1 v (2 * k + 1) (Lib.byteCells (120 :: shex (s.data.toList.take k))) ∧ Hid (Below w1.heap.size w1 wr))
    (fun _ i _ => s.size - (intOf i).toNat)
  case atStart => exact ⟨0, Nat.zero_le _, rfl, World.ownsRow_lit w1 #[.int .u8 120] 1 (Nat.le_refl _) (by decide) rfl, (Below.refl _ _).alloc (Nat.le_refl _) _⟩
  case round =>
    obtain ⟨k, hk, rfl, hown, HBr⟩ := hrel
    have cs : wr.cell? ⟨w.heap.size, 2, none⟩ = some (.string s) := (HBr.out.cell (by exact hz)).trans C2.out
    have hsz := HBr.out.size
    by_cases hlt : k < s.size
    · have hb := s[k].toNat_lt
      have HE : Hid (s.data.toList.take (k + 1) = s.data.toList.take k ++ [s[k]]) := by
        show _ = _
        rw [List.take_succ_eq_append_getElem (by simpa using hlt)]; rfl
      obtain ⟨x, hx⟩ : ∃ x, x = s[k].toNat / 16 := ⟨_, rfl⟩
      obtain ⟨y, hy⟩ : ∃ y, y = s[k].toNat % 16 := ⟨_, rfl⟩
      have q1 : ((s[k].toNat : Int) / 16) = (x : Int) := by omega
      have q2 : ((s[k].toNat : Int).tmod 16) = (y : Int) := by rw [Int.tmod_eq_emod_of_nonneg (by omega)]; omega
      have X1 : Hid (x < 16) := by show x < 16; omega
      have Y1 : Hid (y < 16) := by show y < 16; omega
      have HX1 : Hid (x = s[k].toNat / 16) := hx
      have HY1 : Hid (y = s[k].toNat % 16) := hy
      clear hx hy
      have k0 : (0 : Int) ≤ (k : Int) := by omega
      have k1 : (k : Int) < (s.size : Int) := by omega
      obtain ⟨cx, hcx⟩ : ∃ c, c = hexd x := ⟨_, rfl⟩
      obtain ⟨cy, hcy⟩ : ∃ c, c = hexd y := ⟨_, rfl⟩
      have RX : Hid (∀ w' : World, Calls Tryd.prog 34 #[.int .u8 (x : Int)] w' fun e w'' => e = .returned (.int .u8 (cx.toNat : Int)) ∧ w'' = w') := fun w' => by rw [hcx]; exact rdigit_any x X1.out w'
      have RY : Hid (∀ w' : World, Calls Tryd.prog 34 #[.int .u8 (y : Int)] w' fun e w'' => e = .returned (.int .u8 (cy.toNat : Int)) ∧ w'' = w') := fun w' => by rw [hcy]; exact rdigit_any y Y1.out w'
      have HX : Hid (cx = hexd x) := hcx
      have HY : Hid (cy = hexd y) := hcy
      clear hcx hcy
      have hne := not_own hown w.heap.size hz
      have qx : IntKind.u8.wrap (x : Int) = (x : Int) := IntWalk.u8_in _ (by have := X1.out; omega)
      have qy : IntKind.u8.wrap (y : Int) = (y : Int) := IntWalk.u8_in _ (by have := Y1.out; omega)
      go_wp2
      go_region_held3 (fun w' => w'.cell? ⟨w.heap.size, 2, none⟩ = some (.string s)) (go_keep)
        ((first
          | (go_at_call_of 34 (Value.int IntKind.u8 (x : Int)); refine Calls.mono (RX.out _) ?_; rintro e w' ⟨rfl, rfl⟩)
          | (go_at_call_of 34 (Value.int IntKind.u8 (y : Int)); refine Calls.mono (RY.out _) ?_; rintro e w' ⟨rfl, rfl⟩)
          | (refine step_append_own rfl (.tmp 24) (.tmp 37) 41 rfl w1.heap.size 5 i0 (.int .u8 0) 1 1 Tryd.underlying41 hi hz0 hz1 hz2 rfl (by decide) u4 (2 * k + 1) _ rfl (by exact hown.alloc _) ⟨wr.heap.size, 0, none⟩ 2 2 [.int .u8 (cx.toNat : Int), .int .u8 (cy.toNat : Int)] rfl rfl (by exact two_new _ _ _ _) (two_ints _ _ _) (by unfold maxLen; omega) (by omega) (by simp; omega) ?_; intro v' w2 hown' hgrow; have m1 := hgrow.cell (a := ⟨w.heap.size, 2, none⟩) (v := .string s) (by simp [World.cell?_alloc_some, cs]) hne)
          | fail))
      all_goals
        have HN : Hid (Below w1.heap.size w1 w2) := (HBr.out.drew.alloc (by simp; omega) _).grown hgrow (by simp; omega) (fun q hq => (hown.lt q hq).1)
        have HW : Hid (w2.ownsRow w1.heap.size 5 1 v' (2 * (k + 1) + 1) (Lib.byteCells (120 :: shex (s.data.toList.take (k + 1))))) := by
          have e : Lib.byteCells (120 :: shex (s.data.toList.take (k + 1))) = Lib.byteCells (120 :: shex (s.data.toList.take k)) ++ [.int .u8 (cx.toNat : Int), .int .u8 (cy.toNat : Int)] := by
            rw [HE.out, shex_append, HX.out, HY.out, HX1.out, HY1.out]
            simp [Lib.byteCells, shex]
          rw [e, show 2 * (k + 1) + 1 = 2 * k + 1 + 2 by omega]
          exact hown'
        clear hown hown' hgrow
        go_wp2
        go_roundw
        case rel => exact ⟨k + 1, by omega, by go_num, HW.out, HN⟩
        case measure => simp [intOf]; omega
    · have ek : s.data.toList.take k = s.data.toList := List.take_of_length_le (by simp; omega)
      rw [ek] at hown
      have hlen : (120 :: shex s.data.toList).length = 2 * k + 1 := by simp [shex_length]; omega
      have hconv := run_string_own (P := Tryd.prog) (w := wr) (src := 41) (dst := 9) (l := 120 :: shex s.data.toList) (by rw [hlen]; exact hown) Tryd.underlying41 Tryd.underlying5 Tryd.underlying9
      clear ek hown hlen
      generalize ho : (120 :: shex s.data.toList) = out at hconv
      have HO : Hid ((120 :: shex s.data.toList) = out) := ho
      clear ho
      have i1 : decide ((k : Int) < (s.size : Int)) = false := by simp; omega
      go_wp2
      go_ret
      exact ⟨by rw [HO.out]; rfl, HB.out.trans (HBr.out.mono (by omega))⟩
end Go.Proofs.YtmgkjojifhchkaaDoor.Val
