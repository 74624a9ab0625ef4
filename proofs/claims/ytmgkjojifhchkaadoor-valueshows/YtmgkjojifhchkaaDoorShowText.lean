/- What showText of package value answers, in a world that holds the table of digits. -/
import Derived.Test.YtmgkjojifhchkaaDoorDigitAny
import Derived.Test.YtmgkjojifhchkaaDoorStepOwn
import Derived.Test.YtmgkjojifhchkaaDoorReadText
import Derived.Deep.RegionHeld3
namespace Go.Proofs.YtmgkjojifhchkaaDoor.Val
open Go.RowKit

set_option maxHeartbeats 1000000 in
theorem showText_any (s : ByteArray) (w : World) (hT : HasTab w) (hg : 0 < w.heap.size) (hl : s.size ≤ 12) :
    Calls Tryd.prog 31 #[.string s] w fun e w' => e = .returned (.string ⟨(120 :: shex s.data.toList).toArray⟩) ∧ Below w.heap.size w w' := by
  have HT : Hid (HasTab w) := hT
  clear hT
  obtain ⟨i0, hi, hz0, hz1, hz2⟩ := info_parts info_u8
  go_enter Tryd.func31, Tryd.ntmps31
  go_wp2
  go_loopw [3, 8] (fun v i wr => ∃ k : Nat, k ≤ s.size ∧ i = .int .i64 k ∧ wr.ownsRow w.heap.size 5 1 v (2 * k + 1) (Lib.byteCells (120 :: shex (s.data.toList.take k))) ∧ Hid (Below w.heap.size w wr))
    (fun _ i _ => s.size - (intOf i).toNat)
  case atStart => exact ⟨0, Nat.zero_le _, rfl, World.ownsRow_lit w #[.int .u8 120] 1 (Nat.le_refl _) (by decide) rfl, (Below.refl _ _).alloc (Nat.le_refl _) _⟩
  case round =>
    obtain ⟨k, hk, rfl, hown, HB⟩ := hrel
    have HTr : Hid (HasTab wr) := HT.out.below HB.out hg
    by_cases hlt : k < s.size
    · have hb := s[k].toNat_lt
      have HE : Hid (s.data.toList.take (k + 1) = s.data.toList.take k ++ [s[k]]) := by
        show _ = _
        rw [List.take_succ_eq_append_getElem (by simpa using hlt)]; rfl
      obtain ⟨x, hx⟩ : ∃ x, x = s[k].toNat / 16 := ⟨_, rfl⟩
      obtain ⟨y, hy⟩ : ∃ y, y = s[k].toNat % 16 := ⟨_, rfl⟩
      have q1 : ((s[k].toNat : Int) / 16) = (x : Int) := by omega
      have q2 : bits BinOp.and IntKind.u8 ((s[k].toNat : Nat) : Int) 15 = (y : Int) := by rw [bits_and _ hb, hy]
      have x1 : x < 16 := by omega
      have y1 : y < 16 := by omega
      have c1 := tab_hexd HTr.out x x1
      have c2 := tab_hexd HTr.out y y1
      generalize hcx : hexd x = cx at *
      generalize hcy : hexd y = cy at *
      have HX : Hid (hexd x = cx) := hcx
      have HY : Hid (hexd y = cy) := hcy
      have HX1 : Hid (x = s[k].toNat / 16) := hx
      have HY1 : Hid (y = s[k].toNat % 16) := hy
      clear hcx hcy hx hy
      have x0 : (0 : Int) ≤ (x : Int) := by omega
      have x2 : (x : Int) < 16 := by omega
      have y0 : (0 : Int) ≤ (y : Int) := by omega
      have y2 : (y : Int) < 16 := by omega
      have k0 : (0 : Int) ≤ (k : Int) := by omega
      have k1 : (k : Int) < (s.size : Int) := by omega
      have hne := not_own hown 0 hg
      have hsz := HB.out.size
      go_wp2
      go_region_held3 (fun w' => w'.cell? ⟨0, x, none⟩ = some (.int .u8 (cx.toNat : Int)) ∧ w'.cell? ⟨0, y, none⟩ = some (.int .u8 (cy.toNat : Int))) (go_keep)
        ((refine step_append_own rfl (.tmp 11) (.tmp 24) 41 rfl w.heap.size 5 i0 (.int .u8 0) 1 1 Tryd.underlying41 hi hz0 hz1 hz2 rfl (by decide) u3 (2 * k + 1) _ rfl (by exact hown.alloc _) ⟨wr.heap.size, 0, none⟩ 2 2 [.int .u8 (cx.toNat : Int), .int .u8 (cy.toNat : Int)] rfl rfl (by exact two_new _ _ _ _) (two_ints _ _ _) (by unfold maxLen; omega) (by omega) (by simp; omega) ?_; intro v' w1 hown' hgrow; have m1 := hgrow.cell (a := ⟨0, x, none⟩) (v := .int .u8 (cx.toNat : Int)) (by simp [World.cell?_alloc_some, c1]) hne; have m2 := hgrow.cell (a := ⟨0, y, none⟩) (v := .int .u8 (cy.toNat : Int)) (by simp [World.cell?_alloc_some, c2]) hne))
      all_goals
        have HN : Hid (Below w.heap.size w w1) := (HB.out.drew.alloc (by simp; omega) _).grown hgrow (by simp; omega) (fun q hq => (hown.lt q hq).1)
        have HW : Hid (w1.ownsRow w.heap.size 5 1 v' (2 * (k + 1) + 1) (Lib.byteCells (120 :: shex (s.data.toList.take (k + 1))))) := by
          have e : Lib.byteCells (120 :: shex (s.data.toList.take (k + 1))) = Lib.byteCells (120 :: shex (s.data.toList.take k)) ++ [.int .u8 (cx.toNat : Int), .int .u8 (cy.toNat : Int)] := by
            rw [HE.out, shex_append, ← HX.out, ← HY.out, HX1.out, HY1.out]
            simp [Lib.byteCells, shex]
          rw [e, show 2 * (k + 1) + 1 = 2 * k + 1 + 2 by omega]
          exact hown'
        clear hown hown' hgrow
        go_wp2
        go_roundw
        case rel => exact ⟨k + 1, by omega, by go_num, HW.out, HN⟩
        case measure => simp [intOf]; omega
    · have ek : s.data.toList.take k = s.data.toList := List.take_of_length_le (by simp; omega)
      rw [ek] at hown
      have hlen : (120 :: shex s.data.toList).length = 2 * k + 1 := by simp [shex_length]; omega
      have hconv := run_string_own (P := Tryd.prog) (w := wr) (src := 41) (dst := 9) (l := 120 :: shex s.data.toList) (by rw [hlen]; exact hown) Tryd.underlying41 Tryd.underlying5 Tryd.underlying9
      clear ek hown hlen
      generalize ho : (120 :: shex s.data.toList) = out at hconv
      have HO : Hid ((120 :: shex s.data.toList) = out) := ho
      clear ho
      go_wp2
      go_ret
      exact ⟨by rw [HO.out]; rfl, HB.out⟩
end Go.Proofs.YtmgkjojifhchkaaDoor.Val
