/- What the reference's Read answers of nothing, and of a text that begins as a text's does. -/
import Derived.Test.YtmgkjojifhchkaaDoorRefReadNum
namespace Go.Proofs.YtmgkjojifhchkaaDoor.Val
open Go.RowKit

set_option maxHeartbeats 1000000 in
theorem rread_empty (w : World) :
    Calls Tryd.prog 22 #[.string ⟨#[]⟩] w fun e w' => e = .returned (.tuple #[V false 0 ⟨#[]⟩, .int .i64 10]) ∧ Below w.heap.size w w' := by
  go_enter Tryd.func22, Tryd.ntmps22
  go_wp2
  refine wp_loop_rounds 1 ?_
  rw [rounds_succ]
  go_wp2
  exact bodyPost_ret (v := .tuple #[V false 0 ⟨#[]⟩, .int .i64 10]) (by simp [results, Tryd.results22, go_sem]) rfl ⟨rfl, ((Below.refl _ _).alloc (Nat.le_refl _) _).alloc (by simp) _⟩

theorem raw_step (l : List UInt8) (k : Nat) (a b : UInt8) (ha : l[1 + 2 * k]? = some a) (hb : l[1 + 2 * k + 1]? = some b) :
    raw ((l.drop 1).take (2 * (k + 1))) = raw ((l.drop 1).take (2 * k)) ++ [UInt8.ofNat (partOf a % 16 * 16 + partOf b % 16)] := by
  have e1 : (l.drop 1)[2 * k]? = some a := by rw [List.getElem?_drop]; exact ha
  have e2 : (l.drop 1)[2 * k + 1]? = some b := by rw [List.getElem?_drop, ← Nat.add_assoc]; exact hb
  obtain ⟨h1, g1⟩ := List.getElem?_eq_some_iff.1 e1
  obtain ⟨h2, g2⟩ := List.getElem?_eq_some_iff.1 e2
  have e : (l.drop 1).take (2 * (k + 1)) = (l.drop 1).take (2 * k) ++ [a, b] := by
    rw [show 2 * (k + 1) = 2 * k + 1 + 1 by omega, List.take_succ_eq_append_getElem h2, List.take_succ_eq_append_getElem h1, g1, g2]
    simp
  rw [e, raw_snoc k _ _ _ (by rw [List.length_take]; omega)]
theorem raw_all (l : List UInt8) (k : Nat) (h1 : 1 + 2 * k ≤ l.length) (h2 : l.length ≤ 2 * k + 2) : raw ((l.drop 1).take (2 * k)) = raw (l.drop 1) := by
  by_cases h : l.length = 2 * k + 1
  · rw [List.take_of_length_le (by rw [List.length_drop]; omega)]
  · exact raw_odd k _ (by rw [List.length_drop]; omega)
theorem part_mod (a b : Nat) : ((UInt8.ofNat (a % 16 * 16 + b % 16)).toNat : Int) = (a : Int) % 16 * 16 + (b : Int) % 16 := by
  rw [UInt8.toNat_ofNat_of_lt' (by show _ < 256; omega)]; omega
theorem part_le (c : UInt8) : partOf c ≤ 16 := by
  unfold partOf
  cases h : hexOf c with
  | none => exact Nat.le_refl _
  | some n => have := hexOf_lt h; exact Nat.le_of_lt this

theorem keptC {B : Nat} {wr w2 : World} {x0 x1 x2 y0 y1 y2 r : Value} (hz : B + 1 < wr.heap.size) (hc : wr.cell? ⟨B, 0, none⟩ = some x0 ∧ wr.cell? ⟨B, 1, none⟩ = some x1 ∧ wr.cell? ⟨B, 2, none⟩ = some x2)
    (hd : wr.cell? ⟨B + 1, 0, none⟩ = some y0 ∧ wr.cell? ⟨B + 1, 1, none⟩ = some y1 ∧ wr.cell? ⟨B + 1, 2, none⟩ = some y2) (hf : wr.frozen? ⟨B, 0, none⟩ = false ∧ wr.frozen? ⟨B, 1, none⟩ = false ∧ wr.frozen? ⟨B, 2, none⟩ = false)
    (h : Below (wr.setCell ⟨B + 1, 2, none⟩ r).heap.size (wr.setCell ⟨B + 1, 2, none⟩ r) w2) :
    (w2.cell? ⟨B, 0, none⟩ = some x0 ∧ w2.cell? ⟨B, 1, none⟩ = some x1 ∧ w2.cell? ⟨B, 2, none⟩ = some x2) ∧
    (w2.cell? ⟨B + 1, 0, none⟩ = some y0 ∧ w2.cell? ⟨B + 1, 1, none⟩ = some y1 ∧ w2.cell? ⟨B + 1, 2, none⟩ = some r) ∧
    (w2.frozen? ⟨B, 0, none⟩ = false ∧ w2.frozen? ⟨B, 1, none⟩ = false ∧ w2.frozen? ⟨B, 2, none⟩ = false) ∧ B + 1 < w2.heap.size := by
  obtain ⟨c0, c1, c2⟩ := hc
  obtain ⟨d0, d1, d2⟩ := hd
  obtain ⟨f0, f1, f2⟩ := hf
  have hs : (wr.setCell ⟨B + 1, 2, none⟩ r).heap.size = wr.heap.size := by simp [World.setCell]
  have hl : ∀ b o, b < wr.heap.size → w2.cell? ⟨b, o, none⟩ = _ := fun b o hb => h.cell (p := ⟨b, o, none⟩) (by rw [hs]; exact hb)
  have hf : ∀ b o, b < wr.heap.size → w2.frozen? ⟨b, o, none⟩ = _ := fun b o hb => h.frozen (p := ⟨b, o, none⟩) (by rw [hs]; exact hb)
  have hz2 := h.size
  rw [hs] at hz2
  refine ⟨⟨?_, ?_, ?_⟩, ⟨?_, ?_, ?_⟩, ⟨?_, ?_, ?_⟩, by omega⟩
  · rw [hl _ _ (by omega)]; simp [go_sem, c0]
  · rw [hl _ _ (by omega)]; simp [go_sem, c1]
  · rw [hl _ _ (by omega)]; simp [go_sem, c2]
  · rw [hl _ _ (by omega)]; simp [go_sem, d0]
  · rw [hl _ _ (by omega)]; simp [go_sem, d1]
  · rw [hl _ _ (by omega)]; simp [go_sem, d2]
  · rw [hf _ _ (by omega)]; simp [go_sem, f0]
  · rw [hf _ _ (by omega)]; simp [go_sem, f1]
  · rw [hf _ _ (by omega)]; simp [go_sem, f2]
set_option maxHeartbeats 1000000 in
theorem rread_text (s q r : ByteArray) (w : World) (hs : s.size ≤ 1000) (h0 : 0 < s.size) (hx : ((s[0].toNat : Int) == 120) = true) (hr : r = ⟨(raw (s.data.toList.drop 1)).toArray⟩)
    (b : Bool) (hq : (q.toList == s.toList) = b) (hS : ∀ w1 : World, Calls Tryd.prog 24 #[V true 0 r] w1 fun e w' => e = .returned (.string q) ∧ Below w1.heap.size w1 w') :
    Calls Tryd.prog 22 #[.string s] w fun e w' => e = .returned (if b = true then .tuple #[V true 0 r, .int .i64 0] else .tuple #[V false 0 ⟨#[]⟩, .int .i64 10]) ∧ Below w.heap.size w w' := by
  have HR : Hid (r = ⟨(raw (s.data.toList.drop 1)).toArray⟩) := hr
  have HS : Hid (∀ w1 : World, _) := hS
  have HL : Hid (s.data.toList.length = s.size) := by show _ = _; simp
  clear hr hS
  have he := not_empty h0
  obtain ⟨i0, hi, hz0, hz1, hz2⟩ := info_parts info_u8
  cases b <;> simp only [if_true, Bool.false_eq_true, if_false]
  all_goals
    go_enter Tryd.func22, Tryd.ntmps22
    go_wp2
    go_loopw [5, 6] (fun v i wr => ∃ k : Nat, 1 + 2 * k ≤ s.size ∧ i = .int .i64 (1 + 2 * (k : Int)) ∧ wr.ownsRow (w.heap.size + 2) 5 1 v k (Lib.byteCells (raw ((s.data.toList.drop 1).take (2 * k)))) ∧ Hid (Below (w.heap.size + 2) ((w.alloc (.cells #[.bool false, .int .i64 0, .string ⟨#[]⟩] 23)).alloc (.cells #[.bool true, .int .i64 0, .string ⟨#[]⟩] 23)) wr))
      (fun _ i _ => s.size - (intOf i).toNat)
    case atStart => exact ⟨0, by omega, rfl, World.ownsRow_nil _ _ _ _, Below.refl _ _⟩
    case round =>
      obtain ⟨k, hk, rfl, hown, HB⟩ := hrel
      by_cases hlt : 1 + 2 * k + 1 < s.size
      · have h1 : 1 + 2 * k < s.size := by omega
        have HT : Hid _ := raw_step s.data.toList k _ _ (byte_at s (1 + 2 * k) h1) (byte_at s (1 + 2 * k + 1) hlt)
        have j0 : (1 + 2 * (k : Int)) + 1 < (s.size : Int) := by omega
        have hsz := HB.out.size
        have P1 : Hid (∀ w' : World, _) := fun w' => part_any s[1 + 2 * k] w'
        have P2 : Hid (∀ w' : World, _) := fun w' => part_any s[1 + 2 * k + 1] w'
        have l1 := part_le s[1 + 2 * k]
        have l2 := part_le s[1 + 2 * k + 1]
        have q0 := part_mod (partOf s[1 + 2 * k]) (partOf s[1 + 2 * k + 1])
        generalize UInt8.ofNat (partOf s[1 + 2 * k] % 16 * 16 + partOf s[1 + 2 * k + 1] % 16) = c at *
        generalize partOf s[1 + 2 * k] = x at *
        generalize partOf s[1 + 2 * k + 1] = y at *
        have qc : (x : Int) % 16 * 16 + (y : Int) % 16 = (c.toNat : Int) := q0.symm
        clear q0
        go_wp2_with fail
        refine Calls.mono (P1.out _) ?_
        rintro e w' ⟨rfl, hw⟩
        obtain rfl := hw.symm
        go_wp2_with fail
        refine Calls.mono (P2.out _) ?_
        rintro e w' ⟨rfl, hw⟩
        obtain rfl := hw.symm
        go_wp2_with (at_builtin; refine wpList_append_own _ rfl (.tmp 37) (.tmp 44) 41 rfl (w.heap.size + 2) 5 i0 (.int .u8 0) 1 1 Tryd.underlying41 hi hz0 hz1 hz2 rfl (by decide) u5 k _ rfl (hown.alloc _) ⟨wr.heap.size, 0, none⟩ 1 1 [.int .u8 (c.toNat : Int)] rfl rfl ?c1 ?c2 ?c3 ?c4 ?c5 ?_)
        case c1 => exact one_new _ _ _
        case c2 => exact one_int _ _
        case c3 => unfold maxLen; omega
        case c4 => omega
        case c5 => simp at hsz ⊢; omega
        intro v' w1 hown' hgrow _
        have HN : Hid (Below (w.heap.size + 2) ((w.alloc (.cells #[.bool false, .int .i64 0, .string ⟨#[]⟩] 23)).alloc (.cells #[.bool true, .int .i64 0, .string ⟨#[]⟩] 23)) w1) := by
          simp at hsz
          exact (HB.out.alloc (by omega) _).grown hgrow (by simp; omega) (fun q hq => (hown.lt q hq).1)
        have HW : Hid (w1.ownsRow (w.heap.size + 2) 5 1 v' (k + 1) (Lib.byteCells (raw ((s.data.toList.drop 1).take (2 * (k + 1)))))) := by
          rw [← List.drop_one] at hown'
          rw [HT.out, ← byteCells_snoc]; exact hown'
        clear hown hown' hgrow
        go_wp2
        go_roundw
        case rel => exact ⟨k + 1, by omega, by go_num, HW.out, HN⟩
        case measure => simp [intOf]; omega
      · have ek := raw_all s.data.toList k (by rw [HL.out]; omega) (by rw [HL.out]; omega)
        have hkl : (raw (s.data.toList.drop 1)).length = k := by
          rw [← ek]
          exact raw_length k _ (by rw [List.length_take, List.length_drop, HL.out]; omega)
        rw [ek] at hown
        have hconv := run_string_own (P := Tryd.prog) (w := wr) (src := 41) (dst := 9) (l := raw (s.data.toList.drop 1)) (by rw [hkl]; exact hown) Tryd.underlying41 Tryd.underlying5 Tryd.underlying9
        rw [← HR.out] at hconv
        obtain ⟨⟨⟨c0, c1, c2⟩, d0, d1, d2⟩, ⟨⟨f0, f1, f2⟩, g0, g1, g2⟩, hz⟩ := keptB HB.out
        have j0 : decide ((1 + 2 * (k : Int)) + 1 < (s.size : Int)) = false := by simp; omega
        clear ek hkl hown
        go_wp2_with fail
        refine Calls.mono (HS.out _) ?_
        rintro e w2 ⟨rfl, hb⟩
        have HC : Hid (Below w.heap.size w w2) := (((((Below.refl _ _).alloc (Nat.le_refl _) _).alloc (by simp) _).trans (HB.out.mono (by omega))).setCell (by simp) _).trans (hb.mono (by simp [World.setCell]; omega))
        obtain ⟨⟨e0, e1, e2⟩, ⟨k0, k1, k2⟩, ⟨n0, n1, n2⟩, hz3⟩ := keptC hz ⟨c0, c1, c2⟩ ⟨d0, d1, d2⟩ ⟨f0, f1, f2⟩ hb
        clear hb c0 c1 c2 d0 d1 d2 f0 f1 f2 g0 g1 g2
        go_wp2
        exact bodyPost_ret (v := _) (by simp [results, Tryd.results22, go_sem, e0, e1, e2]) rfl ⟨rfl, ((HC.out.setCell (by simp) _).setCell (by simp) _).setCell (by simp) _⟩
end Go.Proofs.YtmgkjojifhchkaaDoor.Val
