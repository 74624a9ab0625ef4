/- What readText of package value answers, in a world that holds the table of digits. -/
import Derived.Test.YtmgkjojifhchkaaDoorDigitAny
import Derived.Test.YtmgkjojifhchkaaDoorBare
import Derived.Test.YtmgkjojifhchkaaDoorKept
namespace Go.Proofs.YtmgkjojifhchkaaDoor.Val
open Go.RowKit

set_option maxHeartbeats 400000 in
theorem readText_odd (s : ByteArray) (w : World) (hs : s.size ≤ maxLen) (ho : s.size % 2 = 1) :
    Calls Tryd.prog 28 #[.string s] w fun e w' => e = .returned (.tuple #[V false 0 ⟨#[]⟩, .int .i64 10]) ∧ Below w.heap.size w w' := by
  unfold maxLen at hs
  go_enter Tryd.func28, Tryd.ntmps28
  go_wp2
  exact bodyPost_ret (v := .tuple #[V false 0 ⟨#[]⟩, .int .i64 10]) (by simp [results, Tryd.results28, go_sem]) rfl ⟨rfl, (Below.refl _ _).alloc (Nat.le_refl _) _⟩
set_option maxHeartbeats 400000 in
theorem readText_long (s : ByteArray) (w : World) (hs : s.size ≤ maxLen) (ho : s.size % 2 = 0) (hl : 24 < s.size) :
    Calls Tryd.prog 28 #[.string s] w fun e w' => e = .returned (.tuple #[V false 0 ⟨#[]⟩, .int .i64 10]) ∧ Below w.heap.size w w' := by
  unfold maxLen at hs
  go_enter Tryd.func28, Tryd.ntmps28
  go_wp2
  exact bodyPost_ret (v := .tuple #[V false 0 ⟨#[]⟩, .int .i64 10]) (by simp [results, Tryd.results28, go_sem]) rfl ⟨rfl, (Below.refl _ _).alloc (Nat.le_refl _) _⟩

theorem info_u8 : (Tryd.prog.info? 5).map (fun i => (i.zero, i.size, i.bytes)) = some (some (.int .u8 0), 1, 1) := by kernel_rfl
theorem byte_at (s : ByteArray) (k : Nat) (h : k < s.size) : s.data.toList[k]? = some s[k] := by
  simp [h]; rfl

/-- What is answered, told by what the digits say. -/
def readAns (o : Option (List UInt8)) : Value := match o with | some l => .tuple #[V true 0 ⟨l.toArray⟩, .int .i64 0] | none => .tuple #[V false 0 ⟨#[]⟩, .int .i64 10]
theorem readAns_none {o : Option (List UInt8)} (h : o = none) : Ending.returned (.tuple #[V false 0 ⟨#[]⟩, .int .i64 10]) = .returned (readAns o) := by subst h; rfl
theorem readAns_some {o : Option (List UInt8)} {l : List UInt8} (h : o = some l) : Ending.returned (.tuple #[V true 0 ⟨l.toArray⟩, .int .i64 0]) = .returned (readAns o) := by subst h; rfl
theorem below_end {w wr : World} {o : Obj} {a b c : Value} (h : Below (w.heap.size + 1) (w.alloc o) wr) : Below w.heap.size w (((wr.setCell ⟨w.heap.size, 0, none⟩ a).setCell ⟨w.heap.size, 1, none⟩ b).setCell ⟨w.heap.size, 2, none⟩ c) :=
  (((((Below.refl _ _).alloc (Nat.le_refl _) _).trans (h.mono (by omega))).setCell (by simp) _).setCell (by simp) _).setCell (by simp) _

set_option maxHeartbeats 1000000 in
theorem readText_main (s : ByteArray) (w : World) (hT : HasTab w) (hg : 0 < w.heap.size) (ho : s.size % 2 = 0) (hl : s.size ≤ 24) :
    Calls Tryd.prog 28 #[.string s] w fun e w' => e = .returned (readAns (unhex s.data.toList)) ∧ Below w.heap.size w w' := by
  have HT : Hid (HasTab w) := hT
  clear hT
  obtain ⟨i0, hi, hz0, hz1, hz2⟩ := info_parts info_u8
  have hd24 : decide (24 < (s.size : Int)) = false := by simp; omega
  go_enter Tryd.func28, Tryd.ntmps28
  go_wp2
  go_loopw [4, 23] (fun v i wr => ∃ k : Nat, k ≤ s.size / 2 ∧ i = .int .i64 k ∧ ∃ l : List UInt8, l.length = k ∧ Hid (unhex (s.data.toList.take (2 * k)) = some l) ∧ wr.ownsRow (w.heap.size + 1) 5 1 v k (Lib.byteCells l) ∧ Hid (Below (w.heap.size + 1) (w.alloc (.cells #[.bool false, .int .i64 0, .string ⟨#[]⟩] 23)) wr))
    (fun _ i _ => s.size / 2 - (intOf i).toNat)
  case atStart => exact ⟨0, Nat.zero_le _, rfl, [], rfl, rfl, World.ownsRow_nil _ _ _ _, Below.refl _ _⟩
  case round =>
    obtain ⟨k, hk, rfl, l, hlen, HU, hown, HB⟩ := hrel
    have hTr : HasTab wr := (HT.out.below ((Below.refl w.heap.size w).alloc (Nat.le_refl _) _) hg).below HB.out (by omega)
    have HTr : Hid (HasTab wr) := hTr
    clear hTr HT
    by_cases hlt : k < s.size / 2
    · have h1 : 2 * k < s.size := by omega
      have h2 : 2 * k + 1 < s.size := by omega
      have e1 := byte_at s (2 * k) h1
      have e2 := byte_at s (2 * k + 1) h2
      have HS := unhex_step s.data.toList k l _ _ e1 e2 HU.out
      have HS' : Hid (unhex (s.data.toList.take (2 * (k + 1))) = (match hexOf s[2 * k], hexOf s[2 * k + 1] with | some x, some y => some (l ++ [UInt8.ofNat (16 * x + y)]) | _, _ => none)) := HS
      have HL : Hid (l.length = k) := hlen
      clear e1 e2 HS hlen
      cases ha : hexOf s[2 * k] with
      | none =>
        cases hb : hexOf s[2 * k + 1] with
        | none =>
          have HF : Hid (unhex s.data.toList = none) := unhex_bad _ (k + 1) (by simp; omega) (HS'.out.trans (by simp [ha, hb]))
          obtain ⟨⟨c0, c1, c2⟩, ⟨f0, f1, f2⟩, hz⟩ := kept1 HB.out
          go_wp2_with fail
          refine (digit_none _ ha _ HTr.out).mono ?_
          rintro e w' ⟨rfl, rfl⟩
          go_wp2_with fail
          refine (digit_none _ hb _ HTr.out).mono ?_
          rintro e w' ⟨rfl, rfl⟩
          clear ha hb
          go_wp2
          exact bodyPost_ret (v := .tuple #[V false 0 ⟨#[]⟩, .int .i64 10]) (by simp [results, Tryd.results28, go_sem, c0, c1, c2]) rfl ⟨readAns_none HF.out, below_end HB.out⟩
        | some y =>
          have HF : Hid (unhex s.data.toList = none) := unhex_bad _ (k + 1) (by simp; omega) (HS'.out.trans (by simp [ha, hb]))
          obtain ⟨⟨c0, c1, c2⟩, ⟨f0, f1, f2⟩, hz⟩ := kept1 HB.out
          go_wp2_with fail
          refine (digit_none _ ha _ HTr.out).mono ?_
          rintro e w' ⟨rfl, rfl⟩
          go_wp2_with fail
          refine (digit_some _ _ hb _ HTr.out).mono ?_
          rintro e w' ⟨rfl, rfl⟩
          clear ha hb
          go_wp2
          exact bodyPost_ret (v := .tuple #[V false 0 ⟨#[]⟩, .int .i64 10]) (by simp [results, Tryd.results28, go_sem, c0, c1, c2]) rfl ⟨readAns_none HF.out, below_end HB.out⟩
      | some x =>
        cases hb : hexOf s[2 * k + 1] with
        | none =>
          have HF : Hid (unhex s.data.toList = none) := unhex_bad _ (k + 1) (by simp; omega) (HS'.out.trans (by simp [ha, hb]))
          obtain ⟨⟨c0, c1, c2⟩, ⟨f0, f1, f2⟩, hz⟩ := kept1 HB.out
          go_wp2_with fail
          refine (digit_some _ _ ha _ HTr.out).mono ?_
          rintro e w' ⟨rfl, rfl⟩
          go_wp2_with fail
          refine (digit_none _ hb _ HTr.out).mono ?_
          rintro e w' ⟨rfl, rfl⟩
          clear ha hb
          go_wp2
          exact bodyPost_ret (v := .tuple #[V false 0 ⟨#[]⟩, .int .i64 10]) (by simp [results, Tryd.results28, go_sem, c0, c1, c2]) rfl ⟨readAns_none HF.out, below_end HB.out⟩
        | some y =>
          have HG : Hid (unhex (s.data.toList.take (2 * (k + 1))) = some (l ++ [UInt8.ofNat (16 * x + y)])) := HS'.out.trans (by simp [ha, hb])
          have hx := hexOf_lt ha
          have hy := hexOf_lt hb
          go_wp2_with fail
          refine (digit_some _ _ ha _ HTr.out).mono ?_
          rintro e w' ⟨rfl, rfl⟩
          go_wp2_with fail
          refine (digit_some _ _ hb _ HTr.out).mono ?_
          rintro e w' ⟨rfl, rfl⟩
          clear ha hb
          have hbits := bits_or x hx y hy
          generalize hc : UInt8.ofNat (16 * x + y) = c at *
          go_wp2_with (at_builtin; refine wpList_append_own _ rfl (.tmp 50) (.tmp 55) 41 rfl (w.heap.size + 1) 5 i0 (.int .u8 0) 1 1 Tryd.underlying41 hi hz0 hz1 hz2 rfl (by decide) u4 k _ rfl (hown.alloc _) ⟨w'.heap.size, 0, none⟩ 1 1 [.int .u8 (c.toNat : Int)] rfl rfl ?c1 ?c2 ?c3 ?c4 ?c5 ?_)
          case c1 =>
            intro j u hj
            match j, hj with
            | 0, hj => simp at hj; subst hj; simp [Addr.add]
          case c2 => intro u hu; simp at hu; subst hu; rfl
          case c3 => unfold maxLen; omega
          case c4 => omega
          case c5 => have := HB.out.size; simp at this ⊢; omega
          intro v' w1 hown' hgrow _
          have HN : Hid (Below (w.heap.size + 1) (w.alloc (.cells #[.bool false, .int .i64 0, .string ⟨#[]⟩] 23)) w1) := by
            have hsz := HB.out.size
            simp at hsz
            exact (HB.out.alloc (by omega) _).grown hgrow (by simp; omega) (fun q hq => (hown.lt q hq).1)
          have HW : Hid (w1.ownsRow (w.heap.size + 1) 5 1 v' (k + 1) (Lib.byteCells (l ++ [c]))) := by
            rw [← byteCells_snoc]; exact hown'
          clear hown hown' hgrow
          go_wp2
          go_roundw
          case rel => exact ⟨k + 1, by omega, by go_num, l ++ [c], by rw [List.length_append, HL.out]; rfl, HG, HW.out, HN⟩
          case measure => simp [intOf]; omega
    · have ek : 2 * k = s.data.toList.length := by simp; omega
      have HF : Hid (unhex s.data.toList = some l) := by have := HU.out; rw [ek, List.take_length] at this; exact this
      obtain ⟨⟨c0, c1, c2⟩, ⟨f0, f1, f2⟩, hz⟩ := kept1 HB.out
      have hconv := run_string_own (P := Tryd.prog) (w := wr) (src := 41) (dst := 9) (l := l) (by rw [hlen]; exact hown) Tryd.underlying41 Tryd.underlying5 Tryd.underlying9
      clear ek hown hlen
      go_wp2
      exact bodyPost_ret (v := .tuple #[V true 0 ⟨l.toArray⟩, .int .i64 0]) (by simp [results, Tryd.results28, go_sem, c0, c1, c2]) rfl ⟨readAns_some HF.out, below_end HB.out⟩
end Go.Proofs.YtmgkjojifhchkaaDoor.Val
