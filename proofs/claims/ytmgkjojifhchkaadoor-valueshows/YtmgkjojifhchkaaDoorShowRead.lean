/- What Show answers of a text and of what may not be, and Read of what begins as a text's does. -/
import Derived.Test.YtmgkjojifhchkaaDoorRightAny
import Derived.Test.YtmgkjojifhchkaaDoorShowText
namespace Go.Proofs.YtmgkjojifhchkaaDoor.Val
open Go.RowKit

set_option maxHeartbeats 400000 in
theorem show_wrong (t : Bool) (n : Int) (s : ByteArray) (w : World) (hs : s.size ≤ maxLen) (h : rightV t n s = false) :
    Calls Tryd.prog 23 #[V t n s] w fun e w' => e = .returned (.string ⟨#[]⟩) ∧ Below w.heap.size w w' := by
  have H := (right_any t n s · hs)
  rw [h] at H
  go_enter Tryd.func23, Tryd.ntmps23
  go_wp2_with fail
  refine (H _).mono ?_
  rintro e w1 ⟨rfl, hb1⟩
  go_wp2
  go_ret
  exact ⟨rfl, ((Below.refl _ _).alloc (Nat.le_refl _) _).trans (hb1.mono (by simp))⟩

set_option maxHeartbeats 400000 in
theorem show_text (s : ByteArray) (w : World) (hT : HasTab w) (hg : 0 < w.heap.size) (hl : s.size ≤ 12) :
    Calls Tryd.prog 23 #[V true 0 s] w fun e w' => e = .returned (.string ⟨(120 :: shex s.data.toList).toArray⟩) ∧ Below w.heap.size w w' := by
  have H := (right_text_yes s · (by unfold maxLen; omega))
  rw [decide_eq_true hl] at H
  go_enter Tryd.func23, Tryd.ntmps23
  go_wp2_with fail
  refine (H _).mono ?_
  rintro e w1 ⟨rfl, hb1⟩
  have HB : Hid (Below w.heap.size w w1) := ((Below.refl _ _).alloc (Nat.le_refl _) _).trans (hb1.mono (by simp))
  obtain ⟨⟨c0, c1, c2⟩, -, hz⟩ := kept1 (hb1.mono (by simp))
  have H2 := showText_any s w1 (hT.below HB.out hg) (by omega) hl
  clear H hb1
  go_wp2_with fail
  refine H2.mono ?_
  rintro e w2 ⟨rfl, hb2⟩
  go_wp2
  go_ret
  exact ⟨rfl, HB.out.trans (hb2.mono (by omega))⟩

theorem readText_any (s : ByteArray) (w : World) (hT : HasTab w) (hg : 0 < w.heap.size) (hs : s.size ≤ maxLen) :
    Calls Tryd.prog 28 #[.string s] w fun e w' => e = .returned (readAns (if s.size ≤ 24 then unhex s.data.toList else none)) ∧ Below w.heap.size w w' := by
  by_cases ho : s.size % 2 = 1
  · have e : (if s.size ≤ 24 then unhex s.data.toList else none) = none := by
      split
      · exact unhex_odd (s.size / 2) _ (by simp; omega)
      · rfl
    rw [e]; exact readText_odd s w hs ho
  · by_cases hl : s.size ≤ 24
    · rw [if_pos hl]; exact readText_main s w hT hg (by omega) hl
    · rw [if_neg hl]; exact readText_long s w hs (by omega) (by omega)

/-- What the digits behind the mark say. -/
def textOf (s : ByteArray) : Option (List UInt8) := if (s.extract 1 s.size).size ≤ 24 then unhex (s.extract 1 s.size).data.toList else none
theorem not_empty {s : ByteArray} (h : 0 < s.size) : s.toList.isEmpty = false := by
  rw [ByteArray.toList_eq, List.isEmpty_eq_false_iff]
  intro hn
  have := congrArg List.length hn
  simp only [Array.length_toList, List.length_nil] at this
  have e : s.size = s.data.size := rfl
  omega
theorem kept_end {w w1 : World} {o : Obj} (h : Below (w.alloc o).heap.size (w.alloc o) w1) : Below (w.heap.size + 1) (w.alloc o) w1 := h.mono (by simp)

set_option maxHeartbeats 400000 in
theorem read_some (s : ByteArray) (l : List UInt8) (w : World) (h0 : 0 < s.size) (hs : s.size ≤ maxLen) (hx : s[0] = 120)
    (H : ∀ w1 : World, 0 < w1.heap.size → HasTab w1 → Calls Tryd.prog 28 #[.string (s.extract 1 s.size)] w1 fun e w' => e = .returned (.tuple #[V true 0 ⟨l.toArray⟩, .int .i64 0]) ∧ Below w1.heap.size w1 w') (hT : HasTab w) (hg : 0 < w.heap.size) :
    Calls Tryd.prog 21 #[.string s] w fun e w' => e = .returned (.tuple #[V true 0 ⟨l.toArray⟩, .int .i64 0]) ∧ Below w.heap.size w w' := by
  have hx2 : ((s[0].toNat : Int) == 120) = true := by rw [hx]; rfl
  have he := not_empty h0
  unfold maxLen at hs
  have H1 : Hid (∀ o, Calls Tryd.prog 28 #[.string (s.extract 1 s.size)] (w.alloc o) fun e w' => e = .returned (.tuple #[V true 0 ⟨l.toArray⟩, .int .i64 0]) ∧ Below (w.alloc o).heap.size (w.alloc o) w') :=
    fun o => H _ (Nat.lt_of_lt_of_le hg (by simp)) (hT.below ((Below.refl w.heap.size w).alloc (Nat.le_refl _) _) hg)
  clear H hT
  go_enter Tryd.func21, Tryd.ntmps21
  go_wp2_with fail
  refine (H1.out _).mono ?_
  rintro e w1 ⟨rfl, hb1⟩
  have HB : Hid (Below (w.heap.size + 1) _ w1) := kept_end hb1
  obtain ⟨⟨c0, c1, c2⟩, ⟨f0, f1, f2⟩, hz⟩ := kept1 HB.out
  clear hb1
  go_wp2
  exact bodyPost_ret (v := .tuple #[V true 0 ⟨l.toArray⟩, .int .i64 0]) (by simp [results, Tryd.results21, go_sem, c0, c1, c2]) rfl ⟨rfl, below_end HB.out⟩
set_option maxHeartbeats 400000 in
theorem read_none (s : ByteArray) (w : World) (h0 : 0 < s.size) (hs : s.size ≤ maxLen) (hx : s[0] = 120)
    (H : ∀ w1 : World, 0 < w1.heap.size → HasTab w1 → Calls Tryd.prog 28 #[.string (s.extract 1 s.size)] w1 fun e w' => e = .returned (.tuple #[V false 0 ⟨#[]⟩, .int .i64 10]) ∧ Below w1.heap.size w1 w') (hT : HasTab w) (hg : 0 < w.heap.size) :
    Calls Tryd.prog 21 #[.string s] w fun e w' => e = .returned (.tuple #[V false 0 ⟨#[]⟩, .int .i64 10]) ∧ Below w.heap.size w w' := by
  have hx2 : ((s[0].toNat : Int) == 120) = true := by rw [hx]; rfl
  have he := not_empty h0
  unfold maxLen at hs
  have H1 : Hid (∀ o, Calls Tryd.prog 28 #[.string (s.extract 1 s.size)] (w.alloc o) fun e w' => e = .returned (.tuple #[V false 0 ⟨#[]⟩, .int .i64 10]) ∧ Below (w.alloc o).heap.size (w.alloc o) w') :=
    fun o => H _ (Nat.lt_of_lt_of_le hg (by simp)) (hT.below ((Below.refl w.heap.size w).alloc (Nat.le_refl _) _) hg)
  clear H hT
  go_enter Tryd.func21, Tryd.ntmps21
  go_wp2_with fail
  refine (H1.out _).mono ?_
  rintro e w1 ⟨rfl, hb1⟩
  have HB : Hid (Below (w.heap.size + 1) _ w1) := kept_end hb1
  obtain ⟨⟨c0, c1, c2⟩, ⟨f0, f1, f2⟩, hz⟩ := kept1 HB.out
  clear hb1
  go_wp2
  exact bodyPost_ret (v := .tuple #[V false 0 ⟨#[]⟩, .int .i64 10]) (by simp [results, Tryd.results21, go_sem, c0, c1, c2]) rfl ⟨rfl, below_end HB.out⟩
theorem read_text (s : ByteArray) (w : World) (hT : HasTab w) (hg : 0 < w.heap.size) (hs : s.size ≤ maxLen) (h0 : 0 < s.size) (hx : s[0] = 120) :
    Calls Tryd.prog 21 #[.string s] w fun e w' => e = .returned (readAns (textOf s)) ∧ Below w.heap.size w w' := by
  have hsz : (s.extract 1 s.size).size ≤ maxLen := by
    rw [ByteArray.size_extract]; omega
  have H := fun (w1 : World) (h1 : 0 < w1.heap.size) (h2 : HasTab w1) => readText_any (s.extract 1 s.size) w1 h2 h1 hsz
  change ∀ (w1 : World), _ → _ → Calls _ _ _ _ (fun e w' => e = .returned (readAns (textOf s)) ∧ _) at H
  cases ht : textOf s with
  | none => rw [ht] at H; exact read_none s w h0 hs hx H hT hg
  | some l => rw [ht] at H; exact read_some s l w h0 hs hx H hT hg
end Go.Proofs.YtmgkjojifhchkaaDoor.Val
