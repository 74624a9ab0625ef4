/- What Read answers of any text, and Show of any value. -/
import Derived.Test.YtmgkjojifhchkaaDoorReadNum
namespace Go.Proofs.YtmgkjojifhchkaaDoor.Val
open Go.RowKit

set_option maxHeartbeats 400000 in
theorem rd_empty (x : Value) (k : Int) (w : World) (HN : Hid (∀ o : Obj, Calls Tryd.prog 29 #[.string ⟨#[]⟩] (w.alloc o) fun e w' => e = .returned (.tuple #[V false 0 ⟨#[]⟩, .int .i64 10]) ∧ Below (w.alloc o).heap.size (w.alloc o) w')) (_hx : x = .int .i64 k) :
    Calls Tryd.prog 21 #[.string ⟨#[]⟩] w fun e w' => e = .returned (.tuple #[V false 0 ⟨#[]⟩, .int .i64 10]) ∧ Below w.heap.size w w' := by
  clear _hx
  go_enter Tryd.func21, Tryd.ntmps21
  go_wp2_with fail
  refine Calls.mono (HN.out _) ?_
  rintro e w1 ⟨rfl, hb1⟩
  have HB : Hid (Below (w.heap.size + 1) _ w1) := kept_end hb1
  obtain ⟨⟨c0, c1, c2⟩, ⟨f0, f1, f2⟩, hz⟩ := kept1 HB.out
  clear hb1
  go_wp2
  exact bodyPost_ret (v := .tuple #[V false 0 ⟨#[]⟩, .int .i64 10]) (by simp [results, Tryd.results21, go_sem, c0, c1, c2]) rfl ⟨rfl, below_end HB.out⟩
set_option maxHeartbeats 400000 in
theorem rd_number (s : ByteArray) (n k : Int) (w : World) (h0 : 0 < s.size) (_hs : s.size ≤ maxLen) (hx : s[0] ≠ 120) (HN : Hid (∀ o : Obj, Calls Tryd.prog 29 #[.string s] (w.alloc o) fun e w' => e = .returned (.tuple #[V false n ⟨#[]⟩, .int .i64 k]) ∧ Below (w.alloc o).heap.size (w.alloc o) w')) :
    Calls Tryd.prog 21 #[.string s] w fun e w' => e = .returned (.tuple #[V false n ⟨#[]⟩, .int .i64 k]) ∧ Below w.heap.size w w' := by
  have hx2 : ((s[0].toNat : Int) == 120) = false := by
    rw [beq_eq_false_iff_ne]
    intro e
    exact hx (UInt8.toNat_inj.1 (by simpa using (by omega : s[0].toNat = 120)))
  have he := not_empty h0
  unfold maxLen at _hs
  clear hx
  go_enter Tryd.func21, Tryd.ntmps21
  go_wp2_with fail
  refine Calls.mono (HN.out _) ?_
  rintro e w1 ⟨rfl, hb1⟩
  have HB : Hid (Below (w.heap.size + 1) _ w1) := kept_end hb1
  obtain ⟨⟨c0, c1, c2⟩, ⟨f0, f1, f2⟩, hz⟩ := kept1 HB.out
  clear hb1
  go_wp2
  exact bodyPost_ret (v := .tuple #[V false n ⟨#[]⟩, .int .i64 k]) (by simp [results, Tryd.results21, go_sem, c0, c1, c2]) rfl ⟨rfl, below_end HB.out⟩

/-- What a text says: a text or a number, or nothing. -/
def readOf (s : ByteArray) : Option (Bool × Int × List UInt8) :=
  if s.data.toList.head? = some 120 then (textOf s).map fun l => (true, 0, l) else (numOf s.data.toList).map fun n => (false, n, [])
def ansOf (o : Option (Bool × Int × List UInt8)) : Value := match o with | some (t, n, l) => .tuple #[V t n ⟨l.toArray⟩, .int .i64 0] | none => .tuple #[V false 0 ⟨#[]⟩, .int .i64 10]
theorem head_of (s : ByteArray) (h : 0 < s.size) : s.data.toList.head? = some s[0] := by
  rw [List.head?_eq_getElem?]; exact byte_at s 0 h
theorem read_any (s : ByteArray) (w : World) (hs : s.size ≤ 281474976710656) (E : Env w) :
    Calls Tryd.prog 21 #[.string s] w fun e w' => e = .returned (ansOf (readOf s)) ∧ Below w.heap.size w w' := by
  have hm : s.size ≤ maxLen := by unfold maxLen; omega
  have HN : Hid (∀ o : Obj, Calls Tryd.prog 29 #[.string s] (w.alloc o) fun e w' => e = .returned (numAns (numOf s.data.toList)) ∧ Below (w.alloc o).heap.size (w.alloc o) w') := fun o => readNumber_any s _ hs (E.below ((Below.refl w.heap.size w).alloc (Nat.le_refl _) o) (Nat.le_refl _))
  by_cases h0 : 0 < s.size
  · by_cases hx : s[0] = 120
    · have hr : ansOf (readOf s) = readAns (textOf s) := by
        unfold readOf
        rw [head_of s h0, hx, if_pos rfl]
        cases textOf s <;> rfl
      rw [hr]
      exact read_text s w E.tab E.lt hm h0 hx
    · have hr : ansOf (readOf s) = numAns (numOf s.data.toList) := by
        unfold readOf
        rw [head_of s h0, if_neg (by simpa using hx)]
        cases numOf s.data.toList <;> rfl
      rw [hr]
      cases hn : numOf s.data.toList with
      | none => rw [hn] at HN; exact rd_number s 0 10 w h0 hm hx HN
      | some n => rw [hn] at HN; exact rd_number s n 0 w h0 hm hx HN
  · obtain rfl : s = ⟨#[]⟩ := by
      apply empty_of
      rw [ByteArray.toList_eq]
      have : s.data.toList.length = 0 := by simp only [Array.length_toList]; have e : s.size = s.data.size := rfl; omega
      exact List.isEmpty_iff.2 (List.eq_nil_of_length_eq_zero this)
    have hr : ansOf (readOf ⟨#[]⟩) = .tuple #[V false 0 ⟨#[]⟩, .int .i64 10] := rfl
    rw [hr]
    have hn : numOf (⟨#[]⟩ : ByteArray).data.toList = none := rfl
    rw [hn] at HN
    exact rd_empty (.int .i64 0) 0 w HN rfl
/-- A value's text. -/
def showL (t : Bool) (n : Int) (s : ByteArray) : List UInt8 := if rightV t n s = true then (if t = true then 120 :: shex s.data.toList else Lib.itoa n) else []
theorem show_any (t : Bool) (n : Int) (s : ByteArray) (w : World) (hn : fits n = true) (hs : s.size ≤ maxLen) (E : Env w) :
    Calls Tryd.prog 23 #[V t n s] w fun e w' => e = .returned (.string ⟨(showL t n s).toArray⟩) ∧ Below w.heap.size w w' := by
  unfold showL
  cases hr : rightV t n s
  · rw [if_neg (by simp)]; exact show_wrong t n s w hs hr
  · rw [if_pos rfl]
    cases t
    · rw [if_neg (by simp)]
      obtain rfl := empty_of (by simpa [rightV] using hr)
      exact show_number n w hn E
    · rw [if_pos rfl]
      simp only [rightV, if_true, Bool.and_eq_true, beq_iff_eq, decide_eq_true_eq] at hr
      obtain ⟨rfl, hl⟩ := hr
      exact show_text s w E.tab E.lt hl
end Go.Proofs.YtmgkjojifhchkaaDoor.Val
