/- What the reference's Show and Read answer: the same as the program's. -/
import Derived.Test.YtmgkjojifhchkaaDoorRefReadText
import Derived.Test.YtmgkjojifhchkaaDoorReadAny
namespace Go.Proofs.YtmgkjojifhchkaaDoor.Val
open Go.RowKit

theorem rshow_any (t : Bool) (n : Int) (s : ByteArray) (w : World) (hn : fits n = true) (hs : s.size ≤ maxLen) :
    Calls Tryd.prog 24 #[V t n s] w fun e w' => e = .returned (.string ⟨(showL t n s).toArray⟩) ∧ Below w.heap.size w w' := by
  unfold showL
  cases hr : rightV t n s
  · rw [if_neg (by simp)]; exact rshow_wrong t n s w hs hr
  · rw [if_pos rfl]
    cases t
    · rw [if_neg (by simp)]
      obtain rfl := empty_of (by simpa [rightV] using hr)
      exact rshow_number n w hn
    · rw [if_pos rfl]
      simp only [rightV, if_true, Bool.and_eq_true, beq_iff_eq, decide_eq_true_eq] at hr
      obtain ⟨rfl, hl⟩ := hr
      exact rshow_text s w hl
theorem unhex_even {p l : List UInt8} (h : unhex p = some l) : p.length = 2 * l.length := by
  by_cases ho : p.length % 2 = 1
  · rw [unhex_odd (p.length / 2) p (by omega)] at h; cases h
  · have := unhex_length (p.length / 2) p l (by omega) h
    omega
theorem raw_le : ∀ l : List UInt8, (raw l).length ≤ l.length
  | [] => Nat.le_refl _
  | [_] => Nat.zero_le _
  | a :: b :: r => by
    have := raw_le r
    simp only [raw, List.length_cons]
    omega
theorem tail_data (s : ByteArray) : (s.extract 1 s.size).data.toList = s.data.toList.drop 1 := by
  rw [Lib.extract_data]
  rw [List.take_of_length_le (by rw [List.length_drop, ← Lib.size_eq]; omega)]
theorem head_drop {l : List UInt8} {c : UInt8} (h : l.head? = some c) : l = c :: l.drop 1 := by
  cases l with
  | nil => cases h
  | cons a r => simp at h; subst h; rfl
/-- The reference's text shows as what was read just if the program reads it so. -/
theorem textOf_ref (s : ByteArray) (hx : s.data.toList.head? = some 120) :
    textOf s = if showL true 0 ⟨(raw (s.data.toList.drop 1)).toArray⟩ = s.data.toList then some (raw (s.data.toList.drop 1)) else none := by
  have hh := head_drop hx
  have hsz : (s.extract 1 s.size).size = (s.data.toList.drop 1).length := by rw [Lib.size_eq, tail_data]
  by_cases h : showL true 0 ⟨(raw (s.data.toList.drop 1)).toArray⟩ = s.data.toList
  · rw [if_pos h]
    unfold showL at h
    split at h
    · rename_i hr
      rw [if_pos rfl] at h
      have ht : shex (raw (s.data.toList.drop 1)) = s.data.toList.drop 1 := by
        have h2 : (120 : UInt8) :: shex (raw (s.data.toList.drop 1)) = s.data.toList := h
        rw [hh] at h2
        exact (List.cons.inj h2).2
      have hl : (raw (s.data.toList.drop 1)).length ≤ 12 := by
        simp only [rightV, if_true, Bool.and_eq_true, beq_iff_eq, decide_eq_true_eq] at hr
        have := hr.2
        rw [Lib.size_eq] at this
        exact this
      unfold textOf
      rw [if_pos, tail_data, ← ht, unhex_shex, raw_shex]
      rw [hsz, ← ht, shex_length]
      omega
    · exfalso
      rw [← h] at hx
      cases hx
  · rw [if_neg h]
    cases hc : textOf s with
    | none => rfl
    | some l =>
      exfalso
      apply h
      unfold textOf at hc
      split at hc
      · rename_i hle
        rw [tail_data] at hc
        have hev := unhex_even hc
        have hsx := shex_unhex l.length _ l hev hc
        rw [hsz, hev] at hle
        have hraw : raw (s.data.toList.drop 1) = l := by rw [← hsx, raw_shex]
        rw [hraw]
        have hr : rightV true 0 ⟨l.toArray⟩ = true := by
          simp only [rightV, if_true, Bool.and_eq_true, beq_iff_eq, decide_eq_true_eq, true_and]
          rw [Lib.size_eq]
          show l.length ≤ 12
          omega
        unfold showL
        rw [if_pos hr, if_pos rfl]
        show (120 : UInt8) :: shex l = _
        rw [hsx]
        exact hh.symm
      · cases hc
theorem rread_any (s : ByteArray) (w : World) (hs : s.size ≤ 1000) :
    Calls Tryd.prog 22 #[.string s] w fun e w' => e = .returned (ansOf (readOf s)) ∧ Below w.heap.size w w' := by
  by_cases h0 : 0 < s.size
  · by_cases hx : s[0] = 120
    · have hd : s.data.toList.head? = some 120 := by rw [head_of s h0, hx]
      have hraw : (⟨(raw (s.data.toList.drop 1)).toArray⟩ : ByteArray).size ≤ maxLen := by
        rw [Lib.size_eq]
        show (raw (s.data.toList.drop 1)).length ≤ maxLen
        have hle : (raw (s.data.toList.drop 1)).length ≤ (s.data.toList.drop 1).length := raw_le _
        rw [List.length_drop, ← Lib.size_eq] at hle
        unfold maxLen
        omega
      have hr : ansOf (readOf s) = if (decide (showL true 0 ⟨(raw (s.data.toList.drop 1)).toArray⟩ = s.data.toList)) = true then .tuple #[V true 0 ⟨(raw (s.data.toList.drop 1)).toArray⟩, .int .i64 0] else .tuple #[V false 0 ⟨#[]⟩, .int .i64 10] := by
        unfold readOf
        rw [if_pos hd, textOf_ref s hd]
        by_cases h : showL true 0 ⟨(raw (s.data.toList.drop 1)).toArray⟩ = s.data.toList
        · rw [if_pos h, if_pos (by simpa using h)]; rfl
        · rw [if_neg h, if_neg (by simpa using h)]; rfl
      rw [hr]
      exact rread_text s _ _ w hs h0 (by rw [hx]; rfl) rfl _ (by rw [toList_mk, ByteArray.toList_eq, Bool.eq_iff_iff, beq_iff_eq, decide_eq_true_iff]) (fun w1 => rshow_any true 0 _ w1 (by decide) hraw)
    · have hd : ¬ s.data.toList.head? = some 120 := by rw [head_of s h0]; simpa using hx
      have hf := refNum_fits s.data.toList
      have hm : (s.data.toList.head? = some 45) ↔ ((s[0].toNat : Int) == 45) = true := by
        rw [head_of s h0, beq_iff_eq]
        constructor
        · intro e; simp only [Option.some.injEq] at e; rw [e]; rfl
        · intro e; exact congrArg some (UInt8.toNat_inj.1 (by show s[0].toNat = 45; omega))
      have hn : (if ((s[0].toNat : Int) == 45) = true then foldN s.data.toList else wrap64 (-foldN s.data.toList)) = refNum s.data.toList := by
        unfold refNum
        by_cases h : s.data.toList.head? = some 45
        · rw [if_pos h, if_pos (hm.1 h)]
        · rw [if_neg h, if_neg (fun e => h (hm.2 e))]
      have hshow : showL false (refNum s.data.toList) ⟨#[]⟩ = Lib.itoa (refNum s.data.toList) := by
        have hr : rightV false (refNum s.data.toList) ⟨#[]⟩ = true := by
          show ByteArray.toList ⟨#[]⟩ |>.isEmpty
          rw [ByteArray.toList_eq]; rfl
        unfold showL
        rw [if_pos hr, if_neg (by simp)]
      have hr : ansOf (readOf s) = if (decide (Lib.itoa (refNum s.data.toList) = s.data.toList)) = true then .tuple #[V false (refNum s.data.toList) ⟨#[]⟩, .int .i64 0] else .tuple #[V false 0 ⟨#[]⟩, .int .i64 10] := by
        unfold readOf
        rw [if_neg hd, numOf_ref]
        by_cases h : Lib.itoa (refNum s.data.toList) = s.data.toList
        · rw [if_pos h, if_pos (by simpa using h)]; rfl
        · rw [if_neg h, if_neg (by simpa using h)]; rfl
      rw [hr]
      refine rread_num s ⟨(Lib.itoa (refNum s.data.toList)).toArray⟩ _ _ w hs h0 ?_ rfl hn _ (by rw [toList_mk, ByteArray.toList_eq, Bool.eq_iff_iff, beq_iff_eq, decide_eq_true_iff]) (fun w1 => ?_)
      · rw [beq_eq_false_iff_ne]
        intro e
        exact hx (UInt8.toNat_inj.1 (by show s[0].toNat = 120; omega))
      · have := rshow_any false (refNum s.data.toList) ⟨#[]⟩ w1 hf (by decide)
        rw [hshow] at this
        exact this
  · obtain rfl : s = ⟨#[]⟩ := by
      apply empty_of
      rw [ByteArray.toList_eq]
      have : s.data.toList.length = 0 := by rw [← Lib.size_eq]; omega
      exact List.isEmpty_iff.2 (List.eq_nil_of_length_eq_zero this)
    exact rread_empty w
end Go.Proofs.YtmgkjojifhchkaaDoor.Val
