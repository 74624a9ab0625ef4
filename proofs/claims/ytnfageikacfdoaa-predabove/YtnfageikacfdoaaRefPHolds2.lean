/- What the reference's Holds answers: by its parts. -/
import Derived.Test.YtnfageikacfdoaaRefPHolds
namespace Go.Proofs.Ytnfageikacfdoaa.Val
open Go.RowKit

/-- What holds of the first k. -/
structure Sofar (r : List Val) (l : List PT) (k : Nat) (fa fs ff : Bool) : Prop where
  all : fa = ((l.take k).map (holdsP r)).all id
  any : fs = ((l.take k).map (holdsP r)).any id
  one : ff = (((l.take k).map (holdsP r)).head?).getD false
theorem Sofar.next {r : List Val} {l : List PT} {k : Nat} {fa fs ff : Bool} (h : Sofar r l k fa fs ff) (hk : k < l.length) : Sofar r l (k + 1) (fa && holdsP r l[k]) (fs || holdsP r l[k]) (if k = 0 then holdsP r l[k] else ff) := by
  obtain ⟨h1, h2, h3⟩ := h
  have ht : l.take (k + 1) = l.take k ++ [l[k]] := by rw [List.take_add_one, List.getElem?_eq_getElem hk]; rfl
  refine ⟨?_, ?_, ?_⟩
  · rw [ht, h1, List.map_append, List.all_append]; simp only [List.map_cons, List.map_nil, List.all_cons, List.all_nil, id, Bool.and_true]
  · rw [ht, h2, List.map_append, List.any_append]; simp only [List.map_cons, List.map_nil, List.any_cons, List.any_nil, id, Bool.or_false]
  · cases l with
    | nil => simp at hk
    | cons q l =>
      cases k with
      | zero => simp
      | succ k => rw [h3]; simp
theorem Sofar.end {r : List Val} {p : PT} {fa fs ff : Bool} (h : Sofar r p.l p.l.length fa fs ff) (hn : ¬ (3 ≤ p.op ∧ p.op ≤ 9)) : holdsP r p = if p.op = 1 then true else if p.op = 10 then !ff else if p.op = 11 then fa else if p.op = 12 then fs else false := by
  obtain ⟨h1, h2, h3⟩ := h
  rw [List.take_length] at h1 h2 h3
  by_cases e1 : p.op = 1
  · rw [if_pos e1, holds_1 e1]
  rw [if_neg e1]
  by_cases e2 : p.op = 10
  · rw [if_pos e2, holds_10 e2, h3]
  rw [if_neg e2]
  by_cases e3 : p.op = 11
  · rw [if_pos e3, holds_11 e3, h1]
  rw [if_neg e3]
  by_cases e4 : p.op = 12
  · rw [if_pos e4, holds_12 e4, h2]
  rw [if_neg e4, holds_leaf e1 e2 e3 e4]
  unfold leafB
  split
  · rfl
  · split
    · rfl
    · unfold standB
      rw [if_neg (by omega), if_neg (by omega), if_neg (by omega), if_neg (by omega), if_neg (by omega), if_neg (by omega), if_neg (by omega)]
set_option maxHeartbeats 4000000 in
theorem rholds_step (vr : Value) (r : List Val) (p : PT) (hn : (decide (3 ≤ p.op) = false) ∨ (3 ≤ p.op ∧ decide (p.op ≤ 9) = false)) (ih : ∀ q ∈ p.l, RHoldsOk vr r q) : RHoldsOk vr r p := by
  intro w hi hr
  obtain ⟨ao, c, hlv, hln⟩ := hi.lies.slice
  have HI : Hid (In w p ∧ RowIn w vr r ∧ ∀ q ∈ p.l, RHoldsOk vr r q) := ⟨hi, hr, ih⟩
  have HLV : Hid (p.lv = .slice ao p.l.length c) := hlv
  have HN : Hid (¬ (3 ≤ p.op ∧ p.op ≤ 9)) := by
    rw [Hid]; intro ⟨h1, h2⟩
    rcases hn with h | ⟨_, h⟩
    · simp at h; omega
    · simp at h; omega
  obtain ⟨op, hop⟩ : ∃ op, p.op = op := ⟨_, rfl⟩
  have HOP : Hid (p.op = op) := hop
  rw [hop] at hn
  clear hi hr ih
  unfold PT.val
  rw [hlv, hop]
  clear hlv hop
  have START : ∀ Q : Prop, (Hid (Box (w.alloc (pobj p 26)) w.heap.size p) → Q) → Q := fun Q h => h (Box.new w p _)
  obtain ⟨a, ha⟩ : ∃ a, holdsP r p = a := ⟨_, rfl⟩
  have HANS : Hid (holdsP r p = a) := ha
  rw [ha]
  clear ha START
  rcases hn with hn | ⟨hn1, hn⟩
  all_goals
    go_enter Try.func14, Try.ntmps14
    go_wp2_with fail
    go_loopw [5, 6, 7, 8] (fun ua us uf i wr => ∃ (k : Nat) (fa fs ff : Bool), k ≤ p.l.length ∧ ua = .bool fa ∧ us = .bool fs ∧ uf = .bool ff ∧ i = .int .i64 k ∧ Hid (Sofar r p.l k fa fs ff) ∧ Hid (Below w.heap.size w wr ∧ Box wr w.heap.size p))
      (fun _ _ _ i _ => p.l.length - (intOf i).toNat)
    case atStart => exact ⟨0, true, false, false, Nat.zero_le _, rfl, rfl, rfl, rfl, ⟨by simp, by simp, by simp⟩, alloc1 _ _, by have := Box.new w p 26; rw [pobj, HLV.out, HOP.out] at this; exact this⟩
    case round =>
      obtain ⟨k, fa, fs, ff, hk, rfl, rfl, rfl, rfl, HF, HB⟩ := hrel
      have hc := HB.out.2.c8
      rw [HLV.out] at hc
      have hlt : w.heap.size < wr.heap.size := World.block_lt_of_cell? _ _ hc
      by_cases h1 : k < p.l.length
      · have i0 : (0 : Int) ≤ (k : Int) := by omega
        have i1 : (k : Int) < (p.l.length : Int) := by omega
        have hin : In wr p := HI.out.1.keep HB.out.1
        have hl := hin.lies
        rw [HLV.out] at hl
        obtain ⟨b, o, rfl, hat⟩ := lies_at hl k h1
        have hm := List.getElem_mem h1
        obtain ⟨g, hg⟩ : ∃ g, holdsP r p.l[k] = g := ⟨_, rfl⟩
        have HQ : Hid (Calls Try.prog 14 #[p.l[k].val, vr] wr fun e w' => e = .returned (.bool g) ∧ Below wr.heap.size wr w') := by
          rw [← hg]; exact HI.out.2.2 _ hm wr (hin.part _ hm) (HI.out.2.1.below HB.out.1)
        have hnx := HF.out.next h1
        rw [hg] at hnx
        have HF1 : Hid (Sofar r p.l (k + 1) (fa && g) (fs || g) (if k = 0 then g else ff)) := hnx
        clear hm hl hin hg hnx HF
        obtain ⟨c0, c1, c2, c3, c4, c5, c6, c7, c8⟩ := hat
        unfold PT.val at HQ
        go_wp2_with fail
        refine Calls.mono HQ.out ?_
        rintro e w1 ⟨rfl, hb⟩
        have HB1 : Hid (Below w.heap.size w w1 ∧ Box w1 w.heap.size p) := ⟨on HB.out.1 hb, HB.out.2.below hb⟩
        clear hb HB hc c0 c1 c2 c3 c4 c5 c6 c7 c8 HQ hlt
        by_cases h0 : k = 0
        · subst h0
          cases fa <;> cases fs
          all_goals
            go_wp2_with fail
            go_roundw
            case rel => exact ⟨1, _, _, _, by omega, rfl, rfl, rfl, by go_num, HF1, HB1⟩
            case measure => simp [intOf]; omega
        · have h0' : ((k : Int) == 0) = false := by rw [beq_eq_false_iff_ne]; omega
          have HF2 : Hid (Sofar r p.l (k + 1) (fa && g) (fs || g) ff) := by have := HF1.out; rw [if_neg h0] at this; exact this
          clear HF1
          cases fa <;> cases fs
          all_goals
            go_wp2_with fail
            go_roundw
            case rel => exact ⟨k + 1, _, _, _, by omega, rfl, rfl, rfl, by go_num, HF2, HB1⟩
            case measure => simp [intOf]; omega
      · have i1 : decide ((k : Int) < (p.l.length : Int)) = false := by simp; omega
        obtain rfl : k = p.l.length := by omega
        have hend := HF.out.end HN.out
        rw [HANS.out, HOP.out] at hend
        have HE : Hid (a = if op = 1 then true else if op = 10 then !ff else if op = 11 then fa else if op = 12 then fs else false) := hend
        have b0 := HB.out.2.c0
        rw [HOP.out] at b0
        clear HI HF hend HANS HOP HN
        by_cases e1 : op = 1
        · first
            | (exfalso; omega)
            | (subst e1; go_wp2_with fail; go_ret; exact ⟨ret_b3 (by rw [HE.out]; rfl), HB.out.1⟩)
            | fail
        have e1' : (op == 1) = false := by simpa using e1
        by_cases e2 : op = 10
        · subst e2
          go_wp2_with fail
          go_ret
          exact ⟨ret_b3 (by rw [HE.out]; rfl), HB.out.1⟩
        have e2' : (op == 10) = false := by simpa using e2
        by_cases e3 : op = 11
        · subst e3
          go_wp2_with fail
          go_ret
          exact ⟨ret_b3 (by rw [HE.out]; rfl), HB.out.1⟩
        have e3' : (op == 11) = false := by simpa using e3
        by_cases e4 : op = 12
        · subst e4
          go_wp2_with fail
          go_ret
          exact ⟨ret_b3 (by rw [HE.out]; rfl), HB.out.1⟩
        have e4' : (op == 12) = false := by simpa using e4
        have HE2 : Hid (a = false) := by have := HE.out; rw [if_neg e1, if_neg e2, if_neg e3, if_neg e4] at this; exact this
        clear e1 e2 e3 e4 HE
        go_wp2_with fail
        go_ret
        exact ⟨ret_b3 (by rw [HE2.out]), HB.out.1⟩
theorem rholds_ok (vr : Value) (r : List Val) (hok : RowOk r) (p : PT) : RHoldsOk vr r p := by
  induction p using PT.ind with
  | h p ih =>
    by_cases h : 3 ≤ p.op ∧ p.op ≤ 9
    · exact rholds_leaf vr r hok p h
    · refine rholds_step vr r p ?_ ih
      by_cases h3 : 3 ≤ p.op
      · exact .inr ⟨h3, by simp; omega⟩
      · exact .inl (by simpa using h3)
end Go.Proofs.Ytnfageikacfdoaa.Val
