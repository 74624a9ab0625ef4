/- The walk of UndoFull. -/
import Derived.Test.YtbfoplaccalegaaUndoAwake
import Derived.Test.YtbfoplaccalegaaOpenEnt
import Derived.Lib.MinMax
namespace Go.Proofs.Ytbfoplaccalegaa.Val
open Go Go.RowKit

/-- So many times the same entry pushed. -/
def many (L : Lg) (e : En) : Nat → Lg
  | 0 => L
  | n + 1 => (many L e n).push e
def fullL (room : Int) : Lg := (newL (capR room)).put 2 (some 0)
theorem many_met (L : Lg) (e : En) (n : Nat) : (many L e n).met.length ≤ L.met.length + 1 ∧ ((many L e n).met = L.met ∨ inMet (many L e n).met (e.t, e.k) = true) := by
  induction n with
  | zero => exact ⟨by simp [many], .inl rfl⟩
  | succ n ih =>
    rw [many, Lg.push]
    split
    · show ((many L e n).meet (e.t, e.k)).met.length ≤ _ ∧ (((many L e n).meet (e.t, e.k)).met = L.met ∨ inMet ((many L e n).meet (e.t, e.k)).met (e.t, e.k) = true)
      unfold Lg.meet
      split
      · exact ⟨ih.1, .inr ‹_›⟩
      · rename_i h
        refine ⟨?_, .inr (inMet_iff.2 (by simp))⟩
        rcases ih.2 with e1 | e1
        · simp [e1]
        · exact absurd e1 h
    · exact ih
theorem many_es (L : Lg) (e : En) (n : Nat) (h : L.es.length + n ≤ L.room) : (many L e n).es = L.es ++ List.replicate n e ∧ (many L e n).room = L.room ∧ (many L e n).s2 = L.s2 := by
  induction n with
  | zero => simp [many]
  | succ n ih =>
    obtain ⟨e1, e2, e3⟩ := ih (by omega)
    have hl : (many L e n).es.length < (many L e n).room := by rw [e1, e2, List.length_append, List.length_replicate]; omega
    rw [many, Lg.push, if_pos hl]
    refine ⟨?_, (meet_es _ _).2.1.trans e2, (meet_es _ _).2.2.2.1.trans e3⟩
    show (many L e n).es ++ [e] = _
    rw [e1, List.replicate_succ', List.append_assoc]
theorem full_es (room : Int) (e : En) (k : Nat) (hk : k ≤ capR room) : (many (fullL room) e k).es = List.replicate k e ∧ (many (fullL room) e k).room = capR room ∧ (many (fullL room) e k).s2 = some 0 ∧ (many (fullL room) e k).met.length ≤ 1000 := by
  obtain ⟨e1, e2, e3⟩ := many_es (fullL room) e k (by simp [fullL, newL, Lg.put]; exact hk)
  have h := (many_met (fullL room) e k).1
  exact ⟨e1.trans (by simp [fullL, newL, Lg.put]), e2.trans (by simp [fullL, newL, Lg.put]), e3.trans (by simp [fullL, Lg.put]), by have h0 : (fullL room).met.length = 0 := by { simp [fullL, newL, Lg.put] }; omega⟩
theorem full_len (room : Int) (e : En) (k : Nat) (hk : k ≤ capR room) : (many (fullL room) e k).es.length = k := by rw [(full_es room e k hk).1, List.length_replicate]
theorem full_law (room : Int) (e : En) (W : World) (ge : GoodE W e) : Calls Try.prog 5 #[.int .i64 room, e.val] W fun x w' => x = .returned (.bool true) ∧ Below W.heap.size W w' := by
  have HA : Hid (∀ w1, Calls Try.prog 8 #[] w1 fun e w' => e = .returned (.bool true) ∧ Below w1.heap.size w1 w') := awake_any
  have HE : Hid (EB (W.alloc (eobj e)) W.heap.size e ∧ GoodE (W.alloc (eobj e)) e ∧ Below W.heap.size W (W.alloc (eobj e))) := ⟨EB.new W e, ⟨ge.1, ge.2.1.below (alloc1 _ _), ge.2.2⟩, alloc1 _ _⟩
  have HN : Hid (min (max room 0) 60 = (capR room : Int)) := (capR_int room).symm
  clear ge
  go_enter Try.func5, Try.ntmps5
  go_wp2_with fail
  generalize W.alloc (eobj e) = W1 at *
  refine Calls.mono (HA.out _) ?_
  rintro x w1 ⟨rfl, hb⟩
  have HB1 : Hid (Below W1.heap.size W1 w1) := hb
  clear hb HA
  go_wp2_with fail
  refine Calls.mono (new_q W1 w1 room HB1.out) ?_
  rintro x w2 ⟨p, rfl, q⟩
  have HQ2 : Hid (QU W1 w2 p (newL (capR room)) []) := q
  clear q HB1
  go_wp2_with fail
  rw [HN.out]
  refine Calls.mono (save_q HQ2.out 2 (by decide)) ?_
  rintro x w3 ⟨rfl, q⟩
  have HQ3 : Hid (QU W1 w3 p (fullL room) []) := q
  clear q HQ2
  go_wp2_with fail
  have HI : Hid (capR room ≤ 60) := capR_le room
  go_loopw [8] (fun i wr => ∃ k : Nat, k ≤ capR room ∧ i = .int .i64 k ∧ Hid (QU W1 wr p (many (fullL room) e k) [])) (fun i _ => capR room - (intOf i).toNat)
  case atStart => exact ⟨0, Nat.zero_le _, rfl, HQ3⟩
  case round =>
    obtain ⟨k, hk, rfl, HQ⟩ := hrel
    clear HQ3
    obtain ⟨d0, d1, d2, d3, d4⟩ := (HE.out.1.below HQ.out.blw).cells
    rcases Nat.lt_or_ge k (capR room) with h1 | h1
    · have i1 : (k : Int) < capR room := by omega
      have i2 : IntKind.i64.wrap ((k : Int) + 1) = k + 1 := by have := HI.out; rw [IntKind.wrap_i64]; omega
      have HP : Hid _ := push_q HQ.out e HE.out.2.1.1 HE.out.2.1.2.1 HE.out.2.1.2.2 (full_es room e k hk).2.2.2
      rw [pushE, full_len room e k hk, (full_es room e k hk).2.1, if_pos h1] at HP
      have HJ : Hid (k < capR room) := h1
      clear HQ hk h1
      go_wp2_with fail
      refine Calls.mono HP.out ?_
      rintro x w4 ⟨rfl, q⟩
      have HQ4 : Hid (QU W1 w4 p (many (fullL room) e (k + 1)) []) := q
      clear q HP d0 d1 d2 d3 d4
      go_wp2_with fail
      go_roundw
      case rel => exact ⟨k + 1, HJ.out, by simp, HQ4⟩
      case measure => have := HJ.out; simp [intOf]; omega
    · obtain rfl : k = capR room := by omega
      clear hk h1
      have hF := full_es room e (capR room) (Nat.le_refl _)
      have hL := full_len room e (capR room) (Nat.le_refl _)
      have HP : Hid _ := push_q HQ.out e HE.out.2.1.1 HE.out.2.1.2.1 HE.out.2.1.2.2 hF.2.2.2
      rw [pushE, Lg.push, hL, hF.2.1, if_neg (Nat.lt_irrefl _), if_neg (Nat.lt_irrefl _)] at HP
      have HF : Hid _ := And.intro hF hL
      clear HQ hF hL
      go_wp2_with fail
      refine Calls.mono HP.out ?_
      rintro x w4 ⟨rfl, q⟩
      have HQ4 : Hid (QU W1 w4 p (many (fullL room) e (capR room)) []) := q
      clear q HP d0 d1 d2 d3 d4
      go_wp2_with fail
      refine Calls.mono (len_q HQ4.out) ?_
      rintro x w5 ⟨rfl, q⟩
      rw [HF.out.2]
      have HQ5 : Hid (QU W1 w5 p (many (fullL room) e (capR room)) []) := q
      clear q HQ4
      go_wp2_with fail
      refine Calls.mono (back_q HQ5.out 2 (by decide) 0 (by simpa [Lg.get] using HF.out.1.2.2.1) (Nat.zero_le _)) ?_
      rintro x w6 ⟨v, rfl, q⟩
      obtain ⟨av, cv, rfl, -⟩ := q.slice (v := v) (l := ((many (fullL room) e (capR room)).es.drop 0).reverse) (by simp)
      have hlen : ((many (fullL room) e (capR room)).es.drop 0).reverse.length = capR room := by rw [List.length_reverse, List.drop_zero, HF.out.2]
      rw [hlen] at q ⊢
      have HQ6 : Hid (QU W1 w6 p ((many (fullL room) e (capR room)).back 0) []) := q.less (by simp)
      obtain ⟨d0, d1, d2, d3, d4⟩ := (HE.out.1.below q.blw).cells
      clear q HQ5 hlen
      go_wp2_with fail
      refine Calls.mono (push_q HQ6.out e HE.out.2.1.1 HE.out.2.1.2.1 HE.out.2.1.2.2 HF.out.1.2.2.2) ?_
      rintro x w7 ⟨rfl, q⟩
      have HZ : Hid (Below W.heap.size W w7) := HE.out.2.2.trans (q.blw.mono HE.out.2.2.size)
      have hpe : pushE ((many (fullL room) e (capR room)).back 0) = if 0 < capR room then 0 else 62 := by simp [pushE, Lg.back, HF.out.1.2.1]
      rw [hpe]
      clear q HQ6 d0 d1 d2 d3 d4 hpe
      go_wp2_with fail
      all_goals
        go_ret
        exact ⟨rfl, HZ.out⟩
end Go.Proofs.Ytbfoplaccalegaa.Val
