/- What the law's awake answers: the document's example holds. -/
import Derived.Test.YtbfoplaccalegaaUndoQ
namespace Go.Proofs.Ytbfoplaccalegaa.Val
open Go Go.RowKit

def ent (t : Int) : En := ⟨t, Val.zero, [], .slice none 0 0⟩
theorem row_nil (w : World) : RowIn w (.slice none 0 0) [] := ⟨none, 0, rfl, Nat.le_refl _, Nat.zero_le _, fun _ => ⟨rfl, rfl⟩, .inl rfl⟩
def awA : Lg := ⟨9, [ent 1], none, none, none, [(1, Val.zero)]⟩
def awB : Lg := ⟨9, [ent 1], some 1, none, none, [(1, Val.zero)]⟩
def awC : Lg := ⟨9, [ent 1, ent 2], some 1, none, none, [(1, Val.zero), (2, Val.zero)]⟩
def awD : Lg := ⟨9, [ent 1, ent 2, ent 3], some 1, none, none, [(1, Val.zero), (2, Val.zero), (3, Val.zero)]⟩
def awE : Lg := ⟨9, [ent 1, ent 2, ent 3], some 1, some 3, none, [(1, Val.zero), (2, Val.zero), (3, Val.zero)]⟩
def awF : Lg := ⟨9, [ent 1], some 1, none, none, [(1, Val.zero), (2, Val.zero), (3, Val.zero)]⟩
theorem aw_push1 : (newL 9).push (ent 1) = awA := by simp [newL, Lg.push, Lg.meet, inMet, awA, ent]
theorem aw_push2 : awB.push (ent 2) = awC := by simp [Lg.push, Lg.meet, inMet, awB, awC, ent]
theorem aw_push3 : awC.push (ent 3) = awD := by simp [Lg.push, Lg.meet, inMet, awC, awD, ent]
theorem aw_back : awE.back 1 = awF := by simp [Lg.back, clr, awE, awF]
theorem aw_back2 : awF.back 1 = awF := by simp [Lg.back, clr, awF]
theorem ent_ok (t : Int) (h : fits t = true) : okS ((ent t).t, (ent t).k) := ⟨h, (by decide : fits 0 = true), (by decide : (⟨#[]⟩ : ByteArray).size ≤ maxLen)⟩
theorem awake_any (w : World) : Calls Try.prog 8 #[] w fun e w' => e = .returned (.bool true) ∧ Below w.heap.size w w' := by
  go_enter Try.func8, Try.ntmps8
  go_wp2_with fail
  refine Calls.mono (new_q w w 9 (Below.refl _ _)) ?_
  rintro e w1 ⟨p, rfl, q⟩
  have HQ1 : Hid (QU w w1 p (newL 9) []) := q
  clear q
  go_wp2_with fail
  refine Calls.mono (push_q HQ1.out (ent 1) (ent_ok 1 (by decide)) (row_nil _) (by decide) (by decide)) ?_
  rintro e w2 ⟨rfl, q⟩
  rw [aw_push1] at q
  have HQ2 : Hid (QU w w2 p awA []) := q
  clear q HQ1
  go_wp2_with fail
  refine Calls.mono (save_q HQ2.out 1 (by decide)) ?_
  rintro e w3 ⟨rfl, q⟩
  have HQ3 : Hid (QU w w3 p awB []) := q
  clear q HQ2
  go_wp2_with fail
  refine Calls.mono (push_q HQ3.out (ent 2) (ent_ok 2 (by decide)) (row_nil _) (by decide) (by decide)) ?_
  rintro e w4 ⟨rfl, q⟩
  rw [aw_push2] at q
  have HQ4 : Hid (QU w w4 p awC []) := q
  clear q HQ3
  go_wp2_with fail
  refine Calls.mono (push_q HQ4.out (ent 3) (ent_ok 3 (by decide)) (row_nil _) (by decide) (by decide)) ?_
  rintro e w5 ⟨rfl, q⟩
  rw [aw_push3] at q
  have HQ5 : Hid (QU w w5 p awD []) := q
  clear q HQ4
  go_wp2_with fail
  refine Calls.mono (save_q HQ5.out 2 (by decide)) ?_
  rintro e w6 ⟨rfl, q⟩
  have HQ6 : Hid (QU w w6 p awE []) := q
  clear q HQ5
  go_wp2_with fail
  refine Calls.mono (back_q HQ6.out 1 (by decide) 1 rfl (by decide)) ?_
  rintro e w7 ⟨va, rfl, q⟩
  rw [aw_back] at q
  have HQ7 : Hid (QU w w7 p awF [(va, [ent 3, ent 2])]) := q
  clear q HQ6
  go_wp2_with fail
  refine Calls.mono (back_qn HQ7.out 2 (fun _ => rfl)) ?_
  rintro e w8 ⟨rfl, q⟩
  have HQ8 : Hid (QU w w8 p awF [(va, [ent 3, ent 2])]) := q
  clear q HQ7
  go_wp2_with fail
  refine Calls.mono (back_q HQ8.out 1 (by decide) 1 rfl (by decide)) ?_
  rintro e w9 ⟨vb, rfl, q⟩
  rw [aw_back2] at q
  have HQ9 : Hid (QU w w9 p awF [(vb, []), (va, [ent 3, ent 2])]) := q
  clear q HQ8
  go_wp2_with fail
  refine Calls.mono (all_q HQ9.out) ?_
  rintro e w10 ⟨vc, rfl, q⟩
  have HQ : Hid (QU w w10 p (newL 9) [(vc, [ent 1]), (vb, []), (va, [ent 3, ent 2])]) := q
  clear q HQ9
  obtain ⟨aa, ca, rfl, -⟩ := HQ.out.slice (v := va) (l := [ent 3, ent 2]) (by simp)
  obtain ⟨ab, cb, rfl, -⟩ := HQ.out.slice (v := vb) (l := []) (by simp)
  obtain ⟨ac, cc, rfl, -⟩ := HQ.out.slice (v := vc) (l := [ent 1]) (by simp)
  obtain ⟨b1, o1, r1, rfl, d1, -⟩ := HQ.out.at (l := [ent 3, ent 2]) (ao := aa) (c := ca) (n := [ent 3, ent 2].length) (by simp) 0 (by simp)
  obtain ⟨b2, o2, r2, rfl, d2, -⟩ := HQ.out.at (l := [ent 1]) (ao := ac) (c := cc) (n := [ent 1].length) (by simp) 0 (by simp)
  simp [ent] at d1 d2
  go_wp2_with fail
  go_ret
  exact ⟨rfl, HQ.out.blw⟩
end Go.Proofs.Ytbfoplaccalegaa.Val
