/- What pred.Same answers. -/
import Derived.Test.YtnfageikacfdoaaPredBox
namespace Go.Proofs.Ytnfageikacfdoaa.Val
open Go.RowKit

theorem bare_iff (p q : PT) : p.bare = q.bare ↔ p.op = q.op ∧ p.col = q.col ∧ p.v = q.v ∧ p.w = q.w ∧ p.l.map PT.bare = q.l.map PT.bare := by
  cases p with | mk o c v u lv l => cases q with | mk o' c' v' u' lv' l' =>
  rw [bare_mk, bare_mk]
  simp
theorem take_bare {l m : List PT} {k : Nat} (hk : k < l.length) (hk' : k < m.length) (h : (l.take k).map PT.bare = (m.take k).map PT.bare) : ((l.take (k + 1)).map PT.bare = (m.take (k + 1)).map PT.bare) ↔ l[k].bare = m[k].bare := by
  rw [List.take_add_one, List.take_add_one, List.map_append, List.map_append, h, List.append_cancel_left_eq, List.getElem?_eq_getElem hk, List.getElem?_eq_getElem hk']
  simp
theorem take_ne {l m : List PT} {k : Nat} (hk : k < l.length) (hk' : k < m.length) (h : l[k].bare ≠ m[k].bare) : l.map PT.bare ≠ m.map PT.bare := by
  intro e
  have := congrArg (fun x => x[k]?) e
  simp [hk, hk'] at this
  exact h this
def SameOk (f : FuncId) (p q : PT) : Prop := ∀ w, In w p → In w q → Calls Try.prog f #[p.val, q.val] w fun e w' => ∃ b, e = .returned (.bool b) ∧ (b = true ↔ p.bare = q.bare) ∧ Below w.heap.size w w'
set_option maxHeartbeats 2000000 in
theorem equal_len (lv lv' : Value) (l m : List PT) (w : World) (hl : InL w lv l) (hm : InL w lv' m) (h : l.length ≠ m.length) :
    Calls Try.prog 40 #[lv, lv', .func (.func 22) #[] #[]] w fun e w' => ∃ b, e = .returned (.bool b) ∧ (b = true ↔ l.map PT.bare = m.map PT.bare) ∧ Below w.heap.size w w' := by
  obtain ⟨ao, c, rfl, hn⟩ := hl.1.slice
  obtain ⟨ao', c', rfl, hn'⟩ := hm.1.slice
  have HX : Hid (l.map PT.bare ≠ m.map PT.bare) := fun e => h (by simpa using congrArg List.length e)
  have h1 : ((l.length : Int) != (m.length : Int)) = true := by rw [bne_iff_ne]; omega
  clear hl hm h
  go_enter Try.func40, Try.ntmps40
  go_wp2_with fail
  go_ret
  exact ⟨false, rfl, by simpa using HX.out, Below.refl _ _⟩
set_option maxHeartbeats 2000000 in
theorem equal_any (lv lv' : Value) (l m : List PT) (w : World) (hl : InL w lv l) (hm : InL w lv' m) (ih : ∀ p ∈ l, ∀ q, SameOk 22 p q) :
    Calls Try.prog 40 #[lv, lv', .func (.func 22) #[] #[]] w fun e w' => ∃ b, e = .returned (.bool b) ∧ (b = true ↔ l.map PT.bare = m.map PT.bare) ∧ Below w.heap.size w w' := by
  by_cases hlen : l.length = m.length
  case neg => exact equal_len lv lv' l m w hl hm hlen
  obtain ⟨ao, c, rfl, hn⟩ := hl.1.slice
  obtain ⟨ao', c', rfl, _⟩ := hm.1.slice
  have HL : Hid (InL w (.slice ao l.length c) l ∧ InL w (.slice ao' m.length c') m ∧ ∀ p ∈ l, ∀ q, SameOk 22 p q) := ⟨hl, hm, ih⟩
  have HLen : Hid (l.length = m.length) := hlen
  rw [← hlen] at HL ⊢
  clear hl hm ih hlen
  go_enter Try.func40, Try.ntmps40
  go_wp2_with fail
  go_loopw [17] (fun i wr => ∃ k : Nat, k ≤ l.length ∧ i = .int .i64 k ∧ Hid ((l.take k).map PT.bare = (m.take k).map PT.bare) ∧ Hid (Below w.heap.size w wr))
    (fun i _ => l.length - (intOf i).toNat)
  case atStart => exact ⟨0, Nat.zero_le _, rfl, by simp [Hid], Below.refl _ _⟩
  case round =>
    obtain ⟨k, hk, rfl, HT, HB⟩ := hrel
    by_cases h1 : k < l.length
    · have i0 : (0 : Int) ≤ (k : Int) := by omega
      have i1 : (k : Int) < (l.length : Int) := by omega
      have h2 : k < m.length := by rw [← HLen.out]; exact h1
      obtain ⟨b, o, rfl, hat⟩ := lies_at (HL.out.1.1.below HB.out) k h1
      obtain ⟨b', o', rfl, hat'⟩ := lies_at (HL.out.2.1.1.below HB.out) k h2
      have hp : In wr l[k] := (HL.out.1.2 _ (List.getElem_mem h1)).keep HB.out
      have hq : In wr m[k] := (HL.out.2.1.2 _ (List.getElem_mem h2)).keep HB.out
      have HQ : Hid (∀ w1, Below wr.heap.size wr w1 → Calls Try.prog 22 #[l[k].val, m[k].val] w1 fun e w' => ∃ b, e = .returned (.bool b) ∧ (b = true ↔ l[k].bare = m[k].bare) ∧ Below w1.heap.size w1 w') :=
        fun w1 hb => HL.out.2.2 _ (List.getElem_mem h1) _ w1 (hp.keep hb) (hq.keep hb)
      obtain ⟨ak, ck, hlk, _⟩ := hp.lies.slice
      obtain ⟨ak', ck', hlk', _⟩ := hq.lies.slice
      obtain ⟨c0, c1, c2, c3, c4, c5, c6, c7, c8⟩ := hat
      obtain ⟨d0, d1, d2, d3, d4, d5, d6, d7, d8⟩ := hat'
      unfold PT.val at HQ
      rw [hlk] at c8 HQ
      rw [hlk'] at d8 HQ
      have hbl : b < wr.heap.size := World.block_lt_of_cell? _ _ c0
      have hbl' : b' < wr.heap.size := World.block_lt_of_cell? _ _ d0
      clear hlk hlk' hp hq
      go_wp2_with fail
      refine Calls.mono (HQ.out _ (back1 (alloc1 _ _))) ?_
      rintro e w1 ⟨b, rfl, hiff, hb1⟩
      have HB1 : Hid (Below w.heap.size w w1) := on HB.out (back2 hb1)
      cases b
      · have HX : Hid (l.map PT.bare ≠ m.map PT.bare) := take_ne h1 h2 (by simpa using hiff)
        clear hiff hb1 HB HT HQ HL c0 c1 c2 c3 c4 c5 c6 c7 c8 d0 d1 d2 d3 d4 d5 d6 d7 d8
        go_wp2_with fail
        go_ret
        exact ⟨false, rfl, by simpa using HX.out, HB1.out⟩
      · have HX : Hid ((l.take (k + 1)).map PT.bare = (m.take (k + 1)).map PT.bare) := (take_bare h1 h2 HT.out).2 (hiff.1 rfl)
        clear hiff hb1 HB HT HQ HL c0 c1 c2 c3 c4 c5 c6 c7 c8 d0 d1 d2 d3 d4 d5 d6 d7 d8
        go_wp2_with fail
        go_roundw
        case rel => exact ⟨k + 1, by omega, by go_num, HX, HB1⟩
        case measure => simp [intOf]; omega
    · have i1 : decide ((k : Int) < (l.length : Int)) = false := by simp; omega
      obtain rfl : k = l.length := by omega
      have HX : Hid (l.map PT.bare = m.map PT.bare) := by have := HT.out; rw [List.take_length, HLen.out, List.take_length] at this; exact this
      clear HL HT
      go_wp2_with fail
      go_ret
      exact ⟨true, rfl, by simpa using HX.out, HB.out⟩
set_option maxHeartbeats 2000000 in
theorem same_step (p : PT) (ih : ∀ x ∈ p.l, ∀ y, SameOk 22 x y) (q : PT) : SameOk 22 p q := by
  intro w hp hq
  have H : Hid (∀ w1, Below w.heap.size w w1 → Calls Try.prog 40 #[p.lv, q.lv, .func (.func 22) #[] #[]] w1 fun e w' => ∃ b, e = .returned (.bool b) ∧ (b = true ↔ p.l.map PT.bare = q.l.map PT.bare) ∧ Below w1.heap.size w1 w') :=
    fun w1 hb => equal_any _ _ _ _ w1 (hp.list.below hb) (hq.list.below hb) ih
  have HI : Hid (p.bare = q.bare ↔ p.op = q.op ∧ p.col = q.col ∧ p.v = q.v ∧ p.w = q.w ∧ p.l.map PT.bare = q.l.map PT.bare) := bare_iff p q
  have ev := fun w => eql_V p.v q.v w
  have eu := fun w => eql_V p.w q.w w
  clear hp hq ih
  unfold PT.val
  cases h1 : (p.op == q.op)
  · have HX : Hid (¬ p.bare = q.bare) := fun e => by have := (HI.out.1 e).1; simp [this] at h1
    clear HI H
    go_enter Try.func22, Try.ntmps22
    go_wp2_with fail
    go_ret
    exact ⟨false, rfl, by simpa using HX.out, back1 (alloc1 _ _)⟩
  cases h2 : (p.col == q.col)
  · have HX : Hid (¬ p.bare = q.bare) := fun e => by have := (HI.out.1 e).2.1; simp [this] at h2
    clear HI H
    go_enter Try.func22, Try.ntmps22
    go_wp2_with fail
    go_ret
    exact ⟨false, rfl, by simpa using HX.out, back1 (alloc1 _ _)⟩
  cases h3 : eqV p.v q.v
  · have HX : Hid (¬ p.bare = q.bare) := fun e => by have := eqV_iff.2 (HI.out.1 e).2.2.1; simp [this] at h3
    clear HI H
    go_enter Try.func22, Try.ntmps22
    go_wp2_with fail
    go_ret
    exact ⟨false, rfl, by simpa using HX.out, back1 (alloc1 _ _)⟩
  cases h4 : eqV p.w q.w
  · have HX : Hid (¬ p.bare = q.bare) := fun e => by have := eqV_iff.2 (HI.out.1 e).2.2.2.1; simp [this] at h4
    clear HI H
    go_enter Try.func22, Try.ntmps22
    go_wp2_with fail
    go_ret
    exact ⟨false, rfl, by simpa using HX.out, back1 (alloc1 _ _)⟩
  have HX : Hid (p.bare = q.bare ↔ p.l.map PT.bare = q.l.map PT.bare) := by
    have e1 : p.op = q.op := by simpa using h1
    have e2 : p.col = q.col := by simpa using h2
    exact ⟨fun e => (HI.out.1 e).2.2.2.2, fun e => HI.out.2 ⟨e1, e2, eqV_iff.1 h3, eqV_iff.1 h4, e⟩⟩
  clear HI
  go_enter Try.func22, Try.ntmps22
  go_wp2_with fail
  refine Calls.mono (H.out _ (back1 (alloc1 _ _))) ?_
  rintro e w1 ⟨b, rfl, hiff, hb1⟩
  have HY : Hid (b = true ↔ p.bare = q.bare) := hiff.trans HX.out.symm
  clear hiff HX H
  go_wp2_with fail
  go_ret
  exact ⟨b, rfl, HY.out, back2 hb1⟩
theorem psame_any (p : PT) : ∀ q, SameOk 22 p q := by
  induction p using PT.ind with
  | h p ih => exact same_step p ih
end Go.Proofs.Ytnfageikacfdoaa.Val
