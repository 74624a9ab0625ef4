/- What the reference's Size answers. -/
import Derived.Test.YtfkhfplibhnceaaDoorU4
import Derived.Test.YtfkhfplibhnceaaDoorU7
namespace Go.Proofs.YtfkhfplibhnceaaDoor.Val
open Go.RowKit

theorem sizeL_take (l : List PT) (k : Nat) (hk : k < l.length) : sizeL (l.take (k + 1)) = sizeL (l.take k) + l[k].size := by
  unfold sizeL
  rw [List.take_add_one, List.getElem?_eq_getElem hk]
  simp only [Option.toList_some, List.map_append, List.map_cons, List.map_nil, List.sum_append, List.sum_cons, List.sum_nil, Nat.add_zero]
theorem sizeL_le (l : List PT) (k : Nat) : sizeL (l.take k) ≤ sizeL l := by
  induction l generalizing k with
  | nil => simp
  | cons x l ih =>
    cases k with
    | zero => simp [sizeL]
    | succ k => rw [List.take_succ_cons, sizeL_cons, sizeL_cons]; have := ih k; omega
def RSizeOk (p : PT) : Prop := ∀ w, In w p → p.size ≤ 1000000 → Calls Tryd.prog 27 #[p.val] w fun e w' => e = .returned (.int .i64 (p.size : Int)) ∧ Below w.heap.size w w'
set_option maxHeartbeats 1000000 in
theorem rsize_step (p : PT) (ih : ∀ q ∈ p.l, RSizeOk q) : RSizeOk p := by
  intro w hi hs
  have hsz := size_l p
  obtain ⟨ao, c, hlv, hn⟩ := hi.lies.slice
  have HI : Hid (In w p ∧ ∀ q ∈ p.l, RSizeOk q) := ⟨hi, ih⟩
  have HS : Hid (p.size = 1 + sizeL p.l ∧ p.size ≤ 1000000) := ⟨hsz, hs⟩
  have HLV : Hid (p.lv = .slice ao p.l.length c) := hlv
  clear hi ih hsz hs
  unfold PT.val
  rw [hlv]
  clear hlv
  go_enter Tryd.func27, Tryd.ntmps27
  go_wp2_with fail
  go_loopw [3, 4] (fun n i wr => ∃ k : Nat, k ≤ p.l.length ∧ i = .int .i64 k ∧ n = .int .i64 ((1 + sizeL (p.l.take k) : Nat) : Int) ∧ Hid (Below w.heap.size w wr) ∧ wr.cell? ⟨w.heap.size, 8, none⟩ = some (.slice ao p.l.length c))
    (fun _ i _ => p.l.length - (intOf i).toNat)
  case atStart => exact ⟨0, Nat.zero_le _, rfl, by simp [sizeL], alloc1 _ _, by simp [go_sem]⟩
  case round =>
    obtain ⟨k, hk, rfl, rfl, HB, hc⟩ := hrel
    have hlt : w.heap.size < wr.heap.size := World.block_lt_of_cell? _ _ hc
    by_cases h1 : k < p.l.length
    · have i0 : (0 : Int) ≤ (k : Int) := by omega
      have i1 : (k : Int) < (p.l.length : Int) := by omega
      have hin : In wr p := HI.out.1.keep HB.out
      have hl := hin.lies
      rw [HLV.out] at hl
      obtain ⟨b, o, rfl, hat⟩ := lies_at hl k h1
      have hm := List.getElem_mem h1
      have hle := size_part (p := p) hm
      have HQ : Hid (Calls Tryd.prog 27 #[p.l[k].val] wr fun e w' => e = .returned (.int .i64 (p.l[k].size : Int)) ∧ Below wr.heap.size wr w') :=
        HI.out.2 _ hm wr (hin.part _ hm) (by have := HS.out; omega)
      have hst := sizeL_take p.l k h1
      have hsl := sizeL_le p.l (k + 1)
      have s0 : (0 : Int) ≤ ((1 + sizeL (p.l.take k) : Nat) : Int) := by omega
      have s1 : ((1 + sizeL (p.l.take k) : Nat) : Int) + (p.l[k].size : Int) ≤ 1000000 := by have := HS.out; omega
      have s2 : (0 : Int) ≤ (p.l[k].size : Int) := by omega
      have HST : Hid (((1 + sizeL (p.l.take k) : Nat) : Int) + (p.l[k].size : Int) = ((1 + sizeL (p.l.take (k + 1)) : Nat) : Int)) := by rw [Hid, hst]; omega
      clear hst hsl hle hm hl hin
      obtain ⟨c0, c1, c2, c3, c4, c5, c6, c7, c8⟩ := hat
      unfold PT.val at HQ
      generalize ((1 + sizeL (p.l.take k) : Nat) : Int) = m at *
      generalize (p.l[k].size : Int) = t at *
      go_wp2_with fail
      refine Calls.mono HQ.out ?_
      rintro e w1 ⟨rfl, hb⟩
      have HB1 : Hid (Below w.heap.size w w1) := on HB.out hb
      have hc1 := cell_below hc hb
      clear hb HB hc c0 c1 c2 c3 c4 c5 c6 c7 c8 HQ hlt
      go_wp2_with fail
      go_roundw
      case rel => exact ⟨k + 1, by omega, by go_num, by rw [HST.out], HB1, hc1⟩
      case measure => simp [intOf]; omega
    · have i1 : decide ((k : Int) < (p.l.length : Int)) = false := by simp; omega
      obtain rfl : k = p.l.length := by omega
      have HF : Hid (((1 + sizeL (p.l.take p.l.length) : Nat) : Int) = (p.size : Int)) := by rw [Hid, List.take_length, HS.out.1]
      clear HI HS
      go_wp2_with fail
      go_ret
      exact ⟨by rw [HF.out]; rfl, HB.out⟩
theorem rsize_any (p : PT) : RSizeOk p := by
  induction p using PT.ind with
  | h p ih => exact rsize_step p ih
end Go.Proofs.YtfkhfplibhnceaaDoor.Val
/- What the law's few answers. -/
namespace Go.Proofs.YtfkhfplibhnceaaDoor.Val
open Go.RowKit

/-- few: where it says yes there are few parts. -/
def FewOk (p : PT) : Prop := ∀ (w : World) (d : Nat), In w p → d ≤ 41 → Calls Tryd.prog 11 #[p.val, .int .i64 (d : Int)] w fun e w' => ∃ b, e = .returned (.bool b) ∧ (b = true → p.size ≤ 100) ∧ Below w.heap.size w w'
theorem sizeL_few (l : List PT) (h : ∀ (j : Nat) (hj : j < l.length), l[j].size ≤ 100) : sizeL l ≤ 100 * l.length := by
  induction l with
  | nil => simp [sizeL]
  | cons x l ih =>
    rw [sizeL_cons, List.length_cons]
    have h0 := h 0 (by simp)
    have h1 := ih fun j hj => by have := h (j + 1) (by simpa using hj); simpa using this
    simp at h0
    omega
set_option maxHeartbeats 1000000 in
theorem few_step (p : PT) (ih : ∀ q ∈ p.l, FewOk q) : FewOk p := by
  intro w d hi hd
  obtain ⟨ao, c, hlv, hn⟩ := hi.lies.slice
  have HI : Hid (In w p ∧ ∀ q ∈ p.l, FewOk q) := ⟨hi, ih⟩
  have HLV : Hid (p.lv = .slice ao p.l.length c) := hlv
  clear hi ih
  unfold PT.val
  rw [hlv]
  clear hlv
  have d0 : (0 : Int) ≤ (d : Int) := by omega
  by_cases h40 : 40 < d
  · have e1 : (40 : Int) < (d : Int) := by omega
    clear HI HLV
    go_enter Tryd.func11, Tryd.ntmps11
    go_wp2_with fail
    go_ret
    exact ⟨false, rfl, by simp, alloc1 _ _⟩
  have e1 : decide ((40 : Int) < (d : Int)) = false := by simp; omega
  have e1' : (d : Int) ≤ 40 := by omega
  by_cases hl40 : 40 < p.l.length
  · have e2 : (40 : Int) < (p.l.length : Int) := by omega
    clear HI HLV
    go_enter Tryd.func11, Tryd.ntmps11
    go_wp2_with fail
    go_ret
    exact ⟨false, rfl, by simp, alloc1 _ _⟩
  have e2 : decide ((40 : Int) < (p.l.length : Int)) = false := by simp; omega
  have hl40' : p.l.length ≤ 40 := by omega
  clear hl40
  go_enter Tryd.func11, Tryd.ntmps11
  go_wp2_with fail
  go_loopw [5] (fun i wr => ∃ k : Nat, k ≤ p.l.length ∧ i = .int .i64 k ∧ Hid (∀ (j : Nat) (hj : j < p.l.length), j < k → p.l[j].size ≤ 100) ∧ Hid (Below w.heap.size w wr ∧ Box wr w.heap.size p))
    (fun i _ => p.l.length - (intOf i).toNat)
  case atStart => exact ⟨0, Nat.zero_le _, rfl, fun j hj h => by omega, alloc1 _ _, by have := Box.new w p 29; rw [pobj, HLV.out] at this; exact this⟩
  case round =>
    obtain ⟨k, hk, rfl, HP, HB⟩ := hrel
    have hc := HB.out.2.c8
    rw [HLV.out] at hc
    have hlt : w.heap.size < wr.heap.size := World.block_lt_of_cell? _ _ hc
    by_cases h1 : k < p.l.length
    · have i0 : (0 : Int) ≤ (k : Int) := by omega
      have i1 : (k : Int) < (p.l.length : Int) := by omega
      have hin : In wr p := HI.out.1.keep HB.out.1
      have hl := hin.lies
      rw [HLV.out] at hl
      obtain ⟨b, o, rfl, hat⟩ := lies_at hl k h1
      have hm := List.getElem_mem h1
      have HQ : Hid (Calls Tryd.prog 11 #[p.l[k].val, .int .i64 ((d : Int) + 1)] wr fun e w' => ∃ b, e = .returned (.bool b) ∧ (b = true → p.l[k].size ≤ 100) ∧ Below wr.heap.size wr w') := by
        rw [show (d : Int) + 1 = ((d + 1 : Nat) : Int) by omega]
        exact HI.out.2 _ hm wr (d + 1) (hin.part _ hm) (by omega)
      clear hm hl hin
      obtain ⟨c0, c1, c2, c3, c4, c5, c6, c7, c8⟩ := hat
      unfold PT.val at HQ
      go_wp2_with fail
      refine Calls.mono HQ.out ?_
      rintro e w1 ⟨bb, rfl, himp, hb⟩
      have HB1 : Hid (Below w.heap.size w w1 ∧ Box w1 w.heap.size p) := ⟨on HB.out.1 hb, HB.out.2.below hb⟩
      clear hb HB hc c0 c1 c2 c3 c4 c5 c6 c7 c8 HQ hlt
      cases bb
      · clear himp HP HI
        go_wp2_with fail
        go_ret
        exact ⟨false, rfl, by simp, HB1.out.1⟩
      · have HP1 : Hid (∀ (j : Nat) (hj : j < p.l.length), j < k + 1 → p.l[j].size ≤ 100) := fun j hj h => by
          rcases Nat.lt_succ_iff_lt_or_eq.1 h with h | rfl
          · exact HP.out j hj h
          · exact himp rfl
        clear himp HP
        go_wp2_with fail
        go_roundw
        case rel => exact ⟨k + 1, by omega, by go_num, HP1, HB1⟩
        case measure => simp [intOf]; omega
    · have i1 : decide ((k : Int) < (p.l.length : Int)) = false := by simp; omega
      obtain rfl : k = p.l.length := by omega
      have hsz : p.size ≤ 4001 := by
        rw [size_l]
        have := sizeL_few p.l fun j hj => HP.out j hj hj
        omega
      have HQ : Hid (Calls Tryd.prog 27 #[p.val] wr fun e w' => e = .returned (.int .i64 (p.size : Int)) ∧ Below wr.heap.size wr w') := rsize_any p wr (HI.out.1.keep HB.out.1) (by omega)
      obtain ⟨b0, b1, b2, b3, b4, b5, b6, b7, b8⟩ := HB.out.2
      rw [HLV.out] at b8
      unfold PT.val at HQ
      rw [HLV.out] at HQ
      clear HI HP hc
      go_wp2_with fail
      refine Calls.mono HQ.out ?_
      rintro e w1 ⟨rfl, hb⟩
      have HB1 : Hid (Below w.heap.size w w1) := on HB.out.1 hb
      clear hb HB b0 b1 b2 b3 b4 b5 b6 b7 b8 HQ hlt
      go_wp2_with fail
      go_ret
      exact ⟨_, rfl, fun h => by simp at h; omega, HB1.out⟩
theorem few_ok (p : PT) : FewOk p := by
  induction p using PT.ind with
  | h p ih => exact few_step p ih
theorem few_any (p : PT) (w : World) (hi : In w p) : Calls Tryd.prog 11 #[p.val, .int .i64 0] w fun e w' => ∃ b, e = .returned (.bool b) ∧ (b = true → p.size ≤ 100) ∧ Below w.heap.size w w' := few_ok p w 0 hi (by omega)
end Go.Proofs.YtfkhfplibhnceaaDoor.Val
/- What the law's without answers; what Normal's answer says of rows. -/
namespace Go.Proofs.YtfkhfplibhnceaaDoor.Val
open Go.RowKit

/-- One cell in a block of its own. -/
structure CBox (w : World) (b : Nat) (v : Value) : Prop where
  c0 : w.cell? ⟨b, 0, none⟩ = some v
theorem CBox.lt {w : World} {b : Nat} {v : Value} (h : CBox w b v) : b < w.heap.size := World.block_lt_of_cell? w _ h.c0
theorem CBox.below {w w' : World} {b : Nat} {v : Value} (h : CBox w b v) (hb : Below w.heap.size w w') : CBox w' b v := ⟨cell_below h.c0 hb⟩
theorem CBox.new (w : World) (v : Value) (T : TypeId) : CBox (w.alloc (.cells #[v] T)) w.heap.size v := ⟨cell_new w v T⟩
theorem CBox.alloc {w : World} {b : Nat} {v : Value} (h : CBox w b v) (o : Obj) : CBox (w.alloc o) b v := ⟨cell_alloc h.c0 o⟩
def noNotL (l : List PT) : Bool := (l.map noNot).all id
theorem noNotL_take (l : List PT) (k : Nat) (hk : k < l.length) : noNotL (l.take (k + 1)) = (noNotL (l.take k) && noNot l[k]) := by
  unfold noNotL
  rw [List.take_add_one, List.getElem?_eq_getElem hk]
  simp only [Option.toList_some, List.map_append, List.map_cons, List.map_nil, List.all_append, List.all_cons, List.all_nil, Bool.and_true, id]
theorem noNotL_no (l : List PT) (k : Nat) (hk : k < l.length) (h : noNot l[k] = false) : noNotL l = false := by
  unfold noNotL
  rw [List.all_eq_false]
  exact ⟨noNot l[k], List.mem_map.2 ⟨_, List.getElem_mem hk, rfl⟩, by simp [h]⟩
theorem noNot_l (p : PT) : noNot p = (noNotL p.l && p.op != 10) := noNot_mk p
def WithoutOk (p : PT) : Prop := ∀ w, In w p → Calls Tryd.prog 23 #[p.val] w fun e w' => e = .returned (.bool (noNot p)) ∧ Below w.heap.size w w'
set_option maxHeartbeats 1000000 in
theorem without_step (p : PT) (ih : ∀ q ∈ p.l, WithoutOk q) : WithoutOk p := by
  intro w hi
  obtain ⟨ao, c, hlv, hn⟩ := hi.lies.slice
  have HI : Hid (In w p ∧ ∀ q ∈ p.l, WithoutOk q) := ⟨hi, ih⟩
  have HLV : Hid (p.lv = .slice ao p.l.length c) := hlv
  clear hi ih
  unfold PT.val
  rw [hlv]
  clear hlv
  go_enter Tryd.func23, Tryd.ntmps23
  go_wp2_with fail
  go_loopw [3] (fun i wr => ∃ k : Nat, k ≤ p.l.length ∧ i = .int .i64 k ∧ Hid (noNotL (p.l.take k) = true) ∧ Hid (Below w.heap.size w wr ∧ Box wr w.heap.size p))
    (fun i _ => p.l.length - (intOf i).toNat)
  case atStart => exact ⟨0, Nat.zero_le _, rfl, rfl, alloc1 _ _, by have := Box.new w p 29; rw [pobj, HLV.out] at this; exact this⟩
  case round =>
    obtain ⟨k, hk, rfl, HP, HB⟩ := hrel
    have hc := HB.out.2.c8
    rw [HLV.out] at hc
    have hlt : w.heap.size < wr.heap.size := World.block_lt_of_cell? _ _ hc
    by_cases h1 : k < p.l.length
    · have i0 : (0 : Int) ≤ (k : Int) := by omega
      have i1 : (k : Int) < (p.l.length : Int) := by omega
      have hin : In wr p := HI.out.1.keep HB.out.1
      have hl := hin.lies
      rw [HLV.out] at hl
      obtain ⟨b, o, rfl, hat⟩ := lies_at hl k h1
      have hm := List.getElem_mem h1
      obtain ⟨bb, hbb⟩ : ∃ bb, noNot p.l[k] = bb := ⟨_, rfl⟩
      have HQ : Hid (Calls Tryd.prog 23 #[p.l[k].val] wr fun e w' => e = .returned (.bool bb) ∧ Below wr.heap.size wr w') := by
        rw [← hbb]; exact HI.out.2 _ hm wr (hin.part _ hm)
      have HN : Hid (noNot p.l[k] = bb) := hbb
      clear hm hl hin hbb
      obtain ⟨c0, c1, c2, c3, c4, c5, c6, c7, c8⟩ := hat
      unfold PT.val at HQ
      go_wp2_with fail
      refine Calls.mono HQ.out ?_
      rintro e w1 ⟨rfl, hb⟩
      have HB1 : Hid (Below w.heap.size w w1 ∧ Box w1 w.heap.size p) := ⟨on HB.out.1 hb, HB.out.2.below hb⟩
      clear hb HB hc c0 c1 c2 c3 c4 c5 c6 c7 c8 HQ hlt
      cases bb
      · have HR : Hid (noNot p = false) := by rw [Hid, noNot_l, noNotL_no p.l k h1 HN.out]; rfl
        clear HP HI HN
        go_wp2_with fail
        go_ret
        exact ⟨by rw [HR.out]; rfl, HB1.out.1⟩
      · have HP1 : Hid (noNotL (p.l.take (k + 1)) = true) := by rw [Hid, noNotL_take p.l k h1, HP.out, HN.out]; rfl
        clear HP HN
        go_wp2_with fail
        go_roundw
        case rel => exact ⟨k + 1, by omega, by go_num, HP1, HB1⟩
        case measure => simp [intOf]; omega
    · have i1 : decide ((k : Int) < (p.l.length : Int)) = false := by simp; omega
      obtain rfl : k = p.l.length := by omega
      have HR : Hid (noNot p = (p.op != 10)) := by
        have h := HP.out
        rw [List.take_length] at h
        rw [Hid, noNot_l, h]; rfl
      obtain ⟨b0, b1, b2, b3, b4, b5, b6, b7, b8⟩ := HB.out.2
      rw [HLV.out] at b8
      have HB1 : Hid (Below w.heap.size w wr) := HB.out.1
      clear HI HP hc HB
      go_wp2_with fail
      go_ret
      exact ⟨by rw [HR.out]; rfl, HB1.out⟩
theorem without_ok (p : PT) : WithoutOk p := by
  induction p using PT.ind with
  | h p ih => exact without_step p ih
theorem fits_len {cols : List Bool} {xs : List Val} (h : fitsRow cols xs = true) : xs.length = cols.length := by
  unfold fitsRow at h
  rw [Bool.and_eq_true, Bool.and_eq_true, decide_eq_true_eq] at h
  exact h.1.2
theorem norm_noNot (cols : List Bool) (p : PT) : noNot (normP cols p) = true := by
  unfold normP
  split
  · rename_i h; exact push_noNot p (check_iff.1 h).2.2 false
  · rw [noNot_mk]; rfl
theorem norm_holds {cols : List Bool} {r : List Val} {p : PT} (h : checkN cols p = 0) (hr : r.length = cols.length) : holdsP r (normP cols p) = holdsP r p := by
  unfold normP
  rw [if_pos h, push_holds hr p (check_iff.1 h).2.2 false]
  simp
theorem bare_two {cols : List Bool} {p q : PT} (hq : q.bare = normP cols p) (h : checkN cols p ≠ 0) : q.op = 2 ∧ q.l.length = 0 := by
  unfold normP at hq
  rw [if_neg h] at hq
  cases q with | mk o c v u lv l =>
  rw [bare_mk] at hq
  have h1 : o = 2 := congrArg PT.op hq
  have h2 : l.map PT.bare = [] := congrArg PT.l hq
  exact ⟨h1, by simpa using congrArg List.length h2⟩
end Go.Proofs.YtfkhfplibhnceaaDoor.Val
