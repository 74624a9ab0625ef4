/- What the reference's Holds answers. -/
import Derived.Test.YtfkhfplibhnceaaDoorU1
import Derived.Test.YtfkhfplibhnceaaDoorU10
import Derived.Test.YtfkhfplibhnceaaDoorU5
import Derived.Test.YtfkhfplibhnceaaDoorU4
import Derived.Test.YtfkhfplibhnceaaDoorU9
import Derived.Deep.RegionHeld3
import Derived.BigQuiet
import Derived.Deep.QuietTactic
import Derived.WalkSmall
namespace Go.Proofs.YtfkhfplibhnceaaDoor.Val
open Go.RowKit

theorem ret_b3 {a b : Bool} (h : a = b) : Ending.returned (.bool a) = Ending.returned (.bool b) := by subst h; rfl
theorem rcmp_any' (x y : Val) (w : World) (hx : x.s.size ≤ maxLen) (hy : y.s.size ≤ maxLen) :
    Calls Tryd.prog 37 #[V x.t x.n x.s, V y.t y.n y.s] w fun e w' => e = .returned (.int .i64 (cmpX x y)) ∧ Below w.heap.size w w' := rcmp_any _ _ _ _ _ _ _ hx hy
set_option maxHeartbeats 1000000 in
theorem rleaf_low (vr : Value) (p : PT) (w : World) (h : p.col < 0) :
    Calls Tryd.prog 46 #[p.val, vr] w fun e w' => e = .returned (.bool false) ∧ Below w.heap.size w w' := by
  unfold PT.val
  go_enter Tryd.func46, Tryd.ntmps46
  go_wp2_with fail
  go_ret
  exact ⟨rfl, alloc1 _ _⟩
set_option maxHeartbeats 1000000 in
theorem rleaf_high (ar : Option Addr) (n cr : Nat) (p : PT) (w : World) (h0 : decide (p.col < 0) = false) (h : (n : Int) ≤ p.col) :
    Calls Tryd.prog 46 #[p.val, .slice ar n cr] w fun e w' => e = .returned (.bool false) ∧ Below w.heap.size w w' := by
  unfold PT.val
  go_enter Tryd.func46, Tryd.ntmps46
  go_wp2_with fail
  go_ret
  exact ⟨rfl, alloc1 _ _⟩
set_option maxHeartbeats 2000000 in
theorem rleaf_mid (b o n cr k : Nat) (x : Val) (p : PT) (op : Int) (w : World) (hop : p.op = op) (ho : 3 ≤ op ∧ op ≤ 9) (hk : p.col = (k : Int)) (hn : k < n) (hx : x.s.size ≤ maxLen) (hv : p.v.s.size ≤ maxLen) (hu : p.w.s.size ≤ maxLen)
    (d0 : w.cell? ⟨b, o + k * 3, none⟩ = some (.bool x.t)) (d1 : w.cell? ⟨b, o + k * 3 + 1, none⟩ = some (.int .i64 x.n)) (d2 : w.cell? ⟨b, o + k * 3 + 2, none⟩ = some (.string x.s)) :
    Calls Tryd.prog 46 #[p.val, .slice (some ⟨b, o, none⟩) n cr] w fun e w' => e = .returned (.bool (standB op (cmpX x p.v) (cmpX x p.w))) ∧ Below w.heap.size w w' := by
  obtain ⟨c, hc⟩ : ∃ c, cmpX x p.v = c := ⟨_, rfl⟩
  obtain ⟨d, hd⟩ : ∃ d, cmpX x p.w = d := ⟨_, rfl⟩
  have H : Hid (∀ w1, Calls Tryd.prog 37 #[V x.t x.n x.s, V p.v.t p.v.n p.v.s] w1 fun e w' => e = .returned (.int .i64 c) ∧ Below w1.heap.size w1 w') := fun w1 => by have := rcmp_any' x p.v w1 hx hv; rw [hc] at this; exact this
  have H2 : Hid (∀ w1, Calls Tryd.prog 37 #[V x.t x.n x.s, V p.w.t p.w.n p.w.s] w1 fun e w' => e = .returned (.int .i64 d) ∧ Below w1.heap.size w1 w') := fun w1 => by have := rcmp_any' x p.w w1 hx hu; rw [hd] at this; exact this
  rw [hc, hd]
  have hlt2 : b < w.heap.size := World.block_lt_of_cell? w _ d0
  have k0 : (0 : Int) ≤ (k : Int) := by omega
  have k1 : (k : Int) < (n : Int) := by omega
  have k2 : decide ((k : Int) < 0) = false := by simp
  have k3 : decide ((n : Int) ≤ (k : Int)) = false := by simp; omega
  clear hc hd hx hv hu
  unfold PT.val
  rw [hk, hop]
  go_enter Tryd.func46, Tryd.ntmps46
  go_wp2_with fail
  refine Calls.mono (H.out _) ?_
  rintro e w1 ⟨rfl, hb⟩
  have HB : Hid (Below w.heap.size w w1) := back2 hb
  rw [← hk, ← hop] at hb
  obtain ⟨b0, b1, b2, b3, b4, b5, b6, b7, b8⟩ := ((Box.new w p 29).alloc (vobj x 26)).below hb
  obtain ⟨a0, a1, a2⟩ := (VBox.new (w.alloc (pobj p 29)) x 26).below hb
  have z : (w.alloc (pobj p 29)).heap.size = w.heap.size + 1 := by simp
  rw [z] at a0 a1 a2
  rw [hop] at b0
  clear hb z H hop hk d0 d1 d2 hlt2
  have h9 : op = 3 ∨ op = 4 ∨ op = 5 ∨ op = 6 ∨ op = 7 ∨ op = 8 ∨ op = 9 := by omega
  clear ho
  rcases h9 with rfl | rfl | rfl | rfl | rfl | rfl | rfl
  · clear H2
    go_wp2_with fail
    go_ret
    exact ⟨ret_b3 (by simp [standB]), HB.out⟩
  · clear H2
    go_wp2_with fail
    go_ret
    exact ⟨ret_b3 (by simp [standB]), HB.out⟩
  · clear H2
    go_wp2_with fail
    go_ret
    exact ⟨ret_b3 (by simp [standB]), HB.out⟩
  · clear H2
    go_wp2_with fail
    go_ret
    exact ⟨ret_b3 (by simp [standB]), HB.out⟩
  · clear H2
    go_wp2_with fail
    go_ret
    exact ⟨ret_b3 (by simp [standB]), HB.out⟩
  · clear H2
    go_wp2_with fail
    go_ret
    exact ⟨ret_b3 (by simp [standB]), HB.out⟩
  · by_cases hz : 0 ≤ c
    · go_wp2_with fail
      refine Calls.mono (H2.out _) ?_
      rintro e w2 ⟨rfl, hb2⟩
      go_wp2_with fail
      go_ret
      exact ⟨ret_b3 (by simp [standB, hz]), on HB.out hb2⟩
    · have hz' : decide (0 ≤ c) = false := by simp; omega
      clear H2
      go_wp2_with fail
      go_ret
      exact ⟨ret_b3 (by simp [standB]; omega), HB.out⟩
theorem rleaf_any (p : PT) (vr : Value) (r : List Val) (w : World) (hi : In w p) (hr : RowIn w vr r) (hok : RowOk r) (ho : 3 ≤ p.op ∧ p.op ≤ 9) :
    Calls Tryd.prog 46 #[p.val, vr] w fun e w' => e = .returned (.bool (leafB r p.op p.col p.v p.w)) ∧ Below w.heap.size w w' := by
  by_cases hlo : p.col < 0
  · rw [leaf_low hlo]
    exact rleaf_low vr p w hlo
  · obtain ⟨ar, cr, rfl, hn⟩ := hr.slice
    by_cases hhi : p.col < (r.length : Int)
    · obtain ⟨k, hk⟩ : ∃ k : Nat, p.col = (k : Int) := ⟨p.col.toNat, by omega⟩
      have hkl : k < r.length := by omega
      obtain ⟨b, o, rfl, d0, d1, d2⟩ := hr.at k hkl
      rw [hk, leaf_at hkl]
      exact rleaf_mid b o r.length cr k r[k] p p.op w rfl ho hk hkl (hok _ (List.getElem_mem hkl)).2 hi.sv hi.sw d0 d1 d2
    · rw [leaf_high (by omega) (by omega)]
      exact rleaf_high ar r.length cr p w (by simp; omega) (by omega)
def RHoldsOk (vr : Value) (r : List Val) (p : PT) : Prop := ∀ w, In w p → RowIn w vr r → Calls Tryd.prog 26 #[p.val, vr] w fun e w' => e = .returned (.bool (holdsP r p)) ∧ Below w.heap.size w w'
set_option maxHeartbeats 1000000 in
theorem rholds_leaf (vr : Value) (r : List Val) (hok : RowOk r) (p : PT) (ho : 3 ≤ p.op ∧ p.op ≤ 9) : RHoldsOk vr r p := by
  intro w hi hr
  obtain ⟨a, ha⟩ : ∃ a, holdsP r p = a := ⟨_, rfl⟩
  have hl := holds_leaf (r := r) (p := p) (by omega) (by omega) (by omega) (by omega)
  have H : Hid (∀ w1, Below w.heap.size w w1 → Calls Tryd.prog 46 #[p.val, vr] w1 fun e w' => e = .returned (.bool a) ∧ Below w1.heap.size w1 w') := fun w1 hb => by rw [← ha, hl]; exact rleaf_any p vr r w1 (hi.keep hb) (hr.below hb) hok ho
  rw [ha]
  have h1 : 3 ≤ p.op := ho.1
  have h2 : p.op ≤ 9 := ho.2
  clear ha hl hi hr ho
  unfold PT.val at *
  go_enter Tryd.func26, Tryd.ntmps26
  go_wp2_with fail
  refine Calls.mono (H.out _ (alloc1 _ _)) ?_
  rintro e w1 ⟨rfl, hb⟩
  go_wp2_with fail
  go_ret
  exact ⟨rfl, back1 hb⟩
end Go.Proofs.YtfkhfplibhnceaaDoor.Val
/- What the reference's Holds answers: by its parts. -/
namespace Go.Proofs.YtfkhfplibhnceaaDoor.Val
open Go.RowKit

/-- What holds of the first k. -/
structure Sofar (r : List Val) (l : List PT) (k : Nat) (fa fs ff : Bool) : Prop where
  all : fa = ((l.take k).map (holdsP r)).all id
  any : fs = ((l.take k).map (holdsP r)).any id
  one : ff = (((l.take k).map (holdsP r)).head?).getD false
theorem Sofar.next {r : List Val} {l : List PT} {k : Nat} {fa fs ff : Bool} (h : Sofar r l k fa fs ff) (hk : k < l.length) : Sofar r l (k + 1) (fa && holdsP r l[k]) (fs || holdsP r l[k]) (if k = 0 then holdsP r l[k] else ff) := by
  obtain ⟨h1, h2, h3⟩ := h
  have ht : l.take (k + 1) = l.take k ++ [l[k]] := by rw [List.take_add_one, List.getElem?_eq_getElem hk]; rfl
  refine ⟨?_, ?_, ?_⟩
  · rw [ht, h1, List.map_append, List.all_append]; simp only [List.map_cons, List.map_nil, List.all_cons, List.all_nil, id, Bool.and_true]
  · rw [ht, h2, List.map_append, List.any_append]; simp only [List.map_cons, List.map_nil, List.any_cons, List.any_nil, id, Bool.or_false]
  · cases l with
    | nil => simp at hk
    | cons q l =>
      cases k with
      | zero => simp
      | succ k => rw [h3]; simp
theorem Sofar.end {r : List Val} {p : PT} {fa fs ff : Bool} (h : Sofar r p.l p.l.length fa fs ff) (hn : ¬ (3 ≤ p.op ∧ p.op ≤ 9)) : holdsP r p = if p.op = 1 then true else if p.op = 10 then !ff else if p.op = 11 then fa else if p.op = 12 then fs else false := by
  obtain ⟨h1, h2, h3⟩ := h
  rw [List.take_length] at h1 h2 h3
  by_cases e1 : p.op = 1
  · rw [if_pos e1, holds_1 e1]
  rw [if_neg e1]
  by_cases e2 : p.op = 10
  · rw [if_pos e2, holds_10 e2, h3]
  rw [if_neg e2]
  by_cases e3 : p.op = 11
  · rw [if_pos e3, holds_11 e3, h1]
  rw [if_neg e3]
  by_cases e4 : p.op = 12
  · rw [if_pos e4, holds_12 e4, h2]
  rw [if_neg e4, holds_leaf e1 e2 e3 e4]
  unfold leafB
  split
  · rfl
  · split
    · rfl
    · unfold standB
      rw [if_neg (by omega), if_neg (by omega), if_neg (by omega), if_neg (by omega), if_neg (by omega), if_neg (by omega), if_neg (by omega)]
set_option maxHeartbeats 4000000 in
theorem rholds_step (vr : Value) (r : List Val) (p : PT) (hn : (decide (3 ≤ p.op) = false) ∨ (3 ≤ p.op ∧ decide (p.op ≤ 9) = false)) (ih : ∀ q ∈ p.l, RHoldsOk vr r q) : RHoldsOk vr r p := by
  intro w hi hr
  obtain ⟨ao, c, hlv, hln⟩ := hi.lies.slice
  have HI : Hid (In w p ∧ RowIn w vr r ∧ ∀ q ∈ p.l, RHoldsOk vr r q) := ⟨hi, hr, ih⟩
  have HLV : Hid (p.lv = .slice ao p.l.length c) := hlv
  have HN : Hid (¬ (3 ≤ p.op ∧ p.op ≤ 9)) := by
    rw [Hid]; intro ⟨h1, h2⟩
    rcases hn with h | ⟨_, h⟩
    · simp at h; omega
    · simp at h; omega
  obtain ⟨op, hop⟩ : ∃ op, p.op = op := ⟨_, rfl⟩
  have HOP : Hid (p.op = op) := hop
  rw [hop] at hn
  clear hi hr ih
  unfold PT.val
  rw [hlv, hop]
  clear hlv hop
  have START : ∀ Q : Prop, (Hid (Box (w.alloc (pobj p 29)) w.heap.size p) → Q) → Q := fun Q h => h (Box.new w p _)
  obtain ⟨a, ha⟩ : ∃ a, holdsP r p = a := ⟨_, rfl⟩
  have HANS : Hid (holdsP r p = a) := ha
  rw [ha]
  clear ha START
  rcases hn with hn | ⟨hn1, hn⟩
  all_goals
    go_enter Tryd.func26, Tryd.ntmps26
    go_wp2_with fail
    go_loopw [5, 6, 7, 8] (fun ua us uf i wr => ∃ (k : Nat) (fa fs ff : Bool), k ≤ p.l.length ∧ ua = .bool fa ∧ us = .bool fs ∧ uf = .bool ff ∧ i = .int .i64 k ∧ Hid (Sofar r p.l k fa fs ff) ∧ Hid (Below w.heap.size w wr ∧ Box wr w.heap.size p))
      (fun _ _ _ i _ => p.l.length - (intOf i).toNat)
    case atStart => exact ⟨0, true, false, false, Nat.zero_le _, rfl, rfl, rfl, rfl, ⟨by simp, by simp, by simp⟩, alloc1 _ _, by have := Box.new w p 29; rw [pobj, HLV.out, HOP.out] at this; exact this⟩
    case round =>
      obtain ⟨k, fa, fs, ff, hk, rfl, rfl, rfl, rfl, HF, HB⟩ := hrel
      have hc := HB.out.2.c8
      rw [HLV.out] at hc
      have hlt : w.heap.size < wr.heap.size := World.block_lt_of_cell? _ _ hc
      by_cases h1 : k < p.l.length
      · have i0 : (0 : Int) ≤ (k : Int) := by omega
        have i1 : (k : Int) < (p.l.length : Int) := by omega
        have hin : In wr p := HI.out.1.keep HB.out.1
        have hl := hin.lies
        rw [HLV.out] at hl
        obtain ⟨b, o, rfl, hat⟩ := lies_at hl k h1
        have hm := List.getElem_mem h1
        obtain ⟨g, hg⟩ : ∃ g, holdsP r p.l[k] = g := ⟨_, rfl⟩
        have HQ : Hid (Calls Tryd.prog 26 #[p.l[k].val, vr] wr fun e w' => e = .returned (.bool g) ∧ Below wr.heap.size wr w') := by
          rw [← hg]; exact HI.out.2.2 _ hm wr (hin.part _ hm) (HI.out.2.1.below HB.out.1)
        have hnx := HF.out.next h1
        rw [hg] at hnx
        have HF1 : Hid (Sofar r p.l (k + 1) (fa && g) (fs || g) (if k = 0 then g else ff)) := hnx
        clear hm hl hin hg hnx HF
        obtain ⟨c0, c1, c2, c3, c4, c5, c6, c7, c8⟩ := hat
        unfold PT.val at HQ
        go_wp2_with fail
        refine Calls.mono HQ.out ?_
        rintro e w1 ⟨rfl, hb⟩
        have HB1 : Hid (Below w.heap.size w w1 ∧ Box w1 w.heap.size p) := ⟨on HB.out.1 hb, HB.out.2.below hb⟩
        clear hb HB hc c0 c1 c2 c3 c4 c5 c6 c7 c8 HQ hlt
        by_cases h0 : k = 0
        · subst h0
          cases fa <;> cases fs
          all_goals
            go_wp2_with fail
            go_roundw
            case rel => exact ⟨1, _, _, _, by omega, rfl, rfl, rfl, by go_num, HF1, HB1⟩
            case measure => simp [intOf]; omega
        · have h0' : ((k : Int) == 0) = false := by rw [beq_eq_false_iff_ne]; omega
          have HF2 : Hid (Sofar r p.l (k + 1) (fa && g) (fs || g) ff) := by have := HF1.out; rw [if_neg h0] at this; exact this
          clear HF1
          cases fa <;> cases fs
          all_goals
            go_wp2_with fail
            go_roundw
            case rel => exact ⟨k + 1, _, _, _, by omega, rfl, rfl, rfl, by go_num, HF2, HB1⟩
            case measure => simp [intOf]; omega
      · have i1 : decide ((k : Int) < (p.l.length : Int)) = false := by simp; omega
        obtain rfl : k = p.l.length := by omega
        have hend := HF.out.end HN.out
        rw [HANS.out, HOP.out] at hend
        have HE : Hid (a = if op = 1 then true else if op = 10 then !ff else if op = 11 then fa else if op = 12 then fs else false) := hend
        have b0 := HB.out.2.c0
        rw [HOP.out] at b0
        clear HI HF hend HANS HOP HN
        by_cases e1 : op = 1
        · first
            | (exfalso; omega)
            | (subst e1; go_wp2_with fail; go_ret; exact ⟨ret_b3 (by rw [HE.out]; rfl), HB.out.1⟩)
            | fail
        have e1' : (op == 1) = false := by simpa using e1
        by_cases e2 : op = 10
        · subst e2
          go_wp2_with fail
          go_ret
          exact ⟨ret_b3 (by rw [HE.out]; rfl), HB.out.1⟩
        have e2' : (op == 10) = false := by simpa using e2
        by_cases e3 : op = 11
        · subst e3
          go_wp2_with fail
          go_ret
          exact ⟨ret_b3 (by rw [HE.out]; rfl), HB.out.1⟩
        have e3' : (op == 11) = false := by simpa using e3
        by_cases e4 : op = 12
        · subst e4
          go_wp2_with fail
          go_ret
          exact ⟨ret_b3 (by rw [HE.out]; rfl), HB.out.1⟩
        have e4' : (op == 12) = false := by simpa using e4
        have HE2 : Hid (a = false) := by have := HE.out; rw [if_neg e1, if_neg e2, if_neg e3, if_neg e4] at this; exact this
        clear e1 e2 e3 e4 HE
        go_wp2_with fail
        go_ret
        exact ⟨ret_b3 (by rw [HE2.out]), HB.out.1⟩
theorem rholds_ok (vr : Value) (r : List Val) (hok : RowOk r) (p : PT) : RHoldsOk vr r p := by
  induction p using PT.ind with
  | h p ih =>
    by_cases h : 3 ≤ p.op ∧ p.op ≤ 9
    · exact rholds_leaf vr r hok p h
    · refine rholds_step vr r p ?_ ih
      by_cases h3 : 3 ≤ p.op
      · exact .inr ⟨h3, by simp; omega⟩
      · exact .inl (by simpa using h3)
end Go.Proofs.YtfkhfplibhnceaaDoor.Val
/- What the reference's col, part and May answer. -/
namespace Go.Proofs.YtfkhfplibhnceaaDoor.Val
open Go.RowKit

set_option maxHeartbeats 1000000 in
theorem rcol_low (vc : Value) (col : Int) (x : Val) (w : World) (hs : x.s.size ≤ maxLen) (hlo : decide (0 ≤ col) = false) :
    Calls Tryd.prog 58 #[.agg #[vc], .int .i64 col, V x.t x.n x.s] w fun e w' => e = .returned (.bool false) ∧ Below w.heap.size w w' := by
  have H : Hid (∀ w1, Calls Tryd.prog 45 #[V x.t x.n x.s] w1 fun e w' => e = .returned (.bool (rightV x.t x.n x.s)) ∧ Below w1.heap.size w1 w') := fun w1 => rright_any x.t x.n x.s w1 hs
  clear hs
  generalize rightV x.t x.n x.s = g at *
  go_enter Tryd.func58, Tryd.ntmps58
  go_wp2_with fail
  refine Calls.mono (H.out _) ?_
  rintro e w1 ⟨rfl, hb1⟩
  have HB : Hid (Below w.heap.size w w1) := back2 hb1
  clear hb1 H
  go_wp2_with fail
  refine wp_region_held_drew (S := fun w' => True) (by kernel_rfl) ?_ (fun hHeld => ?_)
  · trivial
  (try clear hK K)
  refine wpAnyH_take (i := 0) (v := ?_) rfl (by kernel_rfl) (by kernel_rfl) (by kernel_rfl) (fun _ _ _ h => h) (Or.inl ⟨by rfl, ?_⟩) (by assumption) ?_
  rotate_left
  · intro w hSw; (try dsimp only at hSw); go_simp; (try with_reducible rfl)
  (try simp only [Act.put, List.getElem_toArray, List.getElem_cons_zero, List.setIfInBounds_toArray, List.set_cons_zero, List.set_cons_succ])
  refine wpAnyH_take (i := 1) (v := ?_) rfl (by kernel_rfl) (by kernel_rfl) (by kernel_rfl) (fun _ _ _ h => h) (Or.inl ⟨by rfl, ?_⟩) (by assumption) ?_
  rotate_left
  · intro w hSw; (try dsimp only at hSw); go_simp; (try with_reducible rfl)
  (try simp only [Act.put, List.getElem_toArray, List.getElem_cons_succ, List.getElem_cons_zero, List.setIfInBounds_toArray, List.set_cons_zero, List.set_cons_succ])
  refine wpAnyH_take (i := 2) (v := ?_) rfl (by kernel_rfl) (by kernel_rfl) (by kernel_rfl) (fun _ _ _ h => h) (Or.inl ⟨by rfl, ?_⟩) (by assumption) ?_
  rotate_left
  · intro w hSw; (try dsimp only at hSw); go_simp; (try with_reducible rfl)
  (try simp only [Act.put, List.getElem_toArray, List.getElem_cons_succ, List.getElem_cons_zero, List.setIfInBounds_toArray, List.set_cons_zero, List.set_cons_succ])
  (try clear hK K)
  refine wpAnyH_take (i := 3) (v := undef) rfl (by kernel_rfl) (by kernel_rfl) (by kernel_rfl) (fun _ _ _ h => h) (Or.inr ⟨by rfl, rfl⟩) (by assumption) ?_
  (try simp only [Act.put, List.getElem_toArray, List.getElem_cons_succ, List.getElem_cons_zero, List.setIfInBounds_toArray, List.set_cons_zero, List.set_cons_succ])
  refine wpAnyH_take (i := 4) (v := undef) rfl (by kernel_rfl) (by kernel_rfl) (by kernel_rfl) (fun _ _ _ h => h) (Or.inr ⟨by rfl, rfl⟩) (by assumption) ?_
  (try simp only [Act.put, List.getElem_toArray, List.getElem_cons_succ, List.getElem_cons_zero, List.setIfInBounds_toArray, List.set_cons_zero, List.set_cons_succ])
  refine wpAnyH_take (i := 5) (v := undef) rfl (by kernel_rfl) (by kernel_rfl) (by kernel_rfl) (fun _ _ _ h => h) (Or.inr ⟨by rfl, rfl⟩) (by assumption) ?_
  (try simp only [Act.put, List.getElem_toArray, List.getElem_cons_succ, List.getElem_cons_zero, List.setIfInBounds_toArray, List.set_cons_zero, List.set_cons_succ])
  refine wpAnyH_take (i := 6) (v := undef) rfl (by kernel_rfl) (by kernel_rfl) (by kernel_rfl) (fun _ _ _ h => h) (Or.inr ⟨by rfl, rfl⟩) (by assumption) ?_
  (try simp only [Act.put, List.getElem_toArray, List.getElem_cons_succ, List.getElem_cons_zero, List.setIfInBounds_toArray, List.set_cons_zero, List.set_cons_succ])
  refine wpAnyH_take (i := 7) (v := undef) rfl (by kernel_rfl) (by kernel_rfl) (by kernel_rfl) (fun _ _ _ h => h) (Or.inr ⟨by rfl, rfl⟩) (by assumption) ?_
  (try simp only [Act.put, List.getElem_toArray, List.getElem_cons_succ, List.getElem_cons_zero, List.setIfInBounds_toArray, List.set_cons_zero, List.set_cons_succ])
  (try clear hK K)
  refine wpAnyH_take (i := 8) (v := ?_) rfl (by kernel_rfl) (by kernel_rfl) (by kernel_rfl) (fun _ _ _ h => h) (Or.inl ⟨by rfl, ?_⟩) (by assumption) ?_
  rotate_left
  · intro w hSw; (try dsimp only at hSw); go_simp; (try with_reducible rfl)
  (try simp only [Act.put, List.getElem_toArray, List.getElem_cons_succ, List.getElem_cons_zero, List.setIfInBounds_toArray, List.set_cons_zero, List.set_cons_succ])
  refine wpAnyH_take (i := 9) (v := ?_) rfl (by kernel_rfl) (by kernel_rfl) (by kernel_rfl) (fun _ _ _ h => h) (Or.inl ⟨by rfl, ?_⟩) (by assumption) ?_
  rotate_left
  · intro w hSw; (try dsimp only at hSw); go_simp; (try with_reducible rfl)
  (try simp only [Act.put, List.getElem_toArray, List.getElem_cons_succ, List.getElem_cons_zero, List.setIfInBounds_toArray, List.set_cons_zero, List.set_cons_succ])
  (try clear hK K)
  refine wpAnyH_take (i := 10) (v := undef) rfl (by kernel_rfl) (by kernel_rfl) (by kernel_rfl) (fun _ _ _ h => h) (Or.inr ⟨by rfl, rfl⟩) (by assumption) ?_
  (try simp only [Act.put, List.getElem_toArray, List.getElem_cons_succ, List.getElem_cons_zero, List.setIfInBounds_toArray, List.set_cons_zero, List.set_cons_succ])
  (try clear hK K)
  refine wpAnyH_take (i := 11) (v := ?_) rfl (by kernel_rfl) (by kernel_rfl) (by kernel_rfl) (fun _ _ _ h => h) (Or.inl ⟨by rfl, ?_⟩) (by assumption) ?_
  rotate_left
  · intro w hSw; (try dsimp only at hSw); go_simp; (try with_reducible rfl)
  (try simp only [Act.put, List.getElem_toArray, List.getElem_cons_succ, List.getElem_cons_zero, List.setIfInBounds_toArray, List.set_cons_zero, List.set_cons_succ])
  refine wpAnyH_take (i := 12) (v := ?_) rfl (by kernel_rfl) (by kernel_rfl) (by kernel_rfl) (fun _ _ _ h => h) (Or.inl ⟨by rfl, ?_⟩) (by assumption) ?_
  rotate_left
  · intro w hSw; (try dsimp only at hSw); go_simp; (try with_reducible rfl)
  (try simp only [Act.put, List.getElem_toArray, List.getElem_cons_succ, List.getElem_cons_zero, List.setIfInBounds_toArray, List.set_cons_zero, List.set_cons_succ])
  (try clear hK K)
  refine wpAnyH_take (i := 13) (v := undef) rfl (by kernel_rfl) (by kernel_rfl) (by kernel_rfl) (fun _ _ _ h => h) (Or.inr ⟨by rfl, rfl⟩) (by assumption) ?_
  (try simp only [Act.put, List.getElem_toArray, List.getElem_cons_succ, List.getElem_cons_zero, List.setIfInBounds_toArray, List.set_cons_zero, List.set_cons_succ])
  refine wpAnyH_take (i := 14) (v := undef) rfl (by kernel_rfl) (by kernel_rfl) (by kernel_rfl) (fun _ _ _ h => h) (Or.inr ⟨by rfl, rfl⟩) (by assumption) ?_
  (try simp only [Act.put, List.getElem_toArray, List.getElem_cons_succ, List.getElem_cons_zero, List.setIfInBounds_toArray, List.set_cons_zero, List.set_cons_succ])
  refine wpAnyH_take (i := 15) (v := undef) rfl (by kernel_rfl) (by kernel_rfl) (by kernel_rfl) (fun _ _ _ h => h) (Or.inr ⟨by rfl, rfl⟩) (by assumption) ?_
  (try simp only [Act.put, List.getElem_toArray, List.getElem_cons_succ, List.getElem_cons_zero, List.setIfInBounds_toArray, List.set_cons_zero, List.set_cons_succ])
  refine wpAnyH_take (i := 16) (v := undef) rfl (by kernel_rfl) (by kernel_rfl) (by kernel_rfl) (fun _ _ _ h => h) (Or.inr ⟨by rfl, rfl⟩) (by assumption) ?_
  (try simp only [Act.put, List.getElem_toArray, List.getElem_cons_succ, List.getElem_cons_zero, List.setIfInBounds_toArray, List.set_cons_zero, List.set_cons_succ])
  refine wpAnyH_take (i := 17) (v := undef) rfl (by kernel_rfl) (by kernel_rfl) (by kernel_rfl) (fun _ _ _ h => h) (Or.inr ⟨by rfl, rfl⟩) (by assumption) ?_
  (try simp only [Act.put, List.getElem_toArray, List.getElem_cons_succ, List.getElem_cons_zero, List.setIfInBounds_toArray, List.set_cons_zero, List.set_cons_succ])
  refine wpAnyH_take (i := 18) (v := undef) rfl (by kernel_rfl) (by kernel_rfl) (by kernel_rfl) (fun _ _ _ h => h) (Or.inr ⟨by rfl, rfl⟩) (by assumption) ?_
  (try simp only [Act.put, List.getElem_toArray, List.getElem_cons_succ, List.getElem_cons_zero, List.setIfInBounds_toArray, List.set_cons_zero, List.set_cons_succ])
  refine wpAnyH_take (i := 19) (v := undef) rfl (by kernel_rfl) (by kernel_rfl) (by kernel_rfl) (fun _ _ _ h => h) (Or.inr ⟨by rfl, rfl⟩) (by assumption) ?_
  (try simp only [Act.put, List.getElem_toArray, List.getElem_cons_succ, List.getElem_cons_zero, List.setIfInBounds_toArray, List.set_cons_zero, List.set_cons_succ])
  refine wpAnyH_take (i := 20) (v := undef) rfl (by kernel_rfl) (by kernel_rfl) (by kernel_rfl) (fun _ _ _ h => h) (Or.inr ⟨by rfl, rfl⟩) (by assumption) ?_
  (try simp only [Act.put, List.getElem_toArray, List.getElem_cons_succ, List.getElem_cons_zero, List.setIfInBounds_toArray, List.set_cons_zero, List.set_cons_succ])
  (try clear hK K)
  refine wpAnyH_take (i := 21) (v := ?_) rfl (by kernel_rfl) (by kernel_rfl) (by kernel_rfl) (fun _ _ _ h => h) (Or.inl ⟨by rfl, ?_⟩) (by assumption) ?_
  rotate_left
  · intro w hSw; (try dsimp only at hSw); go_simp; (try with_reducible rfl)
  (try simp only [Act.put, List.getElem_toArray, List.getElem_cons_succ, List.getElem_cons_zero, List.setIfInBounds_toArray, List.set_cons_zero, List.set_cons_succ])
  refine wpAnyH_take (i := 22) (v := ?_) rfl (by kernel_rfl) (by kernel_rfl) (by kernel_rfl) (fun _ _ _ h => h) (Or.inl ⟨by rfl, ?_⟩) (by assumption) ?_
  rotate_left
  · intro w hSw; (try dsimp only at hSw); go_simp; (try with_reducible rfl)
  (try simp only [Act.put, List.getElem_toArray, List.getElem_cons_succ, List.getElem_cons_zero, List.setIfInBounds_toArray, List.set_cons_zero, List.set_cons_succ])
  (try clear hK K)
  refine wpAnyH_done (by kernel_rfl) ?_ _
  go_wp2_with fail
  go_ret
  exact ⟨rfl, HB.out.drew⟩
set_option maxHeartbeats 1000000 in
theorem rcol_high (ac : Option Addr) (n cc : Nat) (col : Int) (x : Val) (w : World) (hs : x.s.size ≤ maxLen) (hlo : 0 ≤ col) (hhi : decide (col < (n : Int)) = false) :
    Calls Tryd.prog 58 #[.agg #[.slice ac n cc], .int .i64 col, V x.t x.n x.s] w fun e w' => e = .returned (.bool false) ∧ Below w.heap.size w w' := by
  have H : Hid (∀ w1, Calls Tryd.prog 45 #[V x.t x.n x.s] w1 fun e w' => e = .returned (.bool (rightV x.t x.n x.s)) ∧ Below w1.heap.size w1 w') := fun w1 => rright_any x.t x.n x.s w1 hs
  clear hs
  generalize rightV x.t x.n x.s = g at *
  go_enter Tryd.func58, Tryd.ntmps58
  go_wp2_with fail
  refine Calls.mono (H.out _) ?_
  rintro e w1 ⟨rfl, hb1⟩
  have HB : Hid (Below w.heap.size w w1) := back2 hb1
  have t0 : w1.cell? ⟨w.heap.size, 0, none⟩ = some (.slice ac n cc) := by rw [hb1.cell (by simp; omega)]; simp [go_sem]
  clear hb1 H
  go_wp2_with fail
  refine wp_region_held_drew (S := fun w' => w'.cell? ⟨w.heap.size, 0, none⟩ = some (.slice ac n cc)) (by kernel_rfl) ?_ (fun hHeld => ?_)
  · exact t0
  (try clear hK K)
  refine wpAnyH_take (i := 0) (v := ?_) rfl (by kernel_rfl) (by kernel_rfl) (by kernel_rfl) (fun _ _ _ h => h) (Or.inl ⟨by rfl, ?_⟩) (by assumption) ?_
  rotate_left
  · intro w hSw; (try dsimp only at hSw); go_simp; (try with_reducible rfl)
  (try simp only [Act.put, List.getElem_toArray, List.getElem_cons_zero, List.setIfInBounds_toArray, List.set_cons_zero, List.set_cons_succ])
  refine wpAnyH_take (i := 1) (v := ?_) rfl (by kernel_rfl) (by kernel_rfl) (by kernel_rfl) (fun _ _ _ h => h) (Or.inl ⟨by rfl, ?_⟩) (by assumption) ?_
  rotate_left
  · intro w hSw; (try dsimp only at hSw); go_simp; (try with_reducible rfl)
  (try simp only [Act.put, List.getElem_toArray, List.getElem_cons_succ, List.getElem_cons_zero, List.setIfInBounds_toArray, List.set_cons_zero, List.set_cons_succ])
  refine wpAnyH_take (i := 2) (v := ?_) rfl (by kernel_rfl) (by kernel_rfl) (by kernel_rfl) (fun _ _ _ h => h) (Or.inl ⟨by rfl, ?_⟩) (by assumption) ?_
  rotate_left
  · intro w hSw; (try dsimp only at hSw); go_simp; (try with_reducible rfl)
  (try simp only [Act.put, List.getElem_toArray, List.getElem_cons_succ, List.getElem_cons_zero, List.setIfInBounds_toArray, List.set_cons_zero, List.set_cons_succ])
  refine wpAnyH_take (i := 3) (v := ?_) rfl (by kernel_rfl) (by kernel_rfl) (by kernel_rfl) (fun _ _ _ h => h) (Or.inl ⟨by rfl, ?_⟩) (by assumption) ?_
  rotate_left
  · intro w hSw; (try dsimp only at hSw); go_simp; (try with_reducible rfl)
  (try simp only [Act.put, List.getElem_toArray, List.getElem_cons_succ, List.getElem_cons_zero, List.setIfInBounds_toArray, List.set_cons_zero, List.set_cons_succ])
  refine wpAnyH_take (i := 4) (v := ?_) rfl (by kernel_rfl) (by kernel_rfl) (by kernel_rfl) (fun _ _ _ h => h) (Or.inl ⟨by rfl, ?_⟩) (by assumption) ?_
  rotate_left
  · intro w hSw; (try dsimp only at hSw); go_simp; (try with_reducible rfl)
  (try simp only [Act.put, List.getElem_toArray, List.getElem_cons_succ, List.getElem_cons_zero, List.setIfInBounds_toArray, List.set_cons_zero, List.set_cons_succ])
  refine wpAnyH_take (i := 5) (v := ?_) rfl (by kernel_rfl) (by kernel_rfl) (by kernel_rfl) (fun _ _ _ h => h) (Or.inl ⟨by rfl, ?_⟩) (by assumption) ?_
  rotate_left
  · intro w hSw; (try dsimp only at hSw); go_simp; (try with_reducible rfl)
  (try simp only [Act.put, List.getElem_toArray, List.getElem_cons_succ, List.getElem_cons_zero, List.setIfInBounds_toArray, List.set_cons_zero, List.set_cons_succ])
  refine wpAnyH_take (i := 6) (v := ?_) rfl (by kernel_rfl) (by kernel_rfl) (by kernel_rfl) (fun _ _ _ h => h) (Or.inl ⟨by rfl, ?_⟩) (by assumption) ?_
  rotate_left
  · intro w hSw; (try dsimp only at hSw); go_simp; (try with_reducible rfl)
  (try simp only [Act.put, List.getElem_toArray, List.getElem_cons_succ, List.getElem_cons_zero, List.setIfInBounds_toArray, List.set_cons_zero, List.set_cons_succ])
  refine wpAnyH_take (i := 7) (v := ?_) rfl (by kernel_rfl) (by kernel_rfl) (by kernel_rfl) (fun _ _ _ h => h) (Or.inl ⟨by rfl, ?_⟩) (by assumption) ?_
  rotate_left
  · intro w hSw; (try dsimp only at hSw); go_simp; (try with_reducible rfl)
  (try simp only [Act.put, List.getElem_toArray, List.getElem_cons_succ, List.getElem_cons_zero, List.setIfInBounds_toArray, List.set_cons_zero, List.set_cons_succ])
  refine wpAnyH_take (i := 8) (v := ?_) rfl (by kernel_rfl) (by kernel_rfl) (by kernel_rfl) (fun _ _ _ h => h) (Or.inl ⟨by rfl, ?_⟩) (by assumption) ?_
  rotate_left
  · intro w hSw; (try dsimp only at hSw); go_simp; (try with_reducible rfl)
  (try simp only [Act.put, List.getElem_toArray, List.getElem_cons_succ, List.getElem_cons_zero, List.setIfInBounds_toArray, List.set_cons_zero, List.set_cons_succ])
  refine wpAnyH_take (i := 9) (v := ?_) rfl (by kernel_rfl) (by kernel_rfl) (by kernel_rfl) (fun _ _ _ h => h) (Or.inl ⟨by rfl, ?_⟩) (by assumption) ?_
  rotate_left
  · intro w hSw; (try dsimp only at hSw); go_simp; (try with_reducible rfl)
  (try simp only [Act.put, List.getElem_toArray, List.getElem_cons_succ, List.getElem_cons_zero, List.setIfInBounds_toArray, List.set_cons_zero, List.set_cons_succ])
  (try clear hK K)
  refine wpAnyH_take (i := 10) (v := undef) rfl (by kernel_rfl) (by kernel_rfl) (by kernel_rfl) (fun _ _ _ h => h) (Or.inr ⟨by rfl, rfl⟩) (by assumption) ?_
  (try simp only [Act.put, List.getElem_toArray, List.getElem_cons_succ, List.getElem_cons_zero, List.setIfInBounds_toArray, List.set_cons_zero, List.set_cons_succ])
  (try clear hK K)
  refine wpAnyH_take (i := 11) (v := ?_) rfl (by kernel_rfl) (by kernel_rfl) (by kernel_rfl) (fun _ _ _ h => h) (Or.inl ⟨by rfl, ?_⟩) (by assumption) ?_
  rotate_left
  · intro w hSw; (try dsimp only at hSw); go_simp; (try with_reducible rfl)
  (try simp only [Act.put, List.getElem_toArray, List.getElem_cons_succ, List.getElem_cons_zero, List.setIfInBounds_toArray, List.set_cons_zero, List.set_cons_succ])
  refine wpAnyH_take (i := 12) (v := ?_) rfl (by kernel_rfl) (by kernel_rfl) (by kernel_rfl) (fun _ _ _ h => h) (Or.inl ⟨by rfl, ?_⟩) (by assumption) ?_
  rotate_left
  · intro w hSw; (try dsimp only at hSw); go_simp; (try with_reducible rfl)
  (try simp only [Act.put, List.getElem_toArray, List.getElem_cons_succ, List.getElem_cons_zero, List.setIfInBounds_toArray, List.set_cons_zero, List.set_cons_succ])
  (try clear hK K)
  refine wpAnyH_take (i := 13) (v := undef) rfl (by kernel_rfl) (by kernel_rfl) (by kernel_rfl) (fun _ _ _ h => h) (Or.inr ⟨by rfl, rfl⟩) (by assumption) ?_
  (try simp only [Act.put, List.getElem_toArray, List.getElem_cons_succ, List.getElem_cons_zero, List.setIfInBounds_toArray, List.set_cons_zero, List.set_cons_succ])
  refine wpAnyH_take (i := 14) (v := undef) rfl (by kernel_rfl) (by kernel_rfl) (by kernel_rfl) (fun _ _ _ h => h) (Or.inr ⟨by rfl, rfl⟩) (by assumption) ?_
  (try simp only [Act.put, List.getElem_toArray, List.getElem_cons_succ, List.getElem_cons_zero, List.setIfInBounds_toArray, List.set_cons_zero, List.set_cons_succ])
  refine wpAnyH_take (i := 15) (v := undef) rfl (by kernel_rfl) (by kernel_rfl) (by kernel_rfl) (fun _ _ _ h => h) (Or.inr ⟨by rfl, rfl⟩) (by assumption) ?_
  (try simp only [Act.put, List.getElem_toArray, List.getElem_cons_succ, List.getElem_cons_zero, List.setIfInBounds_toArray, List.set_cons_zero, List.set_cons_succ])
  refine wpAnyH_take (i := 16) (v := undef) rfl (by kernel_rfl) (by kernel_rfl) (by kernel_rfl) (fun _ _ _ h => h) (Or.inr ⟨by rfl, rfl⟩) (by assumption) ?_
  (try simp only [Act.put, List.getElem_toArray, List.getElem_cons_succ, List.getElem_cons_zero, List.setIfInBounds_toArray, List.set_cons_zero, List.set_cons_succ])
  refine wpAnyH_take (i := 17) (v := undef) rfl (by kernel_rfl) (by kernel_rfl) (by kernel_rfl) (fun _ _ _ h => h) (Or.inr ⟨by rfl, rfl⟩) (by assumption) ?_
  (try simp only [Act.put, List.getElem_toArray, List.getElem_cons_succ, List.getElem_cons_zero, List.setIfInBounds_toArray, List.set_cons_zero, List.set_cons_succ])
  refine wpAnyH_take (i := 18) (v := undef) rfl (by kernel_rfl) (by kernel_rfl) (by kernel_rfl) (fun _ _ _ h => h) (Or.inr ⟨by rfl, rfl⟩) (by assumption) ?_
  (try simp only [Act.put, List.getElem_toArray, List.getElem_cons_succ, List.getElem_cons_zero, List.setIfInBounds_toArray, List.set_cons_zero, List.set_cons_succ])
  refine wpAnyH_take (i := 19) (v := undef) rfl (by kernel_rfl) (by kernel_rfl) (by kernel_rfl) (fun _ _ _ h => h) (Or.inr ⟨by rfl, rfl⟩) (by assumption) ?_
  (try simp only [Act.put, List.getElem_toArray, List.getElem_cons_succ, List.getElem_cons_zero, List.setIfInBounds_toArray, List.set_cons_zero, List.set_cons_succ])
  refine wpAnyH_take (i := 20) (v := undef) rfl (by kernel_rfl) (by kernel_rfl) (by kernel_rfl) (fun _ _ _ h => h) (Or.inr ⟨by rfl, rfl⟩) (by assumption) ?_
  (try simp only [Act.put, List.getElem_toArray, List.getElem_cons_succ, List.getElem_cons_zero, List.setIfInBounds_toArray, List.set_cons_zero, List.set_cons_succ])
  (try clear hK K)
  refine wpAnyH_take (i := 21) (v := ?_) rfl (by kernel_rfl) (by kernel_rfl) (by kernel_rfl) (fun _ _ _ h => h) (Or.inl ⟨by rfl, ?_⟩) (by assumption) ?_
  rotate_left
  · intro w hSw; (try dsimp only at hSw); go_simp; (try with_reducible rfl)
  (try simp only [Act.put, List.getElem_toArray, List.getElem_cons_succ, List.getElem_cons_zero, List.setIfInBounds_toArray, List.set_cons_zero, List.set_cons_succ])
  refine wpAnyH_take (i := 22) (v := ?_) rfl (by kernel_rfl) (by kernel_rfl) (by kernel_rfl) (fun _ _ _ h => h) (Or.inl ⟨by rfl, ?_⟩) (by assumption) ?_
  rotate_left
  · intro w hSw; (try dsimp only at hSw); go_simp; (try with_reducible rfl)
  (try simp only [Act.put, List.getElem_toArray, List.getElem_cons_succ, List.getElem_cons_zero, List.setIfInBounds_toArray, List.set_cons_zero, List.set_cons_succ])
  (try clear hK K)
  refine wpAnyH_done (by kernel_rfl) ?_ _
  go_wp2_with fail
  go_ret
  exact ⟨rfl, HB.out.drew⟩
set_option maxHeartbeats 1000000 in
theorem rcol_wrong (ac : Option Addr) (n cc : Nat) (col : Int) (x : Val) (w : World) (hlo : 0 ≤ col) (hhi : col < (n : Int)) (hr : rightV x.t x.n x.s = false) (hs : x.s.size ≤ maxLen) :
    Calls Tryd.prog 58 #[.agg #[.slice ac n cc], .int .i64 col, V x.t x.n x.s] w fun e w' => e = .returned (.bool false) ∧ Below w.heap.size w w' := by
  have H : Hid (∀ w1, Calls Tryd.prog 45 #[V x.t x.n x.s] w1 fun e w' => e = .returned (.bool false) ∧ Below w1.heap.size w1 w') := fun w1 => by
    have := rright_any x.t x.n x.s w1 hs; rw [hr] at this; exact this
  clear hr hs
  go_enter Tryd.func58, Tryd.ntmps58
  go_wp2_with fail
  refine Calls.mono (H.out _) ?_
  rintro e w1 ⟨rfl, hb1⟩
  have HB : Hid (Below w.heap.size w w1) := back2 hb1
  have t0 : w1.cell? ⟨w.heap.size, 0, none⟩ = some (.slice ac n cc) := by rw [hb1.cell (by simp; omega)]; simp [go_sem]
  clear hb1 H
  go_wp2_with fail
  refine wp_region_held_drew (S := fun w' => w'.cell? ⟨w.heap.size, 0, none⟩ = some (.slice ac n cc)) (by kernel_rfl) ?_ (fun hHeld => ?_)
  · exact t0
  (try clear hK K)
  refine wpAnyH_take (i := 0) (v := ?_) rfl (by kernel_rfl) (by kernel_rfl) (by kernel_rfl) (fun _ _ _ h => h) (Or.inl ⟨by rfl, ?_⟩) (by assumption) ?_
  rotate_left
  · intro w hSw; (try dsimp only at hSw); go_simp; (try with_reducible rfl)
  (try simp only [Act.put, List.getElem_toArray, List.getElem_cons_zero, List.setIfInBounds_toArray, List.set_cons_zero, List.set_cons_succ])
  refine wpAnyH_take (i := 1) (v := ?_) rfl (by kernel_rfl) (by kernel_rfl) (by kernel_rfl) (fun _ _ _ h => h) (Or.inl ⟨by rfl, ?_⟩) (by assumption) ?_
  rotate_left
  · intro w hSw; (try dsimp only at hSw); go_simp; (try with_reducible rfl)
  (try simp only [Act.put, List.getElem_toArray, List.getElem_cons_succ, List.getElem_cons_zero, List.setIfInBounds_toArray, List.set_cons_zero, List.set_cons_succ])
  refine wpAnyH_take (i := 2) (v := ?_) rfl (by kernel_rfl) (by kernel_rfl) (by kernel_rfl) (fun _ _ _ h => h) (Or.inl ⟨by rfl, ?_⟩) (by assumption) ?_
  rotate_left
  · intro w hSw; (try dsimp only at hSw); go_simp; (try with_reducible rfl)
  (try simp only [Act.put, List.getElem_toArray, List.getElem_cons_succ, List.getElem_cons_zero, List.setIfInBounds_toArray, List.set_cons_zero, List.set_cons_succ])
  refine wpAnyH_take (i := 3) (v := ?_) rfl (by kernel_rfl) (by kernel_rfl) (by kernel_rfl) (fun _ _ _ h => h) (Or.inl ⟨by rfl, ?_⟩) (by assumption) ?_
  rotate_left
  · intro w hSw; (try dsimp only at hSw); go_simp; (try with_reducible rfl)
  (try simp only [Act.put, List.getElem_toArray, List.getElem_cons_succ, List.getElem_cons_zero, List.setIfInBounds_toArray, List.set_cons_zero, List.set_cons_succ])
  refine wpAnyH_take (i := 4) (v := ?_) rfl (by kernel_rfl) (by kernel_rfl) (by kernel_rfl) (fun _ _ _ h => h) (Or.inl ⟨by rfl, ?_⟩) (by assumption) ?_
  rotate_left
  · intro w hSw; (try dsimp only at hSw); go_simp; (try with_reducible rfl)
  (try simp only [Act.put, List.getElem_toArray, List.getElem_cons_succ, List.getElem_cons_zero, List.setIfInBounds_toArray, List.set_cons_zero, List.set_cons_succ])
  refine wpAnyH_take (i := 5) (v := ?_) rfl (by kernel_rfl) (by kernel_rfl) (by kernel_rfl) (fun _ _ _ h => h) (Or.inl ⟨by rfl, ?_⟩) (by assumption) ?_
  rotate_left
  · intro w hSw; (try dsimp only at hSw); go_simp; (try with_reducible rfl)
  (try simp only [Act.put, List.getElem_toArray, List.getElem_cons_succ, List.getElem_cons_zero, List.setIfInBounds_toArray, List.set_cons_zero, List.set_cons_succ])
  refine wpAnyH_take (i := 6) (v := ?_) rfl (by kernel_rfl) (by kernel_rfl) (by kernel_rfl) (fun _ _ _ h => h) (Or.inl ⟨by rfl, ?_⟩) (by assumption) ?_
  rotate_left
  · intro w hSw; (try dsimp only at hSw); go_simp; (try with_reducible rfl)
  (try simp only [Act.put, List.getElem_toArray, List.getElem_cons_succ, List.getElem_cons_zero, List.setIfInBounds_toArray, List.set_cons_zero, List.set_cons_succ])
  refine wpAnyH_take (i := 7) (v := ?_) rfl (by kernel_rfl) (by kernel_rfl) (by kernel_rfl) (fun _ _ _ h => h) (Or.inl ⟨by rfl, ?_⟩) (by assumption) ?_
  rotate_left
  · intro w hSw; (try dsimp only at hSw); go_simp; (try with_reducible rfl)
  (try simp only [Act.put, List.getElem_toArray, List.getElem_cons_succ, List.getElem_cons_zero, List.setIfInBounds_toArray, List.set_cons_zero, List.set_cons_succ])
  refine wpAnyH_take (i := 8) (v := ?_) rfl (by kernel_rfl) (by kernel_rfl) (by kernel_rfl) (fun _ _ _ h => h) (Or.inl ⟨by rfl, ?_⟩) (by assumption) ?_
  rotate_left
  · intro w hSw; (try dsimp only at hSw); go_simp; (try with_reducible rfl)
  (try simp only [Act.put, List.getElem_toArray, List.getElem_cons_succ, List.getElem_cons_zero, List.setIfInBounds_toArray, List.set_cons_zero, List.set_cons_succ])
  refine wpAnyH_take (i := 9) (v := ?_) rfl (by kernel_rfl) (by kernel_rfl) (by kernel_rfl) (fun _ _ _ h => h) (Or.inl ⟨by rfl, ?_⟩) (by assumption) ?_
  rotate_left
  · intro w hSw; (try dsimp only at hSw); go_simp; (try with_reducible rfl)
  (try simp only [Act.put, List.getElem_toArray, List.getElem_cons_succ, List.getElem_cons_zero, List.setIfInBounds_toArray, List.set_cons_zero, List.set_cons_succ])
  refine wpAnyH_take (i := 10) (v := ?_) rfl (by kernel_rfl) (by kernel_rfl) (by kernel_rfl) (fun _ _ _ h => h) (Or.inl ⟨by rfl, ?_⟩) (by assumption) ?_
  rotate_left
  · intro w hSw; (try dsimp only at hSw); go_simp; (try with_reducible rfl)
  (try simp only [Act.put, List.getElem_toArray, List.getElem_cons_succ, List.getElem_cons_zero, List.setIfInBounds_toArray, List.set_cons_zero, List.set_cons_succ])
  refine wpAnyH_take (i := 11) (v := ?_) rfl (by kernel_rfl) (by kernel_rfl) (by kernel_rfl) (fun _ _ _ h => h) (Or.inl ⟨by rfl, ?_⟩) (by assumption) ?_
  rotate_left
  · intro w hSw; (try dsimp only at hSw); go_simp; (try with_reducible rfl)
  (try simp only [Act.put, List.getElem_toArray, List.getElem_cons_succ, List.getElem_cons_zero, List.setIfInBounds_toArray, List.set_cons_zero, List.set_cons_succ])
  refine wpAnyH_take (i := 12) (v := ?_) rfl (by kernel_rfl) (by kernel_rfl) (by kernel_rfl) (fun _ _ _ h => h) (Or.inl ⟨by rfl, ?_⟩) (by assumption) ?_
  rotate_left
  · intro w hSw; (try dsimp only at hSw); go_simp; (try with_reducible rfl)
  (try simp only [Act.put, List.getElem_toArray, List.getElem_cons_succ, List.getElem_cons_zero, List.setIfInBounds_toArray, List.set_cons_zero, List.set_cons_succ])
  (try clear hK K)
  refine wpAnyH_take (i := 13) (v := undef) rfl (by kernel_rfl) (by kernel_rfl) (by kernel_rfl) (fun _ _ _ h => h) (Or.inr ⟨by rfl, rfl⟩) (by assumption) ?_
  (try simp only [Act.put, List.getElem_toArray, List.getElem_cons_succ, List.getElem_cons_zero, List.setIfInBounds_toArray, List.set_cons_zero, List.set_cons_succ])
  refine wpAnyH_take (i := 14) (v := undef) rfl (by kernel_rfl) (by kernel_rfl) (by kernel_rfl) (fun _ _ _ h => h) (Or.inr ⟨by rfl, rfl⟩) (by assumption) ?_
  (try simp only [Act.put, List.getElem_toArray, List.getElem_cons_succ, List.getElem_cons_zero, List.setIfInBounds_toArray, List.set_cons_zero, List.set_cons_succ])
  refine wpAnyH_take (i := 15) (v := undef) rfl (by kernel_rfl) (by kernel_rfl) (by kernel_rfl) (fun _ _ _ h => h) (Or.inr ⟨by rfl, rfl⟩) (by assumption) ?_
  (try simp only [Act.put, List.getElem_toArray, List.getElem_cons_succ, List.getElem_cons_zero, List.setIfInBounds_toArray, List.set_cons_zero, List.set_cons_succ])
  refine wpAnyH_take (i := 16) (v := undef) rfl (by kernel_rfl) (by kernel_rfl) (by kernel_rfl) (fun _ _ _ h => h) (Or.inr ⟨by rfl, rfl⟩) (by assumption) ?_
  (try simp only [Act.put, List.getElem_toArray, List.getElem_cons_succ, List.getElem_cons_zero, List.setIfInBounds_toArray, List.set_cons_zero, List.set_cons_succ])
  refine wpAnyH_take (i := 17) (v := undef) rfl (by kernel_rfl) (by kernel_rfl) (by kernel_rfl) (fun _ _ _ h => h) (Or.inr ⟨by rfl, rfl⟩) (by assumption) ?_
  (try simp only [Act.put, List.getElem_toArray, List.getElem_cons_succ, List.getElem_cons_zero, List.setIfInBounds_toArray, List.set_cons_zero, List.set_cons_succ])
  refine wpAnyH_take (i := 18) (v := undef) rfl (by kernel_rfl) (by kernel_rfl) (by kernel_rfl) (fun _ _ _ h => h) (Or.inr ⟨by rfl, rfl⟩) (by assumption) ?_
  (try simp only [Act.put, List.getElem_toArray, List.getElem_cons_succ, List.getElem_cons_zero, List.setIfInBounds_toArray, List.set_cons_zero, List.set_cons_succ])
  refine wpAnyH_take (i := 19) (v := undef) rfl (by kernel_rfl) (by kernel_rfl) (by kernel_rfl) (fun _ _ _ h => h) (Or.inr ⟨by rfl, rfl⟩) (by assumption) ?_
  (try simp only [Act.put, List.getElem_toArray, List.getElem_cons_succ, List.getElem_cons_zero, List.setIfInBounds_toArray, List.set_cons_zero, List.set_cons_succ])
  refine wpAnyH_take (i := 20) (v := undef) rfl (by kernel_rfl) (by kernel_rfl) (by kernel_rfl) (fun _ _ _ h => h) (Or.inr ⟨by rfl, rfl⟩) (by assumption) ?_
  (try simp only [Act.put, List.getElem_toArray, List.getElem_cons_succ, List.getElem_cons_zero, List.setIfInBounds_toArray, List.set_cons_zero, List.set_cons_succ])
  (try clear hK K)
  refine wpAnyH_take (i := 21) (v := ?_) rfl (by kernel_rfl) (by kernel_rfl) (by kernel_rfl) (fun _ _ _ h => h) (Or.inl ⟨by rfl, ?_⟩) (by assumption) ?_
  rotate_left
  · intro w hSw; (try dsimp only at hSw); go_simp; (try with_reducible rfl)
  (try simp only [Act.put, List.getElem_toArray, List.getElem_cons_succ, List.getElem_cons_zero, List.setIfInBounds_toArray, List.set_cons_zero, List.set_cons_succ])
  refine wpAnyH_take (i := 22) (v := ?_) rfl (by kernel_rfl) (by kernel_rfl) (by kernel_rfl) (fun _ _ _ h => h) (Or.inl ⟨by rfl, ?_⟩) (by assumption) ?_
  rotate_left
  · intro w hSw; (try dsimp only at hSw); go_simp; (try with_reducible rfl)
  (try simp only [Act.put, List.getElem_toArray, List.getElem_cons_succ, List.getElem_cons_zero, List.setIfInBounds_toArray, List.set_cons_zero, List.set_cons_succ])
  (try clear hK K)
  refine wpAnyH_done (by kernel_rfl) ?_ _
  go_wp2_with fail
  go_ret
  exact ⟨rfl, HB.out.drew⟩
set_option maxHeartbeats 1000000 in
theorem rcol_at (b o n cc k : Nat) (c : Bool) (x : Val) (w : World) (hk : k < n) (hr : rightV x.t x.n x.s = true) (hs : x.s.size ≤ maxLen) (hc : w.cell? ⟨b, o + k, none⟩ = some (.bool c)) :
    Calls Tryd.prog 58 #[.agg #[.slice (some ⟨b, o, none⟩) n cc], .int .i64 (k : Int), V x.t x.n x.s] w fun e w' => e = .returned (.bool (x.t == c)) ∧ Below w.heap.size w w' := by
  have H : Hid (∀ w1, Calls Tryd.prog 45 #[V x.t x.n x.s] w1 fun e w' => e = .returned (.bool true) ∧ Below w1.heap.size w1 w') := fun w1 => by
    have := rright_any x.t x.n x.s w1 hs; rw [hr] at this; exact this
  have hlt : b < w.heap.size := World.block_lt_of_cell? w _ hc
  have k0 : (0 : Int) ≤ (k : Int) := by omega
  have k1 : (k : Int) < (n : Int) := by omega
  clear hr hs
  go_enter Tryd.func58, Tryd.ntmps58
  go_wp2_with fail
  refine Calls.mono (H.out _) ?_
  rintro e w1 ⟨rfl, hb1⟩
  have HB : Hid (Below w.heap.size w w1) := back2 hb1
  have t0 : w1.cell? ⟨w.heap.size, 0, none⟩ = some (.slice (some ⟨b, o, none⟩) n cc) := by rw [hb1.cell (by simp; omega)]; simp [go_sem]
  have v0 : w1.cell? ⟨w.heap.size + 1, 0, none⟩ = some (.bool x.t) := by rw [hb1.cell (by simp)]; simp [go_sem]
  have c0 : w1.cell? ⟨b, o + k, none⟩ = some (.bool c) := cell_below hc HB.out
  clear hb1 H hc
  go_wp2_with fail
  refine wp_region_held_drew (S := fun w' => w'.cell? ⟨w.heap.size, 0, none⟩ = some (.slice (some ⟨b, o, none⟩) n cc) ∧ w'.cell? ⟨w.heap.size + 1, 0, none⟩ = some (.bool x.t) ∧ w'.cell? ⟨b, o + k, none⟩ = some (.bool c)) (by kernel_rfl) ?_ (fun hHeld => ?_)
  · exact ⟨t0, v0, c0⟩
  (try clear hK K)
  refine wpAnyH_take (i := 0) (v := ?_) rfl (by kernel_rfl) (by kernel_rfl) (by kernel_rfl) (fun _ _ _ h => h) (Or.inl ⟨by rfl, ?_⟩) (by assumption) ?_
  rotate_left
  · intro w hSw; (try dsimp only at hSw); go_simp; (try with_reducible rfl)
  (try simp only [Act.put, List.getElem_toArray, List.getElem_cons_zero, List.setIfInBounds_toArray, List.set_cons_zero, List.set_cons_succ])
  refine wpAnyH_take (i := 1) (v := ?_) rfl (by kernel_rfl) (by kernel_rfl) (by kernel_rfl) (fun _ _ _ h => h) (Or.inl ⟨by rfl, ?_⟩) (by assumption) ?_
  rotate_left
  · intro w hSw; (try dsimp only at hSw); go_simp; (try with_reducible rfl)
  (try simp only [Act.put, List.getElem_toArray, List.getElem_cons_succ, List.getElem_cons_zero, List.setIfInBounds_toArray, List.set_cons_zero, List.set_cons_succ])
  refine wpAnyH_take (i := 2) (v := ?_) rfl (by kernel_rfl) (by kernel_rfl) (by kernel_rfl) (fun _ _ _ h => h) (Or.inl ⟨by rfl, ?_⟩) (by assumption) ?_
  rotate_left
  · intro w hSw; (try dsimp only at hSw); go_simp; (try with_reducible rfl)
  (try simp only [Act.put, List.getElem_toArray, List.getElem_cons_succ, List.getElem_cons_zero, List.setIfInBounds_toArray, List.set_cons_zero, List.set_cons_succ])
  refine wpAnyH_take (i := 3) (v := ?_) rfl (by kernel_rfl) (by kernel_rfl) (by kernel_rfl) (fun _ _ _ h => h) (Or.inl ⟨by rfl, ?_⟩) (by assumption) ?_
  rotate_left
  · intro w hSw; (try dsimp only at hSw); go_simp; (try with_reducible rfl)
  (try simp only [Act.put, List.getElem_toArray, List.getElem_cons_succ, List.getElem_cons_zero, List.setIfInBounds_toArray, List.set_cons_zero, List.set_cons_succ])
  refine wpAnyH_take (i := 4) (v := ?_) rfl (by kernel_rfl) (by kernel_rfl) (by kernel_rfl) (fun _ _ _ h => h) (Or.inl ⟨by rfl, ?_⟩) (by assumption) ?_
  rotate_left
  · intro w hSw; (try dsimp only at hSw); go_simp; (try with_reducible rfl)
  (try simp only [Act.put, List.getElem_toArray, List.getElem_cons_succ, List.getElem_cons_zero, List.setIfInBounds_toArray, List.set_cons_zero, List.set_cons_succ])
  refine wpAnyH_take (i := 5) (v := ?_) rfl (by kernel_rfl) (by kernel_rfl) (by kernel_rfl) (fun _ _ _ h => h) (Or.inl ⟨by rfl, ?_⟩) (by assumption) ?_
  rotate_left
  · intro w hSw; (try dsimp only at hSw); go_simp; (try with_reducible rfl)
  (try simp only [Act.put, List.getElem_toArray, List.getElem_cons_succ, List.getElem_cons_zero, List.setIfInBounds_toArray, List.set_cons_zero, List.set_cons_succ])
  refine wpAnyH_take (i := 6) (v := ?_) rfl (by kernel_rfl) (by kernel_rfl) (by kernel_rfl) (fun _ _ _ h => h) (Or.inl ⟨by rfl, ?_⟩) (by assumption) ?_
  rotate_left
  · intro w hSw; (try dsimp only at hSw); go_simp; (try with_reducible rfl)
  (try simp only [Act.put, List.getElem_toArray, List.getElem_cons_succ, List.getElem_cons_zero, List.setIfInBounds_toArray, List.set_cons_zero, List.set_cons_succ])
  refine wpAnyH_take (i := 7) (v := ?_) rfl (by kernel_rfl) (by kernel_rfl) (by kernel_rfl) (fun _ _ _ h => h) (Or.inl ⟨by rfl, ?_⟩) (by assumption) ?_
  rotate_left
  · intro w hSw; (try dsimp only at hSw); go_simp; (try with_reducible rfl)
  (try simp only [Act.put, List.getElem_toArray, List.getElem_cons_succ, List.getElem_cons_zero, List.setIfInBounds_toArray, List.set_cons_zero, List.set_cons_succ])
  refine wpAnyH_take (i := 8) (v := ?_) rfl (by kernel_rfl) (by kernel_rfl) (by kernel_rfl) (fun _ _ _ h => h) (Or.inl ⟨by rfl, ?_⟩) (by assumption) ?_
  rotate_left
  · intro w hSw; (try dsimp only at hSw); go_simp; (try with_reducible rfl)
  (try simp only [Act.put, List.getElem_toArray, List.getElem_cons_succ, List.getElem_cons_zero, List.setIfInBounds_toArray, List.set_cons_zero, List.set_cons_succ])
  refine wpAnyH_take (i := 9) (v := ?_) rfl (by kernel_rfl) (by kernel_rfl) (by kernel_rfl) (fun _ _ _ h => h) (Or.inl ⟨by rfl, ?_⟩) (by assumption) ?_
  rotate_left
  · intro w hSw; (try dsimp only at hSw); go_simp; (try with_reducible rfl)
  (try simp only [Act.put, List.getElem_toArray, List.getElem_cons_succ, List.getElem_cons_zero, List.setIfInBounds_toArray, List.set_cons_zero, List.set_cons_succ])
  refine wpAnyH_take (i := 10) (v := ?_) rfl (by kernel_rfl) (by kernel_rfl) (by kernel_rfl) (fun _ _ _ h => h) (Or.inl ⟨by rfl, ?_⟩) (by assumption) ?_
  rotate_left
  · intro w hSw; (try dsimp only at hSw); go_simp; (try with_reducible rfl)
  (try simp only [Act.put, List.getElem_toArray, List.getElem_cons_succ, List.getElem_cons_zero, List.setIfInBounds_toArray, List.set_cons_zero, List.set_cons_succ])
  refine wpAnyH_take (i := 11) (v := ?_) rfl (by kernel_rfl) (by kernel_rfl) (by kernel_rfl) (fun _ _ _ h => h) (Or.inl ⟨by rfl, ?_⟩) (by assumption) ?_
  rotate_left
  · intro w hSw; (try dsimp only at hSw); go_simp; (try with_reducible rfl)
  (try simp only [Act.put, List.getElem_toArray, List.getElem_cons_succ, List.getElem_cons_zero, List.setIfInBounds_toArray, List.set_cons_zero, List.set_cons_succ])
  refine wpAnyH_take (i := 12) (v := ?_) rfl (by kernel_rfl) (by kernel_rfl) (by kernel_rfl) (fun _ _ _ h => h) (Or.inl ⟨by rfl, ?_⟩) (by assumption) ?_
  rotate_left
  · intro w hSw; (try dsimp only at hSw); go_simp; (try with_reducible rfl)
  (try simp only [Act.put, List.getElem_toArray, List.getElem_cons_succ, List.getElem_cons_zero, List.setIfInBounds_toArray, List.set_cons_zero, List.set_cons_succ])
  refine wpAnyH_take (i := 13) (v := ?_) rfl (by kernel_rfl) (by kernel_rfl) (by kernel_rfl) (fun _ _ _ h => h) (Or.inl ⟨by rfl, ?_⟩) (by assumption) ?_
  rotate_left
  · intro w hSw; (try dsimp only at hSw); go_simp; (try with_reducible rfl)
  (try simp only [Act.put, List.getElem_toArray, List.getElem_cons_succ, List.getElem_cons_zero, List.setIfInBounds_toArray, List.set_cons_zero, List.set_cons_succ])
  refine wpAnyH_take (i := 14) (v := ?_) rfl (by kernel_rfl) (by kernel_rfl) (by kernel_rfl) (fun _ _ _ h => h) (Or.inl ⟨by rfl, ?_⟩) (by assumption) ?_
  rotate_left
  · intro w hSw; (try dsimp only at hSw); go_simp; (try with_reducible rfl)
  (try simp only [Act.put, List.getElem_toArray, List.getElem_cons_succ, List.getElem_cons_zero, List.setIfInBounds_toArray, List.set_cons_zero, List.set_cons_succ])
  refine wpAnyH_take (i := 15) (v := ?_) rfl (by kernel_rfl) (by kernel_rfl) (by kernel_rfl) (fun _ _ _ h => h) (Or.inl ⟨by rfl, ?_⟩) (by assumption) ?_
  rotate_left
  · intro w hSw; (try dsimp only at hSw); go_simp; (try with_reducible rfl)
  (try simp only [Act.put, List.getElem_toArray, List.getElem_cons_succ, List.getElem_cons_zero, List.setIfInBounds_toArray, List.set_cons_zero, List.set_cons_succ])
  refine wpAnyH_take (i := 16) (v := ?_) rfl (by kernel_rfl) (by kernel_rfl) (by kernel_rfl) (fun _ _ _ h => h) (Or.inl ⟨by rfl, ?_⟩) (by assumption) ?_
  rotate_left
  · intro w hSw; (try dsimp only at hSw); go_simp; (try with_reducible rfl)
  (try simp only [Act.put, List.getElem_toArray, List.getElem_cons_succ, List.getElem_cons_zero, List.setIfInBounds_toArray, List.set_cons_zero, List.set_cons_succ])
  refine wpAnyH_take (i := 17) (v := ?_) rfl (by kernel_rfl) (by kernel_rfl) (by kernel_rfl) (fun _ _ _ h => h) (Or.inl ⟨by rfl, ?_⟩) (by assumption) ?_
  rotate_left
  · intro w hSw; (try dsimp only at hSw); go_simp; (try with_reducible rfl)
  (try simp only [Act.put, List.getElem_toArray, List.getElem_cons_succ, List.getElem_cons_zero, List.setIfInBounds_toArray, List.set_cons_zero, List.set_cons_succ])
  refine wpAnyH_take (i := 18) (v := ?_) rfl (by kernel_rfl) (by kernel_rfl) (by kernel_rfl) (fun _ _ _ h => h) (Or.inl ⟨by rfl, ?_⟩) (by assumption) ?_
  rotate_left
  · intro w hSw; (try dsimp only at hSw); go_simp; (try with_reducible rfl)
  (try simp only [Act.put, List.getElem_toArray, List.getElem_cons_succ, List.getElem_cons_zero, List.setIfInBounds_toArray, List.set_cons_zero, List.set_cons_succ])
  refine wpAnyH_take (i := 19) (v := ?_) rfl (by kernel_rfl) (by kernel_rfl) (by kernel_rfl) (fun _ _ _ h => h) (Or.inl ⟨by rfl, ?_⟩) (by assumption) ?_
  rotate_left
  · intro w hSw; (try dsimp only at hSw); go_simp; (try with_reducible rfl)
  (try simp only [Act.put, List.getElem_toArray, List.getElem_cons_succ, List.getElem_cons_zero, List.setIfInBounds_toArray, List.set_cons_zero, List.set_cons_succ])
  refine wpAnyH_take (i := 20) (v := ?_) rfl (by kernel_rfl) (by kernel_rfl) (by kernel_rfl) (fun _ _ _ h => h) (Or.inl ⟨by rfl, ?_⟩) (by assumption) ?_
  rotate_left
  · intro w hSw; (try dsimp only at hSw); go_simp; (try with_reducible rfl)
  (try simp only [Act.put, List.getElem_toArray, List.getElem_cons_succ, List.getElem_cons_zero, List.setIfInBounds_toArray, List.set_cons_zero, List.set_cons_succ])
  refine wpAnyH_take (i := 21) (v := ?_) rfl (by kernel_rfl) (by kernel_rfl) (by kernel_rfl) (fun _ _ _ h => h) (Or.inl ⟨by rfl, ?_⟩) (by assumption) ?_
  rotate_left
  · intro w hSw; (try dsimp only at hSw); go_simp; (try with_reducible rfl)
  (try simp only [Act.put, List.getElem_toArray, List.getElem_cons_succ, List.getElem_cons_zero, List.setIfInBounds_toArray, List.set_cons_zero, List.set_cons_succ])
  refine wpAnyH_take (i := 22) (v := ?_) rfl (by kernel_rfl) (by kernel_rfl) (by kernel_rfl) (fun _ _ _ h => h) (Or.inl ⟨by rfl, ?_⟩) (by assumption) ?_
  rotate_left
  · intro w hSw; (try dsimp only at hSw); go_simp; (try with_reducible rfl)
  (try simp only [Act.put, List.getElem_toArray, List.getElem_cons_succ, List.getElem_cons_zero, List.setIfInBounds_toArray, List.set_cons_zero, List.set_cons_succ])
  (try clear hK K)
  refine wpAnyH_done (by kernel_rfl) ?_ _
  go_wp2_with fail
  go_ret
  exact ⟨rfl, HB.out.drew⟩
theorem rcol_any (vc : Value) (cols : List Bool) (col : Int) (x : Val) (w : World) (h : BoolsIn w vc cols) (hs : x.s.size ≤ maxLen) :
    Calls Tryd.prog 58 #[.agg #[vc], .int .i64 col, V x.t x.n x.s] w fun e w' => e = .returned (.bool (ofB cols col x)) ∧ Below w.heap.size w w' := by
  by_cases hlo : col < 0
  · rw [ofB_low hlo]; exact rcol_low vc col x w hs (by simp; omega)
  obtain ⟨ac, cc, rfl, lc⟩ := h.slice
  by_cases hhi : (cols.length : Int) ≤ col
  · rw [ofB_high hhi]; exact rcol_high ac _ cc col x w hs (by omega) (by simp; omega)
  cases hr : rightV x.t x.n x.s
  · rw [ofB_wrong hr]; exact rcol_wrong ac _ cc col x w (by omega) (by omega) hr hs
  · obtain ⟨k, rfl⟩ : ∃ k : Nat, col = (k : Int) := ⟨col.toNat, by omega⟩
    have hk : k < cols.length := by omega
    obtain ⟨b, o, rfl, hc⟩ := h.at k hk
    rw [ofB_at hr hk]
    exact rcol_at b o _ cc k _ x w hk hr hs hc
end Go.Proofs.YtfkhfplibhnceaaDoor.Val
/- What the reference's part and May answer. -/
namespace Go.Proofs.YtfkhfplibhnceaaDoor.Val
open Go.RowKit

/-- A table's box and a predicate's. -/
structure TB (N : Nat) (vc : Value) (p : PT) (w : World) : Prop where
  t : w.cell? ⟨N, 0, none⟩ = some vc
  pb : Box w (N + 1) p
theorem TB.below {N : Nat} {vc : Value} {p : PT} {w w' : World} (h : TB N vc p w) (hb : Below w.heap.size w w') : TB N vc p w' := ⟨cell_below h.t hb, h.pb.below hb⟩
theorem TB.new (w : World) (vc : Value) (p : PT) (T1 T2 : TypeId) : TB w.heap.size vc p ((w.alloc (.cells #[vc] T1)).alloc (pobj p T2)) := by
  refine ⟨cell_alloc (by simp [go_sem]) _, ?_⟩
  have := Box.new (w.alloc (.cells #[vc] T1)) p T2; simpa using this
def RPartOk (vc : Value) (cols : List Bool) (p : PT) : Prop := ∀ w, BoolsIn w vc cols → In w p → Calls Tryd.prog 44 #[.agg #[vc], p.val] w fun e w' => e = .returned (.bool (okP (suitP cols) p)) ∧ Below w.heap.size w w'
theorem ok_all {s : PT → Bool} {p : PT} (h : ∀ (j : Nat) (hj : j < p.l.length), okP s p.l[j] = true) : okP s p = s p := by
  rw [okP_mk]
  have : (p.l.map (okP s)).all id = true := by
    rw [List.all_eq_true]
    intro x hx
    obtain ⟨q, hq, rfl⟩ := List.mem_map.1 hx
    obtain ⟨i, hi, rfl⟩ := List.mem_iff_getElem.1 hq
    exact h i hi
  rw [this, Bool.and_true]
theorem ok_not {s : PT → Bool} {p : PT} {k : Nat} (hk : k < p.l.length) (h : okP s p.l[k] = false) : okP s p = false := by
  rw [okP_mk]
  have : (p.l.map (okP s)).all id = false := by
    rw [← Bool.not_eq_true, List.all_eq_true]
    intro h'
    have := h' (okP s p.l[k]) (List.mem_map.2 ⟨_, List.getElem_mem hk, rfl⟩)
    simp [h] at this
  rw [this, Bool.and_false]
set_option maxHeartbeats 8000000 in
theorem rpart_step (vc : Value) (cols : List Bool) (p : PT) (ih : ∀ q ∈ p.l, RPartOk vc cols q) : RPartOk vc cols p := by
  intro w hbo hi
  obtain ⟨ao, c, hlv, hln⟩ := hi.lies.slice
  obtain ⟨ans, hans⟩ : ∃ b, okP (suitP cols) p = b := ⟨_, rfl⟩
  have HI : Hid (In w p ∧ BoolsIn w vc cols ∧ ∀ q ∈ p.l, RPartOk vc cols q) := ⟨hi, hbo, ih⟩
  have HLV : Hid (p.lv = .slice ao p.l.length c) := hlv
  have HANS : Hid (okP (suitP cols) p = ans) := hans
  have HT : Hid _ := TB.new w vc p 24 29
  rw [pobj, hlv] at HT
  rw [hans]
  clear hi hbo ih hans
  unfold PT.val
  rw [hlv]
  clear hlv
  go_enter Tryd.func44, Tryd.ntmps44
  go_wp2_with fail
  go_loopw [5] (fun i wr => ∃ k : Nat, k ≤ p.l.length ∧ i = .int .i64 k ∧ Hid (∀ (j : Nat) (hj : j < p.l.length), j < k → okP (suitP cols) p.l[j] = true) ∧ Hid (Below w.heap.size w wr ∧ TB w.heap.size vc p wr))
    (fun i _ => p.l.length - (intOf i).toNat)
  case atStart => exact ⟨0, Nat.zero_le _, rfl, fun j hj h => by omega, back1 (alloc1 _ _), HT.out⟩
  case round =>
    clear HT
    obtain ⟨k, hk, rfl, HP, HB⟩ := hrel
    have hc := HB.out.2.pb.c8
    rw [HLV.out] at hc
    have hlt : w.heap.size + 1 < wr.heap.size := World.block_lt_of_cell? _ _ hc
    by_cases h1 : k < p.l.length
    · have i0 : (0 : Int) ≤ (k : Int) := by omega
      have i1 : (k : Int) < (p.l.length : Int) := by omega
      have hin : In wr p := HI.out.1.keep HB.out.1
      have hl := hin.lies
      rw [HLV.out] at hl
      obtain ⟨b, o, rfl, hat⟩ := lies_at hl k h1
      have hm := List.getElem_mem h1
      obtain ⟨g, hg⟩ : ∃ g, okP (suitP cols) p.l[k] = g := ⟨_, rfl⟩
      have HQ : Hid (∀ w1, Below w.heap.size w w1 → Calls Tryd.prog 44 #[.agg #[vc], p.l[k].val] w1 fun e w' => e = .returned (.bool g) ∧ Below w1.heap.size w1 w') := fun w1 hb => by
        rw [← hg]; exact HI.out.2.2 _ hm w1 (HI.out.2.1.below hb) ((HI.out.1.part _ hm).keep hb)
      have HG : Hid (okP (suitP cols) p.l[k] = g) := hg
      have hat' := hat.below (w' := wr.drew) (Below.refl _ _).drew
      have TBd : TB w.heap.size vc p wr.drew := HB.out.2.below (Below.refl _ _).drew
      have HBd : Below w.heap.size w wr.drew := HB.out.1.drew
      have hc8 : ∀ w1, TB w.heap.size vc p w1 → w1.cell? ⟨w.heap.size + 1, 8, none⟩ = some (.slice (some ⟨b, o, none⟩) p.l.length c) := fun w1 h => by rw [h.pb.c8, HLV.out]
      clear hm hl hin hg hat
      unfold PT.val at HQ
      go_wp2_with fail
      refine wp_region_held_drew (S := fun w' => w'.cell? ⟨w.heap.size, 0, none⟩ = some vc ∧ w'.cell? ⟨w.heap.size + 1, 8, none⟩ = some (.slice (some ⟨b, o, none⟩) p.l.length c) ∧ (w'.cell? ⟨b, o + k * 9, none⟩ = some (.int .i64 p.l[k].op) ∧ w'.cell? ⟨b, o + k * 9 + 1, none⟩ = some (.int .i64 p.l[k].col) ∧ w'.cell? ⟨b, o + k * 9 + 2, none⟩ = some (.bool p.l[k].v.t) ∧ w'.cell? ⟨b, o + k * 9 + 3, none⟩ = some (.int .i64 p.l[k].v.n) ∧ w'.cell? ⟨b, o + k * 9 + 4, none⟩ = some (.string p.l[k].v.s) ∧ w'.cell? ⟨b, o + k * 9 + 5, none⟩ = some (.bool p.l[k].w.t) ∧ w'.cell? ⟨b, o + k * 9 + 6, none⟩ = some (.int .i64 p.l[k].w.n) ∧ w'.cell? ⟨b, o + k * 9 + 7, none⟩ = some (.string p.l[k].w.s) ∧ w'.cell? ⟨b, o + k * 9 + 8, none⟩ = some p.l[k].lv)) (by kernel_rfl) ?_ (fun hHeld => ?_)
      · exact ⟨TBd.t, hc8 _ TBd, hat'.c0, hat'.c1, hat'.c2, hat'.c3, hat'.c4, hat'.c5, hat'.c6, hat'.c7, hat'.c8⟩
      (try clear hK K)
      refine wpAnyH_take (i := 0) (v := ?_) rfl (by kernel_rfl) (by kernel_rfl) (by kernel_rfl) (fun _ _ _ h => h) (Or.inl ⟨by rfl, ?_⟩) (by assumption) ?_
      rotate_left
      · intro w hSw; (try dsimp only at hSw); go_simp; (try with_reducible rfl)
      (try simp only [Act.put, List.getElem_toArray, List.getElem_cons_zero, List.setIfInBounds_toArray, List.set_cons_zero, List.set_cons_succ])
      refine wpAnyH_take (i := 1) (v := ?_) rfl (by kernel_rfl) (by kernel_rfl) (by kernel_rfl) (fun _ _ _ h => h) (Or.inl ⟨by rfl, ?_⟩) (by assumption) ?_
      rotate_left
      · intro w hSw; (try dsimp only at hSw); go_simp; (try with_reducible rfl)
      (try simp only [Act.put, List.getElem_toArray, List.getElem_cons_succ, List.getElem_cons_zero, List.setIfInBounds_toArray, List.set_cons_zero, List.set_cons_succ])
      refine wpAnyH_take (i := 2) (v := ?_) rfl (by kernel_rfl) (by kernel_rfl) (by kernel_rfl) (fun _ _ _ h => h) (Or.inl ⟨by rfl, ?_⟩) (by assumption) ?_
      rotate_left
      · intro w hSw; (try dsimp only at hSw); go_simp; (try with_reducible rfl)
      (try simp only [Act.put, List.getElem_toArray, List.getElem_cons_succ, List.getElem_cons_zero, List.setIfInBounds_toArray, List.set_cons_zero, List.set_cons_succ])
      refine wpAnyH_take (i := 3) (v := ?_) rfl (by kernel_rfl) (by kernel_rfl) (by kernel_rfl) (fun _ _ _ h => h) (Or.inl ⟨by rfl, ?_⟩) (by assumption) ?_
      rotate_left
      · intro w hSw; (try dsimp only at hSw); go_simp; (try with_reducible rfl)
      (try simp only [Act.put, List.getElem_toArray, List.getElem_cons_succ, List.getElem_cons_zero, List.setIfInBounds_toArray, List.set_cons_zero, List.set_cons_succ])
      refine wpAnyH_take (i := 4) (v := ?_) rfl (by kernel_rfl) (by kernel_rfl) (by kernel_rfl) (fun _ _ _ h => h) (Or.inl ⟨by rfl, ?_⟩) (by assumption) ?_
      rotate_left
      · intro w hSw; (try dsimp only at hSw); go_simp; (try with_reducible rfl)
      (try simp only [Act.put, List.getElem_toArray, List.getElem_cons_succ, List.getElem_cons_zero, List.setIfInBounds_toArray, List.set_cons_zero, List.set_cons_succ])
      refine wpAnyH_take (i := 5) (v := ?_) rfl (by kernel_rfl) (by kernel_rfl) (by kernel_rfl) (fun _ _ _ h => h) (Or.inl ⟨by rfl, ?_⟩) (by assumption) ?_
      rotate_left
      · intro w hSw; (try dsimp only at hSw); go_simp; (try with_reducible rfl)
      (try simp only [Act.put, List.getElem_toArray, List.getElem_cons_succ, List.getElem_cons_zero, List.setIfInBounds_toArray, List.set_cons_zero, List.set_cons_succ])
      (try clear hK K)
      refine wpAnyH_ready (rs := [6]) (by kernel_rfl) (by simp) ?_
      refine AllReadyH.cons rfl (fun K hK => ?_) AllReadyH.nil
      go_simp
      (refine Calls.mono (HQ.out _ HBd) ?_; rintro e w1 ⟨rfl, hb⟩; have TB1 := TBd.below hb; have HB1 := on HBd hb; have hat1 := hat'.below hb)
      refine hK.out _ _ ?_ (fun hHeld => ?_)
      · exact ⟨TB1.t, hc8 _ TB1, hat1.c0, hat1.c1, hat1.c2, hat1.c3, hat1.c4, hat1.c5, hat1.c6, hat1.c7, hat1.c8⟩
      (try clear hK K)
      refine wpAnyH_take (i := 7) (v := ?_) rfl (by kernel_rfl) (by kernel_rfl) (by kernel_rfl) (fun _ _ _ h => h) (Or.inl ⟨by rfl, ?_⟩) (by assumption) ?_
      rotate_left
      · intro w hSw; (try dsimp only at hSw); go_simp; (try with_reducible rfl)
      (try simp only [Act.put, List.getElem_toArray, List.getElem_cons_succ, List.getElem_cons_zero, List.setIfInBounds_toArray, List.set_cons_zero, List.set_cons_succ])
      (try clear hK K)
      refine wpAnyH_done (by kernel_rfl) ?_ _
      have HX : Hid (Below w.heap.size w w1 ∧ TB w.heap.size vc p w1) := ⟨HB1, TB1⟩
      clear hb HB1 TB1 hat1 hat' TBd HBd hc8 HB HQ hc hlt
      cases g
      · have HF : Hid (ans = false) := by rw [Hid, ← HANS.out]; exact ok_not h1 HG.out
        clear HP HI HG HANS
        go_wp2_with fail
        go_ret
        exact ⟨ret_b2 HF.out.symm, HX.out.1⟩
      · have HP1 : Hid (∀ (j : Nat) (hj : j < p.l.length), j < k + 1 → okP (suitP cols) p.l[j] = true) := fun j hj h => by
          rcases Nat.lt_succ_iff_lt_or_eq.1 h with h | rfl
          · exact HP.out j hj h
          · exact HG.out
        clear HP HG
        go_wp2_with fail
        go_roundw
        case rel => exact ⟨k + 1, by omega, by go_num, HP1, HX⟩
        case measure => simp [intOf]; omega
    · have i1 : decide ((k : Int) < (p.l.length : Int)) = false := by simp; omega
      obtain rfl : k = p.l.length := by omega
      have hA : ans = suitO cols p.op p.col p.v p.w p.l.length := by rw [← HANS.out, ok_all fun j hj => HP.out j hj hj]; rfl
      obtain ⟨op, hop⟩ : ∃ op, p.op = op := ⟨_, rfl⟩
      rw [hop] at hA
      have HO : Hid (p.op = op) := hop
      have CV : Hid (∀ w1, Below w.heap.size w w1 → Calls Tryd.prog 58 #[.agg #[vc], .int .i64 p.col, V p.v.t p.v.n p.v.s] w1 fun e w' => e = .returned (.bool (ofB cols p.col p.v)) ∧ Below w1.heap.size w1 w') := fun w1 hb => rcol_any vc cols p.col p.v w1 (HI.out.2.1.below hb) HI.out.1.sv
      have CW : Hid (∀ w1, Below w.heap.size w w1 → Calls Tryd.prog 58 #[.agg #[vc], .int .i64 p.col, V p.w.t p.w.n p.w.s] w1 fun e w' => e = .returned (.bool (ofB cols p.col p.w)) ∧ Below w1.heap.size w1 w') := fun w1 hb => rcol_any vc cols p.col p.w w1 (HI.out.2.1.below hb) HI.out.1.sw
      unfold suitO at hA
      have HA : Hid _ := hA
      obtain ⟨fv, hfv⟩ : ∃ b, ofB cols p.col p.v = b := ⟨_, rfl⟩
      obtain ⟨fw, hfw⟩ : ∃ b, ofB cols p.col p.w = b := ⟨_, rfl⟩
      rw [hfv, hfw] at HA
      rw [hfv] at CV
      rw [hfw] at CW
      have HTB : Hid (TB w.heap.size vc p wr) := HB.out.2
      have HBe : Hid (Below w.heap.size w wr) := HB.out.1
      clear hA hfv hfw HI HP HANS HB hop
      obtain ⟨t0, ⟨b0, b1, b2, b3, b4, b5, b6, b7, b8⟩⟩ := HTB.out
      rw [HO.out] at b0
      clear b8
      by_cases e12 : op = 1 ∨ op = 2
      · rw [if_pos e12] at HA
        clear CV CW
        rcases e12 with rfl | rfl
        · go_wp2_with fail
          go_ret
          exact ⟨ret_b2 (by rw [HA.out, Bool.eq_iff_iff]; simp), HBe.out⟩
        · go_wp2_with fail
          go_ret
          exact ⟨ret_b2 (by rw [HA.out, Bool.eq_iff_iff]; simp), HBe.out⟩
      rw [if_neg e12] at HA
      by_cases e38 : 3 ≤ op ∧ op ≤ 8
      · rw [if_pos e38] at HA
        have e38' : op = 3 ∨ op = 4 ∨ op = 5 ∨ op = 6 ∨ op = 7 ∨ op = 8 := by omega
        clear CW e12 e38
        by_cases h0 : p.l.length = 0
        · have h1 : ((p.l.length : Int) == 0) = true := by rw [h0]; rfl
          have HD : Hid (decide (p.l.length = 0) = true) := by rw [Hid]; simpa using h0
          clear h0
          rcases e38' with rfl | rfl | rfl | rfl | rfl | rfl <;>
          · go_wp2_with fail
            refine Calls.mono (CV.out _ HBe.out) ?_
            rintro e w1 ⟨rfl, hb⟩
            have HBf : Hid (Below w.heap.size w w1) := on HBe.out hb
            clear hb
            go_wp2_with fail
            go_ret
            exact ⟨ret_b2 (by rw [HA.out, HD.out]; rfl), HBf.out⟩
        · have h1 : ((p.l.length : Int) == 0) = false := by rw [beq_eq_false_iff_ne]; omega
          have HD : Hid (decide (p.l.length = 0) = false) := by rw [Hid]; simpa using h0
          clear h0 CV
          rcases e38' with rfl | rfl | rfl | rfl | rfl | rfl <;>
          · go_wp2_with fail
            go_ret
            exact ⟨ret_b2 (by rw [HA.out, HD.out]; rfl), HBe.out⟩
      rw [if_neg e38] at HA
      by_cases e9 : op = 9
      · rw [if_pos e9] at HA
        subst e9
        clear e12 e38
        by_cases h0 : p.l.length = 0
        · have h1 : ((p.l.length : Int) == 0) = true := by rw [h0]; rfl
          have HD : Hid (decide (p.l.length = 0) = true) := by rw [Hid]; simpa using h0
          clear h0
          go_wp2_with fail
          refine Calls.mono (CV.out _ HBe.out) ?_
          rintro e w1 ⟨rfl, hb⟩
          have HBf : Hid (Below w.heap.size w w1) := on HBe.out hb
          have HTf := HTB.out.below hb
          clear hb t0 b0 b1 b2 b3 b4 b5 b6 b7 CV
          obtain ⟨t0, ⟨b0, b1, b2, b3, b4, b5, b6, b7, b8⟩⟩ := HTf
          clear b8 b0
          cases fv
          · clear CW
            go_wp2_with fail
            go_ret
            exact ⟨ret_b2 (by rw [HA.out, HD.out]; rfl), HBf.out⟩
          · go_wp2_with fail
            refine Calls.mono (CW.out _ HBf.out) ?_
            rintro e w2 ⟨rfl, hb⟩
            have HBg : Hid (Below w.heap.size w w2) := on HBf.out hb
            clear hb
            go_wp2_with fail
            go_ret
            exact ⟨ret_b2 (by rw [HA.out, HD.out]; rfl), HBg.out⟩
        · have h1 : ((p.l.length : Int) == 0) = false := by rw [beq_eq_false_iff_ne]; omega
          have HD : Hid (decide (p.l.length = 0) = false) := by rw [Hid]; simpa using h0
          clear h0 CV CW
          go_wp2_with fail
          go_ret
          exact ⟨ret_b2 (by rw [HA.out, HD.out]; rfl), HBe.out⟩
      rw [if_neg e9] at HA
      clear CV CW
      by_cases e10 : op = 10
      · rw [if_pos e10] at HA
        subst e10
        go_wp2_with fail
        go_ret
        exact ⟨ret_b2 (by rw [HA.out, Bool.eq_iff_iff]; simp; omega), HBe.out⟩
      rw [if_neg e10] at HA
      by_cases e11 : op = 11 ∨ op = 12
      · rw [if_pos e11] at HA
        rcases e11 with rfl | rfl
        · go_wp2_with fail
          go_ret
          exact ⟨ret_b2 (by rw [HA.out, Bool.eq_iff_iff]), HBe.out⟩
        · go_wp2_with fail
          go_ret
          exact ⟨ret_b2 (by rw [HA.out, Bool.eq_iff_iff]), HBe.out⟩
      rw [if_neg e11] at HA
      have hne : ∀ k : Int, op ≠ k → (op == k) = false := fun k hk => by simpa using hk
      have f1 := hne 1 (by omega)
      have f2 := hne 2 (by omega)
      have f3 := hne 3 (by omega)
      have f4 := hne 4 (by omega)
      have f5 := hne 5 (by omega)
      have f6 := hne 6 (by omega)
      have f7 := hne 7 (by omega)
      have f8 := hne 8 (by omega)
      have f9 := hne 9 (by omega)
      have f10 := hne 10 (by omega)
      have f11 := hne 11 (by omega)
      have f12 := hne 12 (by omega)
      clear hne e12 e38 e9 e10 e11
      go_wp2_with fail
      go_ret
      exact ⟨ret_b2 HA.out.symm, HBe.out⟩
theorem rpart_any (vc : Value) (cols : List Bool) (p : PT) : RPartOk vc cols p := by
  induction p using PT.ind with
  | h p ih => exact rpart_step vc cols p ih
set_option maxHeartbeats 2000000 in
theorem rmayP_any (vc : Value) (cols : List Bool) (p : PT) (w : World) (hbo : BoolsIn w vc cols) (hi : In w p) (hs : p.size ≤ 1000000) :
    Calls Tryd.prog 24 #[.agg #[vc], p.val] w fun e w' => e = .returned (.bool (mayT cols && mayP cols p)) ∧ Below w.heap.size w w' := by
  obtain ⟨t, ht⟩ : ∃ t, mayT cols = t := ⟨_, rfl⟩
  obtain ⟨g, hg⟩ : ∃ g, okP (suitP cols) p = g := ⟨_, rfl⟩
  have H1 : Hid (∀ w1, Below w.heap.size w w1 → Calls Tryd.prog 43 #[.agg #[vc]] w1 fun e w' => e = .returned (.bool t) ∧ Below w1.heap.size w1 w') := fun w1 hb => by rw [← ht]; exact rmay_any vc cols w1 (hbo.below hb)
  have H2 : Hid (∀ w1, Below w.heap.size w w1 → Calls Tryd.prog 27 #[p.val] w1 fun e w' => e = .returned (.int .i64 (p.size : Int)) ∧ Below w1.heap.size w1 w') := fun w1 hb => rsize_any p w1 (hi.keep hb) hs
  have H3 : Hid (∀ w1, Below w.heap.size w w1 → Calls Tryd.prog 44 #[.agg #[vc], p.val] w1 fun e w' => e = .returned (.bool g) ∧ Below w1.heap.size w1 w') := fun w1 hb => by rw [← hg]; exact rpart_any vc cols p w1 (hbo.below hb) (hi.keep hb)
  have HM : Hid (mayP cols p = (decide (p.size ≤ 15) && g)) := by rw [Hid, mayP, hg]
  rw [HM.out, ht]
  have HT : Hid _ := TB.new w vc p 24 29
  clear hbo hi hs ht hg HM
  unfold PT.val at *
  go_enter Tryd.func24, Tryd.ntmps24
  go_wp2_with fail
  refine Calls.mono (H1.out _ (back1 (alloc1 _ _))) ?_
  rintro e w1 ⟨rfl, hb⟩
  have T1 : Hid (TB w.heap.size vc p w1) := HT.out.below hb
  have HB1 : Hid (Below w.heap.size w w1) := back2 hb
  clear hb HT H1
  cases t
  · clear H2 H3
    go_wp2_with fail
    go_ret
    exact ⟨rfl, HB1.out⟩
  obtain ⟨t0, ⟨b0, b1, b2, b3, b4, b5, b6, b7, b8⟩⟩ := T1.out
  go_wp2_with fail
  refine Calls.mono (H2.out _ HB1.out) ?_
  rintro e w2 ⟨rfl, hb⟩
  have T2' : Hid (TB w.heap.size vc p w2) := T1.out.below hb
  have HB2 : Hid (Below w.heap.size w w2) := on HB1.out hb
  clear hb T1 HB1 H2 t0 b0 b1 b2 b3 b4 b5 b6 b7 b8
  by_cases h15 : p.size ≤ 15
  · have j1 : (p.size : Int) ≤ 15 := by omega
    have HD : Hid (decide (p.size ≤ 15) = true) := decide_eq_true h15
    obtain ⟨t0, ⟨b0, b1, b2, b3, b4, b5, b6, b7, b8⟩⟩ := T2'.out
    clear h15
    go_wp2_with fail
    refine Calls.mono (H3.out _ HB2.out) ?_
    rintro e w3 ⟨rfl, hb⟩
    have HB3 : Hid (Below w.heap.size w w3) := on HB2.out hb
    clear hb H3 HB2 T2' t0 b0 b1 b2 b3 b4 b5 b6 b7 b8
    go_wp2_with fail
    go_ret
    exact ⟨ret_b2 (by rw [HD.out]; simp), HB3.out⟩
  · have j1 : decide ((p.size : Int) ≤ 15) = false := by simp; omega
    have HD : Hid (decide (p.size ≤ 15) = false) := decide_eq_false h15
    clear h15 H3
    go_wp2_with fail
    go_ret
    exact ⟨ret_b2 (by rw [HD.out]; simp), HB2.out⟩
end Go.Proofs.YtfkhfplibhnceaaDoor.Val
/- What the reference's Fits answers: the same as the program's. -/
namespace Go.Proofs.YtfkhfplibhnceaaDoor.Val
open Go.RowKit

set_option maxHeartbeats 400000 in
theorem rfits_no (vc vr : Value) (cols : List Bool) (xs : List Val) (w : World) (hc : BoolsIn w vc cols) (_hr : RowIn w vr xs) (h : mayT cols = false) :
    Calls Tryd.prog 25 #[.agg #[vc], vr] w fun e w' => e = .returned (.bool false) ∧ Below w.heap.size w w' := by
  have H : Hid (∀ w1, Below w.heap.size w w1 → Calls Tryd.prog 43 #[.agg #[vc]] w1 fun e w' => e = .returned (.bool false) ∧ Below w1.heap.size w1 w') := fun w1 hb => by
    have := rmay_any vc cols w1 (hc.below hb); rw [h] at this; exact this
  clear h hc
  go_enter Tryd.func25, Tryd.ntmps25
  go_wp2_with fail
  refine Calls.mono (H.out _ ((Below.refl _ _).alloc (Nat.le_refl _) _)) ?_
  rintro e w1 ⟨rfl, hb1⟩
  go_wp2
  go_ret
  exact ⟨rfl, back1 hb1⟩
set_option maxHeartbeats 400000 in
theorem rfits_len (vc vr : Value) (cols : List Bool) (xs : List Val) (w : World) (hc : BoolsIn w vc cols) (hr : RowIn w vr xs) (h : mayT cols = true) (hl : ¬ xs.length = cols.length) :
    Calls Tryd.prog 25 #[.agg #[vc], vr] w fun e w' => e = .returned (.bool false) ∧ Below w.heap.size w w' := by
  have H : Hid (∀ w1, Below w.heap.size w w1 → Calls Tryd.prog 43 #[.agg #[vc]] w1 fun e w' => e = .returned (.bool true) ∧ Below w1.heap.size w1 w') := fun w1 hb => by
    have := rmay_any vc cols w1 (hc.below hb); rw [h] at this; exact this
  obtain ⟨ac, cc, rfl, lc⟩ := hc.slice
  obtain ⟨ar, cr, rfl, lr⟩ := hr.slice
  have hd : ((xs.length : Int) != (cols.length : Int)) = true := by simp; omega
  clear h hc hr hl
  go_enter Tryd.func25, Tryd.ntmps25
  go_wp2_with fail
  refine Calls.mono (H.out _ ((Below.refl _ _).alloc (Nat.le_refl _) _)) ?_
  rintro e w1 ⟨rfl, hb1⟩
  have c0 := in1 hb1
  go_wp2
  go_ret
  exact ⟨rfl, back1 hb1⟩
theorem not_t {b : Bool} (h : (!b) = true) : b = false := by cases b <;> simp_all
theorem not_f {b : Bool} (h : (!b) = false) : b = true := by cases b <;> simp_all
theorem suitV_no {c : Bool} {x : Val} (h : rightV x.t x.n x.s = false) : suitV c x = false := by unfold suitV; rw [h]; rfl
theorem suitV_yes {c : Bool} {x : Val} (h : rightV x.t x.n x.s = true) : suitV c x = (x.t == c) := by unfold suitV; rw [h]; rfl
set_option maxHeartbeats 1000000 in
theorem rfits_yes (vc vr : Value) (cols : List Bool) (xs : List Val) (w : World) (hc : BoolsIn w vc cols) (hr : RowIn w vr xs) (ho : RowOk xs) (h : mayT cols = true) (hl : xs.length = cols.length) :
    Calls Tryd.prog 25 #[.agg #[vc], vr] w fun e w' => e = .returned (.bool (fitsL cols xs)) ∧ Below w.heap.size w w' := by
  have H : Hid (∀ w1, Below w.heap.size w w1 → Calls Tryd.prog 43 #[.agg #[vc]] w1 fun e w' => e = .returned (.bool true) ∧ Below w1.heap.size w1 w') := fun w1 hb => by
    have := rmay_any vc cols w1 (hc.below hb); rw [h] at this; exact this
  have HS : Hid (∀ w1 (k : Nat) (h2 : k < xs.length), Calls Tryd.prog 45 #[V xs[k].t xs[k].n xs[k].s] w1 fun e w' => e = .returned (.bool (rightV xs[k].t xs[k].n xs[k].s)) ∧ Below w1.heap.size w1 w') :=
    fun w1 k h2 => rright_any _ _ _ w1 (ho _ (List.getElem_mem _)).2
  obtain ⟨ac, cc, rfl, lc⟩ := hc.slice
  obtain ⟨ar, cr, rfl, lr⟩ := hr.slice
  have HR : Hid (RowIn w (.slice ar xs.length cr) xs) := hr
  have HC : Hid (BoolsIn w (.slice ac cols.length cc) cols) := hc
  have hd : ((xs.length : Int) != (cols.length : Int)) = false := by simp; omega
  clear h hc hr ho
  have HL : Hid (xs.length = cols.length) := hl
  clear hl
  go_enter Tryd.func25, Tryd.ntmps25
  go_wp2_with fail
  refine Calls.mono (H.out _ ((Below.refl _ _).alloc (Nat.le_refl _) _)) ?_
  rintro e w1 ⟨rfl, hb1⟩
  have c0 := in1 hb1
  have HB : Hid (Below (w.heap.size + 1) (w.alloc (.cells #[.slice ac cols.length cc] 24)) w1) := hb1.mono (by simp)
  clear hb1 H
  go_wp2_with fail
  go_loopw [6] (fun i wr => ∃ k : Nat, k ≤ xs.length ∧ i = .int .i64 k ∧ Hid (FitsTo cols xs k) ∧ Hid (Below (w.heap.size + 1) (w.alloc (.cells #[.slice ac cols.length cc] 24)) wr)) (fun i _ => xs.length - (intOf i).toNat)
  case atStart => exact ⟨0, Nat.zero_le _, rfl, FitsTo.zero _ _, HB⟩
  case round =>
    obtain ⟨k, hk, rfl, HT, HW⟩ := hrel
    clear HB c0
    have hBr : Below w.heap.size w wr := back1 (HW.out.mono (by simp))
    have c0 : wr.cell? ⟨w.heap.size, 0, none⟩ = some (.slice ac cols.length cc) := in1 (HW.out.mono (by simp))
    have hz : w.heap.size < wr.heap.size := World.block_lt_of_cell? wr _ c0
    by_cases hlt : k < xs.length
    · have hlt2 : k < cols.length := by rw [← HL.out]; exact hlt
      obtain ⟨b, o, rfl, d0, d1, d2⟩ := (HR.out.below hBr).at k hlt
      have HBr : Hid (Below w.heap.size w wr) := hBr
      clear hBr
      have k1 : (k : Int) < (xs.length : Int) := by omega
      have k2 : (k : Int) < (cols.length : Int) := by omega
      go_wp2_with fail
      refine Calls.mono (HS.out _ k hlt) ?_
      rintro e w2 ⟨rfl, hb2⟩
      have HB2 : Hid (Below (w.heap.size + 1) (w.alloc (.cells #[.slice ac cols.length cc] 24)) w2) := HW.out.trans (hb2.mono (by omega))
      have c2 : w2.cell? ⟨w.heap.size, 0, none⟩ = some (.slice ac cols.length cc) := in1 (HB2.out.mono (by simp))
      obtain ⟨b', o', e', g0, g1, g2⟩ := (HR.out.below (back1 (HB2.out.mono (by simp)))).at k hlt
      cases e'
      obtain ⟨bc, oc, rfl, cc0⟩ := (HC.out.below (back1 (HB2.out.mono (by simp)))).at k hlt2
      clear hb2 d0 d1 d2 c0
      cases hr : rightV xs[k].t xs[k].n xs[k].s
      · have HN : Hid (fitsL cols xs = false) := fitsL_no hlt2 hlt (suitV_no hr)
        clear hr
        go_wp2_with fail
        go_quiet (fail)
        go_wp2_with fail
        go_ret
        exact ⟨ret_bool' HN.out.symm, below_drewN (back1 (HB2.out.mono (by simp))) _⟩
      · have HV : Hid (suitV cols[k] xs[k] = (xs[k].t == cols[k])) := suitV_yes hr
        clear hr
        go_wp2_with fail
        go_quiet (fail)
        go_wp2_with fail
        · have HN : Hid (fitsL cols xs = false) := fitsL_no hlt2 hlt (by rw [HV.out]; exact not_t ‹(!_) = true›)
          go_ret
          exact ⟨ret_bool' HN.out.symm, below_drewN (back1 (HB2.out.mono (by simp))) _⟩
        · have HN : Hid (FitsTo cols xs (k + 1)) := HT.out.next hlt2 hlt (by rw [HV.out]; exact not_f ‹(!_) = false›)
          go_roundw
          case rel => exact ⟨k + 1, by omega, by go_num, HN, below_drewN HB2.out _⟩
          case measure => simp [intOf]; omega
    · have HN : Hid (fitsL cols xs = true) := HT.out.all (by omega)
      go_wp2_with fail
      go_ret
      exact ⟨ret_bool' HN.out.symm, hBr⟩
theorem rfits_any (vc vr : Value) (cols : List Bool) (xs : List Val) (w : World) (hc : BoolsIn w vc cols) (hr : RowIn w vr xs) (ho : RowOk xs) :
    Calls Tryd.prog 25 #[.agg #[vc], vr] w fun e w' => e = .returned (.bool (fitsRow cols xs)) ∧ Below w.heap.size w w' := by
  cases h : mayT cols
  · rw [fitsRow_may h]; exact rfits_no vc vr cols xs w hc hr h
  · by_cases hl : xs.length = cols.length
    · rw [fitsRow_of h hl]; exact rfits_yes vc vr cols xs w hc hr ho h hl
    · rw [fitsRow_len hl]; exact rfits_len vc vr cols xs w hc hr h hl
end Go.Proofs.YtfkhfplibhnceaaDoor.Val
