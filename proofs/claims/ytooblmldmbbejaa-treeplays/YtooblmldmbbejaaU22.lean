/- The reference's rows of pairs in memory; what Same and Get answer. -/
import Derived.Test.YtooblmldmbbejaaU18
import Derived.Test.YtooblmldmbbejaaU2
import Derived.Test.YtooblmldmbbejaaU1
import Derived.Test.YtooblmldmbbejaaU21
namespace Go.Proofs.Ytooblmldmbbejaa.Val
open Go Go.RowKit

/-- A row of pairs lies in memory. -/
def PairsIn (w : World) (v : Value) (l : List Pr) : Prop := Lies w v l.length (pcells l)
theorem PairsIn.below {w w' : World} {v : Value} {l : List Pr} (h : PairsIn w v l) (hb : Below w.heap.size w w') : PairsIn w' v l := Lies.below h hb
theorem PairsIn.at {w : World} {ao : Option Addr} {c n : Nat} {xs : List Pr} (h : PairsIn w (.slice ao n c) xs) (k : Nat) (hk : k < xs.length) :
    ∃ b o, ao = some ⟨b, o, none⟩ ∧ w.cell? ⟨b, o + k * 4, none⟩ = some (.bool xs[k].k.t) ∧ w.cell? ⟨b, o + k * 4 + 1, none⟩ = some (.int .i64 xs[k].k.n) ∧ w.cell? ⟨b, o + k * 4 + 2, none⟩ = some (.string xs[k].k.s) ∧ w.cell? ⟨b, o + k * 4 + 3, none⟩ = some (.int .i64 xs[k].v) := by
  obtain ⟨ao', c', e, h1, h2, h0, h3⟩ := h
  cases e
  have hf : ∀ x : Pr, x.cells.length = 4 := fun x => rfl
  rcases h3 with h3 | ⟨b, o, rfl, h3⟩
  · have h3' : xs.flatMap Pr.cells = [] := h3
    have := flat_length Pr.cells 4 hf xs; rw [h3'] at this; simp at this; omega
  · refine ⟨b, o, rfl, ?_, ?_, ?_, ?_⟩
    · exact h3 (k * 4) _ (by rw [show k * 4 = k * 4 + 0 by omega, flat_at _ 4 hf xs k 0 hk (by omega)]; rfl)
    · exact h3 (k * 4 + 1) _ (by rw [flat_at _ 4 hf xs k 1 hk (by omega)]; rfl)
    · exact h3 (k * 4 + 2) _ (by rw [flat_at _ 4 hf xs k 2 hk (by omega)]; rfl)
    · exact h3 (k * 4 + 3) _ (by rw [flat_at _ 4 hf xs k 3 hk (by omega)]; rfl)
theorem own_pairs {w : World} {base : Nat} {v : Value} {l : List Pr} (h : w.ownsRow base TPr 4 v l.length (pcells l)) : PairsIn w v l := by
  rcases h.2 with ⟨rfl, h0⟩ | ⟨g, cap, cur, rfl, hb, hg, hn, hm, hs, ht⟩
  · have : l = [] := List.eq_nil_of_length_eq_zero h0
    subst this
    exact ⟨none, 0, rfl, Nat.le_refl _, Nat.zero_le _, fun _ => ⟨rfl, rfl⟩, .inl rfl⟩
  · refine ⟨some ⟨g, 0, none⟩, cap, rfl, hn, hm, fun h => (by cases h), .inr ⟨g, 0, rfl, fun j u hj => ?_⟩⟩
    have := World.ownsRow.cells h (g := g) rfl j u hj
    rw [Addr.add_lit] at this
    exact this
theorem own_below {w w' : World} {base size n : Nat} {T : TypeId} {v : Value} {xs : List Value} (h : w.ownsRow base T size v n xs) (hb : Below w.heap.size w w') : w'.ownsRow base T size v n xs := ownsRow_sv h (Sv.of (X := Nothing) hb) fun _ _ h => h
theorem neq_Pr (x : Pr) (w : World) : (binOp .neq TPr (.agg #[.bool x.k.t, .int .i64 x.k.n, .string x.k.s, .int .i64 x.v]) (.agg #[.bool x.k.t, .int .i64 x.k.n, .string x.k.s, .int .i64 x.v])).run Try.prog w = .ok (.bool false) w := by
  rw [run_neq_struct]
  simp [go_sem]
set_option maxHeartbeats 400000 in
/-- Two rows that are the same. -/
theorem psame_any (va vb : Value) (l : List Pr) (w : World) (ha : PairsIn w va l) (hb : PairsIn w vb l) :
    Calls Try.prog 13 #[va, vb] w fun e w' => e = .returned (.bool true) ∧ Below w.heap.size w w' := by
  obtain ⟨aa, ca, rfl, la⟩ := ha.slice
  obtain ⟨ab, cb, rfl, lb⟩ := hb.slice
  have HA : Hid (PairsIn w (.slice aa l.length ca) l) := ha
  have HB : Hid (PairsIn w (.slice ab l.length cb) l) := hb
  clear ha hb
  go_enter Try.func13, Try.ntmps13
  go_wp2
  go_loopw [5] (fun i wr => ∃ k : Nat, k ≤ l.length ∧ i = .int .i64 k ∧ Hid (∃ q, wr = w.drewN q)) (fun i _ => l.length - (intOf i).toNat)
  case atStart => exact ⟨0, Nat.zero_le _, rfl, 0, rfl⟩
  case round =>
    obtain ⟨k, hk, rfl, HW⟩ := hrel
    obtain ⟨q, hq⟩ := HW.out
    subst hq
    clear HW
    by_cases hlt : k < l.length
    · obtain ⟨ba, oa, rfl, c0, c1, c2, c3⟩ := HA.out.at k hlt
      obtain ⟨bb, ob, rfl, d0, d1, d2, d3⟩ := HB.out.at k hlt
      have hne := neq_Pr l[k]
      generalize l[k] = x at *
      go_wp2
      go_quiet (fail)
      go_wp2
      go_roundw
      case rel => exact ⟨k + 1, by omega, by go_num, _, rfl⟩
      case measure => simp [intOf]; omega
    · go_wp2
      go_ret
      exact ⟨rfl, below_drewN (Below.refl _ _) _⟩
theorem find_take {k : Val} {l : List Pr} {j : Nat} (hj : j < l.length) (h : ∀ x ∈ l.take j, eqV x.k k = false) (he : eqV l[j].k k = true) : getP k l = (l[j].v, true) := by
  have hp : l.find? (fun x => eqV x.k k) = some l[j] := by
    conv => lhs; rw [← List.take_append_drop j l]
    rw [List.find?_append, List.find?_eq_none.2 (fun x hx => by rw [h x hx]; simp), List.drop_eq_getElem_cons hj, List.find?_cons_of_pos (by simpa using he)]
    rfl
  unfold getP
  rw [hp]
theorem find_all {k : Val} {l : List Pr} (h : ∀ x ∈ l.take l.length, eqV x.k k = false) : getP k l = (0, false) := by
  rw [List.take_length] at h
  unfold getP
  rw [List.find?_eq_none.2 fun x hx => by rw [h x hx]; simp]
theorem take_more {α : Type} {P : α → Prop} {l : List α} {j : Nat} (hj : j < l.length) (h : ∀ x ∈ l.take j, P x) (he : P l[j]) : ∀ x ∈ l.take (j + 1), P x := fun x hx => by
  rw [List.take_succ_eq_append_getElem hj, List.mem_append, List.mem_singleton] at hx
  rcases hx with hx | rfl
  · exact h x hx
  · exact he
set_option maxHeartbeats 1000000 in
theorem pget_any (lv : Value) (l : List Pr) (k : Val) (w : World) (hl : PairsIn w lv l) :
    Calls Try.prog 11 #[lv, V k.t k.n k.s] w fun e w' => e = .returned (.tuple #[.int .i64 (getP k l).1, .bool (getP k l).2]) ∧ Below w.heap.size w w' := by
  obtain ⟨ao, c, rfl, hm⟩ := hl.slice
  have HL : Hid (PairsIn w (.slice ao l.length c) l) := hl
  clear hl
  go_enter Try.func11, Try.ntmps11
  go_wp2_with fail
  have HB0 : Hid (Below w.heap.size w (w.alloc (.cells #[.bool k.t, .int .i64 k.n, .string k.s] 30 (0, 0))) ∧ VBox (w.alloc (.cells #[.bool k.t, .int .i64 k.n, .string k.s] 30 (0, 0))) w.heap.size k) := ⟨alloc1 _ _, VBox.new w k 30⟩
  go_loopw [6] (fun i wr => ∃ j : Nat, j ≤ l.length ∧ i = .int .i64 j ∧ Hid ((∀ x ∈ l.take j, eqV x.k k = false) ∧ Below w.heap.size w wr ∧ VBox wr w.heap.size k)) (fun i _ => l.length - (intOf i).toNat)
  case atStart => exact ⟨0, Nat.zero_le _, rfl, fun x hx => by simp at hx, HB0.out⟩
  case round =>
    obtain ⟨j, hj, rfl, HJ⟩ := hrel
    clear HB0
    by_cases h1 : j < l.length
    · obtain ⟨b, o, rfl, c0, c1, c2, c3⟩ := (HL.out.below HJ.out.2.1).at j h1
      obtain ⟨k0, k1, k2⟩ := HJ.out.2.2
      have i1 : (j : Int) < (l.length : Int) := by omega
      have i0 : (0 : Int) ≤ (j : Int) := by omega
      have EQ := fun w => eql_V l[j].k k w
      cases hq : eqV l[j].k k
      · simp only [hq] at EQ
        have HN : Hid ((∀ x ∈ l.take (j + 1), eqV x.k k = false) ∧ Below w.heap.size w wr ∧ VBox wr w.heap.size k) := ⟨take_more h1 HJ.out.1 hq, HJ.out.2⟩
        clear hq HJ
        generalize l[j] = x at *
        go_wp2_with fail
        go_quiet (fail)
        clear c0 c1 c2 c3 k0 k1 k2 EQ
        go_wp2_with fail
        go_roundw
        case rel => exact ⟨j + 1, by omega, by go_num, HN.out.1, below_drewN HN.out.2.1 _, HN.out.2.2.below (below_drewN (Below.refl _ _) _)⟩
        case measure => simp [intOf]; omega
      · simp only [hq] at EQ
        have HG : Hid (getP k l = (l[j].v, true) ∧ Below w.heap.size w wr) := ⟨find_take h1 HJ.out.1 hq, HJ.out.2.1⟩
        clear hq HJ
        generalize l[j] = x at *
        go_wp2_with fail
        go_quiet (fail)
        go_wp2_with fail
        go_ret2
        refine ⟨?_, below_drewN HG.out.2 _⟩
        rw [HG.out.1]; rfl
    · obtain rfl : j = l.length := by omega
      have HG : Hid (getP k l = (0, false) ∧ Below w.heap.size w wr) := ⟨find_all HJ.out.1, HJ.out.2.1⟩
      clear HJ
      go_wp2_with fail
      go_ret2
      refine ⟨?_, HG.out.2⟩
      rw [HG.out.1]; rfl
end Go.Proofs.Ytooblmldmbbejaa.Val
/- What the reference's Delete and Range answer. -/
namespace Go.Proofs.Ytooblmldmbbejaa.Val
open Go Go.RowKit

/-- A row of pairs of the call's own, from a block on. -/
def FL (w : World) (B : Nat) (m : List Pr) (own : Value) (wr : World) : Prop := wr.ownsRow B TPr 4 own m.length (pcells m) ∧ Below w.heap.size w wr ∧ B ≤ wr.heap.size
theorem FL.below {w wr W : World} {B : Nat} {m : List Pr} {own : Value} (f : FL w B m own wr) (hb : Below wr.heap.size wr W) : FL w B m own W := ⟨own_below f.1 hb, on f.2.1 hb, Nat.le_trans f.2.2 hb.size⟩
theorem FL.more {w wr W w2 : World} {B : Nat} {m : List Pr} {own v' : Value} {x : Pr} (f : FL w B m own wr) (hw : w.heap.size ≤ B) (hW : Below wr.heap.size wr W) (ho : w2.ownsRow B TPr 4 v' (m.length + 1) (pcells m ++ x.cells)) (hg : W.grownBy w2 own.ownBlock) : FL w B (m ++ [x]) v' w2 ∧ Below B wr w2 := by
  have f1 := f.below hW
  have s : Sv (fun b => B ≤ b) W w2 := ⟨hg.os, hg.tape, hg.output, hg.size, fun k hk hx => hg.block k hk fun e => hx (f1.1.lt k e.symm).1⟩
  have hB : Below B W w2 := s.below f1.2.2 fun b hb hx => by omega
  refine ⟨⟨?_, f1.2.1.trans ?_, Nat.le_trans f1.2.2 s.size⟩, (hW.mono f.2.2).trans hB⟩
  · rw [List.length_append, pcells_more]; exact ho
  · exact s.below (Nat.le_trans hw f1.2.2) fun b hb hx => by omega
/-- A row of pairs in new memory. -/
def PairsNew (w : World) (B : Nat) (v : Value) (l : List Pr) : Prop := PairsIn w v l ∧ ∀ g, v.ownBlock = some g → B ≤ g
theorem FL.new {w wr : World} {m : List Pr} {own : Value} (f : FL w (w.heap.size + 1) m own wr) : PairsNew wr w.heap.size own m := ⟨own_pairs f.1, fun g hg => Nat.le_of_succ_le (f.1.lt g hg).1⟩
theorem VBox.low {w w' : World} {b B : Nat} {k : Val} (h : VBox w b k) (hb : Below B w w') (hl : b < B) : VBox w' b k := by
  obtain ⟨h0, h1, h2⟩ := h
  exact ⟨by rw [hb.cell hl]; exact h0, by rw [hb.cell hl]; exact h1, by rw [hb.cell hl]; exact h2⟩
theorem filt_yes {p : Pr → Bool} {l : List Pr} {j : Nat} (hj : j < l.length) (h : p l[j] = true) : (l.take (j + 1)).filter p = (l.take j).filter p ++ [l[j]] := by
  rw [List.take_succ_eq_append_getElem hj, List.filter_append]; simp [h]
theorem filt_no {p : Pr → Bool} {l : List Pr} {j : Nat} (hj : j < l.length) (h : p l[j] = false) : (l.take (j + 1)).filter p = (l.take j).filter p := by
  rw [List.take_succ_eq_append_getElem hj, List.filter_append]; simp [h]
theorem filt_len {p : Pr → Bool} {l : List Pr} {j : Nat} (hj : j ≤ l.length) : ((l.take j).filter p).length ≤ j := by
  have h1 := List.length_filter_le p (l.take j)
  rw [List.length_take] at h1
  omega
set_option maxRecDepth 100000 in
set_option maxHeartbeats 2000000 in
theorem pdel_any (lv : Value) (l : List Pr) (k : Val) (w : World) (hl : PairsIn w lv l) (hn : l.length ≤ 100000) :
    Calls Try.prog 22 #[lv, V k.t k.n k.s] w fun e w' => ∃ v, e = .returned (.tuple #[v, .bool (hasP k l)]) ∧ PairsNew w' w.heap.size v (delP k l) ∧ Below w.heap.size w w' := by
  obtain ⟨inf, hi1, hi2, hi3, hi4⟩ := info_Pr
  have IN : Hid (Try.prog.info? TPr = some inf ∧ inf.zero = some (.agg #[.bool false, .int .i64 0, .string ⟨#[]⟩, .int .i64 0]) ∧ inf.size = 4 ∧ inf.bytes = 40) := ⟨hi1, hi2, hi3, hi4⟩
  obtain ⟨ao, c, rfl, hm⟩ := hl.slice
  have HL : Hid (PairsIn w (.slice ao l.length c) l) := hl
  clear hl hi1 hi2 hi3 hi4
  go_enter Try.func22, Try.ntmps22
  go_wp2_with fail
  have HB0 : Hid (FL w (w.heap.size + 1) [] (.slice none 0 0) (w.alloc (.cells #[.bool k.t, .int .i64 k.n, .string k.s] 30 (0, 0))) ∧ VBox (w.alloc (.cells #[.bool k.t, .int .i64 k.n, .string k.s] 30 (0, 0))) w.heap.size k) := ⟨⟨World.ownsRow_nil _ _ _ _, alloc1 _ _, by simp⟩, VBox.new w k 30⟩
  go_loopw [6, 7] (fun own i wr => ∃ j : Nat, j ≤ l.length ∧ i = .int .i64 j ∧ Hid (FL w (w.heap.size + 1) ((l.take j).filter fun x => !eqV x.k k) own wr ∧ VBox wr w.heap.size k)) (fun _ i _ => l.length - (intOf i).toNat)
  case atStart => exact ⟨0, Nat.zero_le _, rfl, by simpa using HB0.out.1, HB0.out.2⟩
  case round =>
    obtain ⟨j, hj, rfl, HJ⟩ := hrel
    clear HB0
    by_cases h1 : j < l.length
    · obtain ⟨b, o, rfl, c0, c1, c2, c3⟩ := (HL.out.below HJ.out.1.2.1).at j h1
      obtain ⟨k0, k1, k2⟩ := HJ.out.2
      have i1 : (j : Int) < (l.length : Int) := by omega
      have i0 : (0 : Int) ≤ (j : Int) := by omega
      have EQ := fun w => neq_V l[j].k k w
      have hml := filt_len (p := fun x => !eqV x.k k) hj
      cases hq : eqV l[j].k k
      · simp only [hq, Bool.not_false] at EQ
        have HX : Hid ((l.take (j + 1)).filter (fun x => !eqV x.k k) = (l.take j).filter (fun x => !eqV x.k k) ++ [l[j]]) := filt_yes h1 (by simp [hq])
        clear hq
        generalize l[j] = x at *
        generalize hmm : (l.take j).filter (fun x => !eqV x.k k) = m at *
        clear hmm
        go_wp2_with fail
        go_quiet (fail)
        clear k0 k1 k2 EQ
        go_wp2_with (at_builtin; refine wpList_append_own_at _ rfl _ _ _ rfl (w.heap.size + 1) TPr inf _ 4 40 Try.underlying26 IN.out.1 IN.out.2.1 IN.out.2.2.1 IN.out.2.2.2 rfl (by decide) u6 m.length (pcells m) rfl (own_below HJ.out.1.1 (on (below_drewN (Below.refl _ _) _) (alloc1 _ _))) ⟨wr.heap.size, 0, none⟩ 1 1 x.cells rfl rfl (pr_new _ x) (Pr.cells_one x) ?_ ?_ ?_ ?_)
        · unfold maxLen; omega
        · omega
        · have := HJ.out.1.2.2; simp; omega
        · intro v' w2 hown' hgrow _ _
          obtain ⟨r1, r2⟩ := HJ.out.1.more (Nat.le_succ _) (on (below_drewN (Below.refl _ _) _) (alloc1 _ _)) hown' hgrow
          have HC : Hid (FL w (w.heap.size + 1) (m ++ [x]) v' w2 ∧ VBox w2 w.heap.size k) := ⟨r1, HJ.out.2.low r2 (Nat.lt_succ_self _)⟩
          clear hown' hgrow r1 r2 HJ c0 c1 c2 c3
          go_wp2_with fail
          go_roundw
          case rel => exact ⟨j + 1, h1, by go_num, by rw [HX.out]; exact HC.out⟩
          case measure => simp [intOf]; omega
      · simp only [hq, Bool.not_true] at EQ
        have HC : Hid (FL w (w.heap.size + 1) ((l.take (j + 1)).filter fun x => !eqV x.k k) u6 wr ∧ VBox wr w.heap.size k) := by
          have := filt_no (p := fun x => !eqV x.k k) h1 (by simp [hq])
          rw [this]; exact HJ.out
        clear hq HJ
        generalize l[j] = x at *
        go_wp2_with fail
        go_quiet (fail)
        clear c0 c1 c2 c3 k0 k1 k2 EQ
        go_wp2_with fail
        go_roundw
        case rel => exact ⟨j + 1, h1, by go_num, HC.out.1.below (below_drewN (Below.refl _ _) _), HC.out.2.below (below_drewN (Below.refl _ _) _)⟩
        case measure => simp [intOf]; omega
    · obtain rfl : j = l.length := by omega
      have HF : Hid (FL w (w.heap.size + 1) (delP k l) u6 wr) := by
        have := HJ.out.1
        rw [List.take_length] at this
        exact this
      obtain ⟨va, vc, ev⟩ := owns_slice HF.out.1
      obtain ⟨m, hme⟩ : ∃ m, delP k l = m := ⟨_, rfl⟩
      rw [hme] at ev HF
      subst ev
      have hd := del_short (k := k) (l := l)
      have hlt := filt_len (p := fun x => !eqV x.k k) hj
      rw [List.take_length] at hlt
      have hlt : (delP k l).length ≤ l.length := hlt
      have HR : Hid (PairsNew wr w.heap.size (.slice va m.length vc) m ∧ Below w.heap.size w wr) := ⟨HF.out.new, HF.out.2.1⟩
      clear HJ HF HL
      have HME : Hid (delP k l = m) := hme
      rw [hme] at hd hlt
      have HH : Hid (decide (m.length < l.length) = hasP k l) := hd
      clear hme hd
      by_cases h2 : m.length < l.length
      · have i1 : (m.length : Int) < (l.length : Int) := by omega
        have HZ : Hid (hasP k l = true) := by rw [← HH.out]; exact decide_eq_true h2
        clear hlt h1 HH
        go_wp2_with fail
        go_ret2
        exact ⟨_, by rw [HZ.out]; rfl, by rw [HME.out]; exact HR.out⟩
      · have i1 : decide ((m.length : Int) < (l.length : Int)) = false := by simp; omega
        clear hlt h1 h2
        go_wp2_with fail
        go_ret2
        exact ⟨_, by rw [← HH.out]; rfl, by rw [HME.out]; exact HR.out⟩
theorem SBox.low {w w' : World} {b B : Nat} {s : Sp} (h : SBox w b s) (hb : Below B w w') (hl : b < B) : SBox w' b s := by
  obtain ⟨s0, s1, s2, s3, s4, s5, s6, s7, s8, s9, s10⟩ := h
  exact ⟨by rw [hb.cell hl]; exact s0, by rw [hb.cell hl]; exact s1, by rw [hb.cell hl]; exact s2, by rw [hb.cell hl]; exact s3, by rw [hb.cell hl]; exact s4, by rw [hb.cell hl]; exact s5, by rw [hb.cell hl]; exact s6, by rw [hb.cell hl]; exact s7, by rw [hb.cell hl]; exact s8, by rw [hb.cell hl]; exact s9, by rw [hb.cell hl]; exact s10⟩
set_option maxRecDepth 100000 in
set_option maxHeartbeats 4000000 in
theorem prange_any (lv : Value) (l : List Pr) (s : Sp) (w : World) (hl : PairsIn w lv l) (hn : l.length ≤ 100000) (hso : s.ok) (hko : ∀ x ∈ l, x.k.s.size ≤ maxLen) :
    Calls Try.prog 15 #[lv, s.val] w fun e w' => ∃ v, e = .returned v ∧ PairsNew w' w.heap.size v (rangeP s l) ∧ Below w.heap.size w w' := by
  obtain ⟨inf, hi1, hi2, hi3, hi4⟩ := info_Pr
  have IN : Hid (Try.prog.info? TPr = some inf ∧ inf.zero = some (.agg #[.bool false, .int .i64 0, .string ⟨#[]⟩, .int .i64 0]) ∧ inf.size = 4 ∧ inf.bytes = 40) := ⟨hi1, hi2, hi3, hi4⟩
  obtain ⟨ao, c, rfl, hm⟩ := hl.slice
  have HL : Hid (PairsIn w (.slice ao l.length c) l) := hl
  have HW : Hid (∀ (j : Nat) (h : j < l.length) w1, Calls Try.prog 28 #[s.val, V l[j].k.t l[j].k.n l[j].k.s] w1 fun e w' => e = .returned (.bool (withinS s l[j].k)) ∧ Below w1.heap.size w1 w') := fun j h w1 => rwithin_any s l[j].k w1 hso (hko _ (List.getElem_mem h))
  clear hl hi1 hi2 hi3 hi4 hso hko
  unfold Sp.val at *
  go_enter Try.func15, Try.ntmps15
  go_wp2_with fail
  have HB0 : Hid (FL w (w.heap.size + 1) [] (.slice none 0 0) (w.alloc (sobj s 40)) ∧ SBox (w.alloc (sobj s 40)) w.heap.size s) := ⟨⟨World.ownsRow_nil _ _ _ _, alloc1 _ _, by simp⟩, by constructor <;> simp [go_sem]⟩
  go_loopw [5, 6] (fun own i wr => ∃ j : Nat, j ≤ l.length ∧ i = .int .i64 j ∧ Hid (FL w (w.heap.size + 1) ((l.take j).filter fun x => withinS s x.k) own wr ∧ SBox wr w.heap.size s)) (fun _ i _ => l.length - (intOf i).toNat)
  case atStart => exact ⟨0, Nat.zero_le _, rfl, by simpa using HB0.out.1, HB0.out.2⟩
  case round =>
    obtain ⟨j, hj, rfl, HJ⟩ := hrel
    clear HB0
    by_cases h1 : j < l.length
    · obtain ⟨b, o, rfl, c0, c1, c2, c3⟩ := (HL.out.below HJ.out.1.2.1).at j h1
      have i1 : (j : Int) < (l.length : Int) := by omega
      have i0 : (0 : Int) ≤ (j : Int) := by omega
      have HC : Hid (∀ W, Below wr.heap.size wr W → (W.cell? ⟨b, o + j * 4, none⟩ = some (.bool l[j].k.t) ∧ W.cell? ⟨b, o + j * 4 + 1, none⟩ = some (.int .i64 l[j].k.n) ∧ W.cell? ⟨b, o + j * 4 + 2, none⟩ = some (.string l[j].k.s) ∧ W.cell? ⟨b, o + j * 4 + 3, none⟩ = some (.int .i64 l[j].v)) ∧ SBox W w.heap.size s ∧ FL w (w.heap.size + 1) ((l.take j).filter fun x => withinS s x.k) u5 W) := fun W hb => by
        obtain ⟨b', o', e, q0, q1, q2, q3⟩ := ((HL.out.below HJ.out.1.2.1).below hb).at j h1
        cases e
        exact ⟨⟨q0, q1, q2, q3⟩, HJ.out.2.below hb, HJ.out.1.below hb⟩
      have HWJ : Hid (∀ w1, Calls Try.prog 28 #[.agg #[.bool s.no, .bool s.hl, .bool s.ol, .bool s.lo.t, .int .i64 s.lo.n, .string s.lo.s, .bool s.hh, .bool s.oh, .bool s.hi.t, .int .i64 s.hi.n, .string s.hi.s], V l[j].k.t l[j].k.n l[j].k.s] w1 fun e w' => e = .returned (.bool (withinS s l[j].k)) ∧ Below w1.heap.size w1 w') := HW.out j h1
      have hml := filt_len (p := fun x => withinS s x.k) hj
      have HY : Hid (withinS s l[j].k = true → (l.take (j + 1)).filter (fun x => withinS s x.k) = (l.take j).filter (fun x => withinS s x.k) ++ [l[j]]) := fun h => filt_yes (p := fun x => withinS s x.k) h1 h
      have HN : Hid (withinS s l[j].k = false → (l.take (j + 1)).filter (fun x => withinS s x.k) = (l.take j).filter (fun x => withinS s x.k)) := fun h => filt_no (p := fun x => withinS s x.k) h1 h
      have HJ1 : Hid (j + 1 ≤ l.length) := h1
      clear c0 c1 c2 c3 HJ
      generalize l[j] = x at *
      generalize (l.take j).filter (fun x => withinS s x.k) = m at *
      generalize withinS s x.k = ii at *
      go_wp2_with fail
      refine wp_region_held_drew (S := fun w' => (w'.cell? ⟨b, o + j * 4, none⟩ = some (.bool x.k.t) ∧ w'.cell? ⟨b, o + j * 4 + 1, none⟩ = some (.int .i64 x.k.n) ∧ w'.cell? ⟨b, o + j * 4 + 2, none⟩ = some (.string x.k.s)) ∧ (w'.cell? ⟨w.heap.size, 0, none⟩ = some (.bool s.no) ∧ w'.cell? ⟨w.heap.size, 1, none⟩ = some (.bool s.hl) ∧ w'.cell? ⟨w.heap.size, 2, none⟩ = some (.bool s.ol) ∧ w'.cell? ⟨w.heap.size, 3, none⟩ = some (.bool s.lo.t) ∧ w'.cell? ⟨w.heap.size, 4, none⟩ = some (.int .i64 s.lo.n) ∧ w'.cell? ⟨w.heap.size, 5, none⟩ = some (.string s.lo.s) ∧ w'.cell? ⟨w.heap.size, 6, none⟩ = some (.bool s.hh) ∧ w'.cell? ⟨w.heap.size, 7, none⟩ = some (.bool s.oh) ∧ w'.cell? ⟨w.heap.size, 8, none⟩ = some (.bool s.hi.t) ∧ w'.cell? ⟨w.heap.size, 9, none⟩ = some (.int .i64 s.hi.n) ∧ w'.cell? ⟨w.heap.size, 10, none⟩ = some (.string s.hi.s))) (by kernel_rfl) ?_ (fun hHeld => ?_)
      · obtain ⟨⟨q0, q1, q2, _⟩, q4, _⟩ := HC.out _ (Below.refl _ _).drew
        obtain ⟨s0, s1, s2, s3, s4, s5, s6, s7, s8, s9, s10⟩ := q4
        exact ⟨⟨q0, q1, q2⟩, s0, s1, s2, s3, s4, s5, s6, s7, s8, s9, s10⟩
      (try clear hK K)
      refine wpAnyH_take (i := 0) (v := ?_) rfl (by kernel_rfl) (by kernel_rfl) (by kernel_rfl) (fun _ _ _ h => h) (Or.inl ⟨by rfl, ?_⟩) (by assumption) ?_
      rotate_left
      · intro w hSw; (try dsimp only at hSw); go_simp; (try with_reducible rfl)
      (try simp only [Act.put, List.getElem_toArray, List.getElem_cons_zero, List.setIfInBounds_toArray, List.set_cons_zero, List.set_cons_succ])
      refine wpAnyH_take (i := 1) (v := ?_) rfl (by kernel_rfl) (by kernel_rfl) (by kernel_rfl) (fun _ _ _ h => h) (Or.inl ⟨by rfl, ?_⟩) (by assumption) ?_
      rotate_left
      · intro w hSw; (try dsimp only at hSw); go_simp; (try with_reducible rfl)
      (try simp only [Act.put, List.getElem_toArray, List.getElem_cons_succ, List.getElem_cons_zero, List.setIfInBounds_toArray, List.set_cons_zero, List.set_cons_succ])
      refine wpAnyH_take (i := 2) (v := ?_) rfl (by kernel_rfl) (by kernel_rfl) (by kernel_rfl) (fun _ _ _ h => h) (Or.inl ⟨by rfl, ?_⟩) (by assumption) ?_
      rotate_left
      · intro w hSw; (try dsimp only at hSw); go_simp; (try with_reducible rfl)
      (try simp only [Act.put, List.getElem_toArray, List.getElem_cons_succ, List.getElem_cons_zero, List.setIfInBounds_toArray, List.set_cons_zero, List.set_cons_succ])
      refine wpAnyH_take (i := 3) (v := ?_) rfl (by kernel_rfl) (by kernel_rfl) (by kernel_rfl) (fun _ _ _ h => h) (Or.inl ⟨by rfl, ?_⟩) (by assumption) ?_
      rotate_left
      · intro w hSw; (try dsimp only at hSw); go_simp; (try with_reducible rfl)
      (try simp only [Act.put, List.getElem_toArray, List.getElem_cons_succ, List.getElem_cons_zero, List.setIfInBounds_toArray, List.set_cons_zero, List.set_cons_succ])
      refine wpAnyH_take (i := 4) (v := ?_) rfl (by kernel_rfl) (by kernel_rfl) (by kernel_rfl) (fun _ _ _ h => h) (Or.inl ⟨by rfl, ?_⟩) (by assumption) ?_
      rotate_left
      · intro w hSw; (try dsimp only at hSw); go_simp; (try with_reducible rfl)
      (try simp only [Act.put, List.getElem_toArray, List.getElem_cons_succ, List.getElem_cons_zero, List.setIfInBounds_toArray, List.set_cons_zero, List.set_cons_succ])
      refine wpAnyH_take (i := 5) (v := ?_) rfl (by kernel_rfl) (by kernel_rfl) (by kernel_rfl) (fun _ _ _ h => h) (Or.inl ⟨by rfl, ?_⟩) (by assumption) ?_
      rotate_left
      · intro w hSw; (try dsimp only at hSw); go_simp; (try with_reducible rfl)
      (try simp only [Act.put, List.getElem_toArray, List.getElem_cons_succ, List.getElem_cons_zero, List.setIfInBounds_toArray, List.set_cons_zero, List.set_cons_succ])
      (try clear hK K)
      refine wpAnyH_ready (rs := [6]) (by kernel_rfl) (by simp) ?_
      refine AllReadyH.cons rfl (fun K hK => ?_) AllReadyH.nil
      go_simp
      (refine Calls.mono (HWJ.out _) ?_; rintro e w3 ⟨rfl, hb3⟩)
      refine hK.out _ _ ?_ (fun hHeld => ?_)
      · obtain ⟨⟨q0, q1, q2, _⟩, q4, _⟩ := HC.out w3 (on (Below.refl _ _).drew hb3)
        obtain ⟨s0, s1, s2, s3, s4, s5, s6, s7, s8, s9, s10⟩ := q4
        exact ⟨⟨q0, q1, q2⟩, s0, s1, s2, s3, s4, s5, s6, s7, s8, s9, s10⟩
      (try clear hK K)
      refine wpAnyH_take (i := 7) (v := ?_) rfl (by kernel_rfl) (by kernel_rfl) (by kernel_rfl) (fun _ _ _ h => h) (Or.inl ⟨by rfl, ?_⟩) (by assumption) ?_
      rotate_left
      · intro w hSw; (try dsimp only at hSw); go_simp; (try with_reducible rfl)
      (try simp only [Act.put, List.getElem_toArray, List.getElem_cons_succ, List.getElem_cons_zero, List.setIfInBounds_toArray, List.set_cons_zero, List.set_cons_succ])
      (try clear hK K)
      refine wpAnyH_done (by kernel_rfl) ?_ _
      have HB3 : Hid (Below wr.heap.size wr w3) := on (Below.refl _ _).drew hb3
      clear hb3
      obtain ⟨⟨c0, c1, c2, c3⟩, _, _⟩ := HC.out _ HB3.out
      cases ii
      · have HN1 : Hid ((l.take (j + 1)).filter (fun x => withinS s x.k) = m) := HN.out rfl
        clear HN HY
        go_wp2_with fail
        go_roundw
        case rel => exact ⟨j + 1, HJ1.out, by go_num, by rw [HN1.out]; exact (HC.out _ HB3.out).2.2, (HC.out _ HB3.out).2.1⟩
        case measure => simp [intOf]; omega
      · have HW3 : Hid (FL w (w.heap.size + 1) m u5 w3 ∧ SBox w3 w.heap.size s) := ⟨(HC.out _ HB3.out).2.2, (HC.out _ HB3.out).2.1⟩
        have HY1 : Hid ((l.take (j + 1)).filter (fun x => withinS s x.k) = m ++ [x]) := HY.out rfl
        clear HC HN HY
        go_wp2_with (at_builtin; refine wpList_append_own_at _ rfl _ _ _ rfl (w.heap.size + 1) TPr inf _ 4 40 Try.underlying26 IN.out.1 IN.out.2.1 IN.out.2.2.1 IN.out.2.2.2 rfl (by decide) u5 m.length (pcells m) rfl (own_below HW3.out.1.1 (alloc1 _ _)) ⟨w3.heap.size, 0, none⟩ 1 1 x.cells rfl rfl (pr_new _ x) (Pr.cells_one x) ?_ ?_ ?_ ?_)
        · unfold maxLen; omega
        · omega
        · have := HW3.out.1.2.2; simp; omega
        · intro v' w2 hown' hgrow _ _
          obtain ⟨r1, r2⟩ := HW3.out.1.more (Nat.le_succ _) (alloc1 _ _) hown' hgrow
          have HD : Hid (FL w (w.heap.size + 1) (m ++ [x]) v' w2 ∧ SBox w2 w.heap.size s) := ⟨r1, HW3.out.2.low r2 (Nat.lt_succ_self _)⟩
          clear hown' hgrow r1 r2 HW3 c0 c1 c2 c3
          go_wp2_with fail
          go_roundw
          case rel => exact ⟨j + 1, HJ1.out, by go_num, by rw [HY1.out]; exact HD.out⟩
          case measure => simp [intOf]; omega
    · obtain rfl : j = l.length := by omega
      have HF : Hid (FL w (w.heap.size + 1) (rangeP s l) u5 wr) := by
        have := HJ.out.1
        rw [List.take_length] at this
        exact this
      have HR : Hid (PairsNew wr w.heap.size u5 (rangeP s l) ∧ Below w.heap.size w wr) := ⟨HF.out.new, HF.out.2.1⟩
      clear HJ HF HL
      go_wp2_with fail
      go_ret
      exact ⟨_, rfl, HR.out⟩
end Go.Proofs.Ytooblmldmbbejaa.Val
