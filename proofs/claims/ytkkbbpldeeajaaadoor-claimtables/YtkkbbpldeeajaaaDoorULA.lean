/- The walk of the law ClaimTables. -/
import Derived.Test.YtkkbbpldeeajaaaDoorUC5
import Derived.Test.YtkkbbpldeeajaaaDoorULr
import Derived.Test.YtkkbbpldeeajaaaDoorUF
import Derived.Test.YtkkbbpldeeajaaaDoorUC2
namespace Go.Proofs.YtkkbbpldeeajaaaDoor.Val
open Go.RowKit
set_option maxRecDepth 100000

theorem ct_never (a : CP) : conflictC (pC a.table 2) a = false := by
  have h2 : ∀ r, holdsP r (.mk 2 0 Val.zero Val.zero (.slice none 0 0) []) = false := fun r => by
    rw [holds_leaf (by decide) (by decide) (by decide) (by decide)]
    unfold leafB
    rw [if_neg (by decide)]
    cases (r[(0 : Int).toNat]?) with
    | none => rfl
    | some x => simp [standB]
  unfold conflictC catchC
  simp [pC, h2]
/-- How many of some images aren't empty. -/
def rowsN (l : List (List Val)) : Nat := (l.filter fun r => !r.isEmpty).length
theorem ct_always (a : CP) : conflictC (pC a.table 1) a = (a.kind == 2 && (a.mode == 6 && decide (0 < rowsN a.rows))) := by
  have h1 : ∀ r, holdsP r (.mk 1 0 Val.zero Val.zero (.slice none 0 0) []) = true := fun r => holds_1 rfl
  have h3 : a.rows.any (fun r => !r.isEmpty && holdsP r (.mk 1 0 Val.zero Val.zero (.slice none 0 0) [])) = decide (0 < rowsN a.rows) := by
    rw [Bool.eq_iff_iff, decide_eq_true_eq, rowsN, List.length_pos_iff_exists_mem, List.any_eq_true]
    constructor
    · rintro ⟨x, hx, hh⟩
      rw [h1, Bool.and_true] at hh
      exact ⟨x, List.mem_filter.2 ⟨hx, hh⟩⟩
    · rintro ⟨x, hx⟩
      obtain ⟨h1', h2'⟩ := List.mem_filter.1 hx
      exact ⟨x, h1', by rw [h1, Bool.and_true]; exact h2'⟩
  unfold conflictC catchC
  rw [show (pC a.table 1).p = .mk 1 0 Val.zero Val.zero (.slice none 0 0) [] from rfl, h3]
  by_cases hk : a.kind = 2
  · simp [pC, hk]
  · simp [pC, hk]
theorem rowsN_take (l : List (List Val)) (k : Nat) (hk : k < l.length) : rowsN (l.take (k + 1)) = rowsN (l.take k) + (if l[k].isEmpty then 0 else 1) := by
  rw [rowsN, List.take_add_one, List.getElem?_eq_getElem hk, List.filter_append, List.length_append, ← rowsN]
  cases h : l[k].isEmpty <;> simp [h]
theorem rowsN_le (l : List (List Val)) : rowsN l ≤ l.length := List.length_filter_le _ _
theorem ct_other {a b : CP} (h : a.table ≠ b.table) (s : Bool) : conflictC a b = false ∧ sameC s a b = false ∧ coversC s a b = false := by
  have h' : (a.table == b.table) = false := by simpa using h
  simp [conflictC, sameC, coversC, h']
/-- All that the law looks at. -/
structure TX (w0 w : World) (a b : CP) (n y : Nat) : Prop where
  ab : AB w0 w a b
  cn : CB w n (pC a.table 2)
  cy : CB w y (pC a.table 1)
theorem TX.below {w0 w w' : World} {a b : CP} {n y : Nat} (h : TX w0 w a b n y) (hb : Below w.heap.size w w') : TX w0 w' a b n y := ⟨h.ab.below hb, h.cn.below hb, h.cy.below hb⟩
set_option maxHeartbeats 8000000 in
theorem ctables_walk (a b : CP) (t : Int) (w : World) (hT : TabC w) (ha : CIn w a) (hb : CIn w b) : Tells 9 #[a.val, b.val, .int .i64 t] w (.bool true) := by
  have HW : Hid (∀ w1, Below w.heap.size w w1 → Tells 11 #[] w1 (.bool true)) := fun w1 h => awake_any w1 (hT.below h)
  have HA : Hid (∀ w1, Below w.heap.size w w1 → Calls Tryd.prog 12 #[a.val] w1 fun e w' => ∃ q, e = .returned (.bool q) ∧ (q = true → FewC a) ∧ Below w1.heap.size w1 w') := fun w1 h => few_any a w1 (ha.below h)
  have HB : Hid (∀ w1, Below w.heap.size w w1 → Calls Tryd.prog 12 #[b.val] w1 fun e w' => ∃ q, e = .returned (.bool q) ∧ (q = true → FewC b) ∧ Below w1.heap.size w1 w') := fun w1 h => few_any b w1 (hb.below h)
  have HC1 : Hid (∀ w1, Below w.heap.size w w1 → Tells 17 #[(pC a.table 2).val, a.val] w1 (.bool false)) := fun w1 h => by rw [← ct_never a]; exact conflict_any _ a w1 (hT.below h) (in_pC _ _ _) (ha.below h)
  have HC2 : Hid (∀ w1, Below w.heap.size w w1 → Tells 17 #[(pC a.table 1).val, a.val] w1 (.bool (a.kind == 2 && (a.mode == 6 && decide (0 < rowsN a.rows))))) := fun w1 h => by rw [← ct_always a]; exact conflict_any _ a w1 (hT.below h) (in_pC _ _ _) (ha.below h)
  have HO : Hid (t ≠ a.table → ∃ s, ∀ w1, Below w.heap.size w w1 → Tells 17 #[a.val, ({ b with table := t } : CP).val] w1 (.bool false) ∧ Tells 15 #[a.val, ({ b with table := t } : CP).val] w1 (.bool false) ∧ Tells 19 #[a.val, ({ b with table := t } : CP).val] w1 (.bool (s && false))) := fun hne => by
    obtain ⟨s, hs⟩ := some_b (a.p.bare = ({ b with table := t } : CP).p.bare)
    obtain ⟨e1, e2, e3⟩ := ct_other (a := a) (b := { b with table := t }) (fun e => hne e.symm) s
    refine ⟨s, fun w1 h => ⟨?_, ?_, ?_⟩⟩
    · rw [← e1]; exact conflict_any a _ w1 (hT.below h) (ha.below h) ⟨hb.key, (hb.ims).below h, hb.p.keep h⟩
    · rw [← e2]; exact csame_any a _ s hs w1 (ha.below h) ⟨hb.key, (hb.ims).below h, hb.p.keep h⟩
    · rw [Bool.and_false, ← e3]; exact ccovers_any a _ s hs w1 (hT.below h) (ha.below h) ⟨hb.key, (hb.ims).below h, hb.p.keep h⟩
  have HI : Hid (CIn w a) := ha
  have HN : Hid (AB w ((w.alloc (cobj a TC)).alloc (cobj b TC)) a b) := AB.new w a b
  obtain ⟨ai, ci, hiv, hn⟩ := ha.ims.slice
  have HE : Hid (a.iv = .slice ai a.ims.length ci) := hiv
  clear hT ha hb hiv
  unfold cobj at HN
  unfold CP.val
  go_enter Tryd.func9, Tryd.ntmps9
  go_wp2_with fail
  refine Calls.mono (HW.out _ HN.out.bel) ?_
  rintro e w1 ⟨rfl, hb1⟩
  have H1 : Hid (AB w w1 a b) := HN.out.below hb1
  clear hb1 HN HW
  go_wp2_with (first | (refine step_cload rfl _ rfl w.heap.size a rfl H1.out.ca ?_) | fail)
  refine Calls.mono (HA.out _ H1.out.bel) ?_
  rintro e w2 ⟨qa, rfl, hfa, hb2⟩
  have H2 : Hid (AB w w2 a b) := H1.out.below hb2
  have HFA : Hid (qa = true → FewC a) := hfa
  clear hb2 hfa H1 HA
  go_wp2_with (first | (refine step_cload rfl _ rfl (w.heap.size + 1) b rfl H2.out.cb ?_) | fail)
  refine Calls.mono (HB.out _ H2.out.bel) ?_
  rintro e w3 ⟨qb, rfl, -, hb3⟩
  have H3 : Hid (AB w w3 a b) := H2.out.below hb3
  clear hb3 H2 HB
  cases qa
  · go_wp2_with fail
    go_ret
    exact ⟨rfl, H3.out.bel⟩
  cases qb
  · go_wp2_with fail
    go_ret
    exact ⟨rfl, H3.out.bel⟩
  have hfew : a.ims.length ≤ 20 := (HFA.out rfl).n
  have t1 : w3.cell? ⟨w.heap.size, 1, none⟩ = some (.int .i64 a.table) := H3.out.ca.cell 1
  go_wp2_with (first
    | (refine step_cstore rfl _ _ rfl w3.heap.size (pC a.table 2) zeroC rfl rfl (one_pC _ _) (CB.new w3 zeroC) ?_; intro w4 h1 h2
       have H4 : Hid (AB w w4 a b ∧ CB w4 w3.heap.size (pC a.table 2)) := ⟨H3.out.below (new_store h2), h1⟩
       clear h1 h2 H3 t1
       have t2 : w4.cell? ⟨w.heap.size, 1, none⟩ = some (.int .i64 a.table) := H4.out.1.ca.cell 1)
    | (refine step_cstore rfl _ _ rfl w4.heap.size (pC a.table 1) zeroC rfl rfl (one_pC _ _) (CB.new w4 zeroC) ?_; intro w5 h1 h2
       have H5 : Hid (TX w w5 a b w3.heap.size w4.heap.size) := ⟨H4.out.1.below (new_store h2), H4.out.2.below (new_store h2), h1⟩
       clear h1 h2 H4 t2
       have t3 : w5.cell? ⟨w.heap.size, 6, none⟩ = some (.slice ai a.ims.length ci) := by have := H5.out.ab.ca.box.c6; rwa [HE.out] at this)
    | fail)
  have hrl : a.rows.length = a.ims.length := by simp [CP.rows]
  go_loopw [12, 13] (fun r i wr => ∃ k : Nat, k ≤ a.ims.length ∧ i = .int .i64 k ∧ r = .int .i64 (rowsN (a.rows.take k) : Nat) ∧ Hid (TX w wr a b w3.heap.size w4.heap.size))
    (fun _ i _ => a.ims.length - (intOf i).toNat)
  case atStart => exact ⟨0, Nat.zero_le _, rfl, by simp [rowsN], H5.out⟩
  case round =>
    clear H5 t3
    obtain ⟨k, hk, rfl, rfl, HX⟩ := hrel
    have t6 : wr.cell? ⟨w.heap.size, 6, none⟩ = some (.slice ai a.ims.length ci) := by have := HX.out.ab.ca.box.c6; rwa [HE.out] at this
    by_cases h1 : k < a.ims.length
    · have i0 : (0 : Int) ≤ (k : Int) := by omega
      have i1 : (k : Int) < (a.ims.length : Int) := by omega
      have hin := (HI.out.below HX.out.ab.bel).ims
      rw [HE.out] at hin
      obtain ⟨b1, o, rfl, hat⟩ := hin.at k h1
      obtain ⟨ak, ck, hvk, _⟩ := (hin.2 _ (List.getElem_mem h1)).slice
      rw [hvk] at hat
      have hrk : rowsN (a.rows.take (k + 1)) = rowsN (a.rows.take k) + (if a.ims[k].r.isEmpty then 0 else 1) := by
        have := rowsN_take a.rows k (by omega)
        simpa [CP.rows] using this
      have hle := rowsN_le (a.rows.take k)
      rw [List.length_take] at hle
      obtain ⟨m, hm⟩ : ∃ m, a.ims[k].r.length = m := ⟨_, rfl⟩
      rw [hm] at hat
      have hme : a.ims[k].r.isEmpty = !decide (0 < m) := by rw [← hm]; cases a.ims[k].r <;> simp
      clear hm
      by_cases h2 : 0 < m
      · have e3 : (0 : Int) < (m : Int) := by omega
        have e4 : a.ims[k].r.isEmpty = false := by rw [hme]; simp [h2]
        have hr1 : ((rowsN (a.rows.take (k + 1)) : Nat) : Int) = (rowsN (a.rows.take k) : Nat) + 1 := by rw [hrk, e4]; simp
        have HR : Hid (((rowsN (a.rows.take (k + 1)) : Nat) : Int) = (rowsN (a.rows.take k) : Nat) + 1) := hr1
        clear hr1
        have hle2 : (rowsN (a.rows.take k) : Nat) ≤ 20 := by omega
        clear hin hvk hrk e4 hme HC1 HC2 HO HI HE HFA hle
        generalize rowsN (a.rows.take k) = r0 at *
        go_wp2_with fail
        go_roundw
        case rel => exact ⟨k + 1, by omega, by go_num, by rw [HR.out], HX⟩
        case measure => simp [intOf]; omega
      · have e3 : decide ((0 : Int) < (m : Int)) = false := decide_eq_false (by omega)
        have e4 : a.ims[k].r.isEmpty = true := by rw [hme]; simp [h2]
        have hr1 : rowsN (a.rows.take (k + 1)) = rowsN (a.rows.take k) := by rw [hrk, e4]; simp
        have HR : Hid (rowsN (a.rows.take (k + 1)) = rowsN (a.rows.take k)) := hr1
        clear hr1
        clear hin hvk hrk e4 hme HC1 HC2 HO HI HE HFA hle
        go_wp2_with fail
        go_roundw
        case rel => exact ⟨k + 1, by omega, by go_num, by rw [HR.out], HX⟩
        case measure => simp [intOf]; omega
    · have i1 : decide ((k : Int) < (a.ims.length : Int)) = false := by simp; omega
      obtain rfl : k = a.ims.length := by omega
      rw [← hrl, List.take_length]
      obtain ⟨r, hr⟩ : ∃ r, decide (0 < rowsN a.rows) = r := ⟨_, rfl⟩
      rw [hr] at HC2
      have hrI : decide ((0 : Int) < (rowsN a.rows : Nat)) = r := by rw [← hr]; simp
      have hle2 := rowsN_le a.rows
      generalize rowsN a.rows = r0 at *
      clear hle2 HE HI HFA h1
      cases hkq : (a.kind == 2)
      · rw [hkq, Bool.false_and] at HC2
        go_wp2_with fail
        (try simp only [List.append])
        refine region_cls (C := fun w' => TX w w' a b w3.heap.size w4.heap.size) (by kernel_rfl) (by kernel_rfl) (HX.out.below (Below.refl _ _).drew) ?_
        clear HX
        go_big_quiet_want
        refine ⟨(pC a.table 2).val, quiet_cload _ rfl (w3.heap.size) (pC a.table 2) rfl (fun _ h => h.cn), ?_⟩
        simp only [Act.put, List.setIfInBounds_toArray, List.set_cons_zero, List.set_cons_succ]
        go_big_quiet_on
        go_big_quiet_want
        refine ⟨a.val, quiet_cload _ rfl (w.heap.size) a rfl (fun _ h => h.ab.ca), ?_⟩
        simp only [Act.put, List.setIfInBounds_toArray, List.set_cons_zero, List.set_cons_succ]
        go_big_quiet_on
        go_big_quiet_want
        refine ⟨.bool false, fun w' hw' => ?_, ?_⟩
        · go_simp
          exact (HC1.out w' hw'.ab.bel).mono fun e w'' h => ⟨h.1, hw'.below h.2⟩
        simp only [Act.put, List.setIfInBounds_toArray, List.set_cons_zero, List.set_cons_succ]
        go_big_quiet_on
        go_big_quiet_want
        go_big_quiet_op
        go_big_quiet_on
        go_big_quiet_want
        refine ⟨(pC a.table 1).val, quiet_cload _ rfl (w4.heap.size) (pC a.table 1) rfl (fun _ h => h.cy), ?_⟩
        simp only [Act.put, List.setIfInBounds_toArray, List.set_cons_zero, List.set_cons_succ]
        go_big_quiet_on
        go_big_quiet_want
        refine ⟨a.val, quiet_cload _ rfl (w.heap.size) a rfl (fun _ h => h.ab.ca), ?_⟩
        simp only [Act.put, List.setIfInBounds_toArray, List.set_cons_zero, List.set_cons_succ]
        go_big_quiet_on
        go_big_quiet_want
        refine ⟨.bool false, fun w' hw' => ?_, ?_⟩
        · go_simp
          exact (HC2.out w' hw'.ab.bel).mono fun e w'' h => ⟨h.1, hw'.below h.2⟩
        simp only [Act.put, List.setIfInBounds_toArray, List.set_cons_zero, List.set_cons_succ]
        go_big_quiet_on
        go_big_quiet_want
        refine ⟨.pointer (some ⟨w.heap.size, 0, none⟩), fun w' hw' => ?_, ?_⟩
        · go_simp
        simp only [Act.put, List.setIfInBounds_toArray, List.set_cons_zero, List.set_cons_succ]
        go_big_quiet_on
        go_big_quiet_want
        refine ⟨.int .i64 a.kind, fun w' hw' => ?_, ?_⟩
        · have k0 := hw'.ab.ca.cell 0; rw [show (ccells a)[0]? = some (.int .i64 a.kind) from rfl] at k0
          go_simp
        simp only [Act.put, List.setIfInBounds_toArray, List.set_cons_zero, List.set_cons_succ]
        go_big_quiet_on
        go_big_quiet_want
        refine ⟨.bool false, fun w' hw' => ?_, ?_⟩
        · go_simp
        simp only [Act.put, List.setIfInBounds_toArray, List.set_cons_zero, List.set_cons_succ]
        go_big_quiet_on
        go_big_quiet_want
        go_big_quiet_op
        go_big_quiet_on
        go_big_quiet_skip
        go_big_quiet_skip
        go_big_quiet_skip
        go_big_quiet_want
        refine ⟨.bool false, fun w' hw' => ?_, ?_⟩
        · go_simp
        simp only [Act.put, List.setIfInBounds_toArray, List.set_cons_zero, List.set_cons_succ]
        go_big_quiet_on
        go_big_quiet_want
        go_big_quiet_op
        go_big_quiet_on
        go_big_quiet_skip
        go_big_quiet_skip
        go_big_quiet_want
        refine ⟨.bool false, fun w' hw' => ?_, ?_⟩
        · go_simp
        simp only [Act.put, List.setIfInBounds_toArray, List.set_cons_zero, List.set_cons_succ]
        go_big_quiet_on
        go_big_quiet_want
        refine ⟨.bool false, fun w' hw' => ?_, ?_⟩
        · go_simp
        simp only [Act.put, List.setIfInBounds_toArray, List.set_cons_zero, List.set_cons_succ]
        go_big_quiet_on
        go_big_quiet_want
        refine ⟨.bool false, fun w' hw' => ?_, ?_⟩
        · go_simp
        simp only [Act.put, List.setIfInBounds_toArray, List.set_cons_zero, List.set_cons_succ]
        go_big_quiet_on
        refine wpQuiet_nil ?_
        intro w' hw'
        have HZ : Hid (AB w w' a b) := hw'.ab
        clear hw' HC1 HC2 hrI
        have z1 : w'.cell? ⟨w.heap.size, 1, none⟩ = some (.int .i64 a.table) := HZ.out.ca.cell 1
        cases ht : (t == a.table)
        · obtain ⟨s, hs⟩ := HO.out (by simpa using ht)
          have HS : Hid _ := hs
          have y1 : w'.cell? ⟨w.heap.size + 1, 1, none⟩ = some (.int .i64 b.table) := HZ.out.cb.cell 1
          have f1 : ∀ j, w'.frozen? ⟨w.heap.size + 1, j, none⟩ = false := fun j => HZ.out.cb.free j
          have HQ : Hid (AB w (w'.setCell ⟨w.heap.size + 1, 1, none⟩ (.int .i64 t)) a { b with table := t }) := by
            have hz := HZ.out
            have hsv : Sv (· = w.heap.size + 1) w' (w'.setCell ⟨w.heap.size + 1, 1, none⟩ (.int .i64 t)) := Sv.set (X := (· = w.heap.size + 1)) (Sv.refl _ w') (a := ⟨w.heap.size + 1, 1, none⟩) rfl _
            exact ⟨hz.ca.sv hsv (by omega), hz.cb.set_table t, hz.bel.setCell (by show _ ≤ w.heap.size + 1; omega) _⟩
          clear hs HO HZ
          go_wp2_with (first
            | (refine step_cload rfl _ rfl w.heap.size a rfl HQ.out.ca ?_)
            | (refine step_cload rfl _ rfl (w.heap.size + 1) { b with table := t } rfl HQ.out.cb ?_)
            | fail)
          refine Calls.mono (HS.out _ HQ.out.bel).1 ?_
          rintro e w6 ⟨rfl, h6⟩
          have H6 : Hid _ := HQ.out.below h6
          clear h6 HQ y1 f1 z1
          go_wp2_with (first
            | (refine step_cloadG _ rfl w.heap.size a rfl H6.out.ca rfl ?_)
            | (refine step_cloadG _ rfl (w.heap.size + 1) { b with table := t } rfl H6.out.cb rfl ?_)
            | fail)
          refine Calls.mono (HS.out _ H6.out.bel).2.1 ?_
          rintro e w7 ⟨rfl, h7⟩
          have H7 : Hid _ := H6.out.below h7
          clear h7 H6
          go_wp2_with (first
            | (refine step_cloadG _ rfl w.heap.size a rfl H7.out.ca rfl ?_)
            | (refine step_cloadG _ rfl (w.heap.size + 1) { b with table := t } rfl H7.out.cb rfl ?_)
            | fail)
          refine Calls.mono (HS.out _ H7.out.bel).2.2 ?_
          rw [Bool.and_false]
          rintro e w8 ⟨rfl, h8⟩
          have H8 : Hid (Below w.heap.size w w8) := on H7.out.bel h8
          clear h8 H7 HS
          go_wp2_with fail
          go_ret
          exact ⟨rfl, H8.out⟩
        · go_wp2_with fail
          go_ret
          exact ⟨rfl, HZ.out.bel⟩
      cases hmq : (a.mode == 6)
      · rw [hkq, hmq, Bool.false_and, Bool.and_false] at HC2
        go_wp2_with fail
        (try simp only [List.append])
        refine region_cls (C := fun w' => TX w w' a b w3.heap.size w4.heap.size) (by kernel_rfl) (by kernel_rfl) (HX.out.below (Below.refl _ _).drew) ?_
        clear HX
        go_big_quiet_want
        refine ⟨(pC a.table 2).val, quiet_cload _ rfl (w3.heap.size) (pC a.table 2) rfl (fun _ h => h.cn), ?_⟩
        simp only [Act.put, List.setIfInBounds_toArray, List.set_cons_zero, List.set_cons_succ]
        go_big_quiet_on
        go_big_quiet_want
        refine ⟨a.val, quiet_cload _ rfl (w.heap.size) a rfl (fun _ h => h.ab.ca), ?_⟩
        simp only [Act.put, List.setIfInBounds_toArray, List.set_cons_zero, List.set_cons_succ]
        go_big_quiet_on
        go_big_quiet_want
        refine ⟨.bool false, fun w' hw' => ?_, ?_⟩
        · go_simp
          exact (HC1.out w' hw'.ab.bel).mono fun e w'' h => ⟨h.1, hw'.below h.2⟩
        simp only [Act.put, List.setIfInBounds_toArray, List.set_cons_zero, List.set_cons_succ]
        go_big_quiet_on
        go_big_quiet_want
        go_big_quiet_op
        go_big_quiet_on
        go_big_quiet_want
        refine ⟨(pC a.table 1).val, quiet_cload _ rfl (w4.heap.size) (pC a.table 1) rfl (fun _ h => h.cy), ?_⟩
        simp only [Act.put, List.setIfInBounds_toArray, List.set_cons_zero, List.set_cons_succ]
        go_big_quiet_on
        go_big_quiet_want
        refine ⟨a.val, quiet_cload _ rfl (w.heap.size) a rfl (fun _ h => h.ab.ca), ?_⟩
        simp only [Act.put, List.setIfInBounds_toArray, List.set_cons_zero, List.set_cons_succ]
        go_big_quiet_on
        go_big_quiet_want
        refine ⟨.bool false, fun w' hw' => ?_, ?_⟩
        · go_simp
          exact (HC2.out w' hw'.ab.bel).mono fun e w'' h => ⟨h.1, hw'.below h.2⟩
        simp only [Act.put, List.setIfInBounds_toArray, List.set_cons_zero, List.set_cons_succ]
        go_big_quiet_on
        go_big_quiet_want
        refine ⟨.pointer (some ⟨w.heap.size, 0, none⟩), fun w' hw' => ?_, ?_⟩
        · go_simp
        simp only [Act.put, List.setIfInBounds_toArray, List.set_cons_zero, List.set_cons_succ]
        go_big_quiet_on
        go_big_quiet_want
        refine ⟨.int .i64 a.kind, fun w' hw' => ?_, ?_⟩
        · have k0 := hw'.ab.ca.cell 0; rw [show (ccells a)[0]? = some (.int .i64 a.kind) from rfl] at k0
          go_simp
        simp only [Act.put, List.setIfInBounds_toArray, List.set_cons_zero, List.set_cons_succ]
        go_big_quiet_on
        go_big_quiet_want
        refine ⟨.bool true, fun w' hw' => ?_, ?_⟩
        · go_simp
        simp only [Act.put, List.setIfInBounds_toArray, List.set_cons_zero, List.set_cons_succ]
        go_big_quiet_on
        go_big_quiet_want
        go_big_quiet_op
        go_big_quiet_on
        go_big_quiet_want
        refine ⟨.pointer (some ⟨w.heap.size, 2, none⟩), fun w' hw' => ?_, ?_⟩
        · go_simp
        simp only [Act.put, List.setIfInBounds_toArray, List.set_cons_zero, List.set_cons_succ]
        go_big_quiet_on
        go_big_quiet_want
        refine ⟨.int .i64 a.mode, fun w' hw' => ?_, ?_⟩
        · have k2 := hw'.ab.ca.cell 2; rw [show (ccells a)[2]? = some (.int .i64 a.mode) from rfl] at k2
          go_simp
        simp only [Act.put, List.setIfInBounds_toArray, List.set_cons_zero, List.set_cons_succ]
        go_big_quiet_on
        go_big_quiet_want
        refine ⟨.bool false, fun w' hw' => ?_, ?_⟩
        · go_simp
        simp only [Act.put, List.setIfInBounds_toArray, List.set_cons_zero, List.set_cons_succ]
        go_big_quiet_on
        go_big_quiet_want
        refine ⟨.bool false, fun w' hw' => ?_, ?_⟩
        · go_simp
        simp only [Act.put, List.setIfInBounds_toArray, List.set_cons_zero, List.set_cons_succ]
        go_big_quiet_on
        go_big_quiet_want
        go_big_quiet_op
        go_big_quiet_on
        go_big_quiet_skip
        go_big_quiet_skip
        go_big_quiet_want
        refine ⟨.bool false, fun w' hw' => ?_, ?_⟩
        · go_simp
        simp only [Act.put, List.setIfInBounds_toArray, List.set_cons_zero, List.set_cons_succ]
        go_big_quiet_on
        go_big_quiet_want
        refine ⟨.bool false, fun w' hw' => ?_, ?_⟩
        · go_simp
        simp only [Act.put, List.setIfInBounds_toArray, List.set_cons_zero, List.set_cons_succ]
        go_big_quiet_on
        go_big_quiet_want
        refine ⟨.bool false, fun w' hw' => ?_, ?_⟩
        · go_simp
        simp only [Act.put, List.setIfInBounds_toArray, List.set_cons_zero, List.set_cons_succ]
        go_big_quiet_on
        refine wpQuiet_nil ?_
        intro w' hw'
        have HZ : Hid (AB w w' a b) := hw'.ab
        clear hw' HC1 HC2 hrI
        have z1 : w'.cell? ⟨w.heap.size, 1, none⟩ = some (.int .i64 a.table) := HZ.out.ca.cell 1
        cases ht : (t == a.table)
        · obtain ⟨s, hs⟩ := HO.out (by simpa using ht)
          have HS : Hid _ := hs
          have y1 : w'.cell? ⟨w.heap.size + 1, 1, none⟩ = some (.int .i64 b.table) := HZ.out.cb.cell 1
          have f1 : ∀ j, w'.frozen? ⟨w.heap.size + 1, j, none⟩ = false := fun j => HZ.out.cb.free j
          have HQ : Hid (AB w (w'.setCell ⟨w.heap.size + 1, 1, none⟩ (.int .i64 t)) a { b with table := t }) := by
            have hz := HZ.out
            have hsv : Sv (· = w.heap.size + 1) w' (w'.setCell ⟨w.heap.size + 1, 1, none⟩ (.int .i64 t)) := Sv.set (X := (· = w.heap.size + 1)) (Sv.refl _ w') (a := ⟨w.heap.size + 1, 1, none⟩) rfl _
            exact ⟨hz.ca.sv hsv (by omega), hz.cb.set_table t, hz.bel.setCell (by show _ ≤ w.heap.size + 1; omega) _⟩
          clear hs HO HZ
          go_wp2_with (first
            | (refine step_cload rfl _ rfl w.heap.size a rfl HQ.out.ca ?_)
            | (refine step_cload rfl _ rfl (w.heap.size + 1) { b with table := t } rfl HQ.out.cb ?_)
            | fail)
          refine Calls.mono (HS.out _ HQ.out.bel).1 ?_
          rintro e w6 ⟨rfl, h6⟩
          have H6 : Hid _ := HQ.out.below h6
          clear h6 HQ y1 f1 z1
          go_wp2_with (first
            | (refine step_cloadG _ rfl w.heap.size a rfl H6.out.ca rfl ?_)
            | (refine step_cloadG _ rfl (w.heap.size + 1) { b with table := t } rfl H6.out.cb rfl ?_)
            | fail)
          refine Calls.mono (HS.out _ H6.out.bel).2.1 ?_
          rintro e w7 ⟨rfl, h7⟩
          have H7 : Hid _ := H6.out.below h7
          clear h7 H6
          go_wp2_with (first
            | (refine step_cloadG _ rfl w.heap.size a rfl H7.out.ca rfl ?_)
            | (refine step_cloadG _ rfl (w.heap.size + 1) { b with table := t } rfl H7.out.cb rfl ?_)
            | fail)
          refine Calls.mono (HS.out _ H7.out.bel).2.2 ?_
          rw [Bool.and_false]
          rintro e w8 ⟨rfl, h8⟩
          have H8 : Hid (Below w.heap.size w w8) := on H7.out.bel h8
          clear h8 H7 HS
          go_wp2_with fail
          go_ret
          exact ⟨rfl, H8.out⟩
        · go_wp2_with fail
          go_ret
          exact ⟨rfl, HZ.out.bel⟩
      · rw [hkq, hmq, Bool.true_and, Bool.true_and] at HC2
        go_wp2_with fail
        (try simp only [List.append])
        refine region_cls (C := fun w' => TX w w' a b w3.heap.size w4.heap.size) (by kernel_rfl) (by kernel_rfl) (HX.out.below (Below.refl _ _).drew) ?_
        clear HX
        go_big_quiet_want
        refine ⟨(pC a.table 2).val, quiet_cload _ rfl (w3.heap.size) (pC a.table 2) rfl (fun _ h => h.cn), ?_⟩
        simp only [Act.put, List.setIfInBounds_toArray, List.set_cons_zero, List.set_cons_succ]
        go_big_quiet_on
        go_big_quiet_want
        refine ⟨a.val, quiet_cload _ rfl (w.heap.size) a rfl (fun _ h => h.ab.ca), ?_⟩
        simp only [Act.put, List.setIfInBounds_toArray, List.set_cons_zero, List.set_cons_succ]
        go_big_quiet_on
        go_big_quiet_want
        refine ⟨.bool false, fun w' hw' => ?_, ?_⟩
        · go_simp
          exact (HC1.out w' hw'.ab.bel).mono fun e w'' h => ⟨h.1, hw'.below h.2⟩
        simp only [Act.put, List.setIfInBounds_toArray, List.set_cons_zero, List.set_cons_succ]
        go_big_quiet_on
        go_big_quiet_want
        go_big_quiet_op
        go_big_quiet_on
        go_big_quiet_want
        refine ⟨(pC a.table 1).val, quiet_cload _ rfl (w4.heap.size) (pC a.table 1) rfl (fun _ h => h.cy), ?_⟩
        simp only [Act.put, List.setIfInBounds_toArray, List.set_cons_zero, List.set_cons_succ]
        go_big_quiet_on
        go_big_quiet_want
        refine ⟨a.val, quiet_cload _ rfl (w.heap.size) a rfl (fun _ h => h.ab.ca), ?_⟩
        simp only [Act.put, List.setIfInBounds_toArray, List.set_cons_zero, List.set_cons_succ]
        go_big_quiet_on
        go_big_quiet_want
        refine ⟨.bool r, fun w' hw' => ?_, ?_⟩
        · go_simp
          exact (HC2.out w' hw'.ab.bel).mono fun e w'' h => ⟨h.1, hw'.below h.2⟩
        simp only [Act.put, List.setIfInBounds_toArray, List.set_cons_zero, List.set_cons_succ]
        go_big_quiet_on
        go_big_quiet_want
        refine ⟨.pointer (some ⟨w.heap.size, 0, none⟩), fun w' hw' => ?_, ?_⟩
        · go_simp
        simp only [Act.put, List.setIfInBounds_toArray, List.set_cons_zero, List.set_cons_succ]
        go_big_quiet_on
        go_big_quiet_want
        refine ⟨.int .i64 a.kind, fun w' hw' => ?_, ?_⟩
        · have k0 := hw'.ab.ca.cell 0; rw [show (ccells a)[0]? = some (.int .i64 a.kind) from rfl] at k0
          go_simp
        simp only [Act.put, List.setIfInBounds_toArray, List.set_cons_zero, List.set_cons_succ]
        go_big_quiet_on
        go_big_quiet_want
        refine ⟨.bool true, fun w' hw' => ?_, ?_⟩
        · go_simp
        simp only [Act.put, List.setIfInBounds_toArray, List.set_cons_zero, List.set_cons_succ]
        go_big_quiet_on
        go_big_quiet_want
        go_big_quiet_op
        go_big_quiet_on
        go_big_quiet_want
        refine ⟨.pointer (some ⟨w.heap.size, 2, none⟩), fun w' hw' => ?_, ?_⟩
        · go_simp
        simp only [Act.put, List.setIfInBounds_toArray, List.set_cons_zero, List.set_cons_succ]
        go_big_quiet_on
        go_big_quiet_want
        refine ⟨.int .i64 a.mode, fun w' hw' => ?_, ?_⟩
        · have k2 := hw'.ab.ca.cell 2; rw [show (ccells a)[2]? = some (.int .i64 a.mode) from rfl] at k2
          go_simp
        simp only [Act.put, List.setIfInBounds_toArray, List.set_cons_zero, List.set_cons_succ]
        go_big_quiet_on
        go_big_quiet_want
        refine ⟨.bool true, fun w' hw' => ?_, ?_⟩
        · go_simp
        simp only [Act.put, List.setIfInBounds_toArray, List.set_cons_zero, List.set_cons_succ]
        go_big_quiet_on
        go_big_quiet_want
        refine ⟨.bool true, fun w' hw' => ?_, ?_⟩
        · go_simp
        simp only [Act.put, List.setIfInBounds_toArray, List.set_cons_zero, List.set_cons_succ]
        go_big_quiet_on
        go_big_quiet_want
        go_big_quiet_op
        go_big_quiet_on
        go_big_quiet_want
        go_big_quiet_op
        go_big_quiet_on
        go_big_quiet_want
        refine ⟨.bool r, fun w' hw' => ?_, ?_⟩
        · go_simp
        simp only [Act.put, List.setIfInBounds_toArray, List.set_cons_zero, List.set_cons_succ]
        go_big_quiet_on
        go_big_quiet_want
        refine ⟨.bool r, fun w' hw' => ?_, ?_⟩
        · go_simp
        simp only [Act.put, List.setIfInBounds_toArray, List.set_cons_zero, List.set_cons_succ]
        go_big_quiet_on
        go_big_quiet_want
        refine ⟨.bool false, fun w' hw' => ?_, ?_⟩
        · go_simp
        simp only [Act.put, List.setIfInBounds_toArray, List.set_cons_zero, List.set_cons_succ]
        go_big_quiet_on
        go_big_quiet_want
        refine ⟨.bool false, fun w' hw' => ?_, ?_⟩
        · go_simp
        simp only [Act.put, List.setIfInBounds_toArray, List.set_cons_zero, List.set_cons_succ]
        go_big_quiet_on
        refine wpQuiet_nil ?_
        intro w' hw'
        have HZ : Hid (AB w w' a b) := hw'.ab
        clear hw' HC1 HC2 hrI
        have z1 : w'.cell? ⟨w.heap.size, 1, none⟩ = some (.int .i64 a.table) := HZ.out.ca.cell 1
        cases ht : (t == a.table)
        · obtain ⟨s, hs⟩ := HO.out (by simpa using ht)
          have HS : Hid _ := hs
          have y1 : w'.cell? ⟨w.heap.size + 1, 1, none⟩ = some (.int .i64 b.table) := HZ.out.cb.cell 1
          have f1 : ∀ j, w'.frozen? ⟨w.heap.size + 1, j, none⟩ = false := fun j => HZ.out.cb.free j
          have HQ : Hid (AB w (w'.setCell ⟨w.heap.size + 1, 1, none⟩ (.int .i64 t)) a { b with table := t }) := by
            have hz := HZ.out
            have hsv : Sv (· = w.heap.size + 1) w' (w'.setCell ⟨w.heap.size + 1, 1, none⟩ (.int .i64 t)) := Sv.set (X := (· = w.heap.size + 1)) (Sv.refl _ w') (a := ⟨w.heap.size + 1, 1, none⟩) rfl _
            exact ⟨hz.ca.sv hsv (by omega), hz.cb.set_table t, hz.bel.setCell (by show _ ≤ w.heap.size + 1; omega) _⟩
          clear hs HO HZ
          go_wp2_with (first
            | (refine step_cload rfl _ rfl w.heap.size a rfl HQ.out.ca ?_)
            | (refine step_cload rfl _ rfl (w.heap.size + 1) { b with table := t } rfl HQ.out.cb ?_)
            | fail)
          refine Calls.mono (HS.out _ HQ.out.bel).1 ?_
          rintro e w6 ⟨rfl, h6⟩
          have H6 : Hid _ := HQ.out.below h6
          clear h6 HQ y1 f1 z1
          go_wp2_with (first
            | (refine step_cloadG _ rfl w.heap.size a rfl H6.out.ca rfl ?_)
            | (refine step_cloadG _ rfl (w.heap.size + 1) { b with table := t } rfl H6.out.cb rfl ?_)
            | fail)
          refine Calls.mono (HS.out _ H6.out.bel).2.1 ?_
          rintro e w7 ⟨rfl, h7⟩
          have H7 : Hid _ := H6.out.below h7
          clear h7 H6
          go_wp2_with (first
            | (refine step_cloadG _ rfl w.heap.size a rfl H7.out.ca rfl ?_)
            | (refine step_cloadG _ rfl (w.heap.size + 1) { b with table := t } rfl H7.out.cb rfl ?_)
            | fail)
          refine Calls.mono (HS.out _ H7.out.bel).2.2 ?_
          rw [Bool.and_false]
          rintro e w8 ⟨rfl, h8⟩
          have H8 : Hid (Below w.heap.size w w8) := on H7.out.bel h8
          clear h8 H7 HS
          go_wp2_with fail
          go_ret
          exact ⟨rfl, H8.out⟩
        · go_wp2_with fail
          go_ret
          exact ⟨rfl, HZ.out.bel⟩
end Go.Proofs.YtkkbbpldeeajaaaDoor.Val
/- The law ClaimTables holds: claims of two tables never meet, a predicate that never holds meets nobody, and one that always does meets each writer that has a row. Conditions: the listed package-level variables lie as the program's text lays them (the card ties them). -/
namespace Go.Proofs.YtkkbbpldeeajaaaDoor.Val
open Go.ChangeShapes Go.WideShapes Go.ChangeAt Go.RowKit
open Go.ChangeMaps (open_string)

theorem ctables_contract (H : Type) (enc : TypeId × Value → H) (W : World) (base : Nat) (args : Array Value) (ds gs : List (DataW H)) (before : List MemPlace)
    (hval : ∀ (j : Nat) t v, Tryd.f9.params[j]? = some t → args[j]? = some v → Value.okWide Tryd.prog W .any base t v)
    (hW : DataW.Whole enc Tryd.prog Tryd.f9.params.toList Rows.claimTablesSpec.vars false W args.toList ds gs before) (hL : laidMetH Tryd.prog Rows.claimTablesRow.laid W) :
    Calls Tryd.prog 9 args W fun e W' => ∃ v, e = .returned v ∧ Rows.claimTablesSpec.post enc Tryd.prog Tryd.f9 false true false false W args v W' := by
  have hW' := hW
  obtain ⟨p, q, hA0, hV, rfl, hfz, hnd⟩ := hW
  have hA : DataW.TrodAll enc Tryd.prog W 0 (fun _ => true) true Tryd.f9.params.toList args.toList ds p := hA0
  rw [Tryd.params9] at hA hval
  obtain ⟨v0, vs0, d0, ds0, p0, q0, hargs, rfl, rfl, h0, r0⟩ := trodAll_cons hA
  obtain ⟨v1, vs1, d1, ds1, p1, q1, rfl, rfl, rfl, h1, r1⟩ := trodAll_cons r0
  obtain ⟨v2, vs2, d2, ds2, p2, q2, rfl, rfl, rfl, h2, r2⟩ := trodAll_cons r1
  obtain ⟨rfl, rfl, rfl⟩ := trodAll_nil r2
  obtain rfl : args = #[v0, v1, v2] := by cases args; simp_all
  obtain ⟨rfl, rfl⟩ := trodVars_none hV
  have k0 := h0
  have lt0 : ∀ x ∈ p0, x.block < W.heap.size := by obtain ⟨m, hm⟩ := k0; exact DataW.trod_lt m _ _ _ hm
  obtain ⟨x0, rfl, o0⟩ := open_claim (hval 0 31 v0 rfl rfl) h0
  have k1 := h1
  have lt1 : ∀ x ∈ p1, x.block < W.heap.size := by obtain ⟨m, hm⟩ := k1; exact DataW.trod_lt m _ _ _ hm
  obtain ⟨x1, rfl, o1⟩ := open_claim (hval 1 31 v1 rfl rfl) h1
  have k2 := h2
  have lt2 : ∀ x ∈ p2, x.block < W.heap.size := by obtain ⟨m, hm⟩ := k2; exact DataW.trod_lt m _ _ _ hm
  obtain ⟨a2, rfl, rfl, rfl, o2⟩ := open_int Tryd.underlying3 (hval 2 3 v2 rfl rfl) h2
  clear hA0
  have hT := tabOf hL
  refine (ctables_walk x0 x1 a2 W hT o0.isIn o1.isIn).mono fun e W' ⟨he, bel⟩ => ?_
  subst he
  exact ⟨_, rfl, _, _, _, [], _, [], hW', trodAll_mk1 (shut_bool Tryd.underlying4 _), (trodAll_cons_mk (Below.trod laidOut (by kernel_rfl) (of_decide_eq_true (by kernel_rfl)) k0 bel lt0) (trodAll_cons_mk (Below.trod laidOut (by kernel_rfl) (of_decide_eq_true (by kernel_rfl)) k1 bel lt1) (trodAll_cons_mk (Below.trod laidOut (by kernel_rfl) (of_decide_eq_true (by kernel_rfl)) k2 bel lt2) trodAll_mk0))), rfl, bel.frame _, fun h => by cases h⟩

set_option maxRecDepth 100000 in
theorem ctables_lifted (os : Os) (started : os.Started) (H : Type) (enc : TypeId × Value → H) (F : Stop.Interp) :
    ReturnsInHanded {} Tryd.checked os 9 .any ((OpenSpec.ofChange Rows.claimTablesSpec).preRow enc Tryd.prog Tryd.f9 Rows.claimTablesRow.domain false Rows.claimTablesRow.laid) (((OpenSpec.ofChange Rows.claimTablesSpec).at F).post enc Tryd.prog Tryd.f9 false true false false) := by
  refine returnsInHanded_of_row (C := Tryd.checked) (s := OpenSpec.ofChange Rows.claimTablesSpec) own started (by kernel_rfl) Tryd.func9
    (witness_row_at (enc := enc) (C := Tryd.checked) false
      { World.holding Tryd.prog os ⟨#[], #[], []⟩ with heap := ((World.holding Tryd.prog os ⟨#[], #[], []⟩).heap.modify 0 (putCells (dataCells .u8 clashT))) }
      #[.agg #[.int .i64 0, .int .i64 0, .int .i64 0, .bool false, .int .i64 0, .string ⟨#[]⟩, .slice none 0 0, .int .i64 0, .int .i64 0, .bool false, .int .i64 0, .string ⟨#[]⟩, .bool false, .int .i64 0, .string ⟨#[]⟩, .slice none 0 0], .agg #[.int .i64 0, .int .i64 0, .int .i64 0, .bool false, .int .i64 0, .string ⟨#[]⟩, .slice none 0 0, .int .i64 0, .int .i64 0, .bool false, .int .i64 0, .string ⟨#[]⟩, .bool false, .int .i64 0, .string ⟨#[]⟩, .slice none 0 0], .int .i64 0] rfl (by kernel_rfl) (by kernel_rfl) (by kernel_rfl)
      (OpenSpec.preRow_of_cond 8 (x := ([.agg [.lit (.int .i64 0), .lit (.int .i64 0), .lit (.int .i64 0), .agg [.lit (.bool false), .lit (.int .i64 0), .lit (.string [])], .nil, .agg [.lit (.int .i64 0), .lit (.int .i64 0), .agg [.lit (.bool false), .lit (.int .i64 0), .lit (.string [])], .agg [.lit (.bool false), .lit (.int .i64 0), .lit (.string [])], .nil]], .agg [.lit (.int .i64 0), .lit (.int .i64 0), .lit (.int .i64 0), .agg [.lit (.bool false), .lit (.int .i64 0), .lit (.string [])], .nil, .agg [.lit (.int .i64 0), .lit (.int .i64 0), .agg [.lit (.bool false), .lit (.int .i64 0), .lit (.string [])], .agg [.lit (.bool false), .lit (.int .i64 0), .lit (.string [])], .nil]], .lit (.int .i64 0)], [], [])) (by kernel_rfl) (by kernel_rfl) (fun k hk => by cases hk) (by kernel_rfl) (laidMet_of_run' 8 (by kernel_rfl) (by kernel_rfl)))) ?_
  intro W base args ds gs before hval hW _ _ _ hL _ _
  exact ctables_contract H enc W base args ds gs before hval hW hL

theorem ctables_said : Rows.ClaimTablesSaid :=
  OpenClaim.holds_of_cond 9 Tryd.f9 rfl rfl rfl rfl rfl rfl rfl ⟨rfl, rfl, rfl, rfl, rfl⟩ rfl rfl rfl rfl rfl (by kernel_rfl) Tryd.func9 (by kernel_rfl)
    (of_decide_eq_true (by kernel_rfl)) (by unfold Func.isWrapper; first | (rw [if_pos (by decide +kernel)]; kernel_rfl) | (rw [if_neg (by decide +kernel)]; exact ⟨rfl, rfl⟩))
    (fun os started H enc _ F => by rw [OpenClaim.pre_eq_preRow]; exact ctables_lifted os started H enc F)

theorem ctables_plain (f : FuncId) (fn : Func) (hf : Tryd.pinned.checked.prog.funcNamed "ratline/ratlinelaw09.ClaimTables" = some f) (hfn : Tryd.pinned.checked.prog.funcs[f]? = some fn) :
    false = Tryd.pinned.checked.prog.looks [] ∧ ∀ (j : Nat) t, fn.params[j]? = some t → Tryd.pinned.checked.prog.wantsStandIn t = false := by
  obtain rfl : f = 9 := Option.some.inj ((show Tryd.prog.funcNamed "ratline/ratlinelaw09.ClaimTables" = some 9 by kernel_rfl).symm.trans hf) |>.symm
  obtain rfl : fn = Tryd.f9 := (Option.some.inj (Tryd.func9.symm.trans hfn)).symm
  refine ⟨by kernel_rfl, fun j t ht => ?_⟩
  rw [Tryd.params9] at ht
  have hm : t = 31 ∨ t = 31 ∨ t = 3 := by simpa using Array.mem_of_getElem? ht
  rcases hm with rfl | rfl | rfl
  · exact (show Tryd.prog.wantsStandIn 31 = false by kernel_rfl)
  · exact (show Tryd.prog.wantsStandIn 31 = false by kernel_rfl)
  · exact (show Tryd.prog.wantsStandIn 3 = false by kernel_rfl)

/-- The card. -/
theorem ctables_card : Rows.ClaimTablesCardSaid :=
  Claim7.holds_tied_plain_at .later [] _ _ _ _ ctables_said (fun _ h => by cases h) (by kernel_rfl) (fun _ h => by cases h) claimTables_row_tie rfl ⟨rfl, rfl⟩ (by kernel_rfl) rfl ctables_plain (by kernel_rfl)
end Go.Proofs.YtkkbbpldeeajaaaDoor.Val
