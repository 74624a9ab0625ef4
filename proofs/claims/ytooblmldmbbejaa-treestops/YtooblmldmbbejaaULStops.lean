/- TreeStops: the walk. -/
import Derived.Test.YtooblmldmbbejaaU23
import Derived.Test.YtooblmldmbbejaaUO2
namespace Go.Proofs.Ytooblmldmbbejaa.Val
open Go Go.RowKit Go.Shelf
attribute [local go_sem] Oper.semAt_some

theorem and15 (n : Int) : ∃ m : Nat, m < 16 ∧ bits .and .i64 n 15 = (m : Int) := by
  refine ⟨(BitVec.ofInt 64 n &&& BitVec.ofInt 64 15).toNat, ?_, ?_⟩
  · rw [BitVec.toNat_and]
    have h : (BitVec.ofInt 64 15).toNat = 15 := by decide
    rw [h]
    have := @Nat.and_le_right (BitVec.ofInt 64 n).toNat 15
    omega
  · have hlt : (BitVec.ofInt 64 n &&& BitVec.ofInt 64 15).toNat < 16 := by
      rw [BitVec.toNat_and]
      have h : (BitVec.ofInt 64 15).toNat = 15 := by decide
      rw [h]
      have := @Nat.and_le_right (BitVec.ofInt 64 n).toNat 15
      omega
    show IntKind.i64.wrap ((BitVec.ofInt 64 n &&& BitVec.ofInt 64 15).toNat : Int) = _
    generalize (BitVec.ofInt 64 n &&& BitVec.ofInt 64 15).toNat = m at *
    rw [IntKind.wrap_i64]
    omega
theorem PairsIn.cap {w : World} {ao : Option Addr} {n c : Nat} {l : List Pr} (h : PairsIn w (.slice ao n c) l) : l.length ≤ c := by
  obtain ⟨ao', c', e, h1, _⟩ := h
  cases e
  exact h1
theorem PairsIn.part {w : World} {ao : Option Addr} {n c m : Nat} {l : List Pr} (h : PairsIn w (.slice ao n c) l) (hm : m ≤ l.length) : PairsIn w (.slice ao m c) (l.take m) := by
  obtain ⟨ao', c', e, h1, h2, h0, h3⟩ := h
  cases e
  refine ⟨ao, c, by rw [List.length_take, Nat.min_eq_left hm], by rw [List.length_take]; omega, h2, fun e => ⟨by have := (h0 e).1; rw [List.length_take]; omega, (h0 e).2⟩, ?_⟩
  rcases h3 with h3 | ⟨b, o, e, h3⟩
  · left
    have h3' : l.flatMap Pr.cells = [] := h3
    have hz := flat_length Pr.cells 4 (fun _ => rfl) l
    rw [h3'] at hz
    have : l = [] := List.eq_nil_of_length_eq_zero (by simp at hz; omega)
    subst this
    simp
  · refine .inr ⟨b, o, e, fun j u hj => h3 j u ?_⟩
    have e2 : pcells l = pcells (l.take m) ++ pcells (l.drop m) := by
      rw [← List.flatMap_append, List.take_append_drop]
    rw [e2]
    exact (List.getElem?_append_left (List.getElem?_eq_some_iff.1 hj).1).trans hj
theorem qp_all {w0 w1 : World} {l l2 : List Pr} {lv : Value} (q : QP w0 l lv l2 w1) (hl : l.length ≤ 400) (s : Sp) : Calls Try.prog 14 #[.pointer (some ⟨w0.heap.size, 0, none⟩), s.val] w1 fun e w' => ∃ v, e = .returned v ∧ QP w0 l v (rangeP s l) w' := by
  have q0 := q
  obtain ⟨h, t, hp, hm, hb, h5, h6⟩ := q
  have := tr_pairs t hl s
  rw [hp] at this
  exact this.mono fun e w' ⟨v, he, ho, hb'⟩ => ⟨v, he, q0.turn hb' (own_pairs ho) fun g hg => (ho.lt g hg).1⟩
theorem qp_gather {w0 w1 : World} {l l2 : List Pr} {lv : Value} (q : QP w0 l lv l2 w1) (hl : l.length ≤ 400) (s : Sp) (W : World) (hb : Below w1.heap.size w1 W) : Calls Try.prog 35 #[.pointer (some ⟨w0.heap.size, 0, none⟩), s.val] W fun e w' => ∃ v I, e = .returned v ∧ w'.ownsRow W.heap.size TI 5 v I.length (icells I) ∧ I.map toP = rangeP s l ∧ Below W.heap.size W w' := by
  obtain ⟨h, ⟨m, u, d, t, hm⟩, hp, _⟩ := q.below hb
  have := gather_any t (by omega) s
  rw [hp] at this
  exact this
theorem rng_boxes (p : Option Addr) (s : Sp) (w : World) : Calls Try.prog 17 #[.pointer p, s.val] w fun e w' => e = .returned (FV 34 #[] #[.pointer (some ⟨w.heap.size, 0, none⟩), .pointer (some ⟨w.heap.size + 1, 0, none⟩)]) ∧ Below w.heap.size w w' ∧ w'.cell? ⟨w.heap.size, 0, none⟩ = some (.pointer p) ∧ SBox w' (w.heap.size + 1) s ∧ w'.heap.size = w.heap.size + 2 := by
  refine (rng_any p s w).mono fun e w' ⟨he, hw⟩ => ⟨he, ?_⟩
  subst hw
  exact ⟨on (alloc1 _ _) (alloc1 _ _), by simp [go_sem], by constructor <;> simp [go_sem], by simp⟩
/-- No panic comes. -/
def noPanic (Q : Exit → Act → World → Prop) : Exit → Act → World → Prop
  | .panic _, _, _ => False
  | e, a, w => Q e a w
theorem no_panic {P : Program} {c : Code} {Q : Exit → Act → World → Prop} {a : Act} {w : World} (h : c.wp P (noPanic Q) a w) : c.wp P Q a w := Code.wp_mono (fun e a w h => by cases e <;> first | exact h | exact h.elim) h
theorem boxed_below {w w' : World} {b : Nat} {t : TypeId} {v : Value} (h : Boxed w b t v) (hb : Below w.heap.size w w') : Boxed w' b t v := by
  have hl := h.lt
  unfold Boxed at *
  rw [hb.block b hl]; exact h
theorem QP.lowP {w0 w1 : World} {l l2 : List Pr} {lv : Value} (q : QP w0 l lv l2 w1) : l2 = [] ∨ ∀ g, lv.ownBlock = some g → g < w1.heap.size := by
  obtain ⟨h, t, hp, hm, hb, h5, h6⟩ := q
  exact h6.imp id fun h g hg => (h g hg).1
theorem PairsIn.low {w2 w3 W : World} {v : Value} {l : List Pr} (h : PairsIn w2 v l) (hb : Below (w2.heap.size + 1) w3 W) (h3 : Below w2.heap.size w2 w3) (hl : l = [] ∨ ∀ g, v.ownBlock = some g → g < w2.heap.size) : PairsIn W v l := by
  have h' := h.below h3
  obtain ⟨ao, c, rfl, h1, h2, h0, h4⟩ := h'
  refine ⟨ao, c, rfl, h1, h2, h0, ?_⟩
  rcases h4 with h4 | ⟨b, o, rfl, h4⟩
  · exact .inl h4
  · rcases hl with rfl | hl
    · exact .inl rfl
    · refine .inr ⟨b, o, rfl, fun j u hj => ?_⟩
      have hbl : b < w2.heap.size + 1 := Nat.lt_succ_of_lt (hl b rfl)
      rw [hb.cell (p := ⟨b, o + j, none⟩) hbl]
      exact h4 j u hj
theorem act_gen {F : Fence} {n : Nat} {P : Program} {c : Code} {Q : Exit → Act → World → Prop} {a : Act} {w : World} (h : ∀ a0, a0 = a → c.wpIn F n P Q a0 w) : c.wpIn F n P Q a w := h a rfl
set_option maxRecDepth 100000 in
set_option maxHeartbeats 16000000 in
theorem tstops_walk (v : Value) (xs : List AcP) (s : Sp) (many : Int) (w : World) (hin : ActsIn w v xs) (hok : ∀ a ∈ xs, a.k.s.size ≤ maxLen) : Calls Try.prog 5 #[v, s.val, .int .i64 many] w fun e w' => e = .returned (.bool true) ∧ Below w.heap.size w w' := by
  obtain ⟨ao, cap, rfl, hmx⟩ := Lies.slice hin
  have HA : Hid (∀ w1, Calls Try.prog 7 #[] w1 fun e w' => e = .returned (.bool true) ∧ Below w1.heap.size w1 w') := awake_any
  have HN : Hid (∀ w1, Calls Try.prog 8 #[] w1 fun e w' => e = .returned (.pointer (some ⟨w1.heap.size, 0, none⟩)) ∧ Tr w' ⟨w1.heap.size, .slice none 0 0, .slice none 0 0, .slice none 0 0⟩ [] ∧ Below w1.heap.size w1 w') := tr_new
  have HIN : Hid (ActsIn w (.slice ao xs.length cap) xs ∧ ∀ a ∈ xs, a.k.s.size ≤ maxLen) := ⟨hin, hok⟩
  clear hin hok
  refine (callsIn_wide (n := 5)).1 ?_
  unfold Sp.val
  refine callsIn_of_wp_marks Try.func5 rfl trivial ?_ rfl
  simp only [Try.ntmps5, List.size_toArray, List.length_cons, List.length_nil, Nat.reduceAdd, Nat.reduceSub, Array.replicate_succ, Array.replicate_zero, List.push_toArray, List.append_toArray, List.nil_append, List.cons_append]
  refine wpIn_wide.2 ?_
  go_wp2_with fail
  refine Calls.mono (HA.out _) ?_
  rintro e w0 ⟨rfl, hb⟩
  have HB0 : Hid (Below w.heap.size w w0) := back1 hb
  have HSB : Hid (SBox w0 w.heap.size s) := SBox.below (by constructor <;> simp [go_sem]) hb
  clear hb HA
  go_wp2_with fail
  refine Calls.mono (HN.out _) ?_
  rintro e w1 ⟨rfl, T1, hb⟩
  have HO1 : Hid (∃ l, QP w0 l (.slice none 0 0) [] w1 ∧ l.length ≤ 0) := ⟨[], qp_new T1 hb, by simp⟩
  clear T1 hb HN
  go_wp2_with fail
  go_loopw [9] (fun ai wr => ∃ j : Nat, j ≤ xs.length ∧ j ≤ 120 ∧ ai = .int .i64 j ∧ Hid (∃ l, QP w0 l (.slice none 0 0) [] wr ∧ l.length ≤ j)) (fun ai _ => xs.length - (intOf ai).toNat)
  case atStart => exact ⟨0, Nat.zero_le _, by omega, rfl, HO1.out⟩
  case round =>
    obtain ⟨j, hj, hj2, rfl, HO⟩ := hrel
    clear HO1
    by_cases h1 : j < xs.length ∧ j < 120
    · obtain ⟨l, q, hl⟩ := HO.out
      obtain ⟨b, oo, rfl, c0, c1, c2, c3, c4⟩ := (HIN.out.1.below (on HB0.out q.blw)).at j h1.1
      have hs := HIN.out.2 xs[j] (List.getElem_mem h1.1)
      have HPUT : Hid (∀ W, Below wr.heap.size wr W → Calls Try.prog 16 #[.pointer (some ⟨w0.heap.size, 0, none⟩), V xs[j].k.t xs[j].k.n xs[j].k.s, .int .i64 xs[j].v] W fun e w' => (∃ bb, e = .returned (.bool bb)) ∧ ∃ l', QP w0 l' (.slice none 0 0) [] w' ∧ l'.length ≤ j + 1) := fun W hb => by
        refine (qp_put (q.below hb) (by omega) xs[j].k xs[j].v hs).mono fun e w' ⟨he, q'⟩ => ⟨⟨_, he⟩, _, q', ?_⟩
        rw [len_insK q.rises.1 q.rises.2]
        split <;> omega
      have HCB : Hid (∀ w3, Below w0.heap.size w0 w3 → w3.cell? ⟨b, oo + j * 5 + 1, none⟩ = some (.bool xs[j].k.t) ∧ w3.cell? ⟨b, oo + j * 5 + 2, none⟩ = some (.int .i64 xs[j].k.n) ∧ w3.cell? ⟨b, oo + j * 5 + 3, none⟩ = some (.string xs[j].k.s) ∧ w3.cell? ⟨b, oo + j * 5 + 4, none⟩ = some (.int .i64 xs[j].v)) := fun w3 hb => by
        have hR : ActsIn w3 (.slice (some ⟨b, oo, none⟩) xs.length cap) xs := HIN.out.1.below (on HB0.out hb)
        obtain ⟨b', oo', e, _, q1, q2, q3, q4⟩ := hR.at j h1.1
        cases e
        exact ⟨q1, q2, q3, q4⟩
      have HBR : Hid (Below w0.heap.size w0 wr) := q.blw
      have HQ0 : Hid (QP w0 l (.slice none 0 0) [] wr ∧ l.length ≤ j + 1) := ⟨q, by omega⟩
      have j0 : (0 : Int) ≤ (j : Int) := by omega
      have j1 : (j : Int) < (xs.length : Int) := by omega
      have j2 : (j : Int) < 120 := by omega
      have j3 : j ≤ 120 := by omega
      have HJ : Hid (j + 1 ≤ xs.length ∧ j < 120) := h1
      clear q hl hs HO
      generalize xs[j] = x at *
      clear h1 hj hj2
      obtain ⟨dd, k, pv⟩ := x
      cases dd
      · go_wp2_with fail
        refine no_panic ?_
        refine wp_region_held_drew (S := fun w' => w'.cell? ⟨b, oo + j * 5 + 1, none⟩ = some (.bool k.t) ∧ w'.cell? ⟨b, oo + j * 5 + 2, none⟩ = some (.int .i64 k.n) ∧ w'.cell? ⟨b, oo + j * 5 + 3, none⟩ = some (.string k.s) ∧ w'.cell? ⟨b, oo + j * 5 + 4, none⟩ = some (.int .i64 pv)) (by kernel_rfl) ?_ (fun hHeld => ?_)
        · exact HCB.out _ (on HBR.out (Below.refl _ _).drew)
        (try clear hK K)
        refine wpAnyH_take (i := 0) (v := ?_) rfl (by kernel_rfl) (by kernel_rfl) (by kernel_rfl) (fun _ _ _ h => h) (Or.inl ⟨by rfl, ?_⟩) (by assumption) ?_
        rotate_left
        · intro w hSw; (try dsimp only at hSw); go_simp; (try with_reducible rfl)
        (try simp only [Act.put, List.getElem_toArray, List.getElem_cons_zero, List.setIfInBounds_toArray, List.set_cons_zero, List.set_cons_succ])
        refine wpAnyH_take (i := 1) (v := ?_) rfl (by kernel_rfl) (by kernel_rfl) (by kernel_rfl) (fun _ _ _ h => h) (Or.inl ⟨by rfl, ?_⟩) (by assumption) ?_
        rotate_left
        · intro w hSw; (try dsimp only at hSw); go_simp; (try with_reducible rfl)
        (try simp only [Act.put, List.getElem_toArray, List.getElem_cons_succ, List.getElem_cons_zero, List.setIfInBounds_toArray, List.set_cons_zero, List.set_cons_succ])
        refine wpAnyH_take (i := 2) (v := ?_) rfl (by kernel_rfl) (by kernel_rfl) (by kernel_rfl) (fun _ _ _ h => h) (Or.inl ⟨by rfl, ?_⟩) (by assumption) ?_
        rotate_left
        · intro w hSw; (try dsimp only at hSw); go_simp; (try with_reducible rfl)
        (try simp only [Act.put, List.getElem_toArray, List.getElem_cons_succ, List.getElem_cons_zero, List.setIfInBounds_toArray, List.set_cons_zero, List.set_cons_succ])
        refine wpAnyH_take (i := 3) (v := ?_) rfl (by kernel_rfl) (by kernel_rfl) (by kernel_rfl) (fun _ _ _ h => h) (Or.inl ⟨by rfl, ?_⟩) (by assumption) ?_
        rotate_left
        · intro w hSw; (try dsimp only at hSw); go_simp; (try with_reducible rfl)
        (try simp only [Act.put, List.getElem_toArray, List.getElem_cons_succ, List.getElem_cons_zero, List.setIfInBounds_toArray, List.set_cons_zero, List.set_cons_succ])
        refine wpAnyH_take (i := 4) (v := ?_) rfl (by kernel_rfl) (by kernel_rfl) (by kernel_rfl) (fun _ _ _ h => h) (Or.inl ⟨by rfl, ?_⟩) (by assumption) ?_
        rotate_left
        · intro w hSw; (try dsimp only at hSw); go_simp; (try with_reducible rfl)
        (try simp only [Act.put, List.getElem_toArray, List.getElem_cons_succ, List.getElem_cons_zero, List.setIfInBounds_toArray, List.set_cons_zero, List.set_cons_succ])
        refine wpAnyH_take (i := 5) (v := ?_) rfl (by kernel_rfl) (by kernel_rfl) (by kernel_rfl) (fun _ _ _ h => h) (Or.inl ⟨by rfl, ?_⟩) (by assumption) ?_
        rotate_left
        · intro w hSw; (try dsimp only at hSw); go_simp; (try with_reducible rfl)
        (try simp only [Act.put, List.getElem_toArray, List.getElem_cons_succ, List.getElem_cons_zero, List.setIfInBounds_toArray, List.set_cons_zero, List.set_cons_succ])
        refine wpAnyH_take (i := 6) (v := ?_) rfl (by kernel_rfl) (by kernel_rfl) (by kernel_rfl) (fun _ _ _ h => h) (Or.inl ⟨by rfl, ?_⟩) (by assumption) ?_
        rotate_left
        · intro w hSw; (try dsimp only at hSw); go_simp; (try with_reducible rfl)
        (try simp only [Act.put, List.getElem_toArray, List.getElem_cons_succ, List.getElem_cons_zero, List.setIfInBounds_toArray, List.set_cons_zero, List.set_cons_succ])
        refine wpAnyH_take (i := 7) (v := ?_) rfl (by kernel_rfl) (by kernel_rfl) (by kernel_rfl) (fun _ _ _ h => h) (Or.inl ⟨by rfl, ?_⟩) (by assumption) ?_
        rotate_left
        · intro w hSw; (try dsimp only at hSw); go_simp; (try with_reducible rfl)
        (try simp only [Act.put, List.getElem_toArray, List.getElem_cons_succ, List.getElem_cons_zero, List.setIfInBounds_toArray, List.set_cons_zero, List.set_cons_succ])
        refine wpAnyH_take (i := 8) (v := ?_) rfl (by kernel_rfl) (by kernel_rfl) (by kernel_rfl) (fun _ _ _ h => h) (Or.inl ⟨by rfl, ?_⟩) (by assumption) ?_
        rotate_left
        · intro w hSw; (try dsimp only at hSw); go_simp; (try with_reducible rfl)
        (try simp only [Act.put, List.getElem_toArray, List.getElem_cons_succ, List.getElem_cons_zero, List.setIfInBounds_toArray, List.set_cons_zero, List.set_cons_succ])
        refine wpAnyH_take (i := 9) (v := ?_) rfl (by kernel_rfl) (by kernel_rfl) (by kernel_rfl) (fun _ _ _ h => h) (Or.inl ⟨by rfl, ?_⟩) (by assumption) ?_
        rotate_left
        · intro w hSw; (try dsimp only at hSw); go_simp; (try with_reducible rfl)
        (try simp only [Act.put, List.getElem_toArray, List.getElem_cons_succ, List.getElem_cons_zero, List.setIfInBounds_toArray, List.set_cons_zero, List.set_cons_succ])
        refine wpAnyH_take (i := 10) (v := ?_) rfl (by kernel_rfl) (by kernel_rfl) (by kernel_rfl) (fun _ _ _ h => h) (Or.inl ⟨by rfl, ?_⟩) (by assumption) ?_
        rotate_left
        · intro w hSw; (try dsimp only at hSw); go_simp; (try with_reducible rfl)
        (try simp only [Act.put, List.getElem_toArray, List.getElem_cons_succ, List.getElem_cons_zero, List.setIfInBounds_toArray, List.set_cons_zero, List.set_cons_succ])
        (try clear hK K)
        refine wpAnyH_ready (rs := [11]) (by kernel_rfl) (by simp) ?_
        refine AllReadyH.cons rfl (fun K hK => ?_) AllReadyH.nil
        go_simp
        (refine Calls.mono (HPUT.out _ (Below.refl _ _).drew) ?_; rintro e w3 ⟨⟨bb, rfl⟩, l', hq'⟩)
        refine hK.out _ _ ?_ (fun hHeld => ?_)
        · exact HCB.out w3 hq'.1.blw
        clear c0 c1 c2 c3 c4 HPUT
        (try clear hK K)
        refine wpAnyH_done (by kernel_rfl) ?_ _
        simp only [noPanic]
        have HQ : Hid (QP w0 l' (.slice none 0 0) [] w3 ∧ l'.length ≤ j + 1) := hq'
        clear hq' HQ0
        go_wp2_with fail
        go_roundw
        case rel => exact ⟨j + 1, HJ.out.1, by have := HJ.out.2; omega, by go_num, l', HQ.out⟩
        case measure => have := HJ.out; simp [intOf]; omega
      · clear HPUT
        go_wp2_with fail
        go_roundw
        case rel => exact ⟨j + 1, HJ.out.1, by have := HJ.out.2; omega, by go_num, l, HQ0.out⟩
        case measure => have := HJ.out; simp [intOf]; omega
    · by_cases h2 : j < xs.length
      · obtain rfl : j = 120 := by omega
        have j1 : ((120 : Nat) : Int) < (xs.length : Int) := by omega
        have j1' : (120 : Int) < (xs.length : Int) := by omega
        have j1'' : 120 < xs.length := by omega
        clear h1 h2 hj hj2
        obtain ⟨l, q, hl⟩ := HO.out
        have HQ1 : Hid (QP w0 l (.slice none 0 0) [] wr ∧ l.length ≤ 120) := ⟨q, by omega⟩
        have CP : Hid (∀ W, QP w0 l (.slice none 0 0) [] W → Calls Try.prog 14 #[.pointer (some ⟨w0.heap.size, 0, none⟩), .agg #[.bool s.no, .bool s.hl, .bool s.ol, .bool s.lo.t, .int .i64 s.lo.n, .string s.lo.s, .bool s.hh, .bool s.oh, .bool s.hi.t, .int .i64 s.hi.n, .string s.hi.s]] W fun e w' => ∃ p, e = .returned p ∧ QP w0 l p (rangeP s l) w') := fun W q => qp_all q (by omega) s
        clear q hl HO
        obtain ⟨s0, s1, s2, s3, s4, s5, s6, s7, s8, s9, s10⟩ := HSB.out.below HQ1.out.1.blw
        go_wp2_with fail
        refine Calls.mono (CP.out _ HQ1.out.1) ?_
        rintro e w2 ⟨av, rfl, q2⟩
        obtain ⟨aa, ac, rfl, hac⟩ := q2.pairs.slice
        have hcap : (rangeP s l).length ≤ ac := q2.pairs.cap
        have HL : Hid (l.length ≤ 120) := HQ1.out.2
        have HQ2 : Hid (QP w0 l (.slice aa (rangeP s l).length ac) (rangeP s l) w2) := q2
        have hL1 : (rangeP s l).length ≤ 120 := Nat.le_trans (List.length_filter_le ..) HL.out
        clear q2 CP HQ1 s0 s1 s2 s3 s4 s5 s6 s7 s8 s9 s10
        obtain ⟨m, hm1, hm⟩ := and15 many
        have hlt : w.heap.size < w2.heap.size := Nat.lt_of_lt_of_le HSB.out.lt HQ2.out.blw.size
        obtain ⟨L, hL⟩ : ∃ L, rangeP s l = L := ⟨_, rfl⟩
        have HLE : Hid (rangeP s l = L) := hL
        rw [hL] at HQ2 hcap hL1 hac
        simp only [hL]
        clear hL
        have HR : Hid (∀ W, Calls Try.prog 17 #[.pointer (some ⟨w0.heap.size, 0, none⟩), .agg #[.bool s.no, .bool s.hl, .bool s.ol, .bool s.lo.t, .int .i64 s.lo.n, .string s.lo.s, .bool s.hh, .bool s.oh, .bool s.hi.t, .int .i64 s.hi.n, .string s.hi.s]] W fun e w' => e = .returned (FV 34 #[] #[.pointer (some ⟨W.heap.size, 0, none⟩), .pointer (some ⟨W.heap.size + 1, 0, none⟩)]) ∧ Below W.heap.size W w' ∧ w'.cell? ⟨W.heap.size, 0, none⟩ = some (.pointer (some ⟨w0.heap.size, 0, none⟩)) ∧ SBox w' (W.heap.size + 1) s ∧ w'.heap.size = W.heap.size + 2) := fun W => rng_boxes _ s W
        have hef := eq_nilF 34
        obtain ⟨s0, s1, s2, s3, s4, s5, s6, s7, s8, s9, s10⟩ := HSB.out.below HQ2.out.blw
        go_wp2_with fail
        generalize hw3 : ((w2.alloc (.cells #[.int .i64 m] 3 (0, 0))).alloc (.cells #[.slice none 0 0] 26 (0, 0))) = w3
        have HW3 : Hid (Below w2.heap.size w2 w3 ∧ w3.cell? ⟨w2.heap.size, 0, none⟩ = some (.int .i64 m) ∧ Boxed w3 (w2.heap.size + 1) 26 (.slice none 0 0) ∧ w3.heap.size = w2.heap.size + 2) := by
          subst hw3
          refine ⟨on (alloc1 _ _) (alloc1 _ _), by simp [go_sem], ?_, by simp⟩
          have := Boxed.new (w2.alloc (.cells #[.int .i64 m] 3 (0, 0))) 26 (.slice none 0 0)
          rw [World.size_alloc] at this
          exact this
        clear hw3 s0 s1 s2 s3 s4 s5 s6 s7 s8 s9 s10 hm
        refine Calls.mono (HR.out _) ?_
        rintro e w4 ⟨rfl, b4, _, _, z4⟩
        have HW4 : Hid (Below w3.heap.size w3 w4 ∧ w4.heap.size = w3.heap.size + 2) := ⟨b4, z4⟩
        clear b4 z4
        obtain ⟨s0, s1, s2, s3, s4, s5, s6, s7, s8, s9, s10⟩ := HSB.out.below (on HQ2.out.blw (on HW3.out.1 HW4.out.1))
        go_wp2_with fail
        refine Calls.mono (HR.out _) ?_
        rintro e w5 ⟨rfl, b5, t5, sb5, z5⟩
        have HW5 : Hid (Below w4.heap.size w4 w5 ∧ w5.heap.size = w4.heap.size + 2 ∧ w5.cell? ⟨w4.heap.size, 0, none⟩ = some (.pointer (some ⟨w0.heap.size, 0, none⟩)) ∧ SBox w5 (w4.heap.size + 1) s) := ⟨b5, z5, t5, sb5⟩
        clear b5 z5 t5 sb5 s0 s1 s2 s3 s4 s5 s6 s7 s8 s9 s10 HR hef
        go_wp2_with fail
        refine (wpIn_wide (n := 5)).1 ?_
        refine act_gen ?_
        intro a0 ha0
        have z3 := HW3.out.2.2.2
        have z4 := HW4.out.2
        have z5 := HW5.out.2.1
        have bx : Boxed w5 (w2.heap.size + 1) 26 (.slice none 0 0) := boxed_below (boxed_below HW3.out.2.2.1 HW4.out.1) HW5.out.1
        have own0 : ownB w5 (w2.heap.size + 1) = none := by unfold ownB; rw [bx.cell]; rfl
        have hseq := rng_stops 4 (by omega) w4.heap.size (w4.heap.size + 1) (w2.heap.size + 1) s w5 (fun W hW => qp_gather HQ2.out (by have := HL.out; omega) s W (on HW3.out.1 (on HW4.out.1 (on HW5.out.1 hW)))) (by rw [HLE.out]; omega) HW5.out.2.2.1 HW5.out.2.2.2 (by omega) (fun k hk => by rw [own0] at hk; cases hk)
        rw [HLE.out] at hseq
        have HB35 : Hid (Below (w2.heap.size + 1) w3 w5) := (on HW4.out.1 HW5.out.1).mono (by omega)
        obtain ⟨inf, hi1, hi2, hi3, hi4⟩ := info_Pr
        have IN : Hid (Try.prog.info? TPr = some inf ∧ inf.zero = some (.agg #[.bool false, .int .i64 0, .string ⟨#[]⟩, .int .i64 0]) ∧ inf.size = 4 ∧ inf.bytes = 40) := ⟨hi1, hi2, hi3, hi4⟩
        have HN3 : Hid (∀ W, Below (w2.heap.size + 1) w3 W → W.cell? ⟨w2.heap.size, 0, none⟩ = some (.int .i64 m)) := fun W hb => by rw [hb.cell (p := ⟨w2.heap.size, 0, none⟩) (Nat.lt_succ_self _)]; exact HW3.out.2.1
        have HSM : Hid (∀ W (M : List Pr) (va : Option Addr) (vc : Nat), Below (w2.heap.size + 1) w3 W → W.ownsRow (w2.heap.size + 1) TPr 4 (.slice va M.length vc) M.length (pcells M) → M = L.take M.length → Calls Try.prog 13 #[.slice va M.length vc, .slice aa M.length ac] W fun e w' => e = .returned (.bool true) ∧ Below W.heap.size W w') := fun W M va vc hb ho hM => by
          have hp : PairsIn W (.slice aa L.length ac) L := HQ2.out.pairs.low hb HW3.out.1 HQ2.out.lowP
          have hp2 := hp.part (m := M.length) (by rw [hM, List.length_take]; omega)
          rw [← hM] at hp2
          exact psame_any _ _ M W (own_pairs ho) hp2
        have HBW : Hid (∀ W, Below (w2.heap.size + 1) w3 W → Below w.heap.size w W) := fun W hb => on HB0.out (on HQ2.out.blw (HW3.out.1.trans (hb.mono (by omega))))
        clear hi1 hi2 hi3 hi4 own0
        refine wpIn_rangeFunc_ownH rfl (by omega) (gf := 34) (lb := #[.pointer (some ⟨w4.heap.size, 0, none⟩), .pointer (some ⟨w4.heap.size + 1, 0, none⟩)]) (by rw [ha0]; rfl) trivial (enters_of Try.func34 rfl rfl)
          hseq (fun a b => KpO.trans a b) (KpO.put (by omega)) (Below.refl _ _) (fun _ => rfl)
          (fun pre W => (∃ v, Boxed W (w2.heap.size + 1) 26 v ∧ W.ownsRow (w2.heap.size + 1) TPr 4 v pre.length (pcells pre) ∧ pre.length ≤ m) ∧ Below (w2.heap.size + 1) w3 W)
          (fun c pre' W => (c = .exit 2 ∧ ∃ pre, pre.length = m ∧ (∃ x, pre' = pre ++ [x]) ∧ ∃ v, Boxed W (w2.heap.size + 1) 26 v ∧ W.ownsRow (w2.heap.size + 1) TPr 4 v pre.length (pcells pre)) ∧ Below (w2.heap.size + 1) w3 W)
          (OwnFrom.and (Own.from (holdsRow_own (w2.heap.size + 1) (w2.heap.size + 1) 26 TPr 4 (fun pre => pre.length) (fun pre => pcells pre) (fun pre _ => pre.length ≤ m)) _) (ownFrom_below (by omega) (by omega)))
          (fun c pre' A B row hs hg hr => by
            obtain ⟨⟨e, pre, e1, e2, v, g1, g2⟩, hb⟩ := hs
            obtain ⟨v', k1, k2, _⟩ := (Own.from (holdsRow_own (w2.heap.size + 1) (w2.heap.size + 1) 26 TPr 4 (fun pre : List Pr => pre.length) (fun pre => pcells pre) (fun _ _ => True)) _) pre A B row ⟨v, g1, g2, trivial⟩ hg hr
            exact ⟨⟨e, pre, e1, e2, v', k1, k2⟩, ownFrom_below (β := Unit) (by omega) (by omega) () A B row hb hg hr⟩)
          ⟨⟨_, bx, World.ownsRow_nil _ _ _ _, Nat.zero_le _⟩, HB35.out⟩
          (fun x a' W => ∃ Bx, VBox W Bx x.k ∧ a' = { tmps := (((a0.tmps.setIfInBounds 59 (V x.k.t x.k.n x.k.s)).setIfInBounds 60 (.int .i64 x.v)).setIfInBounds 13 (.pointer (some ⟨Bx, 0, none⟩))).setIfInBounds 14 (.int .i64 x.v), defers := [] })
          (fun x a' _ W W' row hs hg hr => by
            obtain ⟨Bx, ⟨c0, c1, c2⟩, e⟩ := hs
            exact ⟨Bx, ⟨cell_kept c0 hg fun r e => (hr r e).2, cell_kept c1 hg fun r e => (hr r e).2, cell_kept c2 hg fun r e => (hr r e).2⟩, e⟩)
          ?assign ?body ?done ?stop
        case assign =>
          rintro lp pre x W K ⟨⟨v, hv, hrow, hpm⟩, hB⟩ hK
          have hlt := hv.lt
          have hsz : w2.heap.size + 1 ≤ W.heap.size := by have := hB.size; omega
          clear z3 z4 z5
          subst ha0
          gi_wp2_with fail
          refine hK _ _ ((KeepsOthers.alloc _ _).from _) (KpO.below (alloc1 _ _) hlt) ⟨⟨v, hv.alloc _, hrow.alloc _, hpm⟩, hB.trans ((alloc1 _ _).mono hsz)⟩ ⟨W.heap.size, VBox.new W x.k 30, by simp only [List.setIfInBounds_toArray, List.set_cons_succ, List.set_cons_zero]⟩
        case body =>
          rintro lp pre x a' W hl' ⟨r, hr⟩ ⟨⟨v, hv, hrow, hpm⟩, hB⟩ ⟨Bx, ⟨c0, c1, c2⟩, rfl⟩ hlt
          have hsz : w2.heap.size + 1 ≤ W.heap.size := by have := hB.size; omega
          clear z3 z4 z5
          subst ha0
          obtain ⟨va, vc, ev⟩ := owns_slice hrow
          subst ev
          have hc := hv.cell
          have hn := HN3.out _ hB
          have hpl : pre.length < 100000 := by omega
          simp only [List.setIfInBounds_toArray, List.set_cons_succ, List.set_cons_zero]
          by_cases hm2 : m ≤ pre.length
          · have i1 : (m : Int) ≤ (pre.length : Int) := by omega
            have HZ : Hid ((∃ q, q.length = m ∧ (∃ y, pre ++ [x] = q ++ [y]) ∧ ∃ v, Boxed W (w2.heap.size + 1) 26 v ∧ W.ownsRow (w2.heap.size + 1) TPr 4 v q.length (pcells q)) ∧ Below (w2.heap.size + 1) w3 W) := ⟨⟨pre, by omega, ⟨x, rfl⟩, _, hv, hrow⟩, hB⟩
            clear hv hrow hB
            gi_wp2_with fail
            exact ⟨(KeepsOthers.refl _).from _, ⟨rfl, HZ.out.1⟩, HZ.out.2⟩
          · have i1 : (pre.length : Int) < (m : Int) := by omega
            gi_wp2_with (gi_at_builtin; refine wpListIn_append_own_at _ rfl _ _ _ rfl (w2.heap.size + 1) TPr inf _ 4 40 Try.underlying26 IN.out.1 IN.out.2.1 IN.out.2.2.1 IN.out.2.2.2 rfl (by decide) (.slice va pre.length vc) pre.length (pcells pre) rfl (hrow.alloc _) ⟨W.heap.size, 0, none⟩ 1 1 x.cells rfl rfl (pr_new W x) (Pr.cells_one x) (by unfold maxLen; omega) (by omega) (by simp; omega) ?_)
            intro v' x1 hown' hgrow hat
            obtain ⟨g', cap', ev'⟩ := ownsRow_succ hown'
            obtain ⟨hv1, hv2, hr2, hk2, hb2⟩ := hv.appended (by decide) hrow hsz (by omega) hown' hgrow
            have hkp := KpO.appended hv hgrow hv2 (by simpa using hat)
            have hc1 := hv1.cell
            have hf1 := hv1.frozen
            have HZ : Hid (KeepsFrom w5.heap.size W (x1.setCell ⟨(w2.heap.size + 1), 0, none⟩ v') ∧ KpO (w2.heap.size + 1) W (x1.setCell ⟨(w2.heap.size + 1), 0, none⟩ v') ∧ (∃ v, Boxed (x1.setCell ⟨(w2.heap.size + 1), 0, none⟩ v') (w2.heap.size + 1) 26 v ∧ (x1.setCell ⟨(w2.heap.size + 1), 0, none⟩ v').ownsRow (w2.heap.size + 1) TPr 4 v (pre ++ [x]).length (pcells (pre ++ [x])) ∧ (pre ++ [x]).length ≤ m) ∧ Below (w2.heap.size + 1) w3 (x1.setCell ⟨(w2.heap.size + 1), 0, none⟩ v')) :=
              ⟨hk2.from _, hkp, ⟨v', hv2, by rw [List.length_append, pcells_more]; exact hr2, by simp; omega⟩, hB.trans hb2⟩
            clear hkp hv1 hv2 hr2 hk2 hb2 hown' hgrow hat hv hrow hc
            subst ev'
            gi_wp2_with fail
            exact ⟨HZ.out.1, HZ.out.2.1, HZ.out.2.2.1, HZ.out.2.2.2⟩
        case done =>
          rintro D ys W hD rfl ⟨⟨v, hv, hrow, hpm⟩, hB⟩ hK
          have hM : ys = ys.take ys.length := List.take_length.symm
          have hmin : (if ys.length < m then (ys.length : Int) else (m : Int)) = (ys.length : Int) := by split <;> omega
          subst ha0
          obtain ⟨va, vc, ev⟩ := owns_slice hrow
          subst ev
          have hc := hv.cell
          have hn := HN3.out _ hB
          have HS := fun X (hX : Below W.heap.size W X) => HSM.out X ys va vc (hB.trans (hX.mono (by have := hB.size; omega))) (own_below hrow hX) hM
          have HZ : Hid (W.heap[D]? = some (.deferred (some [])) ∧ Below w.heap.size w W ∧ w.heap.size ≤ D) := ⟨hK, HBW.out _ hB, by have := (HBW.out _ HB35.out).size; omega⟩
          have HSS : Hid _ := HS
          clear z3 z4 z5
          clear hrow hB hv HS hM
          dsimp only
          go_wp2_with fail
          refine no_panic ?_
          refine wp_region_held_drew (S := fun w' => w'.cell? ⟨w2.heap.size + 1, 0, none⟩ = some (.slice va ys.length vc) ∧ w'.cell? ⟨w2.heap.size, 0, none⟩ = some (.int .i64 m)) (by kernel_rfl) ?_ (fun hHeld => ?_)
          · exact ⟨hc, hn⟩
          (try clear hK K)
          refine wpAnyH_take (i := 0) (v := ?_) rfl (by kernel_rfl) (by kernel_rfl) (by kernel_rfl) (fun _ _ _ h => h) (Or.inl ⟨by rfl, ?_⟩) (by assumption) ?_
          rotate_left
          · intro w hSw; (try dsimp only at hSw); go_simp; (try with_reducible rfl)
          (try simp only [Act.put, List.getElem_toArray, List.getElem_cons_zero, List.setIfInBounds_toArray, List.set_cons_zero, List.set_cons_succ])
          refine wpAnyH_take (i := 1) (v := ?_) rfl (by kernel_rfl) (by kernel_rfl) (by kernel_rfl) (fun _ _ _ h => h) (Or.inl ⟨by rfl, ?_⟩) (by assumption) ?_
          rotate_left
          · intro w hSw; (try dsimp only at hSw); go_simp; (try with_reducible rfl)
          (try simp only [Act.put, List.getElem_toArray, List.getElem_cons_succ, List.getElem_cons_zero, List.setIfInBounds_toArray, List.set_cons_zero, List.set_cons_succ])
          refine wpAnyH_take (i := 2) (v := ?_) rfl (by kernel_rfl) (by kernel_rfl) (by kernel_rfl) (fun _ _ _ h => h) (Or.inl ⟨by rfl, ?_⟩) (by assumption) ?_
          rotate_left
          · intro w hSw; (try dsimp only at hSw); go_simp; (try with_reducible rfl)
          (try simp only [Act.put, List.getElem_toArray, List.getElem_cons_succ, List.getElem_cons_zero, List.setIfInBounds_toArray, List.set_cons_zero, List.set_cons_succ])
          refine wpAnyH_take (i := 3) (v := ?_) rfl (by kernel_rfl) (by kernel_rfl) (by kernel_rfl) (fun _ _ _ h => h) (Or.inl ⟨by rfl, ?_⟩) (by assumption) ?_
          rotate_left
          · intro w hSw; (try dsimp only at hSw); go_simp; (try with_reducible rfl)
          (try simp only [Act.put, List.getElem_toArray, List.getElem_cons_succ, List.getElem_cons_zero, List.setIfInBounds_toArray, List.set_cons_zero, List.set_cons_succ])
          refine wpAnyH_take (i := 4) (v := ?_) rfl (by kernel_rfl) (by kernel_rfl) (by kernel_rfl) (fun _ _ _ h => h) (Or.inl ⟨by rfl, ?_⟩) (by assumption) ?_
          rotate_left
          · intro w hSw; (try dsimp only at hSw); go_simp; (try with_reducible rfl)
          (try simp only [Act.put, List.getElem_toArray, List.getElem_cons_succ, List.getElem_cons_zero, List.setIfInBounds_toArray, List.set_cons_zero, List.set_cons_succ])
          refine wpAnyH_take (i := 5) (v := ?_) rfl (by kernel_rfl) (by kernel_rfl) (by kernel_rfl) (fun _ _ _ h => h) (Or.inl ⟨by rfl, ?_⟩) (by assumption) ?_
          rotate_left
          · intro w hSw; (try dsimp only at hSw); go_simp; (try with_reducible rfl)
          (try simp only [Act.put, List.getElem_toArray, List.getElem_cons_succ, List.getElem_cons_zero, List.setIfInBounds_toArray, List.set_cons_zero, List.set_cons_succ])
          refine wpAnyH_take (i := 6) (v := ?_) rfl (by kernel_rfl) (by kernel_rfl) (by kernel_rfl) (fun _ _ _ h => h) (Or.inl ⟨by rfl, ?_⟩) (by assumption) ?_
          rotate_left
          · intro w hSw; (try dsimp only at hSw); go_simp; (try with_reducible rfl)
          (try simp only [Act.put, List.getElem_toArray, List.getElem_cons_succ, List.getElem_cons_zero, List.setIfInBounds_toArray, List.set_cons_zero, List.set_cons_succ])
          refine wpAnyH_take (i := 7) (v := ?_) rfl (by kernel_rfl) (by kernel_rfl) (by kernel_rfl) (fun _ _ _ h => h) (Or.inl ⟨by rfl, ?_⟩) (by assumption) ?_
          rotate_left
          · intro w hSw; (try dsimp only at hSw); go_simp; (try with_reducible rfl)
          (try simp only [Act.put, List.getElem_toArray, List.getElem_cons_succ, List.getElem_cons_zero, List.setIfInBounds_toArray, List.set_cons_zero, List.set_cons_succ])
          refine wpAnyH_take (i := 8) (v := ?_) rfl (by kernel_rfl) (by kernel_rfl) (by kernel_rfl) (fun _ _ _ h => h) (Or.inl ⟨by rfl, ?_⟩) (by assumption) ?_
          rotate_left
          · intro w hSw; (try dsimp only at hSw); go_simp; (try with_reducible rfl)
          (try simp only [Act.put, List.getElem_toArray, List.getElem_cons_succ, List.getElem_cons_zero, List.setIfInBounds_toArray, List.set_cons_zero, List.set_cons_succ])
          refine wpAnyH_take (i := 9) (v := ?_) rfl (by kernel_rfl) (by kernel_rfl) (by kernel_rfl) (fun _ _ _ h => h) (Or.inl ⟨by rfl, ?_⟩) (by assumption) ?_
          rotate_left
          · intro w hSw; (try dsimp only at hSw); go_simp; (try with_reducible rfl)
          (try simp only [Act.put, List.getElem_toArray, List.getElem_cons_succ, List.getElem_cons_zero, List.setIfInBounds_toArray, List.set_cons_zero, List.set_cons_succ])
          refine wpAnyH_take (i := 10) (v := ?_) rfl (by kernel_rfl) (by kernel_rfl) (by kernel_rfl) (fun _ _ _ h => h) (Or.inl ⟨by rfl, ?_⟩) (by assumption) ?_
          rotate_left
          · intro w hSw; (try dsimp only at hSw); go_simp; (try with_reducible rfl)
          (try simp only [Act.put, List.getElem_toArray, List.getElem_cons_succ, List.getElem_cons_zero, List.setIfInBounds_toArray, List.set_cons_zero, List.set_cons_succ])
          refine wpAnyH_take (i := 11) (v := ?_) rfl (by kernel_rfl) (by kernel_rfl) (by kernel_rfl) (fun _ _ _ h => h) (Or.inl ⟨by rfl, ?_⟩) (by assumption) ?_
          rotate_left
          · intro w hSw; (try dsimp only at hSw); go_simp; (try with_reducible rfl)
          (try simp only [Act.put, List.getElem_toArray, List.getElem_cons_succ, List.getElem_cons_zero, List.setIfInBounds_toArray, List.set_cons_zero, List.set_cons_succ])
          refine wpAnyH_take (i := 12) (v := ?_) rfl (by kernel_rfl) (by kernel_rfl) (by kernel_rfl) (fun _ _ _ h => h) (Or.inl ⟨by rfl, ?_⟩) (by assumption) ?_
          rotate_left
          · intro w hSw; (try dsimp only at hSw); go_simp; (try with_reducible rfl)
          (try simp only [Act.put, List.getElem_toArray, List.getElem_cons_succ, List.getElem_cons_zero, List.setIfInBounds_toArray, List.set_cons_zero, List.set_cons_succ])
          (try clear hK K)
          refine wpAnyH_ready (rs := [13]) (by kernel_rfl) (by simp) ?_
          refine AllReadyH.cons rfl (fun K hK => ?_) AllReadyH.nil
          go_simp
          (refine Calls.mono (HSS.out _ (Below.refl _ _).drew) ?_; rintro e x9 ⟨rfl, hb9⟩)
          refine hK.out _ _ ?_ (fun hHeld => ?_)
          · have hb9' := on (Below.refl _ _).drew hb9
            exact ⟨by rw [hb9'.cell (World.block_lt_of_cell? _ _ hc)]; exact hc, by rw [hb9'.cell (World.block_lt_of_cell? _ _ hn)]; exact hn⟩
          (try clear hK K)
          refine wpAnyH_take (i := 14) (v := ?_) rfl (by kernel_rfl) (by kernel_rfl) (by kernel_rfl) (fun _ _ _ h => h) (Or.inl ⟨by rfl, ?_⟩) (by assumption) ?_
          rotate_left
          · intro w hSw; (try dsimp only at hSw); go_simp; (try with_reducible rfl)
          (try simp only [Act.put, List.getElem_toArray, List.getElem_cons_succ, List.getElem_cons_zero, List.setIfInBounds_toArray, List.set_cons_zero, List.set_cons_succ])
          refine wpAnyH_take (i := 15) (v := ?_) rfl (by kernel_rfl) (by kernel_rfl) (by kernel_rfl) (fun _ _ _ h => h) (Or.inl ⟨by rfl, ?_⟩) (by assumption) ?_
          rotate_left
          · intro w hSw; (try dsimp only at hSw); go_simp; (try with_reducible rfl)
          (try simp only [Act.put, List.getElem_toArray, List.getElem_cons_succ, List.getElem_cons_zero, List.setIfInBounds_toArray, List.set_cons_zero, List.set_cons_succ])
          (try clear hK K)
          refine wpAnyH_done (by kernel_rfl) ?_ _
          simp only [noPanic]
          have hb8 := on (Below.refl _ _).drew hb9
          have HZ9 : Hid (x9.heap[D]? = some (.deferred (some [])) ∧ Below w.heap.size w x9) := ⟨by rw [hb8.block D (Array.getElem?_eq_some_iff.1 HZ.out.1).1]; exact HZ.out.1, on HZ.out.2.1 hb8⟩
          clear hb9 hb8 HSS
          go_wp2_with fail
          refine ⟨by simp, .inl ⟨_, _, rfl, run_takeDeferred HZ9.out.1, ?_⟩⟩
          exact ⟨_, results_tmp rfl _ _ _, rfl, HZ9.out.2.trans (belowK_b (w := w) (Nat.le_refl _) x9 D _ _ HZ.out.2.2 HZ9.out.1 rfl rfl)⟩
        case stop =>
          rintro D c pre' W hD hpre ⟨⟨rfl, pre, hp1, ⟨x, hp2⟩, v, hv, hrow⟩, hB⟩ hK
          have hM : pre = L.take pre.length := by
            rw [hp2] at hpre
            obtain ⟨t, ht⟩ := hpre
            rw [← ht, List.append_assoc, List.take_left]
          have hlL : pre.length + 1 ≤ L.length := by
            have := hpre.length_le
            rw [hp2] at this
            simpa using this
          subst hp1
          have hmin : (if L.length < pre.length then (L.length : Int) else (pre.length : Int)) = (pre.length : Int) := if_neg (by omega)
          have hcap' : pre.length ≤ ac := by omega
          subst ha0
          obtain ⟨va, vc, ev⟩ := owns_slice hrow
          subst ev
          have hc := hv.cell
          have hn := HN3.out _ hB
          have HS := fun X (hX : Below W.heap.size W X) => HSM.out X pre va vc (hB.trans (hX.mono (by have := hB.size; omega))) (own_below hrow hX) hM
          have HZ : Hid (W.heap[D]? = some (.deferred (some [])) ∧ Below w.heap.size w W ∧ w.heap.size ≤ D) := ⟨hK, HBW.out _ hB, by have := (HBW.out _ HB35.out).size; omega⟩
          have HSS : Hid _ := HS
          clear z3 z4 z5
          clear hrow hB hv HS hM
          refine wpIn_wide.2 ?_
          dsimp only
          go_wp2_with fail
          refine no_panic ?_
          refine wp_region_held_drew (S := fun w' => w'.cell? ⟨w2.heap.size + 1, 0, none⟩ = some (.slice va pre.length vc) ∧ w'.cell? ⟨w2.heap.size, 0, none⟩ = some (.int .i64 pre.length)) (by kernel_rfl) ?_ (fun hHeld => ?_)
          · exact ⟨hc, hn⟩
          (try clear hK K)
          refine wpAnyH_take (i := 0) (v := ?_) rfl (by kernel_rfl) (by kernel_rfl) (by kernel_rfl) (fun _ _ _ h => h) (Or.inl ⟨by rfl, ?_⟩) (by assumption) ?_
          rotate_left
          · intro w hSw; (try dsimp only at hSw); go_simp; (try with_reducible rfl)
          (try simp only [Act.put, List.getElem_toArray, List.getElem_cons_zero, List.setIfInBounds_toArray, List.set_cons_zero, List.set_cons_succ])
          refine wpAnyH_take (i := 1) (v := ?_) rfl (by kernel_rfl) (by kernel_rfl) (by kernel_rfl) (fun _ _ _ h => h) (Or.inl ⟨by rfl, ?_⟩) (by assumption) ?_
          rotate_left
          · intro w hSw; (try dsimp only at hSw); go_simp; (try with_reducible rfl)
          (try simp only [Act.put, List.getElem_toArray, List.getElem_cons_succ, List.getElem_cons_zero, List.setIfInBounds_toArray, List.set_cons_zero, List.set_cons_succ])
          refine wpAnyH_take (i := 2) (v := ?_) rfl (by kernel_rfl) (by kernel_rfl) (by kernel_rfl) (fun _ _ _ h => h) (Or.inl ⟨by rfl, ?_⟩) (by assumption) ?_
          rotate_left
          · intro w hSw; (try dsimp only at hSw); go_simp; (try with_reducible rfl)
          (try simp only [Act.put, List.getElem_toArray, List.getElem_cons_succ, List.getElem_cons_zero, List.setIfInBounds_toArray, List.set_cons_zero, List.set_cons_succ])
          refine wpAnyH_take (i := 3) (v := ?_) rfl (by kernel_rfl) (by kernel_rfl) (by kernel_rfl) (fun _ _ _ h => h) (Or.inl ⟨by rfl, ?_⟩) (by assumption) ?_
          rotate_left
          · intro w hSw; (try dsimp only at hSw); go_simp; (try with_reducible rfl)
          (try simp only [Act.put, List.getElem_toArray, List.getElem_cons_succ, List.getElem_cons_zero, List.setIfInBounds_toArray, List.set_cons_zero, List.set_cons_succ])
          refine wpAnyH_take (i := 4) (v := ?_) rfl (by kernel_rfl) (by kernel_rfl) (by kernel_rfl) (fun _ _ _ h => h) (Or.inl ⟨by rfl, ?_⟩) (by assumption) ?_
          rotate_left
          · intro w hSw; (try dsimp only at hSw); go_simp; (try with_reducible rfl)
          (try simp only [Act.put, List.getElem_toArray, List.getElem_cons_succ, List.getElem_cons_zero, List.setIfInBounds_toArray, List.set_cons_zero, List.set_cons_succ])
          refine wpAnyH_take (i := 5) (v := ?_) rfl (by kernel_rfl) (by kernel_rfl) (by kernel_rfl) (fun _ _ _ h => h) (Or.inl ⟨by rfl, ?_⟩) (by assumption) ?_
          rotate_left
          · intro w hSw; (try dsimp only at hSw); go_simp; (try with_reducible rfl)
          (try simp only [Act.put, List.getElem_toArray, List.getElem_cons_succ, List.getElem_cons_zero, List.setIfInBounds_toArray, List.set_cons_zero, List.set_cons_succ])
          refine wpAnyH_take (i := 6) (v := ?_) rfl (by kernel_rfl) (by kernel_rfl) (by kernel_rfl) (fun _ _ _ h => h) (Or.inl ⟨by rfl, ?_⟩) (by assumption) ?_
          rotate_left
          · intro w hSw; (try dsimp only at hSw); go_simp; (try with_reducible rfl)
          (try simp only [Act.put, List.getElem_toArray, List.getElem_cons_succ, List.getElem_cons_zero, List.setIfInBounds_toArray, List.set_cons_zero, List.set_cons_succ])
          refine wpAnyH_take (i := 7) (v := ?_) rfl (by kernel_rfl) (by kernel_rfl) (by kernel_rfl) (fun _ _ _ h => h) (Or.inl ⟨by rfl, ?_⟩) (by assumption) ?_
          rotate_left
          · intro w hSw; (try dsimp only at hSw); go_simp; (try with_reducible rfl)
          (try simp only [Act.put, List.getElem_toArray, List.getElem_cons_succ, List.getElem_cons_zero, List.setIfInBounds_toArray, List.set_cons_zero, List.set_cons_succ])
          refine wpAnyH_take (i := 8) (v := ?_) rfl (by kernel_rfl) (by kernel_rfl) (by kernel_rfl) (fun _ _ _ h => h) (Or.inl ⟨by rfl, ?_⟩) (by assumption) ?_
          rotate_left
          · intro w hSw; (try dsimp only at hSw); go_simp; (try with_reducible rfl)
          (try simp only [Act.put, List.getElem_toArray, List.getElem_cons_succ, List.getElem_cons_zero, List.setIfInBounds_toArray, List.set_cons_zero, List.set_cons_succ])
          refine wpAnyH_take (i := 9) (v := ?_) rfl (by kernel_rfl) (by kernel_rfl) (by kernel_rfl) (fun _ _ _ h => h) (Or.inl ⟨by rfl, ?_⟩) (by assumption) ?_
          rotate_left
          · intro w hSw; (try dsimp only at hSw); go_simp; (try with_reducible rfl)
          (try simp only [Act.put, List.getElem_toArray, List.getElem_cons_succ, List.getElem_cons_zero, List.setIfInBounds_toArray, List.set_cons_zero, List.set_cons_succ])
          refine wpAnyH_take (i := 10) (v := ?_) rfl (by kernel_rfl) (by kernel_rfl) (by kernel_rfl) (fun _ _ _ h => h) (Or.inl ⟨by rfl, ?_⟩) (by assumption) ?_
          rotate_left
          · intro w hSw; (try dsimp only at hSw); go_simp; (try with_reducible rfl)
          (try simp only [Act.put, List.getElem_toArray, List.getElem_cons_succ, List.getElem_cons_zero, List.setIfInBounds_toArray, List.set_cons_zero, List.set_cons_succ])
          refine wpAnyH_take (i := 11) (v := ?_) rfl (by kernel_rfl) (by kernel_rfl) (by kernel_rfl) (fun _ _ _ h => h) (Or.inl ⟨by rfl, ?_⟩) (by assumption) ?_
          rotate_left
          · intro w hSw; (try dsimp only at hSw); go_simp; (try with_reducible rfl)
          (try simp only [Act.put, List.getElem_toArray, List.getElem_cons_succ, List.getElem_cons_zero, List.setIfInBounds_toArray, List.set_cons_zero, List.set_cons_succ])
          refine wpAnyH_take (i := 12) (v := ?_) rfl (by kernel_rfl) (by kernel_rfl) (by kernel_rfl) (fun _ _ _ h => h) (Or.inl ⟨by rfl, ?_⟩) (by assumption) ?_
          rotate_left
          · intro w hSw; (try dsimp only at hSw); go_simp; (try with_reducible rfl)
          (try simp only [Act.put, List.getElem_toArray, List.getElem_cons_succ, List.getElem_cons_zero, List.setIfInBounds_toArray, List.set_cons_zero, List.set_cons_succ])
          (try clear hK K)
          refine wpAnyH_ready (rs := [13]) (by kernel_rfl) (by simp) ?_
          refine AllReadyH.cons rfl (fun K hK => ?_) AllReadyH.nil
          go_simp
          (refine Calls.mono (HSS.out _ (Below.refl _ _).drew) ?_; rintro e x9 ⟨rfl, hb9⟩)
          refine hK.out _ _ ?_ (fun hHeld => ?_)
          · have hb9' := on (Below.refl _ _).drew hb9
            exact ⟨by rw [hb9'.cell (World.block_lt_of_cell? _ _ hc)]; exact hc, by rw [hb9'.cell (World.block_lt_of_cell? _ _ hn)]; exact hn⟩
          (try clear hK K)
          refine wpAnyH_take (i := 14) (v := ?_) rfl (by kernel_rfl) (by kernel_rfl) (by kernel_rfl) (fun _ _ _ h => h) (Or.inl ⟨by rfl, ?_⟩) (by assumption) ?_
          rotate_left
          · intro w hSw; (try dsimp only at hSw); go_simp; (try with_reducible rfl)
          (try simp only [Act.put, List.getElem_toArray, List.getElem_cons_succ, List.getElem_cons_zero, List.setIfInBounds_toArray, List.set_cons_zero, List.set_cons_succ])
          refine wpAnyH_take (i := 15) (v := ?_) rfl (by kernel_rfl) (by kernel_rfl) (by kernel_rfl) (fun _ _ _ h => h) (Or.inl ⟨by rfl, ?_⟩) (by assumption) ?_
          rotate_left
          · intro w hSw; (try dsimp only at hSw); go_simp; (try with_reducible rfl)
          (try simp only [Act.put, List.getElem_toArray, List.getElem_cons_succ, List.getElem_cons_zero, List.setIfInBounds_toArray, List.set_cons_zero, List.set_cons_succ])
          (try clear hK K)
          refine wpAnyH_done (by kernel_rfl) ?_ _
          simp only [noPanic]
          have hb8 := on (Below.refl _ _).drew hb9
          have HZ9 : Hid (x9.heap[D]? = some (.deferred (some [])) ∧ Below w.heap.size w x9) := ⟨by rw [hb8.block D (Array.getElem?_eq_some_iff.1 HZ.out.1).1]; exact HZ.out.1, on HZ.out.2.1 hb8⟩
          clear hb9 hb8 HSS
          go_wp2_with fail
          refine ⟨by simp, .inl ⟨_, _, rfl, run_takeDeferred HZ9.out.1, ?_⟩⟩
          exact ⟨_, results_tmp rfl _ _ _, rfl, HZ9.out.2.trans (belowK_b (w := w) (Nat.le_refl _) x9 D _ _ HZ.out.2.2 HZ9.out.1 rfl rfl)⟩
      · obtain rfl : j = xs.length := by omega
        have hj3 : xs.length ≤ 120 := hj2
        clear h1 h2 hj hj2
        obtain ⟨l, q, hl⟩ := HO.out
        have HQ1 : Hid (QP w0 l (.slice none 0 0) [] wr ∧ l.length ≤ 120) := ⟨q, by omega⟩
        have CP : Hid (∀ W, QP w0 l (.slice none 0 0) [] W → Calls Try.prog 14 #[.pointer (some ⟨w0.heap.size, 0, none⟩), .agg #[.bool s.no, .bool s.hl, .bool s.ol, .bool s.lo.t, .int .i64 s.lo.n, .string s.lo.s, .bool s.hh, .bool s.oh, .bool s.hi.t, .int .i64 s.hi.n, .string s.hi.s]] W fun e w' => ∃ p, e = .returned p ∧ QP w0 l p (rangeP s l) w') := fun W q => qp_all q (by omega) s
        clear q hl HO
        obtain ⟨s0, s1, s2, s3, s4, s5, s6, s7, s8, s9, s10⟩ := HSB.out.below HQ1.out.1.blw
        go_wp2_with fail
        refine Calls.mono (CP.out _ HQ1.out.1) ?_
        rintro e w2 ⟨av, rfl, q2⟩
        obtain ⟨aa, ac, rfl, hac⟩ := q2.pairs.slice
        have hcap : (rangeP s l).length ≤ ac := q2.pairs.cap
        have HL : Hid (l.length ≤ 120) := HQ1.out.2
        have HQ2 : Hid (QP w0 l (.slice aa (rangeP s l).length ac) (rangeP s l) w2) := q2
        have hL1 : (rangeP s l).length ≤ 120 := Nat.le_trans (List.length_filter_le ..) HL.out
        clear q2 CP HQ1 s0 s1 s2 s3 s4 s5 s6 s7 s8 s9 s10
        obtain ⟨m, hm1, hm⟩ := and15 many
        have hlt : w.heap.size < w2.heap.size := Nat.lt_of_lt_of_le HSB.out.lt HQ2.out.blw.size
        obtain ⟨L, hL⟩ : ∃ L, rangeP s l = L := ⟨_, rfl⟩
        have HLE : Hid (rangeP s l = L) := hL
        rw [hL] at HQ2 hcap hL1 hac
        simp only [hL]
        clear hL
        have HR : Hid (∀ W, Calls Try.prog 17 #[.pointer (some ⟨w0.heap.size, 0, none⟩), .agg #[.bool s.no, .bool s.hl, .bool s.ol, .bool s.lo.t, .int .i64 s.lo.n, .string s.lo.s, .bool s.hh, .bool s.oh, .bool s.hi.t, .int .i64 s.hi.n, .string s.hi.s]] W fun e w' => e = .returned (FV 34 #[] #[.pointer (some ⟨W.heap.size, 0, none⟩), .pointer (some ⟨W.heap.size + 1, 0, none⟩)]) ∧ Below W.heap.size W w' ∧ w'.cell? ⟨W.heap.size, 0, none⟩ = some (.pointer (some ⟨w0.heap.size, 0, none⟩)) ∧ SBox w' (W.heap.size + 1) s ∧ w'.heap.size = W.heap.size + 2) := fun W => rng_boxes _ s W
        have hef := eq_nilF 34
        obtain ⟨s0, s1, s2, s3, s4, s5, s6, s7, s8, s9, s10⟩ := HSB.out.below HQ2.out.blw
        go_wp2_with fail
        generalize hw3 : ((w2.alloc (.cells #[.int .i64 m] 3 (0, 0))).alloc (.cells #[.slice none 0 0] 26 (0, 0))) = w3
        have HW3 : Hid (Below w2.heap.size w2 w3 ∧ w3.cell? ⟨w2.heap.size, 0, none⟩ = some (.int .i64 m) ∧ Boxed w3 (w2.heap.size + 1) 26 (.slice none 0 0) ∧ w3.heap.size = w2.heap.size + 2) := by
          subst hw3
          refine ⟨on (alloc1 _ _) (alloc1 _ _), by simp [go_sem], ?_, by simp⟩
          have := Boxed.new (w2.alloc (.cells #[.int .i64 m] 3 (0, 0))) 26 (.slice none 0 0)
          rw [World.size_alloc] at this
          exact this
        clear hw3 s0 s1 s2 s3 s4 s5 s6 s7 s8 s9 s10 hm
        refine Calls.mono (HR.out _) ?_
        rintro e w4 ⟨rfl, b4, _, _, z4⟩
        have HW4 : Hid (Below w3.heap.size w3 w4 ∧ w4.heap.size = w3.heap.size + 2) := ⟨b4, z4⟩
        clear b4 z4
        obtain ⟨s0, s1, s2, s3, s4, s5, s6, s7, s8, s9, s10⟩ := HSB.out.below (on HQ2.out.blw (on HW3.out.1 HW4.out.1))
        go_wp2_with fail
        refine Calls.mono (HR.out _) ?_
        rintro e w5 ⟨rfl, b5, t5, sb5, z5⟩
        have HW5 : Hid (Below w4.heap.size w4 w5 ∧ w5.heap.size = w4.heap.size + 2 ∧ w5.cell? ⟨w4.heap.size, 0, none⟩ = some (.pointer (some ⟨w0.heap.size, 0, none⟩)) ∧ SBox w5 (w4.heap.size + 1) s) := ⟨b5, z5, t5, sb5⟩
        clear b5 z5 t5 sb5 s0 s1 s2 s3 s4 s5 s6 s7 s8 s9 s10 HR hef
        go_wp2_with fail
        refine (wpIn_wide (n := 5)).1 ?_
        refine act_gen ?_
        intro a0 ha0
        have z3 := HW3.out.2.2.2
        have z4 := HW4.out.2
        have z5 := HW5.out.2.1
        have bx : Boxed w5 (w2.heap.size + 1) 26 (.slice none 0 0) := boxed_below (boxed_below HW3.out.2.2.1 HW4.out.1) HW5.out.1
        have own0 : ownB w5 (w2.heap.size + 1) = none := by unfold ownB; rw [bx.cell]; rfl
        have hseq := rng_stops 4 (by omega) w4.heap.size (w4.heap.size + 1) (w2.heap.size + 1) s w5 (fun W hW => qp_gather HQ2.out (by have := HL.out; omega) s W (on HW3.out.1 (on HW4.out.1 (on HW5.out.1 hW)))) (by rw [HLE.out]; omega) HW5.out.2.2.1 HW5.out.2.2.2 (by omega) (fun k hk => by rw [own0] at hk; cases hk)
        rw [HLE.out] at hseq
        have HB35 : Hid (Below (w2.heap.size + 1) w3 w5) := (on HW4.out.1 HW5.out.1).mono (by omega)
        obtain ⟨inf, hi1, hi2, hi3, hi4⟩ := info_Pr
        have IN : Hid (Try.prog.info? TPr = some inf ∧ inf.zero = some (.agg #[.bool false, .int .i64 0, .string ⟨#[]⟩, .int .i64 0]) ∧ inf.size = 4 ∧ inf.bytes = 40) := ⟨hi1, hi2, hi3, hi4⟩
        have HN3 : Hid (∀ W, Below (w2.heap.size + 1) w3 W → W.cell? ⟨w2.heap.size, 0, none⟩ = some (.int .i64 m)) := fun W hb => by rw [hb.cell (p := ⟨w2.heap.size, 0, none⟩) (Nat.lt_succ_self _)]; exact HW3.out.2.1
        have HSM : Hid (∀ W (M : List Pr) (va : Option Addr) (vc : Nat), Below (w2.heap.size + 1) w3 W → W.ownsRow (w2.heap.size + 1) TPr 4 (.slice va M.length vc) M.length (pcells M) → M = L.take M.length → Calls Try.prog 13 #[.slice va M.length vc, .slice aa M.length ac] W fun e w' => e = .returned (.bool true) ∧ Below W.heap.size W w') := fun W M va vc hb ho hM => by
          have hp : PairsIn W (.slice aa L.length ac) L := HQ2.out.pairs.low hb HW3.out.1 HQ2.out.lowP
          have hp2 := hp.part (m := M.length) (by rw [hM, List.length_take]; omega)
          rw [← hM] at hp2
          exact psame_any _ _ M W (own_pairs ho) hp2
        have HBW : Hid (∀ W, Below (w2.heap.size + 1) w3 W → Below w.heap.size w W) := fun W hb => on HB0.out (on HQ2.out.blw (HW3.out.1.trans (hb.mono (by omega))))
        clear hi1 hi2 hi3 hi4 own0
        refine wpIn_rangeFunc_ownH rfl (by omega) (gf := 34) (lb := #[.pointer (some ⟨w4.heap.size, 0, none⟩), .pointer (some ⟨w4.heap.size + 1, 0, none⟩)]) (by rw [ha0]; rfl) trivial (enters_of Try.func34 rfl rfl)
          hseq (fun a b => KpO.trans a b) (KpO.put (by omega)) (Below.refl _ _) (fun _ => rfl)
          (fun pre W => (∃ v, Boxed W (w2.heap.size + 1) 26 v ∧ W.ownsRow (w2.heap.size + 1) TPr 4 v pre.length (pcells pre) ∧ pre.length ≤ m) ∧ Below (w2.heap.size + 1) w3 W)
          (fun c pre' W => (c = .exit 2 ∧ ∃ pre, pre.length = m ∧ (∃ x, pre' = pre ++ [x]) ∧ ∃ v, Boxed W (w2.heap.size + 1) 26 v ∧ W.ownsRow (w2.heap.size + 1) TPr 4 v pre.length (pcells pre)) ∧ Below (w2.heap.size + 1) w3 W)
          (OwnFrom.and (Own.from (holdsRow_own (w2.heap.size + 1) (w2.heap.size + 1) 26 TPr 4 (fun pre => pre.length) (fun pre => pcells pre) (fun pre _ => pre.length ≤ m)) _) (ownFrom_below (by omega) (by omega)))
          (fun c pre' A B row hs hg hr => by
            obtain ⟨⟨e, pre, e1, e2, v, g1, g2⟩, hb⟩ := hs
            obtain ⟨v', k1, k2, _⟩ := (Own.from (holdsRow_own (w2.heap.size + 1) (w2.heap.size + 1) 26 TPr 4 (fun pre : List Pr => pre.length) (fun pre => pcells pre) (fun _ _ => True)) _) pre A B row ⟨v, g1, g2, trivial⟩ hg hr
            exact ⟨⟨e, pre, e1, e2, v', k1, k2⟩, ownFrom_below (β := Unit) (by omega) (by omega) () A B row hb hg hr⟩)
          ⟨⟨_, bx, World.ownsRow_nil _ _ _ _, Nat.zero_le _⟩, HB35.out⟩
          (fun x a' W => ∃ Bx, VBox W Bx x.k ∧ a' = { tmps := (((a0.tmps.setIfInBounds 59 (V x.k.t x.k.n x.k.s)).setIfInBounds 60 (.int .i64 x.v)).setIfInBounds 13 (.pointer (some ⟨Bx, 0, none⟩))).setIfInBounds 14 (.int .i64 x.v), defers := [] })
          (fun x a' _ W W' row hs hg hr => by
            obtain ⟨Bx, ⟨c0, c1, c2⟩, e⟩ := hs
            exact ⟨Bx, ⟨cell_kept c0 hg fun r e => (hr r e).2, cell_kept c1 hg fun r e => (hr r e).2, cell_kept c2 hg fun r e => (hr r e).2⟩, e⟩)
          ?assign ?body ?done ?stop
        case assign =>
          rintro lp pre x W K ⟨⟨v, hv, hrow, hpm⟩, hB⟩ hK
          have hlt := hv.lt
          have hsz : w2.heap.size + 1 ≤ W.heap.size := by have := hB.size; omega
          clear z3 z4 z5
          subst ha0
          gi_wp2_with fail
          refine hK _ _ ((KeepsOthers.alloc _ _).from _) (KpO.below (alloc1 _ _) hlt) ⟨⟨v, hv.alloc _, hrow.alloc _, hpm⟩, hB.trans ((alloc1 _ _).mono hsz)⟩ ⟨W.heap.size, VBox.new W x.k 30, by simp only [List.setIfInBounds_toArray, List.set_cons_succ, List.set_cons_zero]⟩
        case body =>
          rintro lp pre x a' W hl' ⟨r, hr⟩ ⟨⟨v, hv, hrow, hpm⟩, hB⟩ ⟨Bx, ⟨c0, c1, c2⟩, rfl⟩ hlt
          have hsz : w2.heap.size + 1 ≤ W.heap.size := by have := hB.size; omega
          clear z3 z4 z5
          subst ha0
          obtain ⟨va, vc, ev⟩ := owns_slice hrow
          subst ev
          have hc := hv.cell
          have hn := HN3.out _ hB
          have hpl : pre.length < 100000 := by omega
          simp only [List.setIfInBounds_toArray, List.set_cons_succ, List.set_cons_zero]
          by_cases hm2 : m ≤ pre.length
          · have i1 : (m : Int) ≤ (pre.length : Int) := by omega
            have HZ : Hid ((∃ q, q.length = m ∧ (∃ y, pre ++ [x] = q ++ [y]) ∧ ∃ v, Boxed W (w2.heap.size + 1) 26 v ∧ W.ownsRow (w2.heap.size + 1) TPr 4 v q.length (pcells q)) ∧ Below (w2.heap.size + 1) w3 W) := ⟨⟨pre, by omega, ⟨x, rfl⟩, _, hv, hrow⟩, hB⟩
            clear hv hrow hB
            gi_wp2_with fail
            exact ⟨(KeepsOthers.refl _).from _, ⟨rfl, HZ.out.1⟩, HZ.out.2⟩
          · have i1 : (pre.length : Int) < (m : Int) := by omega
            gi_wp2_with (gi_at_builtin; refine wpListIn_append_own_at _ rfl _ _ _ rfl (w2.heap.size + 1) TPr inf _ 4 40 Try.underlying26 IN.out.1 IN.out.2.1 IN.out.2.2.1 IN.out.2.2.2 rfl (by decide) (.slice va pre.length vc) pre.length (pcells pre) rfl (hrow.alloc _) ⟨W.heap.size, 0, none⟩ 1 1 x.cells rfl rfl (pr_new W x) (Pr.cells_one x) (by unfold maxLen; omega) (by omega) (by simp; omega) ?_)
            intro v' x1 hown' hgrow hat
            obtain ⟨g', cap', ev'⟩ := ownsRow_succ hown'
            obtain ⟨hv1, hv2, hr2, hk2, hb2⟩ := hv.appended (by decide) hrow hsz (by omega) hown' hgrow
            have hkp := KpO.appended hv hgrow hv2 (by simpa using hat)
            have hc1 := hv1.cell
            have hf1 := hv1.frozen
            have HZ : Hid (KeepsFrom w5.heap.size W (x1.setCell ⟨(w2.heap.size + 1), 0, none⟩ v') ∧ KpO (w2.heap.size + 1) W (x1.setCell ⟨(w2.heap.size + 1), 0, none⟩ v') ∧ (∃ v, Boxed (x1.setCell ⟨(w2.heap.size + 1), 0, none⟩ v') (w2.heap.size + 1) 26 v ∧ (x1.setCell ⟨(w2.heap.size + 1), 0, none⟩ v').ownsRow (w2.heap.size + 1) TPr 4 v (pre ++ [x]).length (pcells (pre ++ [x])) ∧ (pre ++ [x]).length ≤ m) ∧ Below (w2.heap.size + 1) w3 (x1.setCell ⟨(w2.heap.size + 1), 0, none⟩ v')) :=
              ⟨hk2.from _, hkp, ⟨v', hv2, by rw [List.length_append, pcells_more]; exact hr2, by simp; omega⟩, hB.trans hb2⟩
            clear hkp hv1 hv2 hr2 hk2 hb2 hown' hgrow hat hv hrow hc
            subst ev'
            gi_wp2_with fail
            exact ⟨HZ.out.1, HZ.out.2.1, HZ.out.2.2.1, HZ.out.2.2.2⟩
        case done =>
          rintro D ys W hD rfl ⟨⟨v, hv, hrow, hpm⟩, hB⟩ hK
          have hM : ys = ys.take ys.length := List.take_length.symm
          have hmin : (if ys.length < m then (ys.length : Int) else (m : Int)) = (ys.length : Int) := by split <;> omega
          subst ha0
          obtain ⟨va, vc, ev⟩ := owns_slice hrow
          subst ev
          have hc := hv.cell
          have hn := HN3.out _ hB
          have HS := fun X (hX : Below W.heap.size W X) => HSM.out X ys va vc (hB.trans (hX.mono (by have := hB.size; omega))) (own_below hrow hX) hM
          have HZ : Hid (W.heap[D]? = some (.deferred (some [])) ∧ Below w.heap.size w W ∧ w.heap.size ≤ D) := ⟨hK, HBW.out _ hB, by have := (HBW.out _ HB35.out).size; omega⟩
          have HSS : Hid _ := HS
          clear z3 z4 z5
          clear hrow hB hv HS hM
          dsimp only
          go_wp2_with fail
          refine no_panic ?_
          refine wp_region_held_drew (S := fun w' => w'.cell? ⟨w2.heap.size + 1, 0, none⟩ = some (.slice va ys.length vc) ∧ w'.cell? ⟨w2.heap.size, 0, none⟩ = some (.int .i64 m)) (by kernel_rfl) ?_ (fun hHeld => ?_)
          · exact ⟨hc, hn⟩
          (try clear hK K)
          refine wpAnyH_take (i := 0) (v := ?_) rfl (by kernel_rfl) (by kernel_rfl) (by kernel_rfl) (fun _ _ _ h => h) (Or.inl ⟨by rfl, ?_⟩) (by assumption) ?_
          rotate_left
          · intro w hSw; (try dsimp only at hSw); go_simp; (try with_reducible rfl)
          (try simp only [Act.put, List.getElem_toArray, List.getElem_cons_zero, List.setIfInBounds_toArray, List.set_cons_zero, List.set_cons_succ])
          refine wpAnyH_take (i := 1) (v := ?_) rfl (by kernel_rfl) (by kernel_rfl) (by kernel_rfl) (fun _ _ _ h => h) (Or.inl ⟨by rfl, ?_⟩) (by assumption) ?_
          rotate_left
          · intro w hSw; (try dsimp only at hSw); go_simp; (try with_reducible rfl)
          (try simp only [Act.put, List.getElem_toArray, List.getElem_cons_succ, List.getElem_cons_zero, List.setIfInBounds_toArray, List.set_cons_zero, List.set_cons_succ])
          refine wpAnyH_take (i := 2) (v := ?_) rfl (by kernel_rfl) (by kernel_rfl) (by kernel_rfl) (fun _ _ _ h => h) (Or.inl ⟨by rfl, ?_⟩) (by assumption) ?_
          rotate_left
          · intro w hSw; (try dsimp only at hSw); go_simp; (try with_reducible rfl)
          (try simp only [Act.put, List.getElem_toArray, List.getElem_cons_succ, List.getElem_cons_zero, List.setIfInBounds_toArray, List.set_cons_zero, List.set_cons_succ])
          refine wpAnyH_take (i := 3) (v := ?_) rfl (by kernel_rfl) (by kernel_rfl) (by kernel_rfl) (fun _ _ _ h => h) (Or.inl ⟨by rfl, ?_⟩) (by assumption) ?_
          rotate_left
          · intro w hSw; (try dsimp only at hSw); go_simp; (try with_reducible rfl)
          (try simp only [Act.put, List.getElem_toArray, List.getElem_cons_succ, List.getElem_cons_zero, List.setIfInBounds_toArray, List.set_cons_zero, List.set_cons_succ])
          refine wpAnyH_take (i := 4) (v := ?_) rfl (by kernel_rfl) (by kernel_rfl) (by kernel_rfl) (fun _ _ _ h => h) (Or.inl ⟨by rfl, ?_⟩) (by assumption) ?_
          rotate_left
          · intro w hSw; (try dsimp only at hSw); go_simp; (try with_reducible rfl)
          (try simp only [Act.put, List.getElem_toArray, List.getElem_cons_succ, List.getElem_cons_zero, List.setIfInBounds_toArray, List.set_cons_zero, List.set_cons_succ])
          refine wpAnyH_take (i := 5) (v := ?_) rfl (by kernel_rfl) (by kernel_rfl) (by kernel_rfl) (fun _ _ _ h => h) (Or.inl ⟨by rfl, ?_⟩) (by assumption) ?_
          rotate_left
          · intro w hSw; (try dsimp only at hSw); go_simp; (try with_reducible rfl)
          (try simp only [Act.put, List.getElem_toArray, List.getElem_cons_succ, List.getElem_cons_zero, List.setIfInBounds_toArray, List.set_cons_zero, List.set_cons_succ])
          refine wpAnyH_take (i := 6) (v := ?_) rfl (by kernel_rfl) (by kernel_rfl) (by kernel_rfl) (fun _ _ _ h => h) (Or.inl ⟨by rfl, ?_⟩) (by assumption) ?_
          rotate_left
          · intro w hSw; (try dsimp only at hSw); go_simp; (try with_reducible rfl)
          (try simp only [Act.put, List.getElem_toArray, List.getElem_cons_succ, List.getElem_cons_zero, List.setIfInBounds_toArray, List.set_cons_zero, List.set_cons_succ])
          refine wpAnyH_take (i := 7) (v := ?_) rfl (by kernel_rfl) (by kernel_rfl) (by kernel_rfl) (fun _ _ _ h => h) (Or.inl ⟨by rfl, ?_⟩) (by assumption) ?_
          rotate_left
          · intro w hSw; (try dsimp only at hSw); go_simp; (try with_reducible rfl)
          (try simp only [Act.put, List.getElem_toArray, List.getElem_cons_succ, List.getElem_cons_zero, List.setIfInBounds_toArray, List.set_cons_zero, List.set_cons_succ])
          refine wpAnyH_take (i := 8) (v := ?_) rfl (by kernel_rfl) (by kernel_rfl) (by kernel_rfl) (fun _ _ _ h => h) (Or.inl ⟨by rfl, ?_⟩) (by assumption) ?_
          rotate_left
          · intro w hSw; (try dsimp only at hSw); go_simp; (try with_reducible rfl)
          (try simp only [Act.put, List.getElem_toArray, List.getElem_cons_succ, List.getElem_cons_zero, List.setIfInBounds_toArray, List.set_cons_zero, List.set_cons_succ])
          refine wpAnyH_take (i := 9) (v := ?_) rfl (by kernel_rfl) (by kernel_rfl) (by kernel_rfl) (fun _ _ _ h => h) (Or.inl ⟨by rfl, ?_⟩) (by assumption) ?_
          rotate_left
          · intro w hSw; (try dsimp only at hSw); go_simp; (try with_reducible rfl)
          (try simp only [Act.put, List.getElem_toArray, List.getElem_cons_succ, List.getElem_cons_zero, List.setIfInBounds_toArray, List.set_cons_zero, List.set_cons_succ])
          refine wpAnyH_take (i := 10) (v := ?_) rfl (by kernel_rfl) (by kernel_rfl) (by kernel_rfl) (fun _ _ _ h => h) (Or.inl ⟨by rfl, ?_⟩) (by assumption) ?_
          rotate_left
          · intro w hSw; (try dsimp only at hSw); go_simp; (try with_reducible rfl)
          (try simp only [Act.put, List.getElem_toArray, List.getElem_cons_succ, List.getElem_cons_zero, List.setIfInBounds_toArray, List.set_cons_zero, List.set_cons_succ])
          refine wpAnyH_take (i := 11) (v := ?_) rfl (by kernel_rfl) (by kernel_rfl) (by kernel_rfl) (fun _ _ _ h => h) (Or.inl ⟨by rfl, ?_⟩) (by assumption) ?_
          rotate_left
          · intro w hSw; (try dsimp only at hSw); go_simp; (try with_reducible rfl)
          (try simp only [Act.put, List.getElem_toArray, List.getElem_cons_succ, List.getElem_cons_zero, List.setIfInBounds_toArray, List.set_cons_zero, List.set_cons_succ])
          refine wpAnyH_take (i := 12) (v := ?_) rfl (by kernel_rfl) (by kernel_rfl) (by kernel_rfl) (fun _ _ _ h => h) (Or.inl ⟨by rfl, ?_⟩) (by assumption) ?_
          rotate_left
          · intro w hSw; (try dsimp only at hSw); go_simp; (try with_reducible rfl)
          (try simp only [Act.put, List.getElem_toArray, List.getElem_cons_succ, List.getElem_cons_zero, List.setIfInBounds_toArray, List.set_cons_zero, List.set_cons_succ])
          (try clear hK K)
          refine wpAnyH_ready (rs := [13]) (by kernel_rfl) (by simp) ?_
          refine AllReadyH.cons rfl (fun K hK => ?_) AllReadyH.nil
          go_simp
          (refine Calls.mono (HSS.out _ (Below.refl _ _).drew) ?_; rintro e x9 ⟨rfl, hb9⟩)
          refine hK.out _ _ ?_ (fun hHeld => ?_)
          · have hb9' := on (Below.refl _ _).drew hb9
            exact ⟨by rw [hb9'.cell (World.block_lt_of_cell? _ _ hc)]; exact hc, by rw [hb9'.cell (World.block_lt_of_cell? _ _ hn)]; exact hn⟩
          (try clear hK K)
          refine wpAnyH_take (i := 14) (v := ?_) rfl (by kernel_rfl) (by kernel_rfl) (by kernel_rfl) (fun _ _ _ h => h) (Or.inl ⟨by rfl, ?_⟩) (by assumption) ?_
          rotate_left
          · intro w hSw; (try dsimp only at hSw); go_simp; (try with_reducible rfl)
          (try simp only [Act.put, List.getElem_toArray, List.getElem_cons_succ, List.getElem_cons_zero, List.setIfInBounds_toArray, List.set_cons_zero, List.set_cons_succ])
          refine wpAnyH_take (i := 15) (v := ?_) rfl (by kernel_rfl) (by kernel_rfl) (by kernel_rfl) (fun _ _ _ h => h) (Or.inl ⟨by rfl, ?_⟩) (by assumption) ?_
          rotate_left
          · intro w hSw; (try dsimp only at hSw); go_simp; (try with_reducible rfl)
          (try simp only [Act.put, List.getElem_toArray, List.getElem_cons_succ, List.getElem_cons_zero, List.setIfInBounds_toArray, List.set_cons_zero, List.set_cons_succ])
          (try clear hK K)
          refine wpAnyH_done (by kernel_rfl) ?_ _
          simp only [noPanic]
          have hb8 := on (Below.refl _ _).drew hb9
          have HZ9 : Hid (x9.heap[D]? = some (.deferred (some [])) ∧ Below w.heap.size w x9) := ⟨by rw [hb8.block D (Array.getElem?_eq_some_iff.1 HZ.out.1).1]; exact HZ.out.1, on HZ.out.2.1 hb8⟩
          clear hb9 hb8 HSS
          go_wp2_with fail
          refine ⟨by simp, .inl ⟨_, _, rfl, run_takeDeferred HZ9.out.1, ?_⟩⟩
          exact ⟨_, results_tmp rfl _ _ _, rfl, HZ9.out.2.trans (belowK_b (w := w) (Nat.le_refl _) x9 D _ _ HZ.out.2.2 HZ9.out.1 rfl rfl)⟩
        case stop =>
          rintro D c pre' W hD hpre ⟨⟨rfl, pre, hp1, ⟨x, hp2⟩, v, hv, hrow⟩, hB⟩ hK
          have hM : pre = L.take pre.length := by
            rw [hp2] at hpre
            obtain ⟨t, ht⟩ := hpre
            rw [← ht, List.append_assoc, List.take_left]
          have hlL : pre.length + 1 ≤ L.length := by
            have := hpre.length_le
            rw [hp2] at this
            simpa using this
          subst hp1
          have hmin : (if L.length < pre.length then (L.length : Int) else (pre.length : Int)) = (pre.length : Int) := if_neg (by omega)
          have hcap' : pre.length ≤ ac := by omega
          subst ha0
          obtain ⟨va, vc, ev⟩ := owns_slice hrow
          subst ev
          have hc := hv.cell
          have hn := HN3.out _ hB
          have HS := fun X (hX : Below W.heap.size W X) => HSM.out X pre va vc (hB.trans (hX.mono (by have := hB.size; omega))) (own_below hrow hX) hM
          have HZ : Hid (W.heap[D]? = some (.deferred (some [])) ∧ Below w.heap.size w W ∧ w.heap.size ≤ D) := ⟨hK, HBW.out _ hB, by have := (HBW.out _ HB35.out).size; omega⟩
          have HSS : Hid _ := HS
          clear z3 z4 z5
          clear hrow hB hv HS hM
          refine wpIn_wide.2 ?_
          dsimp only
          go_wp2_with fail
          refine no_panic ?_
          refine wp_region_held_drew (S := fun w' => w'.cell? ⟨w2.heap.size + 1, 0, none⟩ = some (.slice va pre.length vc) ∧ w'.cell? ⟨w2.heap.size, 0, none⟩ = some (.int .i64 pre.length)) (by kernel_rfl) ?_ (fun hHeld => ?_)
          · exact ⟨hc, hn⟩
          (try clear hK K)
          refine wpAnyH_take (i := 0) (v := ?_) rfl (by kernel_rfl) (by kernel_rfl) (by kernel_rfl) (fun _ _ _ h => h) (Or.inl ⟨by rfl, ?_⟩) (by assumption) ?_
          rotate_left
          · intro w hSw; (try dsimp only at hSw); go_simp; (try with_reducible rfl)
          (try simp only [Act.put, List.getElem_toArray, List.getElem_cons_zero, List.setIfInBounds_toArray, List.set_cons_zero, List.set_cons_succ])
          refine wpAnyH_take (i := 1) (v := ?_) rfl (by kernel_rfl) (by kernel_rfl) (by kernel_rfl) (fun _ _ _ h => h) (Or.inl ⟨by rfl, ?_⟩) (by assumption) ?_
          rotate_left
          · intro w hSw; (try dsimp only at hSw); go_simp; (try with_reducible rfl)
          (try simp only [Act.put, List.getElem_toArray, List.getElem_cons_succ, List.getElem_cons_zero, List.setIfInBounds_toArray, List.set_cons_zero, List.set_cons_succ])
          refine wpAnyH_take (i := 2) (v := ?_) rfl (by kernel_rfl) (by kernel_rfl) (by kernel_rfl) (fun _ _ _ h => h) (Or.inl ⟨by rfl, ?_⟩) (by assumption) ?_
          rotate_left
          · intro w hSw; (try dsimp only at hSw); go_simp; (try with_reducible rfl)
          (try simp only [Act.put, List.getElem_toArray, List.getElem_cons_succ, List.getElem_cons_zero, List.setIfInBounds_toArray, List.set_cons_zero, List.set_cons_succ])
          refine wpAnyH_take (i := 3) (v := ?_) rfl (by kernel_rfl) (by kernel_rfl) (by kernel_rfl) (fun _ _ _ h => h) (Or.inl ⟨by rfl, ?_⟩) (by assumption) ?_
          rotate_left
          · intro w hSw; (try dsimp only at hSw); go_simp; (try with_reducible rfl)
          (try simp only [Act.put, List.getElem_toArray, List.getElem_cons_succ, List.getElem_cons_zero, List.setIfInBounds_toArray, List.set_cons_zero, List.set_cons_succ])
          refine wpAnyH_take (i := 4) (v := ?_) rfl (by kernel_rfl) (by kernel_rfl) (by kernel_rfl) (fun _ _ _ h => h) (Or.inl ⟨by rfl, ?_⟩) (by assumption) ?_
          rotate_left
          · intro w hSw; (try dsimp only at hSw); go_simp; (try with_reducible rfl)
          (try simp only [Act.put, List.getElem_toArray, List.getElem_cons_succ, List.getElem_cons_zero, List.setIfInBounds_toArray, List.set_cons_zero, List.set_cons_succ])
          refine wpAnyH_take (i := 5) (v := ?_) rfl (by kernel_rfl) (by kernel_rfl) (by kernel_rfl) (fun _ _ _ h => h) (Or.inl ⟨by rfl, ?_⟩) (by assumption) ?_
          rotate_left
          · intro w hSw; (try dsimp only at hSw); go_simp; (try with_reducible rfl)
          (try simp only [Act.put, List.getElem_toArray, List.getElem_cons_succ, List.getElem_cons_zero, List.setIfInBounds_toArray, List.set_cons_zero, List.set_cons_succ])
          refine wpAnyH_take (i := 6) (v := ?_) rfl (by kernel_rfl) (by kernel_rfl) (by kernel_rfl) (fun _ _ _ h => h) (Or.inl ⟨by rfl, ?_⟩) (by assumption) ?_
          rotate_left
          · intro w hSw; (try dsimp only at hSw); go_simp; (try with_reducible rfl)
          (try simp only [Act.put, List.getElem_toArray, List.getElem_cons_succ, List.getElem_cons_zero, List.setIfInBounds_toArray, List.set_cons_zero, List.set_cons_succ])
          refine wpAnyH_take (i := 7) (v := ?_) rfl (by kernel_rfl) (by kernel_rfl) (by kernel_rfl) (fun _ _ _ h => h) (Or.inl ⟨by rfl, ?_⟩) (by assumption) ?_
          rotate_left
          · intro w hSw; (try dsimp only at hSw); go_simp; (try with_reducible rfl)
          (try simp only [Act.put, List.getElem_toArray, List.getElem_cons_succ, List.getElem_cons_zero, List.setIfInBounds_toArray, List.set_cons_zero, List.set_cons_succ])
          refine wpAnyH_take (i := 8) (v := ?_) rfl (by kernel_rfl) (by kernel_rfl) (by kernel_rfl) (fun _ _ _ h => h) (Or.inl ⟨by rfl, ?_⟩) (by assumption) ?_
          rotate_left
          · intro w hSw; (try dsimp only at hSw); go_simp; (try with_reducible rfl)
          (try simp only [Act.put, List.getElem_toArray, List.getElem_cons_succ, List.getElem_cons_zero, List.setIfInBounds_toArray, List.set_cons_zero, List.set_cons_succ])
          refine wpAnyH_take (i := 9) (v := ?_) rfl (by kernel_rfl) (by kernel_rfl) (by kernel_rfl) (fun _ _ _ h => h) (Or.inl ⟨by rfl, ?_⟩) (by assumption) ?_
          rotate_left
          · intro w hSw; (try dsimp only at hSw); go_simp; (try with_reducible rfl)
          (try simp only [Act.put, List.getElem_toArray, List.getElem_cons_succ, List.getElem_cons_zero, List.setIfInBounds_toArray, List.set_cons_zero, List.set_cons_succ])
          refine wpAnyH_take (i := 10) (v := ?_) rfl (by kernel_rfl) (by kernel_rfl) (by kernel_rfl) (fun _ _ _ h => h) (Or.inl ⟨by rfl, ?_⟩) (by assumption) ?_
          rotate_left
          · intro w hSw; (try dsimp only at hSw); go_simp; (try with_reducible rfl)
          (try simp only [Act.put, List.getElem_toArray, List.getElem_cons_succ, List.getElem_cons_zero, List.setIfInBounds_toArray, List.set_cons_zero, List.set_cons_succ])
          refine wpAnyH_take (i := 11) (v := ?_) rfl (by kernel_rfl) (by kernel_rfl) (by kernel_rfl) (fun _ _ _ h => h) (Or.inl ⟨by rfl, ?_⟩) (by assumption) ?_
          rotate_left
          · intro w hSw; (try dsimp only at hSw); go_simp; (try with_reducible rfl)
          (try simp only [Act.put, List.getElem_toArray, List.getElem_cons_succ, List.getElem_cons_zero, List.setIfInBounds_toArray, List.set_cons_zero, List.set_cons_succ])
          refine wpAnyH_take (i := 12) (v := ?_) rfl (by kernel_rfl) (by kernel_rfl) (by kernel_rfl) (fun _ _ _ h => h) (Or.inl ⟨by rfl, ?_⟩) (by assumption) ?_
          rotate_left
          · intro w hSw; (try dsimp only at hSw); go_simp; (try with_reducible rfl)
          (try simp only [Act.put, List.getElem_toArray, List.getElem_cons_succ, List.getElem_cons_zero, List.setIfInBounds_toArray, List.set_cons_zero, List.set_cons_succ])
          (try clear hK K)
          refine wpAnyH_ready (rs := [13]) (by kernel_rfl) (by simp) ?_
          refine AllReadyH.cons rfl (fun K hK => ?_) AllReadyH.nil
          go_simp
          (refine Calls.mono (HSS.out _ (Below.refl _ _).drew) ?_; rintro e x9 ⟨rfl, hb9⟩)
          refine hK.out _ _ ?_ (fun hHeld => ?_)
          · have hb9' := on (Below.refl _ _).drew hb9
            exact ⟨by rw [hb9'.cell (World.block_lt_of_cell? _ _ hc)]; exact hc, by rw [hb9'.cell (World.block_lt_of_cell? _ _ hn)]; exact hn⟩
          (try clear hK K)
          refine wpAnyH_take (i := 14) (v := ?_) rfl (by kernel_rfl) (by kernel_rfl) (by kernel_rfl) (fun _ _ _ h => h) (Or.inl ⟨by rfl, ?_⟩) (by assumption) ?_
          rotate_left
          · intro w hSw; (try dsimp only at hSw); go_simp; (try with_reducible rfl)
          (try simp only [Act.put, List.getElem_toArray, List.getElem_cons_succ, List.getElem_cons_zero, List.setIfInBounds_toArray, List.set_cons_zero, List.set_cons_succ])
          refine wpAnyH_take (i := 15) (v := ?_) rfl (by kernel_rfl) (by kernel_rfl) (by kernel_rfl) (fun _ _ _ h => h) (Or.inl ⟨by rfl, ?_⟩) (by assumption) ?_
          rotate_left
          · intro w hSw; (try dsimp only at hSw); go_simp; (try with_reducible rfl)
          (try simp only [Act.put, List.getElem_toArray, List.getElem_cons_succ, List.getElem_cons_zero, List.setIfInBounds_toArray, List.set_cons_zero, List.set_cons_succ])
          (try clear hK K)
          refine wpAnyH_done (by kernel_rfl) ?_ _
          simp only [noPanic]
          have hb8 := on (Below.refl _ _).drew hb9
          have HZ9 : Hid (x9.heap[D]? = some (.deferred (some [])) ∧ Below w.heap.size w x9) := ⟨by rw [hb8.block D (Array.getElem?_eq_some_iff.1 HZ.out.1).1]; exact HZ.out.1, on HZ.out.2.1 hb8⟩
          clear hb9 hb8 HSS
          go_wp2_with fail
          refine ⟨by simp, .inl ⟨_, _, rfl, run_takeDeferred HZ9.out.1, ?_⟩⟩
          exact ⟨_, results_tmp rfl _ _ _, rfl, HZ9.out.2.trans (belowK_b (w := w) (Nat.le_refl _) x9 D _ _ HZ.out.2.2 HZ9.out.1 rfl rfl)⟩
end Go.Proofs.Ytooblmldmbbejaa.Val
/- The statement of TreeStops (P5.2): who wants no more than so many keys gets these, from the first one on. No conditions. -/
namespace Go.Proofs.Ytooblmldmbbejaa.Val
open Go.ChangeShapes Go.WideShapes Go.ChangeAt Go.RowKit
open Go.ChangeMaps (open_string)

set_option maxRecDepth 100000 in
theorem tstops_lifted (os : Os) (started : os.Started) (H : Type) (enc : TypeId × Value → H) :
    ReturnsInHanded {} Try.checked os 5 .any (Rows.treeStopsSpec.pre6 enc Try.prog Try.f5 Rows.treeStopsRow.domain false) (Rows.treeStopsSpec.post enc Try.prog Try.f5 false true false false) := by
  refine returnsInHanded_of_change (C := Try.checked) own started (by kernel_rfl) Try.func5
    (ChangeSpec.witness6 (enc := enc) (C := Try.checked) false ⟨#[], #[.slice none 0 0, .agg #[.bool false, .bool false, .bool false, .bool false, .int .i64 0, .string ⟨#[]⟩, .bool false, .bool false, .bool false, .int .i64 0, .string ⟨#[]⟩], .int .i64 0], []⟩ 8 (by kernel_rfl) (by kernel_rfl) (by kernel_rfl) (by kernel_rfl)) ?_
  intro W base args ds gs before hval0 hW _ _
  have hval : ∀ (j : Nat) t v, Try.f5.params[j]? = some t → args[j]? = some v → Value.okWide Try.prog W .any base t v := hval0
  have hW' := hW
  obtain ⟨p, q, hA0, hV, rfl, hfz, hnd⟩ := hW
  have hA : DataW.TrodAll enc Try.prog W 0 (fun _ => true) true Try.f5.params.toList args.toList ds p := hA0
  rw [Try.params5] at hA hval
  obtain ⟨v0, vs0, d0, ds0, p0, q0, hargs, rfl, rfl, h0, r0⟩ := trodAll_cons hA
  obtain ⟨v1, vs1, d1, ds1, p1, q1, rfl, rfl, rfl, h1, r1⟩ := trodAll_cons r0
  obtain ⟨v2, vs2, d2, ds2, p2, q2, rfl, rfl, rfl, h2, r2⟩ := trodAll_cons r1
  obtain ⟨rfl, rfl, rfl⟩ := trodAll_nil r2
  obtain rfl : args = #[v0, v1, v2] := by cases args; simp_all
  obtain ⟨rfl, rfl⟩ := trodVars_none hV
  have k0 := h0
  have lt0 : ∀ x ∈ p0, x.block < W.heap.size := by obtain ⟨m, hm⟩ := k0; exact DataW.trod_lt m _ _ _ hm
  obtain ⟨a0, len0, cap0, rfl⟩ := okWide_slice Try.underlying22 (hval 0 22 v0 rfl rfl)
  obtain ⟨l0, w0, o0⟩ := open_acts h0 rfl
  have k1 := h1
  have lt1 : ∀ x ∈ p1, x.block < W.heap.size := by obtain ⟨m, hm⟩ := k1; exact DataW.trod_lt m _ _ _ hm
  obtain ⟨x1, rfl, o1⟩ := open_span (hval 1 40 v1 rfl rfl) h1
  have k2 := h2
  have lt2 : ∀ x ∈ p2, x.block < W.heap.size := by obtain ⟨m, hm⟩ := k2; exact DataW.trod_lt m _ _ _ hm
  obtain ⟨a2, rfl, rfl, rfl, o2⟩ := open_int Try.underlying3 (hval 2 3 v2 rfl rfl) h2
  clear hA0 hval0
  refine (tstops_walk _ l0 x1 a2 W w0 o0).mono fun e W' ⟨he, bel⟩ => ?_
  subst he
  exact ⟨_, rfl, _, _, _, [], _, [], hW', trodAll_mk1 (shut_bool Try.underlying4 _), (trodAll_cons_mk (Below.trod laidOut (by kernel_rfl) (of_decide_eq_true (by kernel_rfl)) k0 bel lt0) (trodAll_cons_mk (Below.trod laidOut (by kernel_rfl) (of_decide_eq_true (by kernel_rfl)) k1 bel lt1) (trodAll_cons_mk (Below.trod laidOut (by kernel_rfl) (of_decide_eq_true (by kernel_rfl)) k2 bel lt2) trodAll_mk0))), rfl, bel.frame _, fun h => by cases h⟩

/-- The statement. -/
theorem tstops_said : Rows.TreeStopsSaid :=
  OpenClaim.holds_of_wide 5 Try.f5 rfl rfl rfl rfl rfl rfl rfl ⟨rfl, rfl, rfl, rfl, rfl⟩ rfl rfl rfl rfl rfl (by kernel_rfl) Try.func5 (by kernel_rfl)
    (of_decide_eq_true (by kernel_rfl)) (by unfold Func.isWrapper; first | (rw [if_pos (by decide +kernel)]; kernel_rfl) | (rw [if_neg (by decide +kernel)]; exact ⟨rfl, rfl⟩))
    (fun os started H enc _ => tstops_lifted os started H enc)
end Go.Proofs.Ytooblmldmbbejaa.Val
