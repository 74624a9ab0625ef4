/- What the reference's Back answers. -/
import Derived.Test.YtbfoplaccalegaaUndoRefW
namespace Go.Proofs.Ytbfoplaccalegaa.Val
open Go Go.RowKit

variable {R : Value → List Val → Prop}
theorem ents_take {w : World} {ao : Option Addr} {n c a : Nat} {l : List En} (h : EntsIn w (.slice ao n c) l) (ha : a ≤ l.length) : EntsIn w (.slice ao a c) (l.take a) := by
  obtain ⟨⟨ao', c', e, h1, h2, h0, h3⟩, hr⟩ := h
  cases e
  have hl : (l.take a).length = a := by rw [List.length_take]; omega
  refine ⟨⟨ao, c, by rw [hl], by omega, h2, fun e => ⟨by have := (h0 e).1; omega, (h0 e).2⟩, ?_⟩, fun e he => hr e (List.mem_of_mem_take he)⟩
  rcases h3 with h3 | ⟨b, o, rfl, h3⟩
  · have : l = [] := by
      have := ecells_length l
      rw [h3] at this
      exact List.eq_nil_of_length_eq_zero (by simp at this; omega)
    subst this
    exact .inl (by simp)
  · refine .inr ⟨b, o, rfl, fun j u hj => h3 j u ?_⟩
    have hcat : ecells l = ecells (l.take a) ++ ecells (l.drop a) := by rw [← List.flatMap_append, List.take_append_drop]
    rw [hcat, List.getElem?_append_left (List.getElem?_eq_some_iff.1 hj).1]; exact hj
theorem ints_at {w : World} {ao : Option Addr} {n c : Nat} {l : List Int} (h : Lies w (.slice ao n c) n (icells l)) (k : Nat) (hk : k < l.length) : ∃ b o, ao = some ⟨b, o, none⟩ ∧ w.cell? ⟨b, o + k, none⟩ = some (.int .i64 l[k]) := by
  obtain ⟨ao', c', e, h1, h2, h0, h3⟩ := h
  cases e
  rcases h3 with h3 | ⟨b, o, rfl, h3⟩
  · have : l = [] := by simpa using h3
    subst this; simp at hk
  · exact ⟨b, o, rfl, h3 k _ (by simp [hk])⟩
def clrI (a : Nat) (z : Int) : Int := if (a : Int) < z then -1 else z
theorem zsv_back (L : Lg) (a : Nat) : zsv (L.back a) = (zsv L).map (clrI a) := by
  have h : ∀ o : Option Nat, svI (clr a o) = clrI a (svI o) := fun o => by
    cases o with
    | none => simp [clr, svI, clrI]; omega
    | some k => by_cases hk : a < k <;> simp [clr, clrI, svI, hk]
  have h0 : clrI a (-1) = -1 := by simp [clrI]
  simp [zsv, Lg.back, h, h0]
theorem rback_none (w : World) (lv sv mv : Value) (L : Lg) (h : RL R w lv sv mv L) (n : Int) (hn : okn n = true → L.get n = none) :
    Calls Try.prog 22 #[RV L.room lv sv mv, .int .i64 n] w fun x w' => x = .returned (.tuple #[RV L.room lv sv mv, .slice none 0 0, .int .i64 70]) ∧ Below w.heap.size w w' := by
  obtain ⟨es, epe, hes, hrr⟩ := h.l
  obtain ⟨la, lc, rfl, -⟩ := hes.1.slice
  obtain ⟨sa, sc, rfl, -⟩ := h.s.slice
  obtain ⟨ma, mc, rfl, -⟩ := h.m.1.slice
  rw [List.length_map]
  have hs2 : Lies ((w.alloc (robj L.room (.slice la es.length lc) (.slice sa 4 sc) (.slice ma L.met.length mc))).alloc (robj 0 (.slice none 0 0) (.slice none 0 0) (.slice none 0 0))) (.slice sa 4 sc) 4 (icells (zsv L)) := h.s.below (((Below.refl _ _).alloc (Nat.le_refl _) _).alloc (by simp) _)
  clear h hes hrr epe
  cases ho : okn n with
  | false =>
    clear hs2
    rcases okn_no ho with h1 | h1
    · go_enter Try.func22, Try.ntmps22
      go_wp2_with fail
      refine bodyPost_ret (v := .tuple #[RV L.room (.slice la es.length lc) (.slice sa 4 sc) (.slice ma L.met.length mc), .slice none 0 0, .int .i64 70]) (by simp [results, Try.results22, go_sem]) rfl ⟨rfl, ?_⟩
      exact ((Below.refl _ _).alloc (Nat.le_refl _) _).alloc (by simp) _
    · have h2 : ¬ n < 1 := by omega
      go_enter Try.func22, Try.ntmps22
      go_wp2_with fail
      refine bodyPost_ret (v := .tuple #[RV L.room (.slice la es.length lc) (.slice sa 4 sc) (.slice ma L.met.length mc), .slice none 0 0, .int .i64 70]) (by simp [results, Try.results22, go_sem]) rfl ⟨rfl, ?_⟩
      exact ((Below.refl _ _).alloc (Nat.le_refl _) _).alloc (by simp) _
  | true =>
    have hg := hn ho
    rcases okn_cases ho with rfl | rfl | rfl
    · have hs : L.s1 = none := by simpa [Lg.get] using hg
      obtain ⟨b, o, rfl, d0⟩ := ints_at hs2 1 (show 1 < 4 by decide)
      have d1 : (zsv L)[1]'(show 1 < 4 by decide) = -1 := by show svI L.s1 = -1; rw [hs]; rfl
      rw [d1] at d0
      clear hn ho hg hs2 d1
      go_enter Try.func22, Try.ntmps22
      go_wp2_with fail
      refine bodyPost_ret (v := .tuple #[RV L.room (.slice la es.length lc) (.slice (some ⟨b, o, none⟩) 4 sc) (.slice ma L.met.length mc), .slice none 0 0, .int .i64 70]) (by simp [results, Try.results22, go_sem]) rfl ⟨rfl, ?_⟩
      exact ((Below.refl _ _).alloc (Nat.le_refl _) _).alloc (by simp) _
    · have hs : L.s2 = none := by simpa [Lg.get] using hg
      obtain ⟨b, o, rfl, d0⟩ := ints_at hs2 2 (show 2 < 4 by decide)
      have d1 : (zsv L)[2]'(show 2 < 4 by decide) = -1 := by show svI L.s2 = -1; rw [hs]; rfl
      rw [d1] at d0
      clear hn ho hg hs2 d1
      go_enter Try.func22, Try.ntmps22
      go_wp2_with fail
      refine bodyPost_ret (v := .tuple #[RV L.room (.slice la es.length lc) (.slice (some ⟨b, o, none⟩) 4 sc) (.slice ma L.met.length mc), .slice none 0 0, .int .i64 70]) (by simp [results, Try.results22, go_sem]) rfl ⟨rfl, ?_⟩
      exact ((Below.refl _ _).alloc (Nat.le_refl _) _).alloc (by simp) _
    · have hs : L.s3 = none := by simpa [Lg.get] using hg
      obtain ⟨b, o, rfl, d0⟩ := ints_at hs2 3 (show 3 < 4 by decide)
      have d1 : (zsv L)[3]'(show 3 < 4 by decide) = -1 := by show svI L.s3 = -1; rw [hs]; rfl
      rw [d1] at d0
      clear hn ho hg hs2 d1
      go_enter Try.func22, Try.ntmps22
      go_wp2_with fail
      refine bodyPost_ret (v := .tuple #[RV L.room (.slice la es.length lc) (.slice (some ⟨b, o, none⟩) 4 sc) (.slice ma L.met.length mc), .slice none 0 0, .int .i64 70]) (by simp [results, Try.results22, go_sem]) rfl ⟨rfl, ?_⟩
      exact ((Below.refl _ _).alloc (Nat.le_refl _) _).alloc (by simp) _
/-- So many savepoints gone through: a row of integers of the call's own. -/
def FI (B : Nat) (wr : World) (zs : List Int) (v : Value) : Prop := wr.ownsRow B 3 1 v zs.length (icells zs)
theorem FI.more {B : Nat} {w4 w5 : World} {zs : List Int} {v v' : Value} {z : Int} {o : Obj} (f : FI B w4 zs v) (hs : B ≤ w4.heap.size) (ho : w5.ownsRow B 3 1 v' (zs.length + 1) (icells zs ++ [.int .i64 z])) (hg : (w4.alloc o).grownBy w5 v.ownBlock) : FI B w5 (zs ++ [z]) v' ∧ Below B w4 w5 := by
  refine ⟨?_, ((Below.refl B w4).alloc hs o).grown hg (by simp; omega) fun k hk => (iown_block f k hk).1⟩
  unfold FI
  rw [List.length_append, show icells (zs ++ [z]) = icells zs ++ [.int .i64 z] by simp [icells]]
  exact ho
theorem owns_mono {w : World} {B B' n m : Nat} {T : TypeId} {v : Value} {xs : List Value} (h : w.ownsRow B T m v n xs) (hb : B' ≤ B) : w.ownsRow B' T m v n xs := by
  refine ⟨h.1, ?_⟩
  rcases h.2 with hn | ⟨g, cap, cur, e, hb', rest⟩
  · exact .inl hn
  · exact .inr ⟨g, cap, cur, e, Nat.le_trans hb hb', rest⟩
set_option maxHeartbeats 2000000 in
theorem rback_some (w : World) (lv sv mv : Value) (L : Lg) (h : RL R w lv sv mv L) (n : Int) (ho : okn n = true) (a : Nat) (ha : L.get n = some a) (hle : a ≤ L.es.length) (hn : L.es.length ≤ 500) :
    Calls Try.prog 22 #[RV L.room lv sv mv, .int .i64 n] w fun x w' => ∃ lv' sv' v l, x = .returned (.tuple #[RV L.room lv' sv' mv, v, .int .i64 0]) ∧ RL R w' lv' sv' mv (L.back a) ∧ l.map En.pe = ((L.es.drop a).reverse).map En.pe ∧ EntsIn w' v l ∧ Below w.heap.size w w' ∧ Src w lv lv' ∧ NewV w sv' := by
  obtain ⟨es, epe, hes, hrr⟩ := h.l
  obtain ⟨la, lc, rfl, -⟩ := hes.1.slice
  obtain ⟨sa, sc, rfl, -⟩ := h.s.slice
  obtain ⟨ma, mc, hma, -⟩ := h.m.1.slice
  rw [List.length_map] at hma
  subst hma
  have hlen := pe_len epe
  have HH : Hid (RL R w (.slice la es.length lc) (.slice sa 4 sc) (.slice ma L.met.length mc) L) := h
  have HP : Hid (PT2 w ((w.alloc (robj L.room (.slice la es.length lc) (.slice sa 4 sc) (.slice ma L.met.length mc))).alloc (robj 0 (.slice none 0 0) (.slice none 0 0) (.slice none 0 0))) L.room (.slice la es.length lc) (.slice sa 4 sc) (.slice ma L.met.length mc)) := PT2.start w L.room _ _ _
  have hs2 : Lies ((w.alloc (robj L.room (.slice la es.length lc) (.slice sa 4 sc) (.slice ma L.met.length mc))).alloc (robj 0 (.slice none 0 0) (.slice none 0 0) (.slice none 0 0))) (.slice sa 4 sc) 4 (icells (zsv L)) := h.s.below HP.out.bl
  have HE : Hid (es.map En.pe = L.es.map En.pe ∧ a ≤ es.length ∧ EntsIn w (.slice la es.length lc) es ∧ ∀ e ∈ es, R e.r e.xs) := ⟨epe, by omega, hes, hrr⟩
  have HC : Hid (∀ w1, PT2 w w1 L.room (.slice la es.length lc) (.slice sa 4 sc) (.slice ma L.met.length mc) → Calls Try.prog 29 #[.slice la es.length lc, .int .i64 a] w1 fun e w' => ∃ v, e = .returned v ∧ w'.ownsRow (w.heap.size + 2) TE 5 v (es.drop a).reverse.length (ecells (es.drop a).reverse) ∧ PT2 w w' L.room (.slice la es.length lc) (.slice sa 4 sc) (.slice ma L.met.length mc)) := fun w1 hp => (turned_own _ es a w1 (hes.below hp.bl) (by omega) (by omega)).mono fun e w' ⟨v, he, ho, hb⟩ => ⟨v, he, owns_mono ho hp.sz, hp.below hb⟩
  obtain ⟨i0, hi, hz0, hz1, hz2⟩ := info_parts info_I
  have I0 : Hid _ := And.intro hi (And.intro hz0 (And.intro hz1 hz2))
  have i1 : (a : Int) ≤ es.length := by omega
  obtain ⟨hca, hcm⟩ : es.length ≤ lc ∧ lc ≤ maxLen := by obtain ⟨_, _, e, q1, q2, _⟩ := hes.1; cases e; exact ⟨q1, q2⟩
  have i2 : (a : Int) ≤ lc := by omega
  clear h hes hrr epe hlen hle hn hi hz0 hz1 hz2 hcm hca
  rcases okn_cases ho with rfl | rfl | rfl
  · have hs : L.s1 = some a := by simpa [Lg.get] using ha
    obtain ⟨b, o, rfl, d0⟩ := ints_at hs2 1 (show 1 < 4 by decide)
    have d1 : (zsv L)[1]'(show 1 < 4 by decide) = a := by show svI L.s1 = a; rw [hs]; rfl
    rw [d1] at d0
    have HS : Hid (Lies w (.slice (some ⟨b, o, none⟩) 4 sc) 4 (icells (zsv L))) := HH.out.s
    clear ho ha hs hs2 d1
    go_enter Try.func22, Try.ntmps22
    go_wp2_with fail
    refine Calls.mono (HC.out _ HP.out) ?_
    rintro x w3 ⟨v, rfl, ov, hp3⟩
    have hvl : (es.drop a).reverse.length = es.length - a := by rw [List.length_reverse, List.length_drop]
    rw [hvl] at ov
    obtain ⟨va, vc, rfl⟩ := owns_slice ov
    have HP4 : Hid _ := hp3.set1 (.slice la a lc)
    have HO4 : Hid _ := owns_set (b := w.heap.size) (j := 1) ov (by omega) (.slice la a lc)
    have c1 := hp3.lb.c1
    have f1 := hp3.lb.fz 1
    clear ov hp3 HP HC d0
    go_wp2_with fail
    clear c1 f1
    generalize w3.setCell ⟨w.heap.size, 1, none⟩ (.slice la a lc) = wz at *
    have H0 : Hid (FI wz.heap.size wz (((zsv L).map (clrI a)).take 0) (.slice none 0 0) ∧ Below wz.heap.size wz wz) := ⟨World.ownsRow_nil _ _ _ _, Below.refl _ _⟩
    go_loopw [9, 10] (fun v9 i wr => ∃ k : Nat, k ≤ 4 ∧ i = .int .i64 k ∧ Hid (FI wz.heap.size wr (((zsv L).map (clrI a)).take k) v9 ∧ Below wz.heap.size wz wr)) (fun _ i _ => 4 - (intOf i).toNat)
    case atStart => exact ⟨0, Nat.zero_le _, rfl, H0⟩
    case round =>
      obtain ⟨k, hk, rfl, HW⟩ := hrel
      clear H0
      obtain ⟨⟨x0, x1, x2, x3, xf⟩, ⟨z0, z1, z2, z3, zf⟩, bl, -⟩ := HP4.out.below HW.out.2
      have hl4 : (((zsv L).map (clrI a)).take k).length = k := by rw [List.length_take, List.length_map]; show min k 4 = k; omega
      rcases Nat.lt_or_ge k 4 with h1 | h1
      · have i3 : (k : Int) < 4 := by omega
        have i4 : IntKind.i64.wrap ((k : Int) + 1) = k + 1 := by rw [IntKind.wrap_i64]; omega
        have i5 : ((k : Int) + 1).toNat = k + 1 := by omega
        obtain ⟨b', o', e0, d0⟩ := ints_at (HS.out.below bl) k (show k < 4 from h1)
        cases e0
        have hN : ((zsv L).map (clrI a)).take (k + 1) = ((zsv L).map (clrI a)).take k ++ [clrI a ((zsv L)[k]'(show k < 4 from h1))] := by
          rw [List.take_succ_eq_append_getElem (by rw [List.length_map]; exact h1), List.getElem_map]
          rfl
        generalize (zsv L)[k]'(show k < 4 from h1) = z at *
        have hown0 : wr.ownsRow wz.heap.size 3 1 u9 k (icells (((zsv L).map (clrI a)).take k)) := by have := HW.out.1; unfold FI at this; rw [hl4] at this; exact this
        have hbs := HW.out.2.size
        have HJ : Hid (k < 4) := h1
        have HN : Hid _ := hN
        have HL : Hid _ := hl4
        clear hk h1 hN hl4 z0 z1 z2 z3 zf bl
        generalize ((zsv L).map (clrI a)).take k = zs at *
        by_cases h2 : (a : Int) < z
        · have HV : Hid (clrI a z = -1) := if_pos h2
          have hown : (wr.alloc (.cells #[.int .i64 (-1)] 3)).ownsRow wz.heap.size 3 1 u9 k (icells zs) := iown_other hown0 fun k _ hk => Below.heap_alloc _ _ _ hk
          have hnew : ∀ j u, [Value.int .i64 (-1)][j]? = some u → (wr.alloc (.cells #[.int .i64 (-1)] 3)).cell? ((⟨wr.heap.size, 0, none⟩ : Addr).add j) = some u := fun j u hj => by
            rw [Addr.add_lit, Nat.zero_add, cell_of_row _ wr.heap.size j _ 3 (0, 0) (heap_alloc_new wr _)]; simpa using hj
          have hk4 := HJ.out
          have HB : Hid (wr.ownsRow wz.heap.size 3 1 u9 k (icells zs) ∧ Below wz.heap.size wz wr) := ⟨hown0, HW.out.2⟩
          clear hown0 HW
          go_wp2_with (at_builtin; refine wpList_append_own_at _ rfl _ _ _ rfl wz.heap.size 3 i0 _ 1 8 Try.underlying27 I0.out.1 I0.out.2.1 I0.out.2.2.1 I0.out.2.2.2 rfl (by decide) u9 k (icells zs) rfl hown ⟨wr.heap.size, 0, none⟩ 1 1 [.int .i64 (-1)] rfl rfl hnew (by simp [Value.oneCell']) ?_ ?_ ?_ ?_)
          · unfold maxLen; omega
          · omega
          · first | omega | (simp; omega)
          · intro v' w5 ho hg _ _
            have HF : Hid (FI wz.heap.size w5 (zs ++ [-1]) v' ∧ Below wz.heap.size wz w5) := by
              have f0 : FI wz.heap.size wr zs u9 := by unfold FI; rw [HL.out]; exact HB.out.1
              have := FI.more f0 HB.out.2.size (by rw [HL.out]; exact ho) hg
              exact ⟨this.1, HB.out.2.trans this.2⟩
            rw [← HV.out, ← HN.out] at HF
            clear ho hg hown hnew d0 x0 x1 x2 x3 xf HB hbs
            go_wp2_with fail
            go_roundw
            case rel => exact ⟨k + 1, by have := HJ.out; omega, by simp, HF⟩
            case measure => have := HJ.out; simp [intOf]; omega
        · have HV : Hid (clrI a z = z) := if_neg h2
          have hown : (wr.alloc (.cells #[.int .i64 (z)] 3)).ownsRow wz.heap.size 3 1 u9 k (icells zs) := iown_other hown0 fun k _ hk => Below.heap_alloc _ _ _ hk
          have hnew : ∀ j u, [Value.int .i64 (z)][j]? = some u → (wr.alloc (.cells #[.int .i64 (z)] 3)).cell? ((⟨wr.heap.size, 0, none⟩ : Addr).add j) = some u := fun j u hj => by
            rw [Addr.add_lit, Nat.zero_add, cell_of_row _ wr.heap.size j _ 3 (0, 0) (heap_alloc_new wr _)]; simpa using hj
          have hk4 := HJ.out
          have HB : Hid (wr.ownsRow wz.heap.size 3 1 u9 k (icells zs) ∧ Below wz.heap.size wz wr) := ⟨hown0, HW.out.2⟩
          clear hown0 HW
          go_wp2_with (at_builtin; refine wpList_append_own_at _ rfl _ _ _ rfl wz.heap.size 3 i0 _ 1 8 Try.underlying27 I0.out.1 I0.out.2.1 I0.out.2.2.1 I0.out.2.2.2 rfl (by decide) u9 k (icells zs) rfl hown ⟨wr.heap.size, 0, none⟩ 1 1 [.int .i64 (z)] rfl rfl hnew (by simp [Value.oneCell']) ?_ ?_ ?_ ?_)
          · unfold maxLen; omega
          · omega
          · first | omega | (simp; omega)
          · intro v' w5 ho hg _ _
            have HF : Hid (FI wz.heap.size w5 (zs ++ [z]) v' ∧ Below wz.heap.size wz w5) := by
              have f0 : FI wz.heap.size wr zs u9 := by unfold FI; rw [HL.out]; exact HB.out.1
              have := FI.more f0 HB.out.2.size (by rw [HL.out]; exact ho) hg
              exact ⟨this.1, HB.out.2.trans this.2⟩
            rw [← HV.out, ← HN.out] at HF
            clear ho hg hown hnew d0 x0 x1 x2 x3 xf HB hbs
            go_wp2_with fail
            go_roundw
            case rel => exact ⟨k + 1, by have := HJ.out; omega, by simp, HF⟩
            case measure => have := HJ.out; simp [intOf]; omega
      · obtain rfl : k = 4 := by omega
        have HF : Hid (FI wz.heap.size wr ((zsv L).map (clrI a)) u9 ∧ Below wz.heap.size wz wr) := HW.out
        obtain ⟨a9, c9, rfl⟩ : ∃ a9 c9, u9 = .slice a9 4 c9 := owns_slice HF.out.1
        have HP6 : Hid _ := (HP4.out.below HF.out.2).set2 (.slice a9 4 c9)
        have HO6 : Hid _ := owns_set (b := w.heap.size) (j := 2) (owns_below HO4.out HF.out.2) (by omega) (.slice a9 4 c9)
        have HI6 : Hid ((wr.setCell ⟨w.heap.size, 2, none⟩ (.slice a9 4 c9)).ownsRow wz.heap.size 3 1 (.slice a9 4 c9) 4 (icells ((zsv L).map (clrI a))) ∧ w.heap.size + 2 ≤ wz.heap.size) := ⟨iown_other HF.out.1 fun k hk _ => Below.heap_setCell _ _ _ _ (by have := HP4.out.sz; simp only; omega), HP4.out.sz⟩
        clear HW hk h1 hl4 bl
        go_wp2_with fail
        clear x0 x1 x2 x3 xf z0 z1 z2 z3 zf
        generalize wr.setCell ⟨w.heap.size, 2, none⟩ (.slice a9 4 c9) = wq at *
        obtain ⟨-, ⟨z0, z1, z2, z3, zf⟩, bl, sz⟩ := HP6.out
        have hBl : Below w.heap.size w (told wq (w.heap.size + 1) L.room (.slice la a lc) (.slice a9 4 c9) (.slice ma L.met.length mc)) := told_low bl (by omega)
        refine bodyPost_ret (v := .tuple #[RV L.room (.slice la a lc) (.slice a9 4 c9) (.slice ma L.met.length mc), .slice va (es.length - a) vc, .int .i64 0]) (by simp [results, Try.results22, go_sem, z0, z1, z2, z3]) rfl ⟨_, _, _, (es.drop a).reverse, rfl, ⟨⟨es.take a, ?_, (ents_take HE.out.2.2.1 HE.out.2.1).below hBl, fun e he => HE.out.2.2.2 e (List.mem_of_mem_take he)⟩, ?_, HH.out.m.below hBl⟩, ?_, ⟨?_, fun e he => (HE.out.2.2.1.2 e (List.mem_of_mem_drop (List.mem_reverse.1 he))).below hBl⟩, hBl, .inr ⟨_, _, _, a, rfl, rfl, HE.out.2.1⟩, NewV.own HI6.out.1 (by have := HI6.out.2; omega)⟩
        · show _ = (L.es.take a).map En.pe
          rw [List.map_take, HE.out.1, List.map_take]
        · have h2 : (told wq (w.heap.size + 1) L.room (.slice la a lc) (.slice a9 4 c9) (.slice ma L.met.length mc)).ownsRow wz.heap.size 3 1 (.slice a9 4 c9) 4 (icells ((zsv L).map (clrI a))) := iown_other HI6.out.1 fun k hk _ => told_far (by have := HI6.out.2; omega)
          have h3 := ints_in (l := (zsv L).map (clrI a)) h2
          rw [← zsv_back] at h3
          exact h3
        · rw [List.map_reverse, List.map_drop, HE.out.1, List.map_reverse, List.map_drop]
        · have h2 : (told wq (w.heap.size + 1) L.room (.slice la a lc) (.slice a9 4 c9) (.slice ma L.met.length mc)).ownsRow (w.heap.size + 2) TE 5 (.slice va (es.length - a) vc) (es.length - a) (ecells (es.drop a).reverse) := owns_told HO6.out (by omega)
          rw [← hvl] at h2 ⊢
          exact owns_in h2
  · have hs : L.s2 = some a := by simpa [Lg.get] using ha
    obtain ⟨b, o, rfl, d0⟩ := ints_at hs2 2 (show 2 < 4 by decide)
    have d1 : (zsv L)[2]'(show 2 < 4 by decide) = a := by show svI L.s2 = a; rw [hs]; rfl
    rw [d1] at d0
    have HS : Hid (Lies w (.slice (some ⟨b, o, none⟩) 4 sc) 4 (icells (zsv L))) := HH.out.s
    clear ho ha hs hs2 d1
    go_enter Try.func22, Try.ntmps22
    go_wp2_with fail
    refine Calls.mono (HC.out _ HP.out) ?_
    rintro x w3 ⟨v, rfl, ov, hp3⟩
    have hvl : (es.drop a).reverse.length = es.length - a := by rw [List.length_reverse, List.length_drop]
    rw [hvl] at ov
    obtain ⟨va, vc, rfl⟩ := owns_slice ov
    have HP4 : Hid _ := hp3.set1 (.slice la a lc)
    have HO4 : Hid _ := owns_set (b := w.heap.size) (j := 1) ov (by omega) (.slice la a lc)
    have c1 := hp3.lb.c1
    have f1 := hp3.lb.fz 1
    clear ov hp3 HP HC d0
    go_wp2_with fail
    clear c1 f1
    generalize w3.setCell ⟨w.heap.size, 1, none⟩ (.slice la a lc) = wz at *
    have H0 : Hid (FI wz.heap.size wz (((zsv L).map (clrI a)).take 0) (.slice none 0 0) ∧ Below wz.heap.size wz wz) := ⟨World.ownsRow_nil _ _ _ _, Below.refl _ _⟩
    go_loopw [9, 10] (fun v9 i wr => ∃ k : Nat, k ≤ 4 ∧ i = .int .i64 k ∧ Hid (FI wz.heap.size wr (((zsv L).map (clrI a)).take k) v9 ∧ Below wz.heap.size wz wr)) (fun _ i _ => 4 - (intOf i).toNat)
    case atStart => exact ⟨0, Nat.zero_le _, rfl, H0⟩
    case round =>
      obtain ⟨k, hk, rfl, HW⟩ := hrel
      clear H0
      obtain ⟨⟨x0, x1, x2, x3, xf⟩, ⟨z0, z1, z2, z3, zf⟩, bl, -⟩ := HP4.out.below HW.out.2
      have hl4 : (((zsv L).map (clrI a)).take k).length = k := by rw [List.length_take, List.length_map]; show min k 4 = k; omega
      rcases Nat.lt_or_ge k 4 with h1 | h1
      · have i3 : (k : Int) < 4 := by omega
        have i4 : IntKind.i64.wrap ((k : Int) + 1) = k + 1 := by rw [IntKind.wrap_i64]; omega
        have i5 : ((k : Int) + 1).toNat = k + 1 := by omega
        obtain ⟨b', o', e0, d0⟩ := ints_at (HS.out.below bl) k (show k < 4 from h1)
        cases e0
        have hN : ((zsv L).map (clrI a)).take (k + 1) = ((zsv L).map (clrI a)).take k ++ [clrI a ((zsv L)[k]'(show k < 4 from h1))] := by
          rw [List.take_succ_eq_append_getElem (by rw [List.length_map]; exact h1), List.getElem_map]
          rfl
        generalize (zsv L)[k]'(show k < 4 from h1) = z at *
        have hown0 : wr.ownsRow wz.heap.size 3 1 u9 k (icells (((zsv L).map (clrI a)).take k)) := by have := HW.out.1; unfold FI at this; rw [hl4] at this; exact this
        have hbs := HW.out.2.size
        have HJ : Hid (k < 4) := h1
        have HN : Hid _ := hN
        have HL : Hid _ := hl4
        clear hk h1 hN hl4 z0 z1 z2 z3 zf bl
        generalize ((zsv L).map (clrI a)).take k = zs at *
        by_cases h2 : (a : Int) < z
        · have HV : Hid (clrI a z = -1) := if_pos h2
          have hown : (wr.alloc (.cells #[.int .i64 (-1)] 3)).ownsRow wz.heap.size 3 1 u9 k (icells zs) := iown_other hown0 fun k _ hk => Below.heap_alloc _ _ _ hk
          have hnew : ∀ j u, [Value.int .i64 (-1)][j]? = some u → (wr.alloc (.cells #[.int .i64 (-1)] 3)).cell? ((⟨wr.heap.size, 0, none⟩ : Addr).add j) = some u := fun j u hj => by
            rw [Addr.add_lit, Nat.zero_add, cell_of_row _ wr.heap.size j _ 3 (0, 0) (heap_alloc_new wr _)]; simpa using hj
          have hk4 := HJ.out
          have HB : Hid (wr.ownsRow wz.heap.size 3 1 u9 k (icells zs) ∧ Below wz.heap.size wz wr) := ⟨hown0, HW.out.2⟩
          clear hown0 HW
          go_wp2_with (at_builtin; refine wpList_append_own_at _ rfl _ _ _ rfl wz.heap.size 3 i0 _ 1 8 Try.underlying27 I0.out.1 I0.out.2.1 I0.out.2.2.1 I0.out.2.2.2 rfl (by decide) u9 k (icells zs) rfl hown ⟨wr.heap.size, 0, none⟩ 1 1 [.int .i64 (-1)] rfl rfl hnew (by simp [Value.oneCell']) ?_ ?_ ?_ ?_)
          · unfold maxLen; omega
          · omega
          · first | omega | (simp; omega)
          · intro v' w5 ho hg _ _
            have HF : Hid (FI wz.heap.size w5 (zs ++ [-1]) v' ∧ Below wz.heap.size wz w5) := by
              have f0 : FI wz.heap.size wr zs u9 := by unfold FI; rw [HL.out]; exact HB.out.1
              have := FI.more f0 HB.out.2.size (by rw [HL.out]; exact ho) hg
              exact ⟨this.1, HB.out.2.trans this.2⟩
            rw [← HV.out, ← HN.out] at HF
            clear ho hg hown hnew d0 x0 x1 x2 x3 xf HB hbs
            go_wp2_with fail
            go_roundw
            case rel => exact ⟨k + 1, by have := HJ.out; omega, by simp, HF⟩
            case measure => have := HJ.out; simp [intOf]; omega
        · have HV : Hid (clrI a z = z) := if_neg h2
          have hown : (wr.alloc (.cells #[.int .i64 (z)] 3)).ownsRow wz.heap.size 3 1 u9 k (icells zs) := iown_other hown0 fun k _ hk => Below.heap_alloc _ _ _ hk
          have hnew : ∀ j u, [Value.int .i64 (z)][j]? = some u → (wr.alloc (.cells #[.int .i64 (z)] 3)).cell? ((⟨wr.heap.size, 0, none⟩ : Addr).add j) = some u := fun j u hj => by
            rw [Addr.add_lit, Nat.zero_add, cell_of_row _ wr.heap.size j _ 3 (0, 0) (heap_alloc_new wr _)]; simpa using hj
          have hk4 := HJ.out
          have HB : Hid (wr.ownsRow wz.heap.size 3 1 u9 k (icells zs) ∧ Below wz.heap.size wz wr) := ⟨hown0, HW.out.2⟩
          clear hown0 HW
          go_wp2_with (at_builtin; refine wpList_append_own_at _ rfl _ _ _ rfl wz.heap.size 3 i0 _ 1 8 Try.underlying27 I0.out.1 I0.out.2.1 I0.out.2.2.1 I0.out.2.2.2 rfl (by decide) u9 k (icells zs) rfl hown ⟨wr.heap.size, 0, none⟩ 1 1 [.int .i64 (z)] rfl rfl hnew (by simp [Value.oneCell']) ?_ ?_ ?_ ?_)
          · unfold maxLen; omega
          · omega
          · first | omega | (simp; omega)
          · intro v' w5 ho hg _ _
            have HF : Hid (FI wz.heap.size w5 (zs ++ [z]) v' ∧ Below wz.heap.size wz w5) := by
              have f0 : FI wz.heap.size wr zs u9 := by unfold FI; rw [HL.out]; exact HB.out.1
              have := FI.more f0 HB.out.2.size (by rw [HL.out]; exact ho) hg
              exact ⟨this.1, HB.out.2.trans this.2⟩
            rw [← HV.out, ← HN.out] at HF
            clear ho hg hown hnew d0 x0 x1 x2 x3 xf HB hbs
            go_wp2_with fail
            go_roundw
            case rel => exact ⟨k + 1, by have := HJ.out; omega, by simp, HF⟩
            case measure => have := HJ.out; simp [intOf]; omega
      · obtain rfl : k = 4 := by omega
        have HF : Hid (FI wz.heap.size wr ((zsv L).map (clrI a)) u9 ∧ Below wz.heap.size wz wr) := HW.out
        obtain ⟨a9, c9, rfl⟩ : ∃ a9 c9, u9 = .slice a9 4 c9 := owns_slice HF.out.1
        have HP6 : Hid _ := (HP4.out.below HF.out.2).set2 (.slice a9 4 c9)
        have HO6 : Hid _ := owns_set (b := w.heap.size) (j := 2) (owns_below HO4.out HF.out.2) (by omega) (.slice a9 4 c9)
        have HI6 : Hid ((wr.setCell ⟨w.heap.size, 2, none⟩ (.slice a9 4 c9)).ownsRow wz.heap.size 3 1 (.slice a9 4 c9) 4 (icells ((zsv L).map (clrI a))) ∧ w.heap.size + 2 ≤ wz.heap.size) := ⟨iown_other HF.out.1 fun k hk _ => Below.heap_setCell _ _ _ _ (by have := HP4.out.sz; simp only; omega), HP4.out.sz⟩
        clear HW hk h1 hl4 bl
        go_wp2_with fail
        clear x0 x1 x2 x3 xf z0 z1 z2 z3 zf
        generalize wr.setCell ⟨w.heap.size, 2, none⟩ (.slice a9 4 c9) = wq at *
        obtain ⟨-, ⟨z0, z1, z2, z3, zf⟩, bl, sz⟩ := HP6.out
        have hBl : Below w.heap.size w (told wq (w.heap.size + 1) L.room (.slice la a lc) (.slice a9 4 c9) (.slice ma L.met.length mc)) := told_low bl (by omega)
        refine bodyPost_ret (v := .tuple #[RV L.room (.slice la a lc) (.slice a9 4 c9) (.slice ma L.met.length mc), .slice va (es.length - a) vc, .int .i64 0]) (by simp [results, Try.results22, go_sem, z0, z1, z2, z3]) rfl ⟨_, _, _, (es.drop a).reverse, rfl, ⟨⟨es.take a, ?_, (ents_take HE.out.2.2.1 HE.out.2.1).below hBl, fun e he => HE.out.2.2.2 e (List.mem_of_mem_take he)⟩, ?_, HH.out.m.below hBl⟩, ?_, ⟨?_, fun e he => (HE.out.2.2.1.2 e (List.mem_of_mem_drop (List.mem_reverse.1 he))).below hBl⟩, hBl, .inr ⟨_, _, _, a, rfl, rfl, HE.out.2.1⟩, NewV.own HI6.out.1 (by have := HI6.out.2; omega)⟩
        · show _ = (L.es.take a).map En.pe
          rw [List.map_take, HE.out.1, List.map_take]
        · have h2 : (told wq (w.heap.size + 1) L.room (.slice la a lc) (.slice a9 4 c9) (.slice ma L.met.length mc)).ownsRow wz.heap.size 3 1 (.slice a9 4 c9) 4 (icells ((zsv L).map (clrI a))) := iown_other HI6.out.1 fun k hk _ => told_far (by have := HI6.out.2; omega)
          have h3 := ints_in (l := (zsv L).map (clrI a)) h2
          rw [← zsv_back] at h3
          exact h3
        · rw [List.map_reverse, List.map_drop, HE.out.1, List.map_reverse, List.map_drop]
        · have h2 : (told wq (w.heap.size + 1) L.room (.slice la a lc) (.slice a9 4 c9) (.slice ma L.met.length mc)).ownsRow (w.heap.size + 2) TE 5 (.slice va (es.length - a) vc) (es.length - a) (ecells (es.drop a).reverse) := owns_told HO6.out (by omega)
          rw [← hvl] at h2 ⊢
          exact owns_in h2
  · have hs : L.s3 = some a := by simpa [Lg.get] using ha
    obtain ⟨b, o, rfl, d0⟩ := ints_at hs2 3 (show 3 < 4 by decide)
    have d1 : (zsv L)[3]'(show 3 < 4 by decide) = a := by show svI L.s3 = a; rw [hs]; rfl
    rw [d1] at d0
    have HS : Hid (Lies w (.slice (some ⟨b, o, none⟩) 4 sc) 4 (icells (zsv L))) := HH.out.s
    clear ho ha hs hs2 d1
    go_enter Try.func22, Try.ntmps22
    go_wp2_with fail
    refine Calls.mono (HC.out _ HP.out) ?_
    rintro x w3 ⟨v, rfl, ov, hp3⟩
    have hvl : (es.drop a).reverse.length = es.length - a := by rw [List.length_reverse, List.length_drop]
    rw [hvl] at ov
    obtain ⟨va, vc, rfl⟩ := owns_slice ov
    have HP4 : Hid _ := hp3.set1 (.slice la a lc)
    have HO4 : Hid _ := owns_set (b := w.heap.size) (j := 1) ov (by omega) (.slice la a lc)
    have c1 := hp3.lb.c1
    have f1 := hp3.lb.fz 1
    clear ov hp3 HP HC d0
    go_wp2_with fail
    clear c1 f1
    generalize w3.setCell ⟨w.heap.size, 1, none⟩ (.slice la a lc) = wz at *
    have H0 : Hid (FI wz.heap.size wz (((zsv L).map (clrI a)).take 0) (.slice none 0 0) ∧ Below wz.heap.size wz wz) := ⟨World.ownsRow_nil _ _ _ _, Below.refl _ _⟩
    go_loopw [9, 10] (fun v9 i wr => ∃ k : Nat, k ≤ 4 ∧ i = .int .i64 k ∧ Hid (FI wz.heap.size wr (((zsv L).map (clrI a)).take k) v9 ∧ Below wz.heap.size wz wr)) (fun _ i _ => 4 - (intOf i).toNat)
    case atStart => exact ⟨0, Nat.zero_le _, rfl, H0⟩
    case round =>
      obtain ⟨k, hk, rfl, HW⟩ := hrel
      clear H0
      obtain ⟨⟨x0, x1, x2, x3, xf⟩, ⟨z0, z1, z2, z3, zf⟩, bl, -⟩ := HP4.out.below HW.out.2
      have hl4 : (((zsv L).map (clrI a)).take k).length = k := by rw [List.length_take, List.length_map]; show min k 4 = k; omega
      rcases Nat.lt_or_ge k 4 with h1 | h1
      · have i3 : (k : Int) < 4 := by omega
        have i4 : IntKind.i64.wrap ((k : Int) + 1) = k + 1 := by rw [IntKind.wrap_i64]; omega
        have i5 : ((k : Int) + 1).toNat = k + 1 := by omega
        obtain ⟨b', o', e0, d0⟩ := ints_at (HS.out.below bl) k (show k < 4 from h1)
        cases e0
        have hN : ((zsv L).map (clrI a)).take (k + 1) = ((zsv L).map (clrI a)).take k ++ [clrI a ((zsv L)[k]'(show k < 4 from h1))] := by
          rw [List.take_succ_eq_append_getElem (by rw [List.length_map]; exact h1), List.getElem_map]
          rfl
        generalize (zsv L)[k]'(show k < 4 from h1) = z at *
        have hown0 : wr.ownsRow wz.heap.size 3 1 u9 k (icells (((zsv L).map (clrI a)).take k)) := by have := HW.out.1; unfold FI at this; rw [hl4] at this; exact this
        have hbs := HW.out.2.size
        have HJ : Hid (k < 4) := h1
        have HN : Hid _ := hN
        have HL : Hid _ := hl4
        clear hk h1 hN hl4 z0 z1 z2 z3 zf bl
        generalize ((zsv L).map (clrI a)).take k = zs at *
        by_cases h2 : (a : Int) < z
        · have HV : Hid (clrI a z = -1) := if_pos h2
          have hown : (wr.alloc (.cells #[.int .i64 (-1)] 3)).ownsRow wz.heap.size 3 1 u9 k (icells zs) := iown_other hown0 fun k _ hk => Below.heap_alloc _ _ _ hk
          have hnew : ∀ j u, [Value.int .i64 (-1)][j]? = some u → (wr.alloc (.cells #[.int .i64 (-1)] 3)).cell? ((⟨wr.heap.size, 0, none⟩ : Addr).add j) = some u := fun j u hj => by
            rw [Addr.add_lit, Nat.zero_add, cell_of_row _ wr.heap.size j _ 3 (0, 0) (heap_alloc_new wr _)]; simpa using hj
          have hk4 := HJ.out
          have HB : Hid (wr.ownsRow wz.heap.size 3 1 u9 k (icells zs) ∧ Below wz.heap.size wz wr) := ⟨hown0, HW.out.2⟩
          clear hown0 HW
          go_wp2_with (at_builtin; refine wpList_append_own_at _ rfl _ _ _ rfl wz.heap.size 3 i0 _ 1 8 Try.underlying27 I0.out.1 I0.out.2.1 I0.out.2.2.1 I0.out.2.2.2 rfl (by decide) u9 k (icells zs) rfl hown ⟨wr.heap.size, 0, none⟩ 1 1 [.int .i64 (-1)] rfl rfl hnew (by simp [Value.oneCell']) ?_ ?_ ?_ ?_)
          · unfold maxLen; omega
          · omega
          · first | omega | (simp; omega)
          · intro v' w5 ho hg _ _
            have HF : Hid (FI wz.heap.size w5 (zs ++ [-1]) v' ∧ Below wz.heap.size wz w5) := by
              have f0 : FI wz.heap.size wr zs u9 := by unfold FI; rw [HL.out]; exact HB.out.1
              have := FI.more f0 HB.out.2.size (by rw [HL.out]; exact ho) hg
              exact ⟨this.1, HB.out.2.trans this.2⟩
            rw [← HV.out, ← HN.out] at HF
            clear ho hg hown hnew d0 x0 x1 x2 x3 xf HB hbs
            go_wp2_with fail
            go_roundw
            case rel => exact ⟨k + 1, by have := HJ.out; omega, by simp, HF⟩
            case measure => have := HJ.out; simp [intOf]; omega
        · have HV : Hid (clrI a z = z) := if_neg h2
          have hown : (wr.alloc (.cells #[.int .i64 (z)] 3)).ownsRow wz.heap.size 3 1 u9 k (icells zs) := iown_other hown0 fun k _ hk => Below.heap_alloc _ _ _ hk
          have hnew : ∀ j u, [Value.int .i64 (z)][j]? = some u → (wr.alloc (.cells #[.int .i64 (z)] 3)).cell? ((⟨wr.heap.size, 0, none⟩ : Addr).add j) = some u := fun j u hj => by
            rw [Addr.add_lit, Nat.zero_add, cell_of_row _ wr.heap.size j _ 3 (0, 0) (heap_alloc_new wr _)]; simpa using hj
          have hk4 := HJ.out
          have HB : Hid (wr.ownsRow wz.heap.size 3 1 u9 k (icells zs) ∧ Below wz.heap.size wz wr) := ⟨hown0, HW.out.2⟩
          clear hown0 HW
          go_wp2_with (at_builtin; refine wpList_append_own_at _ rfl _ _ _ rfl wz.heap.size 3 i0 _ 1 8 Try.underlying27 I0.out.1 I0.out.2.1 I0.out.2.2.1 I0.out.2.2.2 rfl (by decide) u9 k (icells zs) rfl hown ⟨wr.heap.size, 0, none⟩ 1 1 [.int .i64 (z)] rfl rfl hnew (by simp [Value.oneCell']) ?_ ?_ ?_ ?_)
          · unfold maxLen; omega
          · omega
          · first | omega | (simp; omega)
          · intro v' w5 ho hg _ _
            have HF : Hid (FI wz.heap.size w5 (zs ++ [z]) v' ∧ Below wz.heap.size wz w5) := by
              have f0 : FI wz.heap.size wr zs u9 := by unfold FI; rw [HL.out]; exact HB.out.1
              have := FI.more f0 HB.out.2.size (by rw [HL.out]; exact ho) hg
              exact ⟨this.1, HB.out.2.trans this.2⟩
            rw [← HV.out, ← HN.out] at HF
            clear ho hg hown hnew d0 x0 x1 x2 x3 xf HB hbs
            go_wp2_with fail
            go_roundw
            case rel => exact ⟨k + 1, by have := HJ.out; omega, by simp, HF⟩
            case measure => have := HJ.out; simp [intOf]; omega
      · obtain rfl : k = 4 := by omega
        have HF : Hid (FI wz.heap.size wr ((zsv L).map (clrI a)) u9 ∧ Below wz.heap.size wz wr) := HW.out
        obtain ⟨a9, c9, rfl⟩ : ∃ a9 c9, u9 = .slice a9 4 c9 := owns_slice HF.out.1
        have HP6 : Hid _ := (HP4.out.below HF.out.2).set2 (.slice a9 4 c9)
        have HO6 : Hid _ := owns_set (b := w.heap.size) (j := 2) (owns_below HO4.out HF.out.2) (by omega) (.slice a9 4 c9)
        have HI6 : Hid ((wr.setCell ⟨w.heap.size, 2, none⟩ (.slice a9 4 c9)).ownsRow wz.heap.size 3 1 (.slice a9 4 c9) 4 (icells ((zsv L).map (clrI a))) ∧ w.heap.size + 2 ≤ wz.heap.size) := ⟨iown_other HF.out.1 fun k hk _ => Below.heap_setCell _ _ _ _ (by have := HP4.out.sz; simp only; omega), HP4.out.sz⟩
        clear HW hk h1 hl4 bl
        go_wp2_with fail
        clear x0 x1 x2 x3 xf z0 z1 z2 z3 zf
        generalize wr.setCell ⟨w.heap.size, 2, none⟩ (.slice a9 4 c9) = wq at *
        obtain ⟨-, ⟨z0, z1, z2, z3, zf⟩, bl, sz⟩ := HP6.out
        have hBl : Below w.heap.size w (told wq (w.heap.size + 1) L.room (.slice la a lc) (.slice a9 4 c9) (.slice ma L.met.length mc)) := told_low bl (by omega)
        refine bodyPost_ret (v := .tuple #[RV L.room (.slice la a lc) (.slice a9 4 c9) (.slice ma L.met.length mc), .slice va (es.length - a) vc, .int .i64 0]) (by simp [results, Try.results22, go_sem, z0, z1, z2, z3]) rfl ⟨_, _, _, (es.drop a).reverse, rfl, ⟨⟨es.take a, ?_, (ents_take HE.out.2.2.1 HE.out.2.1).below hBl, fun e he => HE.out.2.2.2 e (List.mem_of_mem_take he)⟩, ?_, HH.out.m.below hBl⟩, ?_, ⟨?_, fun e he => (HE.out.2.2.1.2 e (List.mem_of_mem_drop (List.mem_reverse.1 he))).below hBl⟩, hBl, .inr ⟨_, _, _, a, rfl, rfl, HE.out.2.1⟩, NewV.own HI6.out.1 (by have := HI6.out.2; omega)⟩
        · show _ = (L.es.take a).map En.pe
          rw [List.map_take, HE.out.1, List.map_take]
        · have h2 : (told wq (w.heap.size + 1) L.room (.slice la a lc) (.slice a9 4 c9) (.slice ma L.met.length mc)).ownsRow wz.heap.size 3 1 (.slice a9 4 c9) 4 (icells ((zsv L).map (clrI a))) := iown_other HI6.out.1 fun k hk _ => told_far (by have := HI6.out.2; omega)
          have h3 := ints_in (l := (zsv L).map (clrI a)) h2
          rw [← zsv_back] at h3
          exact h3
        · rw [List.map_reverse, List.map_drop, HE.out.1, List.map_reverse, List.map_drop]
        · have h2 : (told wq (w.heap.size + 1) L.room (.slice la a lc) (.slice a9 4 c9) (.slice ma L.met.length mc)).ownsRow (w.heap.size + 2) TE 5 (.slice va (es.length - a) vc) (es.length - a) (ecells (es.drop a).reverse) := owns_told HO6.out (by omega)
          rw [← hvl] at h2 ⊢
          exact owns_in h2
end Go.Proofs.Ytbfoplaccalegaa.Val
