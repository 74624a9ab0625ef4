/- What the reference's Push answers. -/
import Derived.Test.YtbfoplaccalegaaUndoRefB
import Derived.Test.YtbfoplaccalegaaUndoMetP
import Derived.BigRegion
import Derived.BigQuiet
import Derived.Deep.QuietTactic
import Derived.WalkSmall
namespace Go.Proofs.Ytbfoplaccalegaa.Val
open Go Go.RowKit

variable {R : Value → List Val → Prop}
theorem rpush_full (w : World) (lv sv mv : Value) (L : Lg) (h : RL R w lv sv mv L) (e : En) (hr : RowIn w e.r e.xs) (hf : L.room ≤ L.es.length) :
    Calls Try.prog 20 #[RV L.room lv sv mv, e.val] w fun x w' => x = .returned (.tuple #[RV L.room lv sv mv, .int .i64 62]) ∧ Below w.heap.size w w' := by
  have HP : Hid _ := PS.start w L.room lv sv mv e
  obtain ⟨es, epe, hes, hrr⟩ := h.l
  obtain ⟨la, lc, rfl, -⟩ := hes.1.slice
  obtain ⟨sa, sc, rfl, -⟩ := h.s.slice
  obtain ⟨ma, mc, rfl, -⟩ := h.m.1.slice
  obtain ⟨ra, rc, hra, -⟩ := hr.slice
  have hlen := pe_len epe
  have i1 : (L.room : Int) ≤ es.length := by omega
  have hx : e.val = .agg #[.int .i64 e.t, .bool e.k.t, .int .i64 e.k.n, .string e.k.s, .slice ra e.xs.length rc] := by rw [← hra]
  rw [eobj, hra] at HP
  rw [hx]
  clear h hes hrr hr hlen epe hf hra hx
  go_enter Try.func20, Try.ntmps20
  go_wp2_with fail
  refine bodyPost_ret (v := .tuple #[RV L.room (.slice la es.length lc) (.slice sa 4 sc) (.slice ma L.met.length mc), .int .i64 62]) (by simp [results, Try.results20, go_sem]) rfl ⟨by rw [List.length_map], ?_⟩
  exact (((Below.refl _ _).alloc (Nat.le_refl _) _).alloc (by simp) _).alloc (by simp; omega) _
theorem own_block {w : World} {B m n : Nat} {v : Value} {xs : List Value} (h : w.ownsRow B TE m v n xs) : ∀ k, v.ownBlock = some k → B ≤ k := fun k hk => by
  rcases h.2 with ⟨e1, _⟩ | ⟨q, cap, cur, e1, hB, _⟩
  · rw [e1] at hk; cases hk
  · rw [e1] at hk
    have hq : q = k := Option.some.inj hk
    omega
theorem owns_set {w : World} {B b j n : Nat} {v : Value} {xs : List Value} (h : w.ownsRow B TE 5 v n xs) (hb : b < B) (u : Value) : (w.setCell ⟨b, j, none⟩ u).ownsRow B TE 5 v n xs :=
  owns_block h fun k hk => Below.heap_setCell _ _ _ _ (by have := own_block h k hk; simp only; omega)
theorem owns_below {w w' : World} {B : Nat} {v : Value} {n : Nat} {xs : List Value} (h : w.ownsRow B TE 5 v n xs) (hb : Below w.heap.size w w') : w'.ownsRow B TE 5 v n xs :=
  owns_block h fun k hk => hb.block k (by
    rcases h.2 with ⟨e1, _⟩ | ⟨q, cap, cur, e1, _, hq, _⟩
    · rw [e1] at hk; cases hk
    · rw [e1] at hk; cases hk; exact (Array.getElem?_eq_some_iff.1 hq).1)
theorem own_low {w4 w5 : World} {B n : Nat} {v : Value} {xs : List Value} {o : Obj} (h : w4.ownsRow B TE 5 v n xs) (hs : B ≤ w4.heap.size) (hg : (w4.alloc o).grownBy w5 v.ownBlock) : Below B w4 w5 :=
  ((Below.refl B w4).alloc hs o).grown hg (by simp; omega) (own_block h)
theorem owns_slice {w : World} {B n m : Nat} {T : TypeId} {v : Value} {xs : List Value} (h : w.ownsRow B T m v n xs) : ∃ ao c, v = .slice ao n c := by
  rcases h.2 with ⟨e1, e2⟩ | ⟨q, cap, cur, e1, _⟩
  · exact ⟨none, 0, by rw [e1, e2]⟩
  · exact ⟨_, cap, e1⟩
/-- What a log is behind a push: the entries are the call's own. -/
theorem RL.push {w wf : World} {la : Value} {sv mv v2 mv2 : Value} {L : Lg} {es : List En} {e : En} {B : Nat} (h : RL R w la sv mv L) (epe : es.map En.pe = L.es.map En.pe) (rows : ∀ x ∈ es ++ [e], RowIn w x.r x.xs ∧ R x.r x.xs) (hb : Below w.heap.size w wf)
    (ho : wf.ownsRow B TE 5 v2 (es.length + 1) (ecells (es ++ [e]))) (hl : L.es.length < L.room) (hm : EntsIn wf mv2 ((L.meet (e.t, e.k)).met.map touE)) : RL R wf v2 sv mv2 (L.push e) := by
  have hp : L.push e = { L.meet (e.t, e.k) with es := L.es ++ [e] } := by rw [Lg.push, if_pos hl]
  have hme := meet_es L (e.t, e.k)
  rw [hp]
  have ho' : wf.ownsRow B TE 5 v2 (es ++ [e]).length (ecells (es ++ [e])) := by rw [List.length_append]; exact ho
  refine ⟨⟨es ++ [e], by simp [epe], ⟨owns_in ho', fun x hx => (rows x hx).1.below hb⟩, fun x hx => (rows x hx).2⟩, ?_, hm⟩
  show Lies wf sv 4 [.int .i64 (-1), .int .i64 (svI (L.meet (e.t, e.k)).s1), .int .i64 (svI (L.meet (e.t, e.k)).s2), .int .i64 (svI (L.meet (e.t, e.k)).s3)]
  rw [hme.2.2.1, hme.2.2.2.1, hme.2.2.2.2]
  exact h.s.below hb
set_option maxHeartbeats 2000000 in
theorem rpush_room (w : World) (lv sv mv : Value) (L : Lg) (h : RL R w lv sv mv L) (e : En) (hr : RowIn w e.r e.xs) (hR : R e.r e.xs) (hl : L.es.length < L.room) (hn : L.es.length ≤ 500) (hm : L.met.length ≤ 500) :
    Calls Try.prog 20 #[RV L.room lv sv mv, e.val] w fun x w' => ∃ lv' sv' mv', x = .returned (.tuple #[RV L.room lv' sv' mv', .int .i64 0]) ∧ RL R w' lv' sv' mv' (L.push e) ∧ Below w.heap.size w w' ∧ Src w lv lv' ∧ Src w sv sv' ∧ Src w mv mv' := by
  obtain ⟨et, ek, exs, er⟩ := e
  obtain ⟨ra, rc, hra, -⟩ := hr.slice
  simp only at hra
  subst hra
  obtain ⟨es, epe, hes, hrr⟩ := h.l
  obtain ⟨la, lc, rfl, -⟩ := hes.1.slice
  obtain ⟨sa, sc, rfl, -⟩ := h.s.slice
  obtain ⟨ma, mc, hma, -⟩ := h.m.1.slice
  rw [List.length_map] at hma
  subst hma
  obtain ⟨i0, hi, hz0, hz1, hz2⟩ := info_parts info_E
  have I0 : Hid _ := And.intro hi (And.intro hz0 (And.intro hz1 hz2))
  have hlen := pe_len epe
  have i1 : (es.length : Int) < L.room := by omega
  have hone : ∀ u ∈ En.cells ⟨et, ek, exs, .slice ra exs.length rc⟩, u.oneCell' = true := by
    have := ents_one (l := [⟨et, ek, exs, .slice ra exs.length rc⟩]) (by simpa using hr)
    simpa [ecells] using this
  have HP : Hid (PS w (((w.alloc (robj L.room (.slice la es.length lc) (.slice sa 4 sc) (.slice ma L.met.length mc))).alloc (.cells #[.int .i64 et, .bool ek.t, .int .i64 ek.n, .string ek.s, .slice ra exs.length rc] TE)).alloc (robj 0 (.slice none 0 0) (.slice none 0 0) (.slice none 0 0))) L.room (.slice la es.length lc) (.slice sa 4 sc) (.slice ma L.met.length mc) ⟨et, ek, exs, .slice ra exs.length rc⟩) := PS.start w L.room _ _ _ ⟨et, ek, exs, .slice ra exs.length rc⟩
  have hes3 := hes.below HP.out.bl
  have hle : es.length ≤ 1000 := by omega
  have HR : Hid (∀ x ∈ es ++ [(⟨et, ek, exs, .slice ra exs.length rc⟩ : En)], RowIn w x.r x.xs ∧ R x.r x.xs) := fun x hx => by
    rcases List.mem_append.1 hx with hx | hx
    · exact ⟨hes.2 x hx, hrr x hx⟩
    · rw [List.mem_singleton.1 hx]; exact ⟨hr, hR⟩
  have HE : Hid (es.map En.pe = L.es.map En.pe ∧ es.length ≤ 500 ∧ L.met.length ≤ 500 ∧ L.es.length < L.room) := ⟨epe, by omega, hm, hl⟩
  have HH : Hid (RL R w (.slice la es.length lc) (.slice sa 4 sc) (.slice ma L.met.length mc) L) := h
  clear h hes hrr hR epe hr hlen hl hm hn hi hz0 hz1 hz2
  go_enter Try.func20, Try.ntmps20
  go_wp2_with (at_builtin; refine wpList_append_ents rfl _ _ _ rfl Try.underlying26 _ es rfl rfl hes3 hle ?_)
  intro v1 w4 ho1 hb1
  have HP4 : Hid _ := HP.out.low hb1 (by omega)
  have HO4 : Hid (w4.ownsRow (w.heap.size + 3) TE 5 v1 es.length (ecells es)) := by
    rw [show w.heap.size + 1 + 1 + 1 = w.heap.size + 3 by omega] at ho1
    exact ho1
  clear ho1 hb1 hes3 HP
  obtain ⟨d0, d1, d2, d3, d4⟩ := HP4.out.eb.cells
  simp only at d0 d1 d2 d3 d4
  have hown := owns_alloc HO4.out (.cells #[.int .i64 et, .bool ek.t, .int .i64 ek.n, .string ek.s, .slice ra exs.length rc] TE)
  have hnew := ents_new2 w4 ⟨et, ek, exs, .slice ra exs.length rc⟩ ra _ rc rfl
  have hsz := HP4.out.sz
  go_wp2_with (at_builtin; refine wpList_append_own_at _ rfl _ _ _ rfl (w.heap.size + 3) TE i0 _ 5 64 Try.underlying26 I0.out.1 I0.out.2.1 I0.out.2.2.1 I0.out.2.2.2 rfl (by decide) v1 es.length (ecells es) rfl hown ⟨w4.heap.size, 0, none⟩ 1 1 (En.cells ⟨et, ek, exs, .slice ra exs.length rc⟩) rfl rfl hnew hone ?_ ?_ ?_ ?_)
  · unfold maxLen; omega
  · omega
  · omega
  intro v2 w5 ho2 hg2 _ _
  have HP5 : Hid _ := HP4.out.low (own_low HO4.out hsz hg2) (Nat.le_refl _)
  have HO5 : Hid (w5.ownsRow (w.heap.size + 3) TE 5 v2 (es.length + 1) (ecells (es ++ [(⟨et, ek, exs, .slice ra exs.length rc⟩ : En)]))) := by
    rw [show ecells (es ++ [(⟨et, ek, exs, .slice ra exs.length rc⟩ : En)]) = ecells es ++ En.cells ⟨et, ek, exs, .slice ra exs.length rc⟩ by simp [ecells]]; exact ho2
  clear ho2 hg2 hown hnew hsz d0 d1 d2 d3 d4 HP4 HO4
  obtain ⟨a2, c2, rfl⟩ := owns_slice HO5.out
  have c1 := HP5.out.lb.c1
  have f1 := HP5.out.lb.fz 1
  go_wp2_with fail
  have HP6 : Hid _ := HP5.out.set1 (.slice a2 (es.length + 1) c2)
  have HO6 : Hid _ := owns_set (j := 1) HO5.out (show w.heap.size < w.heap.size + 3 by omega) (.slice a2 (es.length + 1) c2)
  clear c1 f1 HP5 HO5
  generalize w5.setCell ⟨w.heap.size, 1, none⟩ (.slice a2 (es.length + 1) c2) = w6 at *
  have H0 : Hid (inMet (L.met.take 0) (et, ek) = false) := rfl
  go_loopw [7] (fun i wr => ∃ k : Nat, k ≤ L.met.length ∧ i = .int .i64 k ∧ Hid (inMet (L.met.take k) (et, ek) = false) ∧ Hid (PS w wr L.room (.slice a2 (es.length + 1) c2) (.slice sa 4 sc) (.slice ma L.met.length mc) ⟨et, ek, exs, .slice ra exs.length rc⟩ ∧ wr.ownsRow (w.heap.size + 3) TE 5 (.slice a2 (es.length + 1) c2) (es.length + 1) (ecells (es ++ [(⟨et, ek, exs, .slice ra exs.length rc⟩ : En)])))) (fun i _ => L.met.length - (intOf i).toNat)
  case atStart => exact ⟨0, Nat.zero_le _, rfl, H0, HP6.out, HO6.out⟩
  case round =>
    obtain ⟨k, hk, rfl, HI, HQ⟩ := hrel
    clear HP6 HO6 H0
    obtain ⟨x0, x1, x2, x3, xf⟩ := HQ.out.1.lb
    rcases Nat.lt_or_ge k L.met.length with h1 | h1
    · have i2 : (k : Int) < L.met.length := by omega
      have i3 : IntKind.i64.wrap ((k : Int) + 1) = k + 1 := by have := HE.out.2.2.1; rw [IntKind.wrap_i64]; omega
      have i4 : ((k : Int) + 1).toNat = k + 1 := by omega
      have hmm := (HH.out.m.below HQ.out.1.bl).1
      obtain ⟨b, o, rfl, d0, d1, d2, d3, -⟩ := ents_at hmm k (by simpa using h1)
      simp only [List.getElem_map, touE] at d0 d1 d2 d3
      obtain ⟨e0, e1, e2, e3, -⟩ := HQ.out.1.eb.cells
      simp only at e0 e1 e2 e3
      have hN : inMet (L.met.take (k + 1)) (et, ek) = (inMet (L.met.take k) (et, ek) || (L.met[k].1 == et && eqV L.met[k].2 ek)) := by
        rw [← List.take_append_getElem h1, inMet, inMet, List.any_append]; simp
      have hql := eql_V L.met[k].2 ek
      have hin : L.met[k] ∈ L.met := List.getElem_mem h1
      generalize L.met[k] = s at *
      rw [HI.out, Bool.false_or] at hN
      have HJ : Hid (k < L.met.length) := h1
      have HQd : Hid _ := fun n => And.intro (HQ.out.1.below (below_drewN (Below.refl _ _) n)) (owns_below HQ.out.2 (below_drewN (Below.refl _ _) n))
      clear hk h1 hmm HI
      by_cases h2 : s.1 = et
      · cases h3 : eqV s.2 ek
        · have HN : Hid (inMet (L.met.take (k + 1)) (et, ek) = false) := hN.trans (by rw [h3]; simp)
          rw [h2] at d0
          rw [h3] at hql
          clear hN h2 h3 hin x0 x1 x2 xf
          go_wp2
          go_quiet (fail)
          go_wp2
          go_roundw
          case rel => exact ⟨k + 1, HJ.out, by simp, HN, HQd.out _⟩
          case measure => have := HJ.out; simp [intOf]; omega
        · have HN : Hid (inMet L.met (et, ek) = true) := inMet_iff.2 (by
            have : s = (et, ek) := Prod.ext h2 (eqV_iff.1 h3)
            rwa [← this])
          rw [h2] at d0
          rw [h3] at hql
          clear hN h2 h3 hin
          go_wp2
          go_quiet (fail)
          have hq := HQd.out nq
          clear HQd HQ x0 x1 x2 x3 xf d0 d1 d2 d3 e0 e1 e2 e3 hql
          generalize wr.drewN nq = wz at *
          obtain ⟨⟨⟨x0, x1, x2, x3, -⟩, -, ⟨z0, z1, z2, z3, zf⟩, bl, sz⟩, ho⟩ := hq
          have y0 : wz.cell? ⟨w.heap.size + 1 + 1, 0, none⟩ = _ := z0
          have y1 : wz.cell? ⟨w.heap.size + 1 + 1, 1, none⟩ = _ := z1
          have y2 : wz.cell? ⟨w.heap.size + 1 + 1, 2, none⟩ = _ := z2
          have y3 : wz.cell? ⟨w.heap.size + 1 + 1, 3, none⟩ = _ := z3
          have yf : ∀ j, wz.frozen? ⟨w.heap.size + 1 + 1, j, none⟩ = false := zf
          clear z0 z1 z2 z3 zf
          have HZ : Hid (Below w.heap.size w (told wz (w.heap.size + 2) L.room (.slice a2 (es.length + 1) c2) (.slice sa 4 sc) (.slice (some ⟨b, o, none⟩) L.met.length mc)) ∧ (told wz (w.heap.size + 2) L.room (.slice a2 (es.length + 1) c2) (.slice sa 4 sc) (.slice (some ⟨b, o, none⟩) L.met.length mc)).ownsRow (w.heap.size + 3) TE 5 (.slice a2 (es.length + 1) c2) (es.length + 1) (ecells (es ++ [(⟨et, ek, exs, .slice ra exs.length rc⟩ : En)]))) := ⟨told_low bl (by omega), owns_told ho (by omega)⟩
          clear bl sz ho
          go_wp2_with fail
          refine bodyPost_ret (v := .tuple #[RV L.room (.slice a2 (es.length + 1) c2) (.slice sa 4 sc) (.slice (some ⟨b, o, none⟩) L.met.length mc), .int .i64 0]) (by simp [results, Try.results20, go_sem, y0, y1, y2, y3]) rfl ⟨_, _, _, rfl, ?_, HZ.out.1, .inl (NewV.own HZ.out.2 (by omega)), Src.same, Src.same⟩
          refine HH.out.push HE.out.1 HR.out HZ.out.1 HZ.out.2 HE.out.2.2.2 ?_
          have hme : (L.meet (et, ek)).met = L.met := by unfold Lg.meet; rw [if_pos HN.out]
          show EntsIn _ _ ((L.meet (et, ek)).met.map touE)
          rw [hme]; exact HH.out.m.below HZ.out.1
      · have h4 : (s.1 == et) = false := by simpa using h2
        have HN : Hid (inMet (L.met.take (k + 1)) (et, ek) = false) := hN.trans (by rw [h4]; simp)
        clear hN h2 hin x0 x1 x2 xf
        go_wp2
        go_quiet (fail)
        go_wp2
        go_roundw
        case rel => exact ⟨k + 1, HJ.out, by simp, HN, HQd.out _⟩
        case measure => have := HJ.out; simp [intOf]; omega
    · obtain rfl : k = L.met.length := by omega
      rw [List.take_length] at HI
      have hmet := HH.out.m.below HQ.out.1.bl
      have hml : (L.met.map touE).length ≤ 1000 := by rw [List.length_map]; have := HE.out.2.2.1; omega
      clear hk h1
      go_wp2_with (at_builtin; refine wpList_append_ents rfl _ _ _ rfl Try.underlying26 _ (L.met.map touE) rfl rfl hmet hml ?_)
      intro vm w7 hom hb7
      have hom1 : w7.ownsRow wr.heap.size TE 5 vm L.met.length (ecells (L.met.map touE)) := by simpa using hom
      have hown := owns_alloc hom1 (eobj (touE (et, ek)))
      have hnew := ents_new w7 (touE (et, ek))
      have hone2 : ∀ u ∈ En.cells (touE (et, ek)), u.oneCell' = true := by
        have := tou_one [(et, ek)]
        simpa [ecells] using this
      obtain ⟨d0, d1, d2, d3, -⟩ := (HQ.out.1.below hb7).eb.cells
      simp only at d0 d1 d2 d3
      have HB7 : Hid (Below wr.heap.size wr w7 ∧ w7.ownsRow wr.heap.size TE 5 vm L.met.length (ecells (L.met.map touE))) := ⟨hb7, hom1⟩
      have hs7 := hb7.size
      have hmm := HE.out.2.2.1
      clear hom hom1 hb7 x0 x1 x2 x3 xf hmet hml hone
      go_wp2_with (at_builtin; refine wpList_append_own_at _ rfl _ _ _ rfl wr.heap.size TE i0 _ 5 64 Try.underlying26 I0.out.1 I0.out.2.1 I0.out.2.2.1 I0.out.2.2.2 rfl (by decide) vm L.met.length (ecells (L.met.map touE)) rfl hown ⟨w7.heap.size, 0, none⟩ 1 1 (En.cells (touE (et, ek))) rfl rfl hnew hone2 ?_ ?_ ?_ ?_)
      · unfold maxLen; omega
      · omega
      · simp; omega
      intro vm2 w8 ho8 hg8 _ _
      have HQs : Hid (w.heap.size ≤ wr.heap.size) := HQ.out.1.bl.size
      have hb8 : Below wr.heap.size wr w8 := HB7.out.1.trans (own_low HB7.out.2 hs7 hg8)
      obtain ⟨am, cm, rfl⟩ := owns_slice ho8
      have HP8 : Hid _ := HQ.out.1.below hb8
      have HW8 : Hid (w8.ownsRow (w.heap.size + 3) TE 5 (.slice a2 (es.length + 1) c2) (es.length + 1) (ecells (es ++ [(⟨et, ek, exs, .slice ra exs.length rc⟩ : En)])) ∧ w8.ownsRow wr.heap.size TE 5 (.slice am (L.met.length + 1) cm) (L.met.length + 1) (ecells (L.met.map touE) ++ En.cells (touE (et, ek))) ∧ w.heap.size + 3 ≤ wr.heap.size) := ⟨owns_below HQ.out.2 hb8, ho8, HQ.out.1.sz⟩
      clear ho8 hg8 hb8 HB7 hown hnew hone2 d0 d1 d2 d3 HQ hmm hs7
      have HP9 : Hid _ := HP8.out.set3 (.slice am (L.met.length + 1) cm)
      have HW9 : Hid _ := And.intro (owns_set (j := 3) HW8.out.1 (show w.heap.size < w.heap.size + 3 by omega) (.slice am (L.met.length + 1) cm)) (owns_set (b := w.heap.size) (j := 3) HW8.out.2.1 (by have := HW8.out.2.2; omega) (.slice am (L.met.length + 1) cm))
      have c3 := HP8.out.lb.c3
      have f3 := HP8.out.lb.fz 3
      obtain ⟨⟨x0, x1, x2, x3, -⟩, -, ⟨z0, z1, z2, z3, zf⟩, bl, sz⟩ := HP9.out
      have hlt := HW8.out.2.2
      have y0 : (w8.setCell ⟨w.heap.size, 3, none⟩ (.slice am (L.met.length + 1) cm)).cell? ⟨w.heap.size + 1 + 1, 0, none⟩ = _ := z0
      have y1 : (w8.setCell ⟨w.heap.size, 3, none⟩ (.slice am (L.met.length + 1) cm)).cell? ⟨w.heap.size + 1 + 1, 1, none⟩ = _ := z1
      have y2 : (w8.setCell ⟨w.heap.size, 3, none⟩ (.slice am (L.met.length + 1) cm)).cell? ⟨w.heap.size + 1 + 1, 2, none⟩ = _ := z2
      have y3 : (w8.setCell ⟨w.heap.size, 3, none⟩ (.slice am (L.met.length + 1) cm)).cell? ⟨w.heap.size + 1 + 1, 3, none⟩ = _ := z3
      have yf : ∀ j, (w8.setCell ⟨w.heap.size, 3, none⟩ (.slice am (L.met.length + 1) cm)).frozen? ⟨w.heap.size + 1 + 1, j, none⟩ = false := zf
      have HZ : Hid (∀ wz, wz = w8.setCell ⟨w.heap.size, 3, none⟩ (.slice am (L.met.length + 1) cm) → Below w.heap.size w (told wz (w.heap.size + 2) L.room (.slice a2 (es.length + 1) c2) (.slice sa 4 sc) (.slice am (L.met.length + 1) cm)) ∧ (told wz (w.heap.size + 2) L.room (.slice a2 (es.length + 1) c2) (.slice sa 4 sc) (.slice am (L.met.length + 1) cm)).ownsRow (w.heap.size + 3) TE 5 (.slice a2 (es.length + 1) c2) (es.length + 1) (ecells (es ++ [(⟨et, ek, exs, .slice ra exs.length rc⟩ : En)])) ∧ (told wz (w.heap.size + 2) L.room (.slice a2 (es.length + 1) c2) (.slice sa 4 sc) (.slice am (L.met.length + 1) cm)).ownsRow wr.heap.size TE 5 (.slice am (L.met.length + 1) cm) (L.met.length + 1) (ecells (L.met.map touE) ++ En.cells (touE (et, ek)))) := fun wz e => by
        subst e
        exact ⟨told_low bl (by omega), owns_told HW9.out.1 (by omega), owns_told HW9.out.2 (by omega)⟩
      clear z0 z1 z2 z3 zf bl sz HP8 HP9 HW8 HW9 hlt
      go_wp2_with fail
      generalize hwz : w8.setCell ⟨w.heap.size, 3, none⟩ (.slice am (L.met.length + 1) cm) = wz at *
      refine bodyPost_ret (v := .tuple #[RV L.room (.slice a2 (es.length + 1) c2) (.slice sa 4 sc) (.slice am (L.met.length + 1) cm), .int .i64 0]) (by simp [results, Try.results20, go_sem, y0, y1, y2, y3]) rfl ⟨_, _, _, rfl, ?_, (HZ.out wz rfl).1, .inl (NewV.own (HZ.out wz rfl).2.1 (by omega)), Src.same, .inl (NewV.own (HZ.out wz rfl).2.2 HQs.out)⟩
      refine HH.out.push HE.out.1 HR.out (HZ.out wz rfl).1 (HZ.out wz rfl).2.1 HE.out.2.2.2 ?_
      have hme : (L.meet (et, ek)).met = L.met ++ [(et, ek)] := by unfold Lg.meet; rw [if_neg (by rw [HI.out]; simp)]
      show EntsIn _ _ ((L.meet (et, ek)).met.map touE)
      rw [hme]
      refine ⟨owns_in (B := wr.heap.size) ?_, tou_rows _ _⟩
      have := (HZ.out wz rfl).2.2
      rw [List.map_append, List.length_append, List.length_map, show ecells (L.met.map touE ++ [(et, ek)].map touE) = ecells (L.met.map touE) ++ En.cells (touE (et, ek)) by simp [ecells]]
      exact this
theorem rpush_any (w : World) (lv sv mv : Value) (L : Lg) (h : RL R w lv sv mv L) (e : En) (hr : RowIn w e.r e.xs) (hR : R e.r e.xs) (hn : L.es.length ≤ 500) (hm : L.met.length ≤ 500) :
    Calls Try.prog 20 #[RV L.room lv sv mv, e.val] w fun x w' => ∃ lv' sv' mv', x = .returned (.tuple #[RV (L.push e).room lv' sv' mv', .int .i64 (pushE L)]) ∧ RL R w' lv' sv' mv' (L.push e) ∧ Below w.heap.size w w' ∧ Src w lv lv' ∧ Src w sv sv' ∧ Src w mv mv' := by
  by_cases hl : L.es.length < L.room
  · have hp := (push_facts L e hl).2.1
    exact (rpush_room w lv sv mv L h e hr hR hl hn hm).mono fun x w' ⟨a, b, c, hx, hr, hb⟩ => ⟨a, b, c, by rw [hx, hp, pushE, if_pos hl], hr, hb⟩
  · have hp : L.push e = L := if_neg hl
    obtain ⟨es, _, hes, _⟩ := h.l
    obtain ⟨_, _, rfl, -⟩ := hes.1.slice
    obtain ⟨_, _, rfl, -⟩ := h.s.slice
    obtain ⟨_, _, rfl, -⟩ := h.m.1.slice
    exact (rpush_full w _ _ _ L h e hr (by omega)).mono fun x w' ⟨hx, hb⟩ => ⟨_, _, _, by rw [hx, hp, pushE, if_neg hl], by rw [hp]; exact h.below hb, hb, Src.same, Src.same, Src.same⟩
end Go.Proofs.Ytbfoplaccalegaa.Val
