/- What Back answers. -/
import Derived.Test.YtbfoplaccalegaaUndoTou
namespace Go.Proofs.Ytbfoplaccalegaa.Val
open Go Go.RowKit

def clr (a : Nat) (o : Option Nat) : Option Nat := if a < o.getD 0 then none else o
/-- The log that Back leaves. -/
def Lg.back (L : Lg) (a : Nat) : Lg := { L with es := L.es.take a, s1 := clr a L.s1, s2 := clr a L.s2, s3 := clr a L.s3 }
def Lg.upto (L : Lg) (a k : Nat) : Lg := { L with s1 := if 0 < k then clr a L.s1 else L.s1, s2 := if 1 < k then clr a L.s2 else L.s2, s3 := if 2 < k then clr a L.s3 else L.s3 }
theorem back_none {w : World} {h : Hl} {L : Lg} (g : LG w h L) (n : Int) (hn : okn n = true → L.get n = none) :
    Calls Try.prog 17 #[.pointer (some ⟨h.p, 0, none⟩), .int .i64 n] w fun e w' => e = .returned (.tuple #[.slice none 0 0, .int .i64 70]) ∧ Below w.heap.size w w' := by
  cases ho : okn n with
  | false =>
    have H : Hid (∀ w1, Calls Try.prog 27 #[.int .i64 n] w1 fun e w' => e = .returned (.bool false) ∧ w' = w1) := fun w1 => (may_any n w1).mono fun e w' ⟨he, hw⟩ => ⟨he.trans (by rw [← ho]; rfl), hw⟩
    clear hn ho g
    go_enter Try.func17, Try.ntmps17
    go_wp2_with fail
    refine Calls.mono (H.out _) ?_
    rintro e w1 ⟨rfl, rfl⟩
    go_wp2_with fail
    go_ret2
    exact ⟨rfl, Below.refl _ _⟩
  | true =>
    have H : Hid (∀ w1, Calls Try.prog 27 #[.int .i64 n] w1 fun e w' => e = .returned (.bool true) ∧ w' = w1) := fun w1 => (may_any n w1).mono fun e w' ⟨he, hw⟩ => ⟨he.trans (by rw [← ho]; rfl), hw⟩
    have hg := hn ho
    have w0 : IntKind.i64.wrap 0 = 0 := rfl
    have w1 : IntKind.i64.wrap 1 = 1 := rfl
    have w2 : IntKind.i64.wrap 2 = 2 := rfl
    rcases okn_cases ho with rfl | rfl | rfl
    · have hs : L.s1 = none := by simpa [Lg.get] using hg
      have c2 := g.cells 2
      rw [hs] at c2
      simp at c2
      clear hn ho g hg
      go_enter Try.func17, Try.ntmps17
      go_wp2_with fail
      refine Calls.mono (H.out _) ?_
      rintro e wz ⟨rfl, rfl⟩
      go_wp2_with fail
      go_ret2
      exact ⟨rfl, Below.refl _ _⟩
    · have hs : L.s2 = none := by simpa [Lg.get] using hg
      have c2 := g.cells 4
      rw [hs] at c2
      simp at c2
      clear hn ho g hg
      go_enter Try.func17, Try.ntmps17
      go_wp2_with fail
      refine Calls.mono (H.out _) ?_
      rintro e wz ⟨rfl, rfl⟩
      go_wp2_with fail
      go_ret2
      exact ⟨rfl, Below.refl _ _⟩
    · have hs : L.s3 = none := by simpa [Lg.get] using hg
      have c2 := g.cells 6
      rw [hs] at c2
      simp at c2
      clear hn ho g hg
      go_enter Try.func17, Try.ntmps17
      go_wp2_with fail
      refine Calls.mono (H.out _) ?_
      rintro e wz ⟨rfl, rfl⟩
      go_wp2_with fail
      go_ret2
      exact ⟨rfl, Below.refl _ _⟩
theorem clr_not {a : Nat} {o : Option Nat} (h : ¬ a < o.getD 0) : clr a o = o := if_neg h
theorem clr_yes {a : Nat} {o : Option Nat} (h : a < o.getD 0) : clr a o = none := if_pos h
theorem upto_3 (L : Lg) (a : Nat) : { L.upto a 3 with es := (L.upto a 3).es.take a } = L.back a := rfl
def Lg.sv (L : Lg) (k : Nat) : Option Nat := if k = 0 then L.s1 else if k = 1 then L.s2 else L.s3
theorem upto_next (L : Lg) (a k : Nat) (hk : k < 3) : L.upto a (k + 1) = (L.upto a k).put ((k : Int) + 1) (clr a (L.sv k)) := by
  obtain rfl | rfl | rfl : k = 0 ∨ k = 1 ∨ k = 2 := by omega
  · rfl
  · rfl
  · rfl
theorem upto_no (L : Lg) (a k : Nat) (hk : k < 3) (hc : ¬ a < (L.sv k).getD 0) : L.upto a (k + 1) = L.upto a k := by
  rw [upto_next L a k hk, clr_not hc]
  obtain rfl | rfl | rfl : k = 0 ∨ k = 1 ∨ k = 2 := by omega
  · rfl
  · rfl
  · rfl
section
variable {w wr w' : World} {h : Hl} {L : Lg}
theorem LG.step_no {a k : Nat} (hg : LG wr h (L.upto a k) ∧ Ml w h wr h) (hk : k < 3) (hc : ¬ a < (L.sv k).getD 0) (b : Below wr.heap.size wr w') : LG w' h (L.upto a (k + 1)) ∧ Ml w h w' h := by
  rw [upto_no L a k hk hc]
  exact ⟨hg.1.below b, hg.2.trans (Ml.of b)⟩
theorem LG.step_yes {a k : Nat} (hg : LG wr h (L.upto a k) ∧ Ml w h wr h) (hk : k < 3) (hc : a < (L.sv k).getD 0) (j : Nat) (hj : j = 2 * (k + 1)) (ob : Obj) :
    LG (((wr.setCell ⟨h.p, j, none⟩ (.bool false)).setCell ⟨h.p, j + 1, none⟩ (.int .i64 0)).alloc ob) h (L.upto a (k + 1)) ∧ Ml w h (((wr.setCell ⟨h.p, j, none⟩ (.bool false)).setCell ⟨h.p, j + 1, none⟩ (.int .i64 0)).alloc ob) h := by
  subst hj
  have h1 := hg.1.put1 ((k : Int) + 1) (by simp [okn]; omega) none
  rw [show (2 * ((k : Int) + 1)).toNat = 2 * (k + 1) by omega] at h1
  rw [upto_next L a k hk, clr_yes hc]
  exact ⟨h1.1.below (alloc1 _ _), (hg.2.trans h1.2).trans (Ml.of (alloc1 _ _))⟩
end
theorem idx_save (b1 n1 b2 n2 b3 n3 : Value) (W : World) :
    (Instr.index 58 (.agg #[b1, n1, b2, n2, b3, n3]) (.int .i64 0)).run Try.prog W = .ok (.agg #[b1, n1]) W ∧ (Instr.index 58 (.agg #[b1, n1, b2, n2, b3, n3]) (.int .i64 1)).run Try.prog W = .ok (.agg #[b2, n2]) W ∧ (Instr.index 58 (.agg #[b1, n1, b2, n2, b3, n3]) (.int .i64 2)).run Try.prog W = .ok (.agg #[b3, n3]) W :=
  ⟨rfl, rfl, rfl⟩
theorem back_some {w : World} {h : Hl} {L : Lg} (g : LG w h L) (n : Int) (ho : okn n = true) (a : Nat) (ha : L.get n = some a) (hle : a ≤ L.es.length) :
    Calls Try.prog 17 #[.pointer (some ⟨h.p, 0, none⟩), .int .i64 n] w fun e w' => ∃ v h', e = .returned (.tuple #[v, .int .i64 0]) ∧ LG w' h' (L.back a) ∧ Ml w h w' h' ∧ Ans w' h' v (L.es.drop a).reverse := by
  have H : Hid (∀ w1, Calls Try.prog 27 #[.int .i64 n] w1 fun e w' => e = .returned (.bool true) ∧ w' = w1) := fun w1 => (may_any n w1).mono fun e w' ⟨he, hw⟩ => ⟨he.trans (by rw [← ho]; rfl), hw⟩
  have w0 : IntKind.i64.wrap 0 = 0 := rfl
  have w1 : IntKind.i64.wrap 1 = 1 := rfl
  have w2 : IntKind.i64.wrap 2 = 2 := rfl
  have HC : Hid (∀ w', LG w' h (L.upto a 3) → Ml w h w' h → Calls Try.prog 28 #[.pointer (some ⟨h.p, 0, none⟩), .int .i64 a] w' fun e w' => ∃ v h', e = .returned v ∧ LG w' h' (L.back a) ∧ Ml w h w' h' ∧ Ans w' h' v (L.es.drop a).reverse) := fun w' g' m => (cut_any g' a hle).mono fun e w2 ⟨v, h', he, g2, m2, an⟩ => ⟨v, h', he, g2, m.trans m2, an⟩
  rcases okn_cases ho with rfl | rfl | rfl
  · have hs : L.s1 = some a := by simpa [Lg.get] using ha
    have c2 := g.cells 2
    have c3 := g.cells 3
    have c4 := g.cells 4
    have c5 := g.cells 5
    have c6 := g.cells 6
    have c7 := g.cells 7
    rw [hs] at c2 c3
    simp at c2 c3 c4 c5 c6 c7
    have HG : Hid (LG w h L) := g
    clear g ha hle ho
    go_enter Try.func17, Try.ntmps17
    go_wp2_with fail
    refine Calls.mono (H.out _) ?_
    rintro e wz ⟨rfl, hw⟩
    obtain rfl := hw.symm
    clear hw
    go_wp2_with fail
    clear c2 c3 c4 c5 c6 c7 H
    go_loopw [39] (fun i wr => ∃ k : Nat, k ≤ 3 ∧ i = .int .i64 k ∧ Hid (LG wr h (L.upto a k) ∧ Ml w h wr h)) (fun i _ => 3 - (intOf i).toNat)
    case atStart => exact ⟨0, by omega, rfl, ⟨HG.out, Ml.refl _ _⟩⟩
    case round =>
      obtain ⟨k, hk, rfl, HR⟩ := hrel
      clear HG
      obtain rfl | rfl | rfl | rfl : k = 0 ∨ k = 1 ∨ k = 2 ∨ k = 3 := by omega
      · have HN : Hid _ := LG.step_no HR.out (w' := wr.alloc (.cells #[svB (L.sv 0), svN (L.sv 0)] 57)) (by omega) (by rw [show L.sv 0 = some a from hs]; simp) (alloc1 _ _)
        rw [show L.sv 0 = some a from hs] at HN
        clear HC HR
        have hx := fun b1 n1 b2 n2 b3 n3 W => (idx_save b1 n1 b2 n2 b3 n3 W).1
        go_wp2_with fail
        go_roundw
        case rel => exact ⟨0 + 1, by omega, rfl, HN⟩
        case measure => simp [intOf]
      · have hf := HR.out.1.frozen
        have hlt := HR.out.1.has.1
        have d1 := HR.out.1.cells 4
        have d2 := HR.out.1.cells (4 + 1)
        simp [Lg.upto] at d1 d2
        by_cases hc : (a : Int) < ((L.sv 1).getD 0 : Nat)
        · have HN : Hid _ := LG.step_yes HR.out (by omega) (by omega) 4 (by omega) (.cells #[svB (L.sv 1), svN (L.sv 1)] 57)
          clear HC HR
          have hc' : (a : Int) < (L.s2.getD 0 : Nat) := hc
          clear hc
          have hx := fun b1 n1 b2 n2 b3 n3 W => (idx_save b1 n1 b2 n2 b3 n3 W).2.1
          go_wp2_with fail
          trace_state
          go_roundw
          case rel => exact ⟨1 + 1, by omega, rfl, HN⟩
          case measure => simp [intOf]
        · have HN : Hid _ := LG.step_no HR.out (w' := wr.alloc (.cells #[svB (L.sv 1), svN (L.sv 1)] 57)) (by omega) (by omega) (alloc1 _ _)
          clear HC HR
          have hc' : ¬ (a : Int) < (L.s2.getD 0 : Nat) := hc
          clear hc
          have hx := fun b1 n1 b2 n2 b3 n3 W => (idx_save b1 n1 b2 n2 b3 n3 W).2.1
          go_wp2_with fail
          go_roundw
          case rel => exact ⟨1 + 1, by omega, rfl, HN⟩
          case measure => simp [intOf]
      · have hf := HR.out.1.frozen
        have hlt := HR.out.1.has.1
        have d1 := HR.out.1.cells 6
        have d2 := HR.out.1.cells (6 + 1)
        simp [Lg.upto] at d1 d2
        by_cases hc : (a : Int) < ((L.sv 2).getD 0 : Nat)
        · have HN : Hid _ := LG.step_yes HR.out (by omega) (by omega) 6 (by omega) (.cells #[svB (L.sv 2), svN (L.sv 2)] 57)
          clear HC HR
          have hc' : (a : Int) < (L.s3.getD 0 : Nat) := hc
          clear hc
          have hx := fun b1 n1 b2 n2 b3 n3 W => (idx_save b1 n1 b2 n2 b3 n3 W).2.2
          go_wp2_with fail
          trace_state
          go_roundw
          case rel => exact ⟨2 + 1, by omega, rfl, HN⟩
          case measure => simp [intOf]
        · have HN : Hid _ := LG.step_no HR.out (w' := wr.alloc (.cells #[svB (L.sv 2), svN (L.sv 2)] 57)) (by omega) (by omega) (alloc1 _ _)
          clear HC HR
          have hc' : ¬ (a : Int) < (L.s3.getD 0 : Nat) := hc
          clear hc
          have hx := fun b1 n1 b2 n2 b3 n3 W => (idx_save b1 n1 b2 n2 b3 n3 W).2.2
          go_wp2_with fail
          go_roundw
          case rel => exact ⟨2 + 1, by omega, rfl, HN⟩
          case measure => simp [intOf]
      · have HCC : Hid _ := HC.out wr HR.out.1 HR.out.2
        clear HC HR
        go_wp2_with fail
        refine Calls.mono HCC.out ?_
        rintro e w1 ⟨v, h', rfl, g2, m2, an⟩
        have HF : Hid _ := And.intro g2 (And.intro m2 an)
        clear g2 m2 an HCC
        go_wp2_with fail
        go_ret2
        exact ⟨_, _, rfl, HF.out⟩
  · have hs : L.s2 = some a := by simpa [Lg.get] using ha
    have c2 := g.cells 2
    have c3 := g.cells 3
    have c4 := g.cells 4
    have c5 := g.cells 5
    have c6 := g.cells 6
    have c7 := g.cells 7
    rw [hs] at c4 c5
    simp at c2 c3 c4 c5 c6 c7
    have HG : Hid (LG w h L) := g
    clear g ha hle ho
    go_enter Try.func17, Try.ntmps17
    go_wp2_with fail
    refine Calls.mono (H.out _) ?_
    rintro e wz ⟨rfl, hw⟩
    obtain rfl := hw.symm
    clear hw
    go_wp2_with fail
    clear c2 c3 c4 c5 c6 c7 H
    go_loopw [39] (fun i wr => ∃ k : Nat, k ≤ 3 ∧ i = .int .i64 k ∧ Hid (LG wr h (L.upto a k) ∧ Ml w h wr h)) (fun i _ => 3 - (intOf i).toNat)
    case atStart => exact ⟨0, by omega, rfl, ⟨HG.out, Ml.refl _ _⟩⟩
    case round =>
      obtain ⟨k, hk, rfl, HR⟩ := hrel
      clear HG
      obtain rfl | rfl | rfl | rfl : k = 0 ∨ k = 1 ∨ k = 2 ∨ k = 3 := by omega
      · have hf := HR.out.1.frozen
        have hlt := HR.out.1.has.1
        have d1 := HR.out.1.cells 2
        have d2 := HR.out.1.cells (2 + 1)
        simp [Lg.upto] at d1 d2
        by_cases hc : (a : Int) < ((L.sv 0).getD 0 : Nat)
        · have HN : Hid _ := LG.step_yes HR.out (by omega) (by omega) 2 (by omega) (.cells #[svB (L.sv 0), svN (L.sv 0)] 57)
          clear HC HR
          have hc' : (a : Int) < (L.s1.getD 0 : Nat) := hc
          clear hc
          have hx := fun b1 n1 b2 n2 b3 n3 W => (idx_save b1 n1 b2 n2 b3 n3 W).1
          go_wp2_with fail
          trace_state
          go_roundw
          case rel => exact ⟨0 + 1, by omega, rfl, HN⟩
          case measure => simp [intOf]
        · have HN : Hid _ := LG.step_no HR.out (w' := wr.alloc (.cells #[svB (L.sv 0), svN (L.sv 0)] 57)) (by omega) (by omega) (alloc1 _ _)
          clear HC HR
          have hc' : ¬ (a : Int) < (L.s1.getD 0 : Nat) := hc
          clear hc
          have hx := fun b1 n1 b2 n2 b3 n3 W => (idx_save b1 n1 b2 n2 b3 n3 W).1
          go_wp2_with fail
          go_roundw
          case rel => exact ⟨0 + 1, by omega, rfl, HN⟩
          case measure => simp [intOf]
      · have HN : Hid _ := LG.step_no HR.out (w' := wr.alloc (.cells #[svB (L.sv 1), svN (L.sv 1)] 57)) (by omega) (by rw [show L.sv 1 = some a from hs]; simp) (alloc1 _ _)
        rw [show L.sv 1 = some a from hs] at HN
        clear HC HR
        have hx := fun b1 n1 b2 n2 b3 n3 W => (idx_save b1 n1 b2 n2 b3 n3 W).2.1
        go_wp2_with fail
        go_roundw
        case rel => exact ⟨1 + 1, by omega, rfl, HN⟩
        case measure => simp [intOf]
      · have hf := HR.out.1.frozen
        have hlt := HR.out.1.has.1
        have d1 := HR.out.1.cells 6
        have d2 := HR.out.1.cells (6 + 1)
        simp [Lg.upto] at d1 d2
        by_cases hc : (a : Int) < ((L.sv 2).getD 0 : Nat)
        · have HN : Hid _ := LG.step_yes HR.out (by omega) (by omega) 6 (by omega) (.cells #[svB (L.sv 2), svN (L.sv 2)] 57)
          clear HC HR
          have hc' : (a : Int) < (L.s3.getD 0 : Nat) := hc
          clear hc
          have hx := fun b1 n1 b2 n2 b3 n3 W => (idx_save b1 n1 b2 n2 b3 n3 W).2.2
          go_wp2_with fail
          trace_state
          go_roundw
          case rel => exact ⟨2 + 1, by omega, rfl, HN⟩
          case measure => simp [intOf]
        · have HN : Hid _ := LG.step_no HR.out (w' := wr.alloc (.cells #[svB (L.sv 2), svN (L.sv 2)] 57)) (by omega) (by omega) (alloc1 _ _)
          clear HC HR
          have hc' : ¬ (a : Int) < (L.s3.getD 0 : Nat) := hc
          clear hc
          have hx := fun b1 n1 b2 n2 b3 n3 W => (idx_save b1 n1 b2 n2 b3 n3 W).2.2
          go_wp2_with fail
          go_roundw
          case rel => exact ⟨2 + 1, by omega, rfl, HN⟩
          case measure => simp [intOf]
      · have HCC : Hid _ := HC.out wr HR.out.1 HR.out.2
        clear HC HR
        go_wp2_with fail
        refine Calls.mono HCC.out ?_
        rintro e w1 ⟨v, h', rfl, g2, m2, an⟩
        have HF : Hid _ := And.intro g2 (And.intro m2 an)
        clear g2 m2 an HCC
        go_wp2_with fail
        go_ret2
        exact ⟨_, _, rfl, HF.out⟩
  · have hs : L.s3 = some a := by simpa [Lg.get] using ha
    have c2 := g.cells 2
    have c3 := g.cells 3
    have c4 := g.cells 4
    have c5 := g.cells 5
    have c6 := g.cells 6
    have c7 := g.cells 7
    rw [hs] at c6 c7
    simp at c2 c3 c4 c5 c6 c7
    have HG : Hid (LG w h L) := g
    clear g ha hle ho
    go_enter Try.func17, Try.ntmps17
    go_wp2_with fail
    refine Calls.mono (H.out _) ?_
    rintro e wz ⟨rfl, hw⟩
    obtain rfl := hw.symm
    clear hw
    go_wp2_with fail
    clear c2 c3 c4 c5 c6 c7 H
    go_loopw [39] (fun i wr => ∃ k : Nat, k ≤ 3 ∧ i = .int .i64 k ∧ Hid (LG wr h (L.upto a k) ∧ Ml w h wr h)) (fun i _ => 3 - (intOf i).toNat)
    case atStart => exact ⟨0, by omega, rfl, ⟨HG.out, Ml.refl _ _⟩⟩
    case round =>
      obtain ⟨k, hk, rfl, HR⟩ := hrel
      clear HG
      obtain rfl | rfl | rfl | rfl : k = 0 ∨ k = 1 ∨ k = 2 ∨ k = 3 := by omega
      · have hf := HR.out.1.frozen
        have hlt := HR.out.1.has.1
        have d1 := HR.out.1.cells 2
        have d2 := HR.out.1.cells (2 + 1)
        simp [Lg.upto] at d1 d2
        by_cases hc : (a : Int) < ((L.sv 0).getD 0 : Nat)
        · have HN : Hid _ := LG.step_yes HR.out (by omega) (by omega) 2 (by omega) (.cells #[svB (L.sv 0), svN (L.sv 0)] 57)
          clear HC HR
          have hc' : (a : Int) < (L.s1.getD 0 : Nat) := hc
          clear hc
          have hx := fun b1 n1 b2 n2 b3 n3 W => (idx_save b1 n1 b2 n2 b3 n3 W).1
          go_wp2_with fail
          trace_state
          go_roundw
          case rel => exact ⟨0 + 1, by omega, rfl, HN⟩
          case measure => simp [intOf]
        · have HN : Hid _ := LG.step_no HR.out (w' := wr.alloc (.cells #[svB (L.sv 0), svN (L.sv 0)] 57)) (by omega) (by omega) (alloc1 _ _)
          clear HC HR
          have hc' : ¬ (a : Int) < (L.s1.getD 0 : Nat) := hc
          clear hc
          have hx := fun b1 n1 b2 n2 b3 n3 W => (idx_save b1 n1 b2 n2 b3 n3 W).1
          go_wp2_with fail
          go_roundw
          case rel => exact ⟨0 + 1, by omega, rfl, HN⟩
          case measure => simp [intOf]
      · have hf := HR.out.1.frozen
        have hlt := HR.out.1.has.1
        have d1 := HR.out.1.cells 4
        have d2 := HR.out.1.cells (4 + 1)
        simp [Lg.upto] at d1 d2
        by_cases hc : (a : Int) < ((L.sv 1).getD 0 : Nat)
        · have HN : Hid _ := LG.step_yes HR.out (by omega) (by omega) 4 (by omega) (.cells #[svB (L.sv 1), svN (L.sv 1)] 57)
          clear HC HR
          have hc' : (a : Int) < (L.s2.getD 0 : Nat) := hc
          clear hc
          have hx := fun b1 n1 b2 n2 b3 n3 W => (idx_save b1 n1 b2 n2 b3 n3 W).2.1
          go_wp2_with fail
          trace_state
          go_roundw
          case rel => exact ⟨1 + 1, by omega, rfl, HN⟩
          case measure => simp [intOf]
        · have HN : Hid _ := LG.step_no HR.out (w' := wr.alloc (.cells #[svB (L.sv 1), svN (L.sv 1)] 57)) (by omega) (by omega) (alloc1 _ _)
          clear HC HR
          have hc' : ¬ (a : Int) < (L.s2.getD 0 : Nat) := hc
          clear hc
          have hx := fun b1 n1 b2 n2 b3 n3 W => (idx_save b1 n1 b2 n2 b3 n3 W).2.1
          go_wp2_with fail
          go_roundw
          case rel => exact ⟨1 + 1, by omega, rfl, HN⟩
          case measure => simp [intOf]
      · have HN : Hid _ := LG.step_no HR.out (w' := wr.alloc (.cells #[svB (L.sv 2), svN (L.sv 2)] 57)) (by omega) (by rw [show L.sv 2 = some a from hs]; simp) (alloc1 _ _)
        rw [show L.sv 2 = some a from hs] at HN
        clear HC HR
        have hx := fun b1 n1 b2 n2 b3 n3 W => (idx_save b1 n1 b2 n2 b3 n3 W).2.2
        go_wp2_with fail
        go_roundw
        case rel => exact ⟨2 + 1, by omega, rfl, HN⟩
        case measure => simp [intOf]
      · have HCC : Hid _ := HC.out wr HR.out.1 HR.out.2
        clear HC HR
        go_wp2_with fail
        refine Calls.mono HCC.out ?_
        rintro e w1 ⟨v, h', rfl, g2, m2, an⟩
        have HF : Hid _ := And.intro g2 (And.intro m2 an)
        clear g2 m2 an HCC
        go_wp2_with fail
        go_ret2
        exact ⟨_, _, rfl, HF.out⟩
end Go.Proofs.Ytbfoplaccalegaa.Val
