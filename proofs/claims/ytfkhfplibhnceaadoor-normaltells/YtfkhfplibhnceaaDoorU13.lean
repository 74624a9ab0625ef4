/- What the reference's Within and Clean answer. -/
import Derived.Test.YtfkhfplibhnceaaDoorU5
import Derived.Test.YtfkhfplibhnceaaDoorU3
import Derived.Test.YtfkhfplibhnceaaDoorU10
import Derived.Deep.CutRange
namespace Go.Proofs.YtfkhfplibhnceaaDoor.Val
open Go.RowKit

theorem rcmpX_any (x y : Val) (w : World) (hx : x.s.size ≤ maxLen) (hy : y.s.size ≤ maxLen) : Calls Tryd.prog 37 #[V x.t x.n x.s, V y.t y.n y.s] w fun e w' => e = .returned (.int .i64 (cmpX x y)) ∧ Below w.heap.size w w' := rcmp_any _ _ _ _ _ _ w hx hy
/-- What the reference says. -/
def rinB (no hl ol hh oh : Bool) (lo hi : Int) : Bool := !no && (!(hl && (decide (lo < 0) || (lo == 0 && ol))) && (!hh || decide (hi < 0) || (hi == 0 && !oh)))
theorem rin_eq (s : Sp) (x : Val) : rinB s.no s.hl s.ol s.hh s.oh (cmpX x s.lo) (cmpX x s.hi) = withinS s x := by
  rw [within_eq, loB_eq, hiB_eq]
  unfold rinB
  have t := turnX x s.lo
  have g1 := (goesX x s.lo s.lo).lo
  have g2 := (goesX x s.lo s.lo).hi
  have e1 : (isZ (lowE s) || !sideB (cmpX (lowE s).x x) (lowE s).op) = !(s.hl && (decide (cmpX x s.lo < 0) || (cmpX x s.lo == 0 && s.ol))) := by
    unfold lowE
    cases s.hl
    · rw [if_neg (by simp), isZ_zero]; rfl
    · rw [if_pos rfl, isZ_has rfl]
      show (false || !sideB (cmpX s.lo x) s.ol) = _
      rw [t]
      generalize cmpX x s.lo = c at *
      rw [Bool.eq_iff_iff]; simp [sideB]; try omega
  have e2 : (isZ (uppE s) || !sideB (cmpX x (uppE s).x) (uppE s).op) = (!s.hh || decide (cmpX x s.hi < 0) || (cmpX x s.hi == 0 && !s.oh)) := by
    have h1 := (goesX x s.hi s.hi).lo
    have h2 := (goesX x s.hi s.hi).hi
    unfold uppE
    cases s.hh
    · rw [if_neg (by simp), isZ_zero]; rfl
    · rw [if_pos rfl, isZ_has rfl]
      show (false || !sideB (cmpX x s.hi) s.oh) = _
      generalize cmpX x s.hi = c at *
      rcases (by omega : c < 0 ∨ c = 0 ∨ 0 < c) with h | h | h
      · have h' : ¬ 0 < c := by omega
        have h'' : c ≠ 0 := by omega
        simp [sideB, h, h', h'']
      · subst h; simp [sideB]
      · have h' : ¬ c < 0 := by omega
        have h'' : c ≠ 0 := by omega
        simp [sideB, h, h', h'']
  rw [e1, e2]
set_option maxHeartbeats 8000000 in
theorem rwithin_any (s : Sp) (x : Val) (w : World) (hs : s.ok) (hx : x.s.size ≤ maxLen) : Calls Tryd.prog 18 #[s.val, V x.t x.n x.s] w fun e w' => e = .returned (.bool (withinS s x)) ∧ Below w.heap.size w w' := by
  have HL : Hid (∀ w1, Calls Tryd.prog 37 #[V x.t x.n x.s, V s.lo.t s.lo.n s.lo.s] w1 fun e w' => e = .returned (.int .i64 (cmpX x s.lo)) ∧ Below w1.heap.size w1 w') := fun w1 => rcmpX_any x s.lo w1 hx hs.1
  have HH : Hid (∀ w1, Calls Tryd.prog 37 #[V x.t x.n x.s, V s.hi.t s.hi.n s.hi.s] w1 fun e w' => e = .returned (.int .i64 (cmpX x s.hi)) ∧ Below w1.heap.size w1 w') := fun w1 => rcmpX_any x s.hi w1 hx hs.2
  have HR : Hid (withinS s x = rinB s.no s.hl s.ol s.hh s.oh (cmpX x s.lo) (cmpX x s.hi)) := (rin_eq s x).symm
  have HN : Hid _ := SVB.new w s x 35 26
  generalize withinS s x = r at *
  generalize cmpX x s.lo = lo at *
  generalize cmpX x s.hi = hi at *
  unfold Sp.val
  unfold sobj at HN
  obtain ⟨no, hl, ol, l, hh, oh, u⟩ := s
  simp only at *
  clear hs hx
  cases no
  case true =>
    clear HL HH HN
    go_enter Tryd.func18, Tryd.ntmps18
    go_wp2_with fail
    go_ret
    exact ⟨by rw [HR.out]; rfl, back1 (alloc1 _ _)⟩
  go_enter Tryd.func18, Tryd.ntmps18
  go_wp2_with fail
  refine Calls.mono (HL.out _) ?_
  rintro e w1 ⟨rfl, hb⟩
  have X1 : Hid (SVB w ⟨false, hl, ol, l, hh, oh, u⟩ x w1) := HN.out.below hb
  clear hb HN HL
  obtain ⟨⟨a0, a1, a2, a3, a4, a5, a6, a7, a8, a9, a10⟩, ⟨v0, v1, v2⟩, _⟩ := X1.out
  go_wp2_with fail
  refine Calls.mono (HH.out _) ?_
  rintro e w2 ⟨rfl, hb⟩
  have X2 : Hid (SVB w ⟨false, hl, ol, l, hh, oh, u⟩ x w2) := X1.out.below hb
  clear hb X1 HH a0 a1 a2 a3 a4 a5 a6 a7 a8 a9 a10 v0 v1 v2
  obtain ⟨⟨a0, a1, a2, a3, a4, a5, a6, a7, a8, a9, a10⟩, _, _⟩ := X2.out
  simp only at a0 a1 a2 a3 a4 a5 a6 a7 a8 a9 a10
  have HF : Hid (∀ (hl ol : Bool), (hl && (decide (lo < 0) || (lo == 0 && ol))) = true → r = rinB false hl ol hh oh lo hi → r = false) := fun hl ol h1 h2 => by rw [h2]; unfold rinB; rw [h1]; rfl
  have HG : Hid (∀ (hl ol : Bool), (hl && (decide (lo < 0) || (lo == 0 && ol))) = false → r = rinB false hl ol hh oh lo hi → r = (!hh || decide (hi < 0) || (hi == 0 && !oh))) := fun hl ol h1 h2 => by rw [h2]; unfold rinB; rw [h1]; rfl
  have LC : hl = false ∨ (hl = true ∧ lo < 0) ∨ (hl = true ∧ lo = 0 ∧ ol = true) ∨ (hl = true ∧ lo = 0 ∧ ol = false) ∨ (hl = true ∧ 0 < lo) := by
    cases hl <;> cases ol <;> simp <;> omega
  rcases LC with rfl | ⟨rfl, h⟩ | ⟨rfl, rfl, rfl⟩ | ⟨rfl, rfl, rfl⟩ | ⟨rfl, h⟩
  · have HV : Hid (r = (!hh || decide (hi < 0) || (hi == 0 && !oh))) := HG.out _ _ (rfl) HR.out
    clear HF HG
    rcases (by cases hh <;> cases oh <;> simp <;> omega : hh = false ∨ (hh = true ∧ hi < 0) ∨ (hh = true ∧ hi = 0 ∧ oh = true) ∨ (hh = true ∧ hi = 0 ∧ oh = false) ∨ (hh = true ∧ 0 < hi)) with rfl | ⟨rfl, k⟩ | ⟨rfl, rfl, rfl⟩ | ⟨rfl, rfl, rfl⟩ | ⟨rfl, k⟩
    · clear HR
      go_wp2_with fail
      go_ret
      exact ⟨by rw [HV.out]; rfl, X2.out.be⟩
    · clear HR
      go_wp2_with fail
      go_ret
      exact ⟨by rw [HV.out]; simp [k], X2.out.be⟩
    · clear HR
      go_wp2_with fail
      go_ret
      exact ⟨by rw [HV.out]; rfl, X2.out.be⟩
    · clear HR
      go_wp2_with fail
      go_ret
      exact ⟨by rw [HV.out]; rfl, X2.out.be⟩
    · have k1 : decide (hi < 0) = false := by simp; omega
      have k2 : (hi == 0) = false := by simp; omega
      clear HR
      go_wp2_with fail
      go_ret
      exact ⟨by rw [HV.out, k1, k2]; rfl, X2.out.be⟩
  · have HV : Hid (r = false) := HF.out _ _ (by simp [h]) HR.out
    clear HF HG HR
    go_wp2_with fail
    go_ret
    exact ⟨by rw [HV.out]; rfl, X2.out.be⟩
  · have HV : Hid (r = false) := HF.out _ _ (rfl) HR.out
    clear HF HG HR
    go_wp2_with fail
    go_ret
    exact ⟨by rw [HV.out]; rfl, X2.out.be⟩
  · have HV : Hid (r = (!hh || decide (hi < 0) || (hi == 0 && !oh))) := HG.out _ _ (rfl) HR.out
    clear HF HG
    rcases (by cases hh <;> cases oh <;> simp <;> omega : hh = false ∨ (hh = true ∧ hi < 0) ∨ (hh = true ∧ hi = 0 ∧ oh = true) ∨ (hh = true ∧ hi = 0 ∧ oh = false) ∨ (hh = true ∧ 0 < hi)) with rfl | ⟨rfl, k⟩ | ⟨rfl, rfl, rfl⟩ | ⟨rfl, rfl, rfl⟩ | ⟨rfl, k⟩
    · clear HR
      go_wp2_with fail
      go_ret
      exact ⟨by rw [HV.out]; rfl, X2.out.be⟩
    · clear HR
      go_wp2_with fail
      go_ret
      exact ⟨by rw [HV.out]; simp [k], X2.out.be⟩
    · clear HR
      go_wp2_with fail
      go_ret
      exact ⟨by rw [HV.out]; rfl, X2.out.be⟩
    · clear HR
      go_wp2_with fail
      go_ret
      exact ⟨by rw [HV.out]; rfl, X2.out.be⟩
    · have k1 : decide (hi < 0) = false := by simp; omega
      have k2 : (hi == 0) = false := by simp; omega
      clear HR
      go_wp2_with fail
      go_ret
      exact ⟨by rw [HV.out, k1, k2]; rfl, X2.out.be⟩
  · have HV : Hid (r = (!hh || decide (hi < 0) || (hi == 0 && !oh))) := HG.out _ _ (by simp; omega) HR.out
    have k3 : decide (lo < 0) = false := by simp; omega
    have k4 : (lo == 0) = false := by simp; omega
    clear HF HG
    rcases (by cases hh <;> cases oh <;> simp <;> omega : hh = false ∨ (hh = true ∧ hi < 0) ∨ (hh = true ∧ hi = 0 ∧ oh = true) ∨ (hh = true ∧ hi = 0 ∧ oh = false) ∨ (hh = true ∧ 0 < hi)) with rfl | ⟨rfl, k⟩ | ⟨rfl, rfl, rfl⟩ | ⟨rfl, rfl, rfl⟩ | ⟨rfl, k⟩
    · clear HR
      go_wp2_with fail
      go_ret
      exact ⟨by rw [HV.out]; rfl, X2.out.be⟩
    · clear HR
      go_wp2_with fail
      go_ret
      exact ⟨by rw [HV.out]; simp [k], X2.out.be⟩
    · clear HR
      go_wp2_with fail
      go_ret
      exact ⟨by rw [HV.out]; rfl, X2.out.be⟩
    · clear HR
      go_wp2_with fail
      go_ret
      exact ⟨by rw [HV.out]; rfl, X2.out.be⟩
    · have k1 : decide (hi < 0) = false := by simp; omega
      have k2 : (hi == 0) = false := by simp; omega
      clear HR
      go_wp2_with fail
      go_ret
      exact ⟨by rw [HV.out, k1, k2]; rfl, X2.out.be⟩
end Go.Proofs.YtfkhfplibhnceaaDoor.Val
/- What the reference's Clean answers. -/
namespace Go.Proofs.YtfkhfplibhnceaaDoor.Val
open Go.RowKit

/-- A span's box, that may be written, and the answer's. -/
structure S3 (w0 : World) (s : Sp) (w : World) : Prop where
  pa : SBox w w0.heap.size s
  fa : Fr w w0.heap.size
  pz : SBox w (w0.heap.size + 1) Sp.all
  fz : Fr w (w0.heap.size + 1)
  be : Below w0.heap.size w0 w
theorem S3.below {w0 w w' : World} {s : Sp} (h : S3 w0 s w) (hb : Below w.heap.size w w') : S3 w0 s w' := ⟨h.pa.below hb, h.fa.below hb, h.pz.below hb, h.fz.below hb, on h.be hb⟩
theorem S3.new (w : World) (s : Sp) (T1 T2 : TypeId) : S3 w s ((w.alloc (sobj s T1)).alloc (sobj Sp.all T2)) := by
  refine ⟨(SBox.new w s T1).alloc _, (Fr.new w _ T1).alloc _, ?_, ?_, back1 (alloc1 _ _)⟩
  · have := SBox.new (w.alloc (sobj s T1)) Sp.all T2; simpa using this
  · have := Fr.new (w.alloc (sobj s T1)) #[.bool Sp.all.no, .bool Sp.all.hl, .bool Sp.all.ol, .bool Sp.all.lo.t, .int .i64 Sp.all.lo.n, .string Sp.all.lo.s, .bool Sp.all.hh, .bool Sp.all.oh, .bool Sp.all.hi.t, .int .i64 Sp.all.hi.n, .string Sp.all.hi.s] T2; simpa using this
theorem cl_no (hl ol : Bool) (l : Val) (hh oh : Bool) (u : Val) : cleanS ⟨true, hl, ol, l, hh, oh, u⟩ = Sp.none := rfl
theorem cl_ff (ol : Bool) (l : Val) (oh : Bool) (u : Val) : cleanS ⟨false, false, ol, l, false, oh, u⟩ = Sp.all := by
  show btw En.zero En.zero = Sp.all
  unfold btw apartE; rw [isZ_zero]; rfl
theorem cl_ft (ol : Bool) (l : Val) (oh : Bool) (u : Val) : cleanS ⟨false, false, ol, l, true, oh, u⟩ = ⟨false, false, false, Val.zero, true, oh, u⟩ := by
  show btw En.zero ⟨true, oh, u⟩ = _
  unfold btw apartE; rw [isZ_zero]; rfl
theorem cl_tf (ol : Bool) (l : Val) (oh : Bool) (u : Val) : cleanS ⟨false, true, ol, l, false, oh, u⟩ = ⟨false, true, ol, l, false, false, Val.zero⟩ := by
  show btw ⟨true, ol, l⟩ En.zero = _
  unfold btw apartE; rw [isZ_zero, Bool.or_true]; rfl
theorem cl_tt (ol : Bool) (l : Val) (oh : Bool) (u : Val) : cleanS ⟨false, true, ol, l, true, oh, u⟩ = if sideB (cmpX l u) (ol || oh) then Sp.none else ⟨false, true, ol, l, true, oh, u⟩ := by
  show btw ⟨true, ol, l⟩ ⟨true, oh, u⟩ = _
  unfold btw apartE; rw [isZ_has rfl, isZ_has rfl]; rfl
set_option maxHeartbeats 8000000 in
theorem rclean_any (s : Sp) (w : World) (hs : s.ok) : Calls Tryd.prog 41 #[s.val] w fun e w' => e = .returned (cleanS s).val ∧ Below w.heap.size w w' := by
  have HL : Hid (∀ w1, Calls Tryd.prog 37 #[V s.lo.t s.lo.n s.lo.s, V s.hi.t s.hi.n s.hi.s] w1 fun e w' => e = .returned (.int .i64 (cmpX s.lo s.hi)) ∧ Below w1.heap.size w1 w') := fun w1 => rcmpX_any s.lo s.hi w1 hs.1 hs.2
  have HN : Hid _ := S3.new w s 35 35
  unfold sobj at HN
  obtain ⟨no, hl, ol, l, hh, oh, u⟩ := s
  have HT : Hid (no = false → hl = true → hh = true → cleanS ⟨no, hl, ol, l, hh, oh, u⟩ = if sideB (cmpX l u) (ol || oh) then Sp.none else ⟨false, true, ol, l, true, oh, u⟩) := fun h1 h2 h3 => by rw [h1, h2, h3, cl_tt]
  have HF : Hid (no = false → hl = false → hh = false → cleanS ⟨no, hl, ol, l, hh, oh, u⟩ = Sp.all) := fun h1 h2 h3 => by rw [h1, h2, h3, cl_ff]
  have HG : Hid (no = false → hl = false → hh = true → cleanS ⟨no, hl, ol, l, hh, oh, u⟩ = ⟨false, false, false, Val.zero, true, oh, u⟩) := fun h1 h2 h3 => by rw [h1, h2, h3, cl_ft]
  have HH : Hid (no = false → hl = true → hh = false → cleanS ⟨no, hl, ol, l, hh, oh, u⟩ = ⟨false, true, ol, l, false, false, Val.zero⟩) := fun h1 h2 h3 => by rw [h1, h2, h3, cl_tf]
  have HO : Hid (no = true → cleanS ⟨no, hl, ol, l, hh, oh, u⟩ = Sp.none) := fun h1 => by rw [h1, cl_no]
  generalize cleanS ⟨no, hl, ol, l, hh, oh, u⟩ = r at *
  unfold Sp.val
  simp only at *
  generalize cmpX l u = c at *
  clear hs
  go_enter Tryd.func41, Tryd.ntmps41
  go_wp2_with fail
  refine Calls.mono (HL.out _) ?_
  rintro e w1 ⟨rfl, hb⟩
  have X1 : Hid (S3 w ⟨no, hl, ol, l, hh, oh, u⟩ w1) := HN.out.below hb
  clear hb HN HL
  obtain ⟨⟨a0, a1, a2, a3, a4, a5, a6, a7, a8, a9, a10⟩, ⟨la, fa⟩, ⟨z0, z1, z2, z3, z4, z5, z6, z7, z8, z9, z10⟩, ⟨lz, fz⟩, _⟩ := X1.out
  simp only at a0 a1 a2 a3 a4 a5 a6 a7 a8 a9 a10
  have LC : no = true ∨ (no = false ∧ hl = false ∧ hh = false) ∨ (no = false ∧ hl = false ∧ hh = true) ∨ (no = false ∧ hl = true ∧ hh = false) ∨ (no = false ∧ hl = true ∧ hh = true ∧ (0 < c ∨ (c = 0 ∧ ol = true) ∨ (c = 0 ∧ ol = false ∧ oh = true) ∨ (c = 0 ∧ ol = false ∧ oh = false) ∨ c < 0)) := by
    cases no <;> cases hl <;> cases hh <;> cases ol <;> cases oh <;> simp <;> omega
  rcases LC with rfl | ⟨rfl, rfl, rfl⟩ | ⟨rfl, rfl, rfl⟩ | ⟨rfl, rfl, rfl⟩ | ⟨rfl, rfl, rfl, h | ⟨rfl, rfl⟩ | ⟨rfl, rfl, rfl⟩ | ⟨rfl, rfl, rfl⟩ | h⟩
  · have HV : Hid (r = Sp.none) := HO.out rfl
    clear HT HF HG HH HO
    go_wp2_with fail
    refine bodyPost_ret (v := (Sp.none : Sp).val) (by simp [results, Tryd.results41, go_sem, Sp.val, Sp.none, Val.zero, z0, z1, z2, z3, z4, z5, z6, z7, z8, z9, z10]) rfl ⟨by rw [HV.out]; rfl, ?_⟩
    repeat (refine set_below ?_ (by omega) _)
    exact X1.out.be
  · have HV : Hid (r = Sp.all) := HF.out rfl rfl rfl
    clear HT HF HG HH HO
    go_wp2_with fail
    refine bodyPost_ret (v := (Sp.all : Sp).val) (by simp [results, Tryd.results41, go_sem, Sp.val, Sp.all, Val.zero, z0, z1, z2, z3, z4, z5, z6, z7, z8, z9, z10]) rfl ⟨by rw [HV.out]; rfl, ?_⟩
    repeat (refine set_below ?_ (by omega) _)
    exact X1.out.be
  · have HV : Hid (r = ⟨false, false, false, Val.zero, true, oh, u⟩) := HG.out rfl rfl rfl
    clear HT HF HG HH HO
    go_wp2_with fail
    refine bodyPost_ret (v := (⟨false, false, false, Val.zero, true, oh, u⟩ : Sp).val) (by simp [results, Tryd.results41, go_sem, Sp.val, Val.zero, z0, z1, z2, z3, z4, z5, z6, z7, z8, z9, z10]) rfl ⟨by rw [HV.out]; rfl, ?_⟩
    repeat (refine set_below ?_ (by omega) _)
    exact X1.out.be
  · have HV : Hid (r = ⟨false, true, ol, l, false, false, Val.zero⟩) := HH.out rfl rfl rfl
    clear HT HF HG HH HO
    go_wp2_with fail
    refine bodyPost_ret (v := (⟨false, true, ol, l, false, false, Val.zero⟩ : Sp).val) (by simp [results, Tryd.results41, go_sem, Sp.val, Val.zero, z0, z1, z2, z3, z4, z5, z6, z7, z8, z9, z10]) rfl ⟨by rw [HV.out]; rfl, ?_⟩
    repeat (refine set_below ?_ (by omega) _)
    exact X1.out.be
  · have HV : Hid (r = Sp.none) := by have := HT.out rfl rfl rfl; rw [if_pos (by simp [sideB, h])] at this; exact this
    clear HT HF HG HH HO
    go_wp2_with fail
    refine bodyPost_ret (v := (Sp.none : Sp).val) (by simp [results, Tryd.results41, go_sem, Sp.val, Sp.none, Val.zero, z0, z1, z2, z3, z4, z5, z6, z7, z8, z9, z10]) rfl ⟨by rw [HV.out]; rfl, ?_⟩
    repeat (refine set_below ?_ (by omega) _)
    exact X1.out.be
  · have HV : Hid (r = Sp.none) := HT.out rfl rfl rfl
    clear HT HF HG HH HO
    go_wp2_with fail
    refine bodyPost_ret (v := (Sp.none : Sp).val) (by simp [results, Tryd.results41, go_sem, Sp.val, Sp.none, Val.zero, z0, z1, z2, z3, z4, z5, z6, z7, z8, z9, z10]) rfl ⟨by rw [HV.out]; rfl, ?_⟩
    repeat (refine set_below ?_ (by omega) _)
    exact X1.out.be
  · have HV : Hid (r = Sp.none) := HT.out rfl rfl rfl
    clear HT HF HG HH HO
    go_wp2_with fail
    refine bodyPost_ret (v := (Sp.none : Sp).val) (by simp [results, Tryd.results41, go_sem, Sp.val, Sp.none, Val.zero, z0, z1, z2, z3, z4, z5, z6, z7, z8, z9, z10]) rfl ⟨by rw [HV.out]; rfl, ?_⟩
    repeat (refine set_below ?_ (by omega) _)
    exact X1.out.be
  · have HV : Hid (r = ⟨false, true, false, l, true, false, u⟩) := HT.out rfl rfl rfl
    clear HT HF HG HH HO
    go_wp2_with fail
    refine bodyPost_ret (v := (⟨false, true, false, l, true, false, u⟩ : Sp).val) (by simp [results, Tryd.results41, go_sem, Sp.val, z0, z1, z2, z3, z4, z5, z6, z7, z8, z9, z10]) rfl ⟨by rw [HV.out]; rfl, ?_⟩
    repeat (refine set_below ?_ (by omega) _)
    exact X1.out.be
  · have HV : Hid (r = ⟨false, true, ol, l, true, oh, u⟩) := by have := HT.out rfl rfl rfl; rw [if_neg (by have h1 : decide (0 < c) = false := (by simp; omega); have h2 : (c == 0) = false := (by simp; omega); simp [sideB, h1, h2])] at this; exact this
    clear HT HF HG HH HO
    have k1 : decide (0 < c) = false := by simp; omega
    have k2 : (c == 0) = false := by simp; omega
    go_wp2_with fail
    refine bodyPost_ret (v := (⟨false, true, ol, l, true, oh, u⟩ : Sp).val) (by simp [results, Tryd.results41, go_sem, Sp.val, z0, z1, z2, z3, z4, z5, z6, z7, z8, z9, z10]) rfl ⟨by rw [HV.out]; rfl, ?_⟩
    repeat (refine set_below ?_ (by omega) _)
    exact X1.out.be
end Go.Proofs.YtfkhfplibhnceaaDoor.Val
/- Plain: what the reference's Meet and Hull make of two spans; a span's cells, written one by one. -/
namespace Go.Proofs.YtfkhfplibhnceaaDoor.Val
open Go.RowKit

theorem PM.s1 {w0 w : World} {s b : Sp} (h : PM w0 s b w) (v : Bool) : PM w0 ⟨s.no, v, s.ol, s.lo, s.hh, s.oh, s.hi⟩ b (w.setCell ⟨w0.heap.size, 1, none⟩ (.bool v)) := by
  obtain ⟨⟨c0, c1, c2, c3, c4, c5, c6, c7, c8, c9, c10⟩, pb, pz, fa, fb, fz, be⟩ := h
  exact ⟨by constructor <;> simp [go_sem, c0, c1, c2, c3, c4, c5, c6, c7, c8, c9, c10], pb.far (by omega), pz.far (by omega), fa.set, fb.set, fz.set, set_below be (Nat.le_refl _) _⟩
theorem PM.s2 {w0 w : World} {s b : Sp} (h : PM w0 s b w) (v : Bool) : PM w0 ⟨s.no, s.hl, v, s.lo, s.hh, s.oh, s.hi⟩ b (w.setCell ⟨w0.heap.size, 2, none⟩ (.bool v)) := by
  obtain ⟨⟨c0, c1, c2, c3, c4, c5, c6, c7, c8, c9, c10⟩, pb, pz, fa, fb, fz, be⟩ := h
  exact ⟨by constructor <;> simp [go_sem, c0, c1, c2, c3, c4, c5, c6, c7, c8, c9, c10], pb.far (by omega), pz.far (by omega), fa.set, fb.set, fz.set, set_below be (Nat.le_refl _) _⟩
theorem PM.s3 {w0 w : World} {s b : Sp} (h : PM w0 s b w) (v : Bool) : PM w0 ⟨s.no, s.hl, s.ol, ⟨v, s.lo.n, s.lo.s⟩, s.hh, s.oh, s.hi⟩ b (w.setCell ⟨w0.heap.size, 3, none⟩ (.bool v)) := by
  obtain ⟨⟨c0, c1, c2, c3, c4, c5, c6, c7, c8, c9, c10⟩, pb, pz, fa, fb, fz, be⟩ := h
  exact ⟨by constructor <;> simp [go_sem, c0, c1, c2, c3, c4, c5, c6, c7, c8, c9, c10], pb.far (by omega), pz.far (by omega), fa.set, fb.set, fz.set, set_below be (Nat.le_refl _) _⟩
theorem PM.s4 {w0 w : World} {s b : Sp} (h : PM w0 s b w) (v : Int) : PM w0 ⟨s.no, s.hl, s.ol, ⟨s.lo.t, v, s.lo.s⟩, s.hh, s.oh, s.hi⟩ b (w.setCell ⟨w0.heap.size, 4, none⟩ (.int .i64 v)) := by
  obtain ⟨⟨c0, c1, c2, c3, c4, c5, c6, c7, c8, c9, c10⟩, pb, pz, fa, fb, fz, be⟩ := h
  exact ⟨by constructor <;> simp [go_sem, c0, c1, c2, c3, c4, c5, c6, c7, c8, c9, c10], pb.far (by omega), pz.far (by omega), fa.set, fb.set, fz.set, set_below be (Nat.le_refl _) _⟩
theorem PM.s5 {w0 w : World} {s b : Sp} (h : PM w0 s b w) (v : ByteArray) : PM w0 ⟨s.no, s.hl, s.ol, ⟨s.lo.t, s.lo.n, v⟩, s.hh, s.oh, s.hi⟩ b (w.setCell ⟨w0.heap.size, 5, none⟩ (.string v)) := by
  obtain ⟨⟨c0, c1, c2, c3, c4, c5, c6, c7, c8, c9, c10⟩, pb, pz, fa, fb, fz, be⟩ := h
  exact ⟨by constructor <;> simp [go_sem, c0, c1, c2, c3, c4, c5, c6, c7, c8, c9, c10], pb.far (by omega), pz.far (by omega), fa.set, fb.set, fz.set, set_below be (Nat.le_refl _) _⟩
theorem PM.s6 {w0 w : World} {s b : Sp} (h : PM w0 s b w) (v : Bool) : PM w0 ⟨s.no, s.hl, s.ol, s.lo, v, s.oh, s.hi⟩ b (w.setCell ⟨w0.heap.size, 6, none⟩ (.bool v)) := by
  obtain ⟨⟨c0, c1, c2, c3, c4, c5, c6, c7, c8, c9, c10⟩, pb, pz, fa, fb, fz, be⟩ := h
  exact ⟨by constructor <;> simp [go_sem, c0, c1, c2, c3, c4, c5, c6, c7, c8, c9, c10], pb.far (by omega), pz.far (by omega), fa.set, fb.set, fz.set, set_below be (Nat.le_refl _) _⟩
theorem PM.s7 {w0 w : World} {s b : Sp} (h : PM w0 s b w) (v : Bool) : PM w0 ⟨s.no, s.hl, s.ol, s.lo, s.hh, v, s.hi⟩ b (w.setCell ⟨w0.heap.size, 7, none⟩ (.bool v)) := by
  obtain ⟨⟨c0, c1, c2, c3, c4, c5, c6, c7, c8, c9, c10⟩, pb, pz, fa, fb, fz, be⟩ := h
  exact ⟨by constructor <;> simp [go_sem, c0, c1, c2, c3, c4, c5, c6, c7, c8, c9, c10], pb.far (by omega), pz.far (by omega), fa.set, fb.set, fz.set, set_below be (Nat.le_refl _) _⟩
theorem PM.s8 {w0 w : World} {s b : Sp} (h : PM w0 s b w) (v : Bool) : PM w0 ⟨s.no, s.hl, s.ol, s.lo, s.hh, s.oh, ⟨v, s.hi.n, s.hi.s⟩⟩ b (w.setCell ⟨w0.heap.size, 8, none⟩ (.bool v)) := by
  obtain ⟨⟨c0, c1, c2, c3, c4, c5, c6, c7, c8, c9, c10⟩, pb, pz, fa, fb, fz, be⟩ := h
  exact ⟨by constructor <;> simp [go_sem, c0, c1, c2, c3, c4, c5, c6, c7, c8, c9, c10], pb.far (by omega), pz.far (by omega), fa.set, fb.set, fz.set, set_below be (Nat.le_refl _) _⟩
theorem PM.s9 {w0 w : World} {s b : Sp} (h : PM w0 s b w) (v : Int) : PM w0 ⟨s.no, s.hl, s.ol, s.lo, s.hh, s.oh, ⟨s.hi.t, v, s.hi.s⟩⟩ b (w.setCell ⟨w0.heap.size, 9, none⟩ (.int .i64 v)) := by
  obtain ⟨⟨c0, c1, c2, c3, c4, c5, c6, c7, c8, c9, c10⟩, pb, pz, fa, fb, fz, be⟩ := h
  exact ⟨by constructor <;> simp [go_sem, c0, c1, c2, c3, c4, c5, c6, c7, c8, c9, c10], pb.far (by omega), pz.far (by omega), fa.set, fb.set, fz.set, set_below be (Nat.le_refl _) _⟩
theorem PM.s10 {w0 w : World} {s b : Sp} (h : PM w0 s b w) (v : ByteArray) : PM w0 ⟨s.no, s.hl, s.ol, s.lo, s.hh, s.oh, ⟨s.hi.t, s.hi.n, v⟩⟩ b (w.setCell ⟨w0.heap.size, 10, none⟩ (.string v)) := by
  obtain ⟨⟨c0, c1, c2, c3, c4, c5, c6, c7, c8, c9, c10⟩, pb, pz, fa, fb, fz, be⟩ := h
  exact ⟨by constructor <;> simp [go_sem, c0, c1, c2, c3, c4, c5, c6, c7, c8, c9, c10], pb.far (by omega), pz.far (by omega), fa.set, fb.set, fz.set, set_below be (Nat.le_refl _) _⟩
theorem PM.put1 {w0 w : World} {a b : Sp} (h : PM w0 a b w) (x : Sp) : PM w0 x b (setS w w0.heap.size x) :=
  ⟨h.pa.put x, h.pb.offS x (by omega), h.pz.offS x (by omega), h.fa.setS x, h.fb.setS x, h.fz.setS x, below_setS h.be (Nat.le_refl _) x⟩
theorem PM.put2 {w0 w : World} {a b : Sp} (h : PM w0 a b w) (y : Sp) : PM w0 a y (setS w (w0.heap.size + 1) y) :=
  ⟨h.pa.offS y (by omega), h.pb.put y, h.pz.offS y (by omega), h.fa.setS y, h.fb.setS y, h.fz.setS y, below_setS h.be (by omega) y⟩
theorem six (x y o : Bool) (c : Int) : x = false ∨ (x = true ∧ y = false) ∨ (x = true ∧ y = true ∧ 0 < c) ∨ (x = true ∧ y = true ∧ c = 0 ∧ o = true) ∨ (x = true ∧ y = true ∧ c = 0 ∧ o = false) ∨ (x = true ∧ y = true ∧ c < 0) := by
  cases x <;> cases y <;> cases o <;> simp <;> omega
theorem six' (x y o : Bool) (c : Int) : x = false ∨ (x = true ∧ y = false) ∨ (x = true ∧ y = true ∧ c < 0) ∨ (x = true ∧ y = true ∧ c = 0 ∧ o = true) ∨ (x = true ∧ y = true ∧ c = 0 ∧ o = false) ∨ (x = true ∧ y = true ∧ 0 < c) := by
  cases x <;> cases y <;> cases o <;> simp <;> omega
/-- The lower end of what two meet in, as the reference reckons it. -/
def loM (a b : Sp) : Sp := if b.hl = false then a else if a.hl = false ∨ 0 < cmpX b.lo a.lo then ⟨a.no, true, b.ol, b.lo, a.hh, a.oh, a.hi⟩ else if cmpX b.lo a.lo = 0 then ⟨a.no, true, a.ol || b.ol, a.lo, a.hh, a.oh, a.hi⟩ else ⟨a.no, true, a.ol, a.lo, a.hh, a.oh, a.hi⟩
def hiM (a b : Sp) : Sp := if b.hh = false then a else if a.hh = false ∨ cmpX b.hi a.hi < 0 then ⟨a.no, a.hl, a.ol, a.lo, true, b.oh, b.hi⟩ else if cmpX b.hi a.hi = 0 then ⟨a.no, a.hl, a.ol, a.lo, true, a.oh || b.oh, a.hi⟩ else ⟨a.no, a.hl, a.ol, a.lo, true, a.oh, a.hi⟩
def loH (a b : Sp) : Sp := if a.hl = false ∨ b.hl = false then ⟨a.no, false, a.ol, a.lo, a.hh, a.oh, a.hi⟩ else if cmpX b.lo a.lo < 0 then ⟨a.no, a.hl, b.ol, b.lo, a.hh, a.oh, a.hi⟩ else if cmpX b.lo a.lo = 0 then ⟨a.no, a.hl, a.ol && b.ol, a.lo, a.hh, a.oh, a.hi⟩ else a
def hiH (a b : Sp) : Sp := if a.hh = false ∨ b.hh = false then ⟨a.no, a.hl, a.ol, a.lo, false, a.oh, a.hi⟩ else if 0 < cmpX b.hi a.hi then ⟨a.no, a.hl, a.ol, a.lo, a.hh, b.oh, b.hi⟩ else if cmpX b.hi a.hi = 0 then ⟨a.no, a.hl, a.ol, a.lo, a.hh, a.oh && b.oh, a.hi⟩ else a
theorem inner_zero (e : En) (side : Int) : innerE e En.zero side = e := by
  unfold innerE
  cases h : isZ e
  · rw [if_neg (by simp), if_pos isZ_zero]
  · rw [if_pos rfl]; exact (isZ_iff.1 h).symm
theorem zero_inner (e : En) (side : Int) : innerE En.zero e side = e := by unfold innerE; rw [if_pos isZ_zero]
theorem inner_has {a b : En} {side : Int} (ha : a.has = true) (hb : b.has = true) : innerE a b side = chosenE a b side (a.op || b.op) := by unfold innerE; rw [isZ_has ha, isZ_has hb]; rfl
theorem outer_has {a b : En} {side : Int} (ha : a.has = true) (hb : b.has = true) : outerE a b side = chosenE a b side (a.op && b.op) := by unfold outerE; rw [isZ_has ha, isZ_has hb]; rfl
theorem outer_zero (e : En) (side : Int) : outerE e En.zero side = En.zero := by unfold outerE; rw [isZ_zero, Bool.or_true]; rfl
theorem zero_outer (e : En) (side : Int) : outerE En.zero e side = En.zero := by unfold outerE; rw [isZ_zero, Bool.true_or]; rfl
theorem low_f {a : Sp} (h : a.hl = false) : lowE a = En.zero := by unfold lowE; rw [h]; rfl
theorem low_t {a : Sp} (h : a.hl = true) : lowE a = ⟨true, a.ol, a.lo⟩ := by unfold lowE; rw [h]; rfl
theorem upp_f {a : Sp} (h : a.hh = false) : uppE a = En.zero := by unfold uppE; rw [h]; rfl
theorem upp_t {a : Sp} (h : a.hh = true) : uppE a = ⟨true, a.oh, a.hi⟩ := by unfold uppE; rw [h]; rfl
theorem low_loM (a b : Sp) : lowE (loM a b) = innerE (lowE a) (lowE b) 1 := by
  unfold loM
  cases hb : b.hl
  · rw [if_pos rfl, low_f hb, inner_zero]
  rw [if_neg (by simp), low_t hb]
  cases ha : a.hl
  · rw [if_pos (.inl rfl), low_f ha, zero_inner]; rfl
  rw [low_t ha, inner_has rfl rfl]
  have t := turnX a.lo b.lo
  rcases chosen_cases ⟨true, a.ol, a.lo⟩ ⟨true, b.ol, b.lo⟩ 1 (a.ol || b.ol) (.inl rfl) with ⟨hc, e⟩ | ⟨hc, e⟩ | ⟨hc, e⟩ <;> rw [e] <;> simp only at hc <;> rw [hc] at t
  · rw [if_neg (by simp; omega), if_neg (by omega)]; rfl
  · rw [if_pos (.inr (by omega))]; rfl
  · rw [if_neg (by simp; omega), if_pos (by omega)]; rfl
theorem upp_hiM (a b : Sp) : uppE (hiM a b) = innerE (uppE a) (uppE b) (-1) := by
  unfold hiM
  cases hb : b.hh
  · rw [if_pos rfl, upp_f hb, inner_zero]
  rw [if_neg (by simp), upp_t hb]
  cases ha : a.hh
  · rw [if_pos (.inl rfl), upp_f ha, zero_inner]; rfl
  rw [upp_t ha, inner_has rfl rfl]
  have t := turnX a.hi b.hi
  rcases chosen_cases ⟨true, a.oh, a.hi⟩ ⟨true, b.oh, b.hi⟩ (-1) (a.oh || b.oh) (.inr rfl) with ⟨hc, e⟩ | ⟨hc, e⟩ | ⟨hc, e⟩ <;> rw [e] <;> simp only at hc <;> rw [hc] at t
  · rw [if_neg (by simp; omega), if_neg (by omega)]; rfl
  · rw [if_pos (.inr (by omega))]; rfl
  · rw [if_neg (by simp; omega), if_pos (by omega)]; rfl
theorem low_loH (a b : Sp) : lowE (loH a b) = outerE (lowE a) (lowE b) (-1) := by
  unfold loH
  cases ha : a.hl
  · rw [if_pos (.inl rfl), low_f ha, zero_outer]; rfl
  cases hb : b.hl
  · rw [if_pos (.inr rfl), low_f hb, outer_zero]; rfl
  rw [if_neg (by simp), low_t hb, low_t ha, outer_has rfl rfl]
  have t := turnX a.lo b.lo
  rcases chosen_cases ⟨true, a.ol, a.lo⟩ ⟨true, b.ol, b.lo⟩ (-1) (a.ol && b.ol) (.inr rfl) with ⟨hc, e⟩ | ⟨hc, e⟩ | ⟨hc, e⟩ <;> rw [e] <;> simp only at hc <;> rw [hc] at t
  · rw [if_neg (by omega), if_neg (by omega), low_t ha]
  · rw [if_pos (by omega)]; rfl
  · rw [if_neg (by omega), if_pos (by omega)]; rfl
theorem upp_hiH (a b : Sp) : uppE (hiH a b) = outerE (uppE a) (uppE b) 1 := by
  unfold hiH
  cases ha : a.hh
  · rw [if_pos (.inl rfl), upp_f ha, zero_outer]; rfl
  cases hb : b.hh
  · rw [if_pos (.inr rfl), upp_f hb, outer_zero]; rfl
  rw [if_neg (by simp), upp_t hb, upp_t ha, outer_has rfl rfl]
  have t := turnX a.hi b.hi
  rcases chosen_cases ⟨true, a.oh, a.hi⟩ ⟨true, b.oh, b.hi⟩ 1 (a.oh && b.oh) (.inl rfl) with ⟨hc, e⟩ | ⟨hc, e⟩ | ⟨hc, e⟩ <;> rw [e] <;> simp only at hc <;> rw [hc] at t
  · rw [if_neg (by omega), if_neg (by omega), upp_t ha]
  · rw [if_pos (by omega)]; rfl
  · rw [if_neg (by omega), if_pos (by omega)]; rfl
theorem loM_keeps (a b : Sp) : (loM a b).no = a.no ∧ (loM a b).hh = a.hh ∧ (loM a b).oh = a.oh ∧ (loM a b).hi = a.hi := by
  unfold loM
  split
  · exact ⟨rfl, rfl, rfl, rfl⟩
  · split
    · exact ⟨rfl, rfl, rfl, rfl⟩
    · split
      · exact ⟨rfl, rfl, rfl, rfl⟩
      · exact ⟨rfl, rfl, rfl, rfl⟩
theorem hiM_keeps (a b : Sp) : (hiM a b).no = a.no ∧ (hiM a b).hl = a.hl ∧ (hiM a b).ol = a.ol ∧ (hiM a b).lo = a.lo := by
  unfold hiM
  split
  · exact ⟨rfl, rfl, rfl, rfl⟩
  · split
    · exact ⟨rfl, rfl, rfl, rfl⟩
    · split
      · exact ⟨rfl, rfl, rfl, rfl⟩
      · exact ⟨rfl, rfl, rfl, rfl⟩
theorem loH_keeps (a b : Sp) : (loH a b).no = a.no ∧ (loH a b).hh = a.hh ∧ (loH a b).oh = a.oh ∧ (loH a b).hi = a.hi := by
  unfold loH
  split
  · exact ⟨rfl, rfl, rfl, rfl⟩
  · split
    · exact ⟨rfl, rfl, rfl, rfl⟩
    · split
      · exact ⟨rfl, rfl, rfl, rfl⟩
      · exact ⟨rfl, rfl, rfl, rfl⟩
theorem hiH_keeps (a b : Sp) : (hiH a b).no = a.no ∧ (hiH a b).hl = a.hl ∧ (hiH a b).ol = a.ol ∧ (hiH a b).lo = a.lo := by
  unfold hiH
  split
  · exact ⟨rfl, rfl, rfl, rfl⟩
  · split
    · exact ⟨rfl, rfl, rfl, rfl⟩
    · split
      · exact ⟨rfl, rfl, rfl, rfl⟩
      · exact ⟨rfl, rfl, rfl, rfl⟩
theorem clean_M (a b : Sp) (ha : a.no = false) : cleanS (hiM (loM a b) b) = btw (innerE (lowE a) (lowE b) 1) (innerE (uppE a) (uppE b) (-1)) := by
  obtain ⟨k1, k2, k3, k4⟩ := loM_keeps a b
  obtain ⟨j1, j2, j3, j4⟩ := hiM_keeps (loM a b) b
  have e1 : lowE (hiM (loM a b) b) = lowE (loM a b) := by unfold lowE; rw [j2, j3, j4]
  have e2 : uppE (loM a b) = uppE a := by unfold uppE; rw [k2, k3, k4]
  unfold cleanS
  rw [j1, k1, ha, if_neg (by simp), e1, low_loM, upp_hiM, e2]
theorem clean_H (a b : Sp) (ha : a.no = false) : cleanS (hiH (loH a b) b) = btw (outerE (lowE a) (lowE b) (-1)) (outerE (uppE a) (uppE b) 1) := by
  obtain ⟨k1, k2, k3, k4⟩ := loH_keeps a b
  obtain ⟨j1, j2, j3, j4⟩ := hiH_keeps (loH a b) b
  have e1 : lowE (hiH (loH a b) b) = lowE (loH a b) := by unfold lowE; rw [j2, j3, j4]
  have e2 : uppE (loH a b) = uppE a := by unfold uppE; rw [k2, k3, k4]
  unfold cleanS
  rw [j1, k1, ha, if_neg (by simp), e1, low_loH, upp_hiH, e2]
theorem meet_ref (a b : Sp) (ha : (cleanS a).no = false) (hb : (cleanS b).no = false) : cleanS (hiM (loM (cleanS a) (cleanS b)) (cleanS b)) = meetS a b := by
  rw [clean_M _ _ ha]
  unfold meetS meetC
  rw [ha, hb]; rfl
theorem hull_ref (a b : Sp) (ha : (cleanS a).no = false) (hb : (cleanS b).no = false) : cleanS (hiH (loH (cleanS a) (cleanS b)) (cleanS b)) = hullS a b := by
  rw [clean_H _ _ ha]
  unfold hullS hullC
  rw [ha, hb]; rfl
theorem ok_ite {c : Prop} [Decidable c] {a b : Sp} (h1 : a.ok) (h2 : b.ok) : (if c then a else b).ok := by split <;> assumption
theorem ok_loM {a b : Sp} (ha : a.ok) (hb : b.ok) : (loM a b).ok := ok_ite ha (ok_ite ⟨hb.1, ha.2⟩ (ok_ite ha ha))
theorem ok_hiM {a b : Sp} (ha : a.ok) (hb : b.ok) : (hiM a b).ok := ok_ite ha (ok_ite ⟨ha.1, hb.2⟩ (ok_ite ha ha))
theorem ok_loH {a b : Sp} (ha : a.ok) (hb : b.ok) : (loH a b).ok := ok_ite ha (ok_ite ⟨hb.1, ha.2⟩ (ok_ite ha ha))
theorem ok_hiH {a b : Sp} (ha : a.ok) (hb : b.ok) : (hiH a b).ok := ok_ite ha (ok_ite ⟨ha.1, hb.2⟩ (ok_ite ha ha))
theorem ok_none : Sp.none.ok := ⟨by decide, by decide⟩
theorem ok_btw {lo hi : En} (h1 : lo.ok) (h2 : hi.ok) : (btw lo hi).ok := ok_ite ok_none ⟨h1, h2⟩
theorem ok_zero : En.zero.ok := by unfold En.ok; decide
theorem ok_low {s : Sp} (h : s.ok) : (lowE s).ok := by unfold lowE; split; exact h.1; exact ok_zero
theorem ok_upp {s : Sp} (h : s.ok) : (uppE s).ok := by unfold uppE; split; exact h.2; exact ok_zero
theorem ok_clean {s : Sp} (h : s.ok) : (cleanS s).ok := ok_ite ok_none (ok_btw (ok_low h) (ok_upp h))
end Go.Proofs.YtfkhfplibhnceaaDoor.Val
/- What the reference's Meet answers. -/
namespace Go.Proofs.YtfkhfplibhnceaaDoor.Val
open Go.RowKit

set_option maxRecDepth 100000 in
set_option maxHeartbeats 8000000 in
theorem rmeet_any (a b : Sp) (w : World) (hao : a.ok) (hbo : b.ok) : Calls Tryd.prog 20 #[a.val, b.val] w fun e w' => e = .returned (meetS a b).val ∧ Below w.heap.size w w' := by
  have CA : Hid (∀ w1, Calls Tryd.prog 41 #[a.val] w1 fun e w' => e = .returned (cleanS a).val ∧ Below w1.heap.size w1 w') := fun w1 => rclean_any a w1 hao
  have CB : Hid (∀ w1, Calls Tryd.prog 41 #[b.val] w1 fun e w' => e = .returned (cleanS b).val ∧ Below w1.heap.size w1 w') := fun w1 => rclean_any b w1 hbo
  have HR : Hid ((cleanS a).no = false → (cleanS b).no = false → cleanS (hiM (loM (cleanS a) (cleanS b)) (cleanS b)) = meetS a b) := meet_ref a b
  have HN1 : Hid ((cleanS a).no = true → meetS a b = Sp.none) := fun h => by unfold meetS meetC; rw [h]; rfl
  have HN2 : Hid ((cleanS b).no = true → meetS a b = Sp.none) := fun h => by unfold meetS meetC; rw [h, Bool.or_true]; rfl
  have HA : Hid (cleanS a).ok := ok_clean hao
  have HBo : Hid (cleanS b).ok := ok_clean hbo
  have HN : Hid _ := PM.new w a b 35 35 35
  generalize cleanS a = ca at *
  generalize cleanS b = cb at *
  generalize meetS a b = r at *
  clear hao hbo
  unfold Sp.val at *
  go_enter Tryd.func20, Tryd.ntmps20
  go_wp2_with fail
  refine Calls.mono (CA.out _) ?_
  rintro e w1 ⟨rfl, hb⟩
  have X1 : Hid (PM w a b w1) := HN.out.below hb
  clear hb HN CA
  obtain ⟨⟨a0, a1, a2, a3, a4, a5, a6, a7, a8, a9, a10⟩, ⟨b0, b1, b2, b3, b4, b5, b6, b7, b8, b9, b10⟩, _, ⟨la, fa⟩, _, _, _⟩ := X1.out
  have lb := X1.out.pb.lt
  go_wp2_with fail
  refine Calls.mono (CB.out _) ?_
  rintro e w2 ⟨rfl, hb⟩
  have X2 : Hid (PM w ca b w2) := (X1.out.put1 ca).below hb
  clear hb X1 CB a0 a1 a2 a3 a4 a5 a6 a7 a8 a9 a10 b0 b1 b2 b3 b4 b5 b6 b7 b8 b9 b10 la fa lb
  obtain ⟨⟨a0, a1, a2, a3, a4, a5, a6, a7, a8, a9, a10⟩, ⟨b0, b1, b2, b3, b4, b5, b6, b7, b8, b9, b10⟩, ⟨z0, z1, z2, z3, z4, z5, z6, z7, z8, z9, z10⟩, ⟨la, fa⟩, ⟨lb, fb⟩, ⟨lz, fz⟩, _⟩ := X2.out
  obtain ⟨na, hla, ola, loa, hha, oha, hia⟩ := ca
  obtain ⟨nb, hlb, olb, lob, hhb, ohb, hib⟩ := cb
  simp only at *
  cases na
  case true =>
    go_wp2_with fail
    refine bodyPost_ret (v := Sp.none.val) (by simp [results, Tryd.results20, go_sem, Sp.val, Sp.none, Val.zero, z0, z1, z2, z3, z4, z5, z6, z7, z8, z9, z10]) rfl ⟨by rw [HN1.out (by trivial)]; rfl, ?_⟩
    repeat (refine set_below ?_ (by omega) _)
    exact X2.out.be
  cases nb
  case true =>
    go_wp2_with fail
    refine bodyPost_ret (v := Sp.none.val) (by simp [results, Tryd.results20, go_sem, Sp.val, Sp.none, Val.zero, z0, z1, z2, z3, z4, z5, z6, z7, z8, z9, z10]) rfl ⟨by rw [HN2.out (by trivial)]; rfl, ?_⟩
    repeat (refine set_below ?_ (by omega) _)
    exact X2.out.be
  have HR' : Hid _ := HR.out (by trivial) (by trivial)
  clear HR HN1 HN2
  have KL : Hid (∀ w1, Calls Tryd.prog 37 #[V lob.t lob.n lob.s, V loa.t loa.n loa.s] w1 fun e w' => e = .returned (.int .i64 (cmpX lob loa)) ∧ Below w1.heap.size w1 w') := fun w1 => rcmpX_any lob loa w1 HBo.out.1 HA.out.1
  go_upto_if 19 with fail
  go_cut [] from 5 to 47 (fun wx => Hid (PM w (loM ⟨false, hla, ola, loa, hha, oha, hia⟩ ⟨false, hlb, olb, lob, hhb, ohb, hib⟩) ⟨false, hlb, olb, lob, hhb, ohb, hib⟩ wx))
  case first =>
    clear HR' HA HBo
    have X3 : Hid (PM w ⟨false, hla, ola, loa, hha, oha, hia⟩ ⟨false, hlb, olb, lob, hhb, ohb, hib⟩ (setS w2 (w.heap.size + 1) ⟨false, hlb, olb, lob, hhb, ohb, hib⟩)) := X2.out.put2 ⟨false, hlb, olb, lob, hhb, ohb, hib⟩
    clear X2
    have LC : hlb = false ∨ (hlb = true ∧ hla = false) ∨ (hlb = true ∧ hla = true ∧ 0 < cmpX lob loa) ∨ (hlb = true ∧ hla = true ∧ cmpX lob loa = 0 ∧ ola = true) ∨ (hlb = true ∧ hla = true ∧ cmpX lob loa = 0 ∧ ola = false) ∨ (hlb = true ∧ hla = true ∧ cmpX lob loa < 0) := six hlb hla ola _
    rcases LC with rfl | ⟨rfl, rfl⟩ | ⟨rfl, rfl, hc⟩ | ⟨rfl, rfl, hc, rfl⟩ | ⟨rfl, rfl, hc, rfl⟩ | ⟨rfl, rfl, hc⟩
    · have e : loM ⟨false, hla, ola, loa, hha, oha, hia⟩ ⟨false, false, olb, lob, hhb, ohb, hib⟩ = ⟨false, hla, ola, loa, hha, oha, hia⟩ := by unfold loM; rw [if_pos rfl]
      go_wp2_with fail
      go_meet
      rw [Hid, e]
      exact X3.out
    · have e : loM ⟨false, false, ola, loa, hha, oha, hia⟩ ⟨false, true, olb, lob, hhb, ohb, hib⟩ = ⟨false, true, olb, lob, hha, oha, hia⟩ := by unfold loM; rw [if_neg (by simp), if_pos (.inl rfl)]
      go_wp2_with fail
      refine Calls.mono (KL.out _) ?_
      rintro e' w3 ⟨rfl, hb⟩
      have X4 : Hid (PM w ⟨false, false, ola, loa, hha, oha, hia⟩ ⟨false, true, olb, lob, hhb, ohb, hib⟩ w3) := X3.out.below hb
      clear hb X3 a0 a1 a2 a3 a4 a5 a6 a7 a8 a9 a10 b0 b1 b2 b3 b4 b5 b6 b7 b8 b9 b10 z0 z1 z2 z3 z4 z5 z6 z7 z8 z9 z10 la fa lb fb lz fz
      obtain ⟨⟨a0, a1, a2, a3, a4, a5, a6, a7, a8, a9, a10⟩, ⟨b0, b1, b2, b3, b4, b5, b6, b7, b8, b9, b10⟩, _, ⟨la, fa⟩, ⟨lb, fb⟩, _, _⟩ := X4.out
      simp only at a0 a1 a2 a3 a4 a5 a6 a7 a8 a9 a10 b0 b1 b2 b3 b4 b5 b6 b7 b8 b9 b10
      go_wp2_with fail
      go_meet
      rw [Hid, e]
      exact X4.out |>.s3 lob.t |>.s4 lob.n |>.s5 lob.s |>.s2 olb |>.s1 true
    · have e : loM ⟨false, true, ola, loa, hha, oha, hia⟩ ⟨false, true, olb, lob, hhb, ohb, hib⟩ = ⟨false, true, olb, lob, hha, oha, hia⟩ := by unfold loM; rw [if_neg (by simp), if_pos (.inr hc)]
      go_wp2_with fail
      refine Calls.mono (KL.out _) ?_
      rintro e' w3 ⟨rfl, hb⟩
      have X4 : Hid (PM w ⟨false, true, ola, loa, hha, oha, hia⟩ ⟨false, true, olb, lob, hhb, ohb, hib⟩ w3) := X3.out.below hb
      clear hb X3 a0 a1 a2 a3 a4 a5 a6 a7 a8 a9 a10 b0 b1 b2 b3 b4 b5 b6 b7 b8 b9 b10 z0 z1 z2 z3 z4 z5 z6 z7 z8 z9 z10 la fa lb fb lz fz
      obtain ⟨⟨a0, a1, a2, a3, a4, a5, a6, a7, a8, a9, a10⟩, ⟨b0, b1, b2, b3, b4, b5, b6, b7, b8, b9, b10⟩, _, ⟨la, fa⟩, ⟨lb, fb⟩, _, _⟩ := X4.out
      simp only at a0 a1 a2 a3 a4 a5 a6 a7 a8 a9 a10 b0 b1 b2 b3 b4 b5 b6 b7 b8 b9 b10
      go_wp2_with fail
      go_meet
      rw [Hid, e]
      exact X4.out |>.s3 lob.t |>.s4 lob.n |>.s5 lob.s |>.s2 olb |>.s1 true
    · have e : loM ⟨false, true, true, loa, hha, oha, hia⟩ ⟨false, true, olb, lob, hhb, ohb, hib⟩ = ⟨false, true, true, loa, hha, oha, hia⟩ := by unfold loM; simp only; rw [if_neg (by simp), if_neg (by simp; omega), if_pos hc]; rfl
      go_wp2_with fail
      refine Calls.mono (KL.out _) ?_
      rintro e' w3 ⟨rfl, hb⟩
      have X4 : Hid (PM w ⟨false, true, true, loa, hha, oha, hia⟩ ⟨false, true, olb, lob, hhb, ohb, hib⟩ w3) := X3.out.below hb
      clear hb X3 a0 a1 a2 a3 a4 a5 a6 a7 a8 a9 a10 b0 b1 b2 b3 b4 b5 b6 b7 b8 b9 b10 z0 z1 z2 z3 z4 z5 z6 z7 z8 z9 z10 la fa lb fb lz fz
      obtain ⟨⟨a0, a1, a2, a3, a4, a5, a6, a7, a8, a9, a10⟩, ⟨b0, b1, b2, b3, b4, b5, b6, b7, b8, b9, b10⟩, _, ⟨la, fa⟩, ⟨lb, fb⟩, _, _⟩ := X4.out
      simp only at a0 a1 a2 a3 a4 a5 a6 a7 a8 a9 a10 b0 b1 b2 b3 b4 b5 b6 b7 b8 b9 b10
      go_wp2_with fail
      go_meet
      rw [Hid, e]
      exact X4.out |>.s2 true |>.s1 true
    · have e : loM ⟨false, true, false, loa, hha, oha, hia⟩ ⟨false, true, olb, lob, hhb, ohb, hib⟩ = ⟨false, true, olb, loa, hha, oha, hia⟩ := by unfold loM; simp only; rw [if_neg (by simp), if_neg (by simp; omega), if_pos hc]; rfl
      go_wp2_with fail
      refine Calls.mono (KL.out _) ?_
      rintro e' w3 ⟨rfl, hb⟩
      have X4 : Hid (PM w ⟨false, true, false, loa, hha, oha, hia⟩ ⟨false, true, olb, lob, hhb, ohb, hib⟩ w3) := X3.out.below hb
      clear hb X3 a0 a1 a2 a3 a4 a5 a6 a7 a8 a9 a10 b0 b1 b2 b3 b4 b5 b6 b7 b8 b9 b10 z0 z1 z2 z3 z4 z5 z6 z7 z8 z9 z10 la fa lb fb lz fz
      obtain ⟨⟨a0, a1, a2, a3, a4, a5, a6, a7, a8, a9, a10⟩, ⟨b0, b1, b2, b3, b4, b5, b6, b7, b8, b9, b10⟩, _, ⟨la, fa⟩, ⟨lb, fb⟩, _, _⟩ := X4.out
      simp only at a0 a1 a2 a3 a4 a5 a6 a7 a8 a9 a10 b0 b1 b2 b3 b4 b5 b6 b7 b8 b9 b10
      go_wp2_with fail
      go_meet
      rw [Hid, e]
      exact X4.out |>.s2 olb |>.s1 true
    · have e : loM ⟨false, true, ola, loa, hha, oha, hia⟩ ⟨false, true, olb, lob, hhb, ohb, hib⟩ = ⟨false, true, ola, loa, hha, oha, hia⟩ := by unfold loM; simp only; rw [if_neg (by simp), if_neg (by simp; omega), if_neg (by omega)]
      have k1 : decide (0 < cmpX lob loa) = false := by simp; omega
      have k2 : (cmpX lob loa == 0) = false := by simp; omega
      go_wp2_with fail
      refine Calls.mono (KL.out _) ?_
      rintro e' w3 ⟨rfl, hb⟩
      have X4 : Hid (PM w ⟨false, true, ola, loa, hha, oha, hia⟩ ⟨false, true, olb, lob, hhb, ohb, hib⟩ w3) := X3.out.below hb
      clear hb X3 a0 a1 a2 a3 a4 a5 a6 a7 a8 a9 a10 b0 b1 b2 b3 b4 b5 b6 b7 b8 b9 b10 z0 z1 z2 z3 z4 z5 z6 z7 z8 z9 z10 la fa lb fb lz fz
      obtain ⟨⟨a0, a1, a2, a3, a4, a5, a6, a7, a8, a9, a10⟩, ⟨b0, b1, b2, b3, b4, b5, b6, b7, b8, b9, b10⟩, _, ⟨la, fa⟩, ⟨lb, fb⟩, _, _⟩ := X4.out
      simp only at a0 a1 a2 a3 a4 a5 a6 a7 a8 a9 a10 b0 b1 b2 b3 b4 b5 b6 b7 b8 b9 b10
      go_wp2_with fail
      go_meet
      rw [Hid, e]
      exact X4.out |>.s1 true
  case rest =>
  skip
  have H1o : Hid (loM ⟨false, hla, ola, loa, hha, oha, hia⟩ ⟨false, hlb, olb, lob, hhb, ohb, hib⟩).ok := ok_loM HA.out HBo.out
  have HX : Hid (PM w (loM ⟨false, hla, ola, loa, hha, oha, hia⟩ ⟨false, hlb, olb, lob, hhb, ohb, hib⟩) ⟨false, hlb, olb, lob, hhb, ohb, hib⟩ wc) := hcut.out
  clear hcut HA KL X2 a0 a1 a2 a3 a4 a5 a6 a7 a8 a9 a10 b0 b1 b2 b3 b4 b5 b6 b7 b8 b9 b10 z0 z1 z2 z3 z4 z5 z6 z7 z8 z9 z10 la fa lb fb lz fz
  generalize loM ⟨false, hla, ola, loa, hha, oha, hia⟩ ⟨false, hlb, olb, lob, hhb, ohb, hib⟩ = s1 at *
  obtain ⟨n1, hl1, ol1, lo1, hh1, oh1, hi1⟩ := s1
  have KH : Hid (∀ w1, Calls Tryd.prog 37 #[V hib.t hib.n hib.s, V hi1.t hi1.n hi1.s] w1 fun e w' => e = .returned (.int .i64 (cmpX hib hi1)) ∧ Below w1.heap.size w1 w') := fun w1 => rcmpX_any hib hi1 w1 HBo.out.2 H1o.out.2
  obtain ⟨⟨a0, a1, a2, a3, a4, a5, a6, a7, a8, a9, a10⟩, ⟨b0, b1, b2, b3, b4, b5, b6, b7, b8, b9, b10⟩, ⟨z0, z1, z2, z3, z4, z5, z6, z7, z8, z9, z10⟩, ⟨la, fa⟩, ⟨lb, fb⟩, ⟨lz, fz⟩, _⟩ := HX.out
  simp only at a0 a1 a2 a3 a4 a5 a6 a7 a8 a9 a10 b0 b1 b2 b3 b4 b5 b6 b7 b8 b9 b10
  go_upto_if 49 with fail
  go_cut [] from 5 to 77 (fun wx => Hid (PM w (hiM ⟨n1, hl1, ol1, lo1, hh1, oh1, hi1⟩ ⟨false, hlb, olb, lob, hhb, ohb, hib⟩) ⟨false, hlb, olb, lob, hhb, ohb, hib⟩ wx))
  case first =>
    clear HR' H1o HBo
    have X3 : Hid (PM w ⟨n1, hl1, ol1, lo1, hh1, oh1, hi1⟩ ⟨false, hlb, olb, lob, hhb, ohb, hib⟩ wc) := HX.out
    clear HX
    have LC : hhb = false ∨ (hhb = true ∧ hh1 = false) ∨ (hhb = true ∧ hh1 = true ∧ cmpX hib hi1 < 0) ∨ (hhb = true ∧ hh1 = true ∧ cmpX hib hi1 = 0 ∧ oh1 = true) ∨ (hhb = true ∧ hh1 = true ∧ cmpX hib hi1 = 0 ∧ oh1 = false) ∨ (hhb = true ∧ hh1 = true ∧ 0 < cmpX hib hi1) := six' hhb hh1 oh1 _
    rcases LC with rfl | ⟨rfl, rfl⟩ | ⟨rfl, rfl, hc⟩ | ⟨rfl, rfl, hc, rfl⟩ | ⟨rfl, rfl, hc, rfl⟩ | ⟨rfl, rfl, hc⟩
    · have e : hiM ⟨n1, hl1, ol1, lo1, hh1, oh1, hi1⟩ ⟨false, hlb, olb, lob, false, ohb, hib⟩ = ⟨n1, hl1, ol1, lo1, hh1, oh1, hi1⟩ := by unfold hiM; rw [if_pos rfl]
      go_wp2_with fail
      go_meet
      rw [Hid, e]
      exact X3.out
    · have e : hiM ⟨n1, hl1, ol1, lo1, false, oh1, hi1⟩ ⟨false, hlb, olb, lob, true, ohb, hib⟩ = ⟨n1, hl1, ol1, lo1, true, ohb, hib⟩ := by unfold hiM; rw [if_neg (by simp), if_pos (.inl rfl)]
      go_wp2_with fail
      refine Calls.mono (KH.out _) ?_
      rintro e' w3 ⟨rfl, hb⟩
      have X4 : Hid (PM w ⟨n1, hl1, ol1, lo1, false, oh1, hi1⟩ ⟨false, hlb, olb, lob, true, ohb, hib⟩ w3) := X3.out.below hb
      clear hb X3 a0 a1 a2 a3 a4 a5 a6 a7 a8 a9 a10 b0 b1 b2 b3 b4 b5 b6 b7 b8 b9 b10 z0 z1 z2 z3 z4 z5 z6 z7 z8 z9 z10 la fa lb fb lz fz
      obtain ⟨⟨a0, a1, a2, a3, a4, a5, a6, a7, a8, a9, a10⟩, ⟨b0, b1, b2, b3, b4, b5, b6, b7, b8, b9, b10⟩, _, ⟨la, fa⟩, ⟨lb, fb⟩, _, _⟩ := X4.out
      simp only at a0 a1 a2 a3 a4 a5 a6 a7 a8 a9 a10 b0 b1 b2 b3 b4 b5 b6 b7 b8 b9 b10
      go_wp2_with fail
      go_meet
      rw [Hid, e]
      exact X4.out |>.s8 hib.t |>.s9 hib.n |>.s10 hib.s |>.s7 ohb |>.s6 true
    · have e : hiM ⟨n1, hl1, ol1, lo1, true, oh1, hi1⟩ ⟨false, hlb, olb, lob, true, ohb, hib⟩ = ⟨n1, hl1, ol1, lo1, true, ohb, hib⟩ := by unfold hiM; rw [if_neg (by simp), if_pos (.inr hc)]
      go_wp2_with fail
      refine Calls.mono (KH.out _) ?_
      rintro e' w3 ⟨rfl, hb⟩
      have X4 : Hid (PM w ⟨n1, hl1, ol1, lo1, true, oh1, hi1⟩ ⟨false, hlb, olb, lob, true, ohb, hib⟩ w3) := X3.out.below hb
      clear hb X3 a0 a1 a2 a3 a4 a5 a6 a7 a8 a9 a10 b0 b1 b2 b3 b4 b5 b6 b7 b8 b9 b10 z0 z1 z2 z3 z4 z5 z6 z7 z8 z9 z10 la fa lb fb lz fz
      obtain ⟨⟨a0, a1, a2, a3, a4, a5, a6, a7, a8, a9, a10⟩, ⟨b0, b1, b2, b3, b4, b5, b6, b7, b8, b9, b10⟩, _, ⟨la, fa⟩, ⟨lb, fb⟩, _, _⟩ := X4.out
      simp only at a0 a1 a2 a3 a4 a5 a6 a7 a8 a9 a10 b0 b1 b2 b3 b4 b5 b6 b7 b8 b9 b10
      go_wp2_with fail
      go_meet
      rw [Hid, e]
      exact X4.out |>.s8 hib.t |>.s9 hib.n |>.s10 hib.s |>.s7 ohb |>.s6 true
    · have e : hiM ⟨n1, hl1, ol1, lo1, true, true, hi1⟩ ⟨false, hlb, olb, lob, true, ohb, hib⟩ = ⟨n1, hl1, ol1, lo1, true, true, hi1⟩ := by unfold hiM; simp only; rw [if_neg (by simp), if_neg (by simp; omega), if_pos hc]; rfl
      go_wp2_with fail
      refine Calls.mono (KH.out _) ?_
      rintro e' w3 ⟨rfl, hb⟩
      have X4 : Hid (PM w ⟨n1, hl1, ol1, lo1, true, true, hi1⟩ ⟨false, hlb, olb, lob, true, ohb, hib⟩ w3) := X3.out.below hb
      clear hb X3 a0 a1 a2 a3 a4 a5 a6 a7 a8 a9 a10 b0 b1 b2 b3 b4 b5 b6 b7 b8 b9 b10 z0 z1 z2 z3 z4 z5 z6 z7 z8 z9 z10 la fa lb fb lz fz
      obtain ⟨⟨a0, a1, a2, a3, a4, a5, a6, a7, a8, a9, a10⟩, ⟨b0, b1, b2, b3, b4, b5, b6, b7, b8, b9, b10⟩, _, ⟨la, fa⟩, ⟨lb, fb⟩, _, _⟩ := X4.out
      simp only at a0 a1 a2 a3 a4 a5 a6 a7 a8 a9 a10 b0 b1 b2 b3 b4 b5 b6 b7 b8 b9 b10
      go_wp2_with fail
      go_meet
      rw [Hid, e]
      exact X4.out |>.s7 true |>.s6 true
    · have e : hiM ⟨n1, hl1, ol1, lo1, true, false, hi1⟩ ⟨false, hlb, olb, lob, true, ohb, hib⟩ = ⟨n1, hl1, ol1, lo1, true, ohb, hi1⟩ := by unfold hiM; simp only; rw [if_neg (by simp), if_neg (by simp; omega), if_pos hc]; rfl
      go_wp2_with fail
      refine Calls.mono (KH.out _) ?_
      rintro e' w3 ⟨rfl, hb⟩
      have X4 : Hid (PM w ⟨n1, hl1, ol1, lo1, true, false, hi1⟩ ⟨false, hlb, olb, lob, true, ohb, hib⟩ w3) := X3.out.below hb
      clear hb X3 a0 a1 a2 a3 a4 a5 a6 a7 a8 a9 a10 b0 b1 b2 b3 b4 b5 b6 b7 b8 b9 b10 z0 z1 z2 z3 z4 z5 z6 z7 z8 z9 z10 la fa lb fb lz fz
      obtain ⟨⟨a0, a1, a2, a3, a4, a5, a6, a7, a8, a9, a10⟩, ⟨b0, b1, b2, b3, b4, b5, b6, b7, b8, b9, b10⟩, _, ⟨la, fa⟩, ⟨lb, fb⟩, _, _⟩ := X4.out
      simp only at a0 a1 a2 a3 a4 a5 a6 a7 a8 a9 a10 b0 b1 b2 b3 b4 b5 b6 b7 b8 b9 b10
      go_wp2_with fail
      go_meet
      rw [Hid, e]
      exact X4.out |>.s7 ohb |>.s6 true
    · have e : hiM ⟨n1, hl1, ol1, lo1, true, oh1, hi1⟩ ⟨false, hlb, olb, lob, true, ohb, hib⟩ = ⟨n1, hl1, ol1, lo1, true, oh1, hi1⟩ := by unfold hiM; simp only; rw [if_neg (by simp), if_neg (by simp; omega), if_neg (by omega)]
      have k1 : decide (cmpX hib hi1 < 0) = false := by simp; omega
      have k2 : (cmpX hib hi1 == 0) = false := by simp; omega
      go_wp2_with fail
      refine Calls.mono (KH.out _) ?_
      rintro e' w3 ⟨rfl, hb⟩
      have X4 : Hid (PM w ⟨n1, hl1, ol1, lo1, true, oh1, hi1⟩ ⟨false, hlb, olb, lob, true, ohb, hib⟩ w3) := X3.out.below hb
      clear hb X3 a0 a1 a2 a3 a4 a5 a6 a7 a8 a9 a10 b0 b1 b2 b3 b4 b5 b6 b7 b8 b9 b10 z0 z1 z2 z3 z4 z5 z6 z7 z8 z9 z10 la fa lb fb lz fz
      obtain ⟨⟨a0, a1, a2, a3, a4, a5, a6, a7, a8, a9, a10⟩, ⟨b0, b1, b2, b3, b4, b5, b6, b7, b8, b9, b10⟩, _, ⟨la, fa⟩, ⟨lb, fb⟩, _, _⟩ := X4.out
      simp only at a0 a1 a2 a3 a4 a5 a6 a7 a8 a9 a10 b0 b1 b2 b3 b4 b5 b6 b7 b8 b9 b10
      go_wp2_with fail
      go_meet
      rw [Hid, e]
      exact X4.out |>.s6 true
  case rest =>
  skip
  have CF : Hid (∀ w1, Calls Tryd.prog 41 #[(hiM ⟨n1, hl1, ol1, lo1, hh1, oh1, hi1⟩ ⟨false, hlb, olb, lob, hhb, ohb, hib⟩).val] w1 fun e w' => e = .returned r.val ∧ Below w1.heap.size w1 w') := fun w1 => by
    have := rclean_any (hiM ⟨n1, hl1, ol1, lo1, hh1, oh1, hi1⟩ ⟨false, hlb, olb, lob, hhb, ohb, hib⟩) w1 (ok_hiM H1o.out HBo.out)
    rw [HR'.out] at this
    exact this
  have HY : Hid (PM w (hiM ⟨n1, hl1, ol1, lo1, hh1, oh1, hi1⟩ ⟨false, hlb, olb, lob, hhb, ohb, hib⟩) ⟨false, hlb, olb, lob, hhb, ohb, hib⟩ wc) := hcut.out
  clear hcut HX HR' H1o HBo KH a0 a1 a2 a3 a4 a5 a6 a7 a8 a9 a10 b0 b1 b2 b3 b4 b5 b6 b7 b8 b9 b10 z0 z1 z2 z3 z4 z5 z6 z7 z8 z9 z10 la fa lb fb lz fz
  generalize hiM ⟨n1, hl1, ol1, lo1, hh1, oh1, hi1⟩ ⟨false, hlb, olb, lob, hhb, ohb, hib⟩ = s2 at *
  unfold Sp.val at CF
  obtain ⟨⟨a0, a1, a2, a3, a4, a5, a6, a7, a8, a9, a10⟩, _, _, _, _, _, _⟩ := HY.out
  go_wp2_with fail
  refine Calls.mono (CF.out _) ?_
  rintro e w9 ⟨rfl, hb⟩
  have HZ : Hid (PM w s2 ⟨false, hlb, olb, lob, hhb, ohb, hib⟩ w9) := HY.out.below hb
  clear hb HY CF a0 a1 a2 a3 a4 a5 a6 a7 a8 a9 a10
  obtain ⟨_, _, ⟨z0, z1, z2, z3, z4, z5, z6, z7, z8, z9, z10⟩, _, _, ⟨lz, fz⟩, _⟩ := HZ.out
  go_wp2_with fail
  refine bodyPost_ret (v := r.val) (by simp [results, Tryd.results20, go_sem, Sp.val, z0, z1, z2, z3, z4, z5, z6, z7, z8, z9, z10]) rfl ⟨rfl, ?_⟩
  repeat (refine set_below ?_ (by omega) _)
  exact HZ.out.be
end Go.Proofs.YtfkhfplibhnceaaDoor.Val
/- What the reference's Hull answers. -/
namespace Go.Proofs.YtfkhfplibhnceaaDoor.Val
open Go.RowKit

theorem sixH (x y o : Bool) (c : Int) : x = false ∨ (x = true ∧ y = false) ∨ (x = true ∧ y = true ∧ 0 < c) ∨ (x = true ∧ y = true ∧ c = 0 ∧ o = true) ∨ (x = true ∧ y = true ∧ c = 0 ∧ o = false) ∨ (x = true ∧ y = true ∧ c < 0) := six x y o c
set_option maxRecDepth 100000 in
set_option maxHeartbeats 8000000 in
theorem rhull_any (a b : Sp) (w : World) (hao : a.ok) (hbo : b.ok) : Calls Tryd.prog 22 #[a.val, b.val] w fun e w' => e = .returned (hullS a b).val ∧ Below w.heap.size w w' := by
  have CA : Hid (∀ w1, Calls Tryd.prog 41 #[a.val] w1 fun e w' => e = .returned (cleanS a).val ∧ Below w1.heap.size w1 w') := fun w1 => rclean_any a w1 hao
  have CB : Hid (∀ w1, Calls Tryd.prog 41 #[b.val] w1 fun e w' => e = .returned (cleanS b).val ∧ Below w1.heap.size w1 w') := fun w1 => rclean_any b w1 hbo
  have HR : Hid ((cleanS a).no = false → (cleanS b).no = false → cleanS (hiH (loH (cleanS a) (cleanS b)) (cleanS b)) = hullS a b) := hull_ref a b
  have HN1 : Hid ((cleanS a).no = true → hullS a b = cleanS b) := fun h => by unfold hullS hullC; rw [h]; rfl
  have HN2 : Hid ((cleanS a).no = false → (cleanS b).no = true → hullS a b = cleanS a) := fun h1 h => by unfold hullS hullC; rw [h, h1]; rfl
  have HA : Hid (cleanS a).ok := ok_clean hao
  have HBo : Hid (cleanS b).ok := ok_clean hbo
  have HN : Hid _ := PM.new w a b 35 35 35
  generalize cleanS a = ca at *
  generalize cleanS b = cb at *
  generalize hullS a b = r at *
  clear hao hbo
  unfold Sp.val at *
  go_enter Tryd.func22, Tryd.ntmps22
  go_wp2_with fail
  refine Calls.mono (CA.out _) ?_
  rintro e w1 ⟨rfl, hb⟩
  have X1 : Hid (PM w a b w1) := HN.out.below hb
  clear hb HN CA
  obtain ⟨⟨a0, a1, a2, a3, a4, a5, a6, a7, a8, a9, a10⟩, ⟨b0, b1, b2, b3, b4, b5, b6, b7, b8, b9, b10⟩, _, ⟨la, fa⟩, _, _, _⟩ := X1.out
  have lb := X1.out.pb.lt
  go_wp2_with fail
  refine Calls.mono (CB.out _) ?_
  rintro e w2 ⟨rfl, hb⟩
  have X2 : Hid (PM w ca b w2) := (X1.out.put1 ca).below hb
  clear hb X1 CB a0 a1 a2 a3 a4 a5 a6 a7 a8 a9 a10 b0 b1 b2 b3 b4 b5 b6 b7 b8 b9 b10 la fa lb
  obtain ⟨⟨a0, a1, a2, a3, a4, a5, a6, a7, a8, a9, a10⟩, ⟨b0, b1, b2, b3, b4, b5, b6, b7, b8, b9, b10⟩, ⟨z0, z1, z2, z3, z4, z5, z6, z7, z8, z9, z10⟩, ⟨la, fa⟩, ⟨lb, fb⟩, ⟨lz, fz⟩, _⟩ := X2.out
  obtain ⟨na, hla, ola, loa, hha, oha, hia⟩ := ca
  obtain ⟨nb, hlb, olb, lob, hhb, ohb, hib⟩ := cb
  simp only at *
  cases na
  case true =>
    go_wp2_with fail
    refine bodyPost_ret (v := (⟨nb, hlb, olb, lob, hhb, ohb, hib⟩ : Sp).val) (by simp [results, Tryd.results22, go_sem, Sp.val, z0, z1, z2, z3, z4, z5, z6, z7, z8, z9, z10]) rfl ⟨by rw [HN1.out (by trivial)]; rfl, ?_⟩
    repeat (refine set_below ?_ (by omega) _)
    exact X2.out.be
  cases nb
  case true =>
    go_wp2_with fail
    refine bodyPost_ret (v := (⟨false, hla, ola, loa, hha, oha, hia⟩ : Sp).val) (by simp [results, Tryd.results22, go_sem, Sp.val, z0, z1, z2, z3, z4, z5, z6, z7, z8, z9, z10]) rfl ⟨by rw [HN2.out (by trivial) (by trivial)]; rfl, ?_⟩
    repeat (refine set_below ?_ (by omega) _)
    exact X2.out.be
  have HR' : Hid _ := HR.out (by trivial) (by trivial)
  clear HR HN1 HN2
  have KL : Hid (∀ w1, Calls Tryd.prog 37 #[V lob.t lob.n lob.s, V loa.t loa.n loa.s] w1 fun e w' => e = .returned (.int .i64 (cmpX lob loa)) ∧ Below w1.heap.size w1 w') := fun w1 => rcmpX_any lob loa w1 HBo.out.1 HA.out.1
  have KH : Hid (∀ w1, Calls Tryd.prog 37 #[V hib.t hib.n hib.s, V hia.t hia.n hia.s] w1 fun e w' => e = .returned (.int .i64 (cmpX hib hia)) ∧ Below w1.heap.size w1 w') := fun w1 => rcmpX_any hib hia w1 HBo.out.2 HA.out.2
  go_wp2_with fail
  refine Calls.mono (KL.out _) ?_
  rintro e w3 ⟨rfl, hb⟩
  have X3 : Hid (PM w ⟨false, hla, ola, loa, hha, oha, hia⟩ ⟨false, hlb, olb, lob, hhb, ohb, hib⟩ w3) := (X2.out.put2 ⟨false, hlb, olb, lob, hhb, ohb, hib⟩).below hb
  clear hb X2 KL a0 a1 a2 a3 a4 a5 a6 a7 a8 a9 a10 b0 b1 b2 b3 b4 b5 b6 b7 b8 b9 b10 z0 z1 z2 z3 z4 z5 z6 z7 z8 z9 z10 la fa lb fb lz fz
  obtain ⟨⟨a0, a1, a2, a3, a4, a5, a6, a7, a8, a9, a10⟩, ⟨b0, b1, b2, b3, b4, b5, b6, b7, b8, b9, b10⟩, _, _, _, _, _⟩ := X3.out
  simp only at a0 a1 a2 a3 a4 a5 a6 a7 a8 a9 a10 b0 b1 b2 b3 b4 b5 b6 b7 b8 b9 b10
  go_wp2_with fail
  refine Calls.mono (KH.out _) ?_
  rintro e w4 ⟨rfl, hb⟩
  have X4 : Hid (PM w ⟨false, hla, ola, loa, hha, oha, hia⟩ ⟨false, hlb, olb, lob, hhb, ohb, hib⟩ w4) := X3.out.below hb
  clear hb X3 KH a0 a1 a2 a3 a4 a5 a6 a7 a8 a9 a10 b0 b1 b2 b3 b4 b5 b6 b7 b8 b9 b10
  obtain ⟨⟨a0, a1, a2, a3, a4, a5, a6, a7, a8, a9, a10⟩, ⟨b0, b1, b2, b3, b4, b5, b6, b7, b8, b9, b10⟩, _, ⟨la, fa⟩, ⟨lb, fb⟩, _, _⟩ := X4.out
  simp only at a0 a1 a2 a3 a4 a5 a6 a7 a8 a9 a10 b0 b1 b2 b3 b4 b5 b6 b7 b8 b9 b10
  go_upto_region 9 with fail
  go_cut [34] from 27 to 34 (fun v wx => v = .bool (!hla || !hlb) ∧ Hid (PM w ⟨false, hla, ola, loa, hha, oha, hia⟩ ⟨false, hlb, olb, lob, hhb, ohb, hib⟩ wx))
  case first =>
    clear HR' HA HBo
    cases hla
    · go_wp2_with fail
      go_meet
      exact ⟨rfl, X4⟩
    · go_wp2_with fail
      go_meet
      exact ⟨rfl, X4⟩
  case rest =>
  obtain ⟨rfl, hx⟩ := hcut
  have X3 : Hid (PM w ⟨false, hla, ola, loa, hha, oha, hia⟩ ⟨false, hlb, olb, lob, hhb, ohb, hib⟩ wc) := hx.out
  clear hx X4 a0 a1 a2 a3 a4 a5 a6 a7 a8 a9 a10 b0 b1 b2 b3 b4 b5 b6 b7 b8 b9 b10 la fa lb fb
  obtain ⟨⟨a0, a1, a2, a3, a4, a5, a6, a7, a8, a9, a10⟩, ⟨b0, b1, b2, b3, b4, b5, b6, b7, b8, b9, b10⟩, _, ⟨la, fa⟩, ⟨lb, fb⟩, _, _⟩ := X3.out
  simp only at a0 a1 a2 a3 a4 a5 a6 a7 a8 a9 a10 b0 b1 b2 b3 b4 b5 b6 b7 b8 b9 b10
  go_upto_if 34 with fail
  go_cut [] from 27 to 52 (fun wx => Hid (PM w (loH ⟨false, hla, ola, loa, hha, oha, hia⟩ ⟨false, hlb, olb, lob, hhb, ohb, hib⟩) ⟨false, hlb, olb, lob, hhb, ohb, hib⟩ wx))
  case first =>
    clear HR' HA HBo
    have LC := six' hla hlb ola (cmpX lob loa)
    rcases LC with rfl | ⟨rfl, rfl⟩ | ⟨rfl, rfl, hc⟩ | ⟨rfl, rfl, hc, rfl⟩ | ⟨rfl, rfl, hc, rfl⟩ | ⟨rfl, rfl, hc⟩
    · have e : loH ⟨false, false, ola, loa, hha, oha, hia⟩ ⟨false, hlb, olb, lob, hhb, ohb, hib⟩ = ⟨false, false, ola, loa, hha, oha, hia⟩ := by unfold loH; rw [if_pos (.inl rfl)]
      simp only [Bool.not_false, Bool.true_or]
      go_wp2_with fail
      go_meet
      rw [Hid, e]
      exact X3.out |>.s1 false
    · have e : loH ⟨false, true, ola, loa, hha, oha, hia⟩ ⟨false, false, olb, lob, hhb, ohb, hib⟩ = ⟨false, false, ola, loa, hha, oha, hia⟩ := by unfold loH; rw [if_pos (.inr rfl)]
      go_wp2_with fail
      go_meet
      rw [Hid, e]
      exact X3.out |>.s1 false
    · have e : loH ⟨false, true, ola, loa, hha, oha, hia⟩ ⟨false, true, olb, lob, hhb, ohb, hib⟩ = ⟨false, true, olb, lob, hha, oha, hia⟩ := by unfold loH; simp only; rw [if_neg (by simp), if_pos hc]
      go_wp2_with fail
      go_meet
      rw [Hid, e]
      exact X3.out |>.s3 lob.t |>.s4 lob.n |>.s5 lob.s |>.s2 olb
    · have e : loH ⟨false, true, true, loa, hha, oha, hia⟩ ⟨false, true, olb, lob, hhb, ohb, hib⟩ = ⟨false, true, olb, loa, hha, oha, hia⟩ := by unfold loH; simp only; rw [if_neg (by simp), if_neg (by omega), if_pos hc]; rfl
      go_wp2_with fail
      go_meet
      rw [Hid, e]
      exact X3.out |>.s2 olb
    · have e : loH ⟨false, true, false, loa, hha, oha, hia⟩ ⟨false, true, olb, lob, hhb, ohb, hib⟩ = ⟨false, true, false, loa, hha, oha, hia⟩ := by unfold loH; simp only; rw [if_neg (by simp), if_neg (by omega), if_pos hc]; rfl
      go_wp2_with fail
      go_meet
      rw [Hid, e]
      exact X3.out |>.s2 false
    · have e : loH ⟨false, true, ola, loa, hha, oha, hia⟩ ⟨false, true, olb, lob, hhb, ohb, hib⟩ = ⟨false, true, ola, loa, hha, oha, hia⟩ := by unfold loH; simp only; rw [if_neg (by simp), if_neg (by omega), if_neg (by omega)]
      have k1 : decide (cmpX lob loa < 0) = false := by simp; omega
      have k2 : (cmpX lob loa == 0) = false := by simp; omega
      go_wp2_with fail
      go_meet
      rw [Hid, e]
      exact X3.out
  case rest =>
  skip
  have H1o : Hid (loH ⟨false, hla, ola, loa, hha, oha, hia⟩ ⟨false, hlb, olb, lob, hhb, ohb, hib⟩).ok := ok_loH HA.out HBo.out
  have HX : Hid (PM w (loH ⟨false, hla, ola, loa, hha, oha, hia⟩ ⟨false, hlb, olb, lob, hhb, ohb, hib⟩) ⟨false, hlb, olb, lob, hhb, ohb, hib⟩ wc) := hcut.out
  have hk := loH_keeps ⟨false, hla, ola, loa, hha, oha, hia⟩ ⟨false, hlb, olb, lob, hhb, ohb, hib⟩
  clear hcut HA X3 a0 a1 a2 a3 a4 a5 a6 a7 a8 a9 a10 b0 b1 b2 b3 b4 b5 b6 b7 b8 b9 b10 la fa lb fb
  generalize loH ⟨false, hla, ola, loa, hha, oha, hia⟩ ⟨false, hlb, olb, lob, hhb, ohb, hib⟩ = s1 at *
  obtain ⟨n1, hl1, ol1, lo1, hh1, oh1, hi1⟩ := s1
  simp only at hk
  obtain ⟨-, k2, k3, k4⟩ := hk
  have j2 := k2.symm
  have j3 := k3.symm
  have j4 := k4.symm
  clear k2 k3 k4
  subst j2 j3 j4
  obtain ⟨⟨a0, a1, a2, a3, a4, a5, a6, a7, a8, a9, a10⟩, ⟨b0, b1, b2, b3, b4, b5, b6, b7, b8, b9, b10⟩, _, ⟨la, fa⟩, ⟨lb, fb⟩, _, _⟩ := HX.out
  simp only at a0 a1 a2 a3 a4 a5 a6 a7 a8 a9 a10 b0 b1 b2 b3 b4 b5 b6 b7 b8 b9 b10
  go_upto_region 16 with fail
  go_cut [60] from 27 to 60 (fun v wx => v = .bool (!hha || !hhb) ∧ Hid (PM w ⟨n1, hl1, ol1, lo1, hha, oha, hia⟩ ⟨false, hlb, olb, lob, hhb, ohb, hib⟩ wx))
  case first =>
    clear HR' H1o HBo
    cases hha
    · go_wp2_with fail
      go_meet
      exact ⟨rfl, HX⟩
    · go_wp2_with fail
      go_meet
      exact ⟨rfl, HX⟩
  case rest =>
  obtain ⟨rfl, hx⟩ := hcut
  have X3 : Hid (PM w ⟨n1, hl1, ol1, lo1, hha, oha, hia⟩ ⟨false, hlb, olb, lob, hhb, ohb, hib⟩ wc) := hx.out
  clear hx HX a0 a1 a2 a3 a4 a5 a6 a7 a8 a9 a10 b0 b1 b2 b3 b4 b5 b6 b7 b8 b9 b10 la fa lb fb
  obtain ⟨⟨a0, a1, a2, a3, a4, a5, a6, a7, a8, a9, a10⟩, ⟨b0, b1, b2, b3, b4, b5, b6, b7, b8, b9, b10⟩, _, ⟨la, fa⟩, ⟨lb, fb⟩, _, _⟩ := X3.out
  simp only at a0 a1 a2 a3 a4 a5 a6 a7 a8 a9 a10 b0 b1 b2 b3 b4 b5 b6 b7 b8 b9 b10
  go_upto_if 60 with fail
  go_cut [] from 5 to 78 (fun wx => Hid (PM w (hiH ⟨n1, hl1, ol1, lo1, hha, oha, hia⟩ ⟨false, hlb, olb, lob, hhb, ohb, hib⟩) ⟨false, hlb, olb, lob, hhb, ohb, hib⟩ wx))
  case first =>
    clear HR' H1o HBo
    have LC := sixH hha hhb oha (cmpX hib hia)
    rcases LC with rfl | ⟨rfl, rfl⟩ | ⟨rfl, rfl, hc⟩ | ⟨rfl, rfl, hc, rfl⟩ | ⟨rfl, rfl, hc, rfl⟩ | ⟨rfl, rfl, hc⟩
    · have e : hiH ⟨n1, hl1, ol1, lo1, false, oha, hia⟩ ⟨false, hlb, olb, lob, hhb, ohb, hib⟩ = ⟨n1, hl1, ol1, lo1, false, oha, hia⟩ := by unfold hiH; rw [if_pos (.inl rfl)]
      simp only [Bool.not_false, Bool.true_or]
      go_wp2_with fail
      go_meet
      rw [Hid, e]
      exact X3.out |>.s6 false
    · have e : hiH ⟨n1, hl1, ol1, lo1, true, oha, hia⟩ ⟨false, hlb, olb, lob, false, ohb, hib⟩ = ⟨n1, hl1, ol1, lo1, false, oha, hia⟩ := by unfold hiH; rw [if_pos (.inr rfl)]
      go_wp2_with fail
      go_meet
      rw [Hid, e]
      exact X3.out |>.s6 false
    · have e : hiH ⟨n1, hl1, ol1, lo1, true, oha, hia⟩ ⟨false, hlb, olb, lob, true, ohb, hib⟩ = ⟨n1, hl1, ol1, lo1, true, ohb, hib⟩ := by unfold hiH; simp only; rw [if_neg (by simp), if_pos hc]
      go_wp2_with fail
      go_meet
      rw [Hid, e]
      exact X3.out |>.s8 hib.t |>.s9 hib.n |>.s10 hib.s |>.s7 ohb
    · have e : hiH ⟨n1, hl1, ol1, lo1, true, true, hia⟩ ⟨false, hlb, olb, lob, true, ohb, hib⟩ = ⟨n1, hl1, ol1, lo1, true, ohb, hia⟩ := by unfold hiH; simp only; rw [if_neg (by simp), if_neg (by omega), if_pos hc]; rfl
      go_wp2_with fail
      go_meet
      rw [Hid, e]
      exact X3.out |>.s7 ohb
    · have e : hiH ⟨n1, hl1, ol1, lo1, true, false, hia⟩ ⟨false, hlb, olb, lob, true, ohb, hib⟩ = ⟨n1, hl1, ol1, lo1, true, false, hia⟩ := by unfold hiH; simp only; rw [if_neg (by simp), if_neg (by omega), if_pos hc]; rfl
      go_wp2_with fail
      go_meet
      rw [Hid, e]
      exact X3.out |>.s7 false
    · have e : hiH ⟨n1, hl1, ol1, lo1, true, oha, hia⟩ ⟨false, hlb, olb, lob, true, ohb, hib⟩ = ⟨n1, hl1, ol1, lo1, true, oha, hia⟩ := by unfold hiH; simp only; rw [if_neg (by simp), if_neg (by omega), if_neg (by omega)]
      have k1 : decide (0 < cmpX hib hia) = false := by simp; omega
      have k2 : (cmpX hib hia == 0) = false := by simp; omega
      go_wp2_with fail
      go_meet
      rw [Hid, e]
      exact X3.out
  case rest =>
  skip
  have CF : Hid (∀ w1, Calls Tryd.prog 41 #[(hiH ⟨n1, hl1, ol1, lo1, hha, oha, hia⟩ ⟨false, hlb, olb, lob, hhb, ohb, hib⟩).val] w1 fun e w' => e = .returned r.val ∧ Below w1.heap.size w1 w') := fun w1 => by
    have := rclean_any (hiH ⟨n1, hl1, ol1, lo1, hha, oha, hia⟩ ⟨false, hlb, olb, lob, hhb, ohb, hib⟩) w1 (ok_hiH H1o.out HBo.out)
    rw [HR'.out] at this
    exact this
  have HY : Hid (PM w (hiH ⟨n1, hl1, ol1, lo1, hha, oha, hia⟩ ⟨false, hlb, olb, lob, hhb, ohb, hib⟩) ⟨false, hlb, olb, lob, hhb, ohb, hib⟩ wc) := hcut.out
  clear hcut X3 HR' H1o HBo a0 a1 a2 a3 a4 a5 a6 a7 a8 a9 a10 b0 b1 b2 b3 b4 b5 b6 b7 b8 b9 b10 la fa lb fb
  generalize hiH ⟨n1, hl1, ol1, lo1, hha, oha, hia⟩ ⟨false, hlb, olb, lob, hhb, ohb, hib⟩ = s2 at *
  unfold Sp.val at CF
  obtain ⟨⟨a0, a1, a2, a3, a4, a5, a6, a7, a8, a9, a10⟩, _, _, _, _, _, _⟩ := HY.out
  go_wp2_with fail
  refine Calls.mono (CF.out _) ?_
  rintro e w9 ⟨rfl, hb⟩
  have HZ : Hid (PM w s2 ⟨false, hlb, olb, lob, hhb, ohb, hib⟩ w9) := HY.out.below hb
  clear hb HY CF a0 a1 a2 a3 a4 a5 a6 a7 a8 a9 a10
  obtain ⟨_, _, ⟨z0, z1, z2, z3, z4, z5, z6, z7, z8, z9, z10⟩, _, _, ⟨lz, fz⟩, _⟩ := HZ.out
  go_wp2_with fail
  refine bodyPost_ret (v := r.val) (by simp [results, Tryd.results22, go_sem, Sp.val, z0, z1, z2, z3, z4, z5, z6, z7, z8, z9, z10]) rfl ⟨rfl, ?_⟩
  repeat (refine set_below ?_ (by omega) _)
  exact HZ.out.be
end Go.Proofs.YtfkhfplibhnceaaDoor.Val
