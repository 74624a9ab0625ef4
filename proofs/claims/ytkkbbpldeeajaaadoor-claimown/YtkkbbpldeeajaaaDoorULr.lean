/- The walk of the law ClaimRows. -/
import Derived.Test.YtkkbbpldeeajaaaDoorUC5
import Derived.Deep.CutRange
namespace Go.Proofs.YtkkbbpldeeajaaaDoor.Val
open Go.RowKit
set_option maxRecDepth 100000

/-- A row's claim, a predicate's that always holds, a table's. -/
def rC (t m : Int) (k : Val) : CP := ⟨2, t, m, k, .slice none 0 0, [], PT.zero⟩
def pC (t o : Int) : CP := ⟨3, t, 3, Val.zero, .slice none 0 0, [], .mk o 0 Val.zero Val.zero (.slice none 0 0) []⟩
def tC (t : Int) : CP := ⟨1, t, 6, Val.zero, .slice none 0 0, [], PT.zero⟩
theorem nil_ims (w : World) : ImsIn w (.slice none 0 0) [] := ⟨⟨none, 0, rfl, Nat.le_refl _, Nat.zero_le _, fun _ => ⟨rfl, rfl⟩, .inl rfl⟩, by simp⟩
theorem in_rC (w : World) (t m : Int) (k : Val) (hk : k.s.size ≤ maxLen) : CIn w (rC t m k) := ⟨hk, nil_ims w, zero_in w⟩
theorem in_pC (w : World) (t o : Int) : CIn w (pC t o) := ⟨show Val.zero.s.size ≤ maxLen by decide, nil_ims w, in_none w _ _ _ _ (by decide) (by decide)⟩
theorem in_tC (w : World) (t : Int) : CIn w (tC t) := ⟨show Val.zero.s.size ≤ maxLen by decide, nil_ims w, zero_in w⟩
theorem one_rC (t m : Int) (k : Val) : OneC (rC t m k) := ⟨⟨_, _, _, rfl⟩, _, _, _, rfl⟩
theorem one_pC (t o : Int) : OneC (pC t o) := ⟨⟨_, _, _, rfl⟩, _, _, _, rfl⟩
theorem one_tC (t : Int) : OneC (tC t) := ⟨⟨_, _, _, rfl⟩, _, _, _, rfl⟩
theorem f33 : fitsM 3 3 = true := by decide +kernel
theorem f35 : fitsM 3 5 = true := by decide +kernel
theorem f55 : fitsM 5 5 = false := by decide +kernel
theorem f36 : fitsM 3 6 = false := by decide +kernel
theorem f56 : fitsM 5 6 = false := by decide +kernel
theorem f66 : fitsM 6 6 = false := by decide +kernel
theorem cr_ss (t : Int) (k : Val) : conflictC (rC t 3 k) (rC t 3 k) = false := by simp [conflictC, rC, f33]
theorem cr_su (t : Int) (k : Val) : conflictC (rC t 3 k) (rC t 5 k) = false := by simp [conflictC, rC, f35]
theorem cr_uu (t : Int) (k : Val) : conflictC (rC t 5 k) (rC t 5 k) = true := by simp [conflictC, rC, f55, eqV_iff.2 rfl]
theorem cr_sx (t : Int) (k l : Val) : conflictC (rC t 3 k) (rC t 6 l) = eqV k l := by simp [conflictC, rC, f36]
theorem cr_ux (t : Int) (k l : Val) : conflictC (rC t 5 k) (rC t 6 l) = eqV k l := by simp [conflictC, rC, f56]
theorem cr_p (t m : Int) (k : Val) : conflictC (pC t 1) (rC t m k) = false := by simp [conflictC, rC, pC, catchC, CP.rows]
theorem cr_pp (t : Int) : conflictC (pC t 1) (pC t 1) = false := by simp [conflictC, pC]
theorem cr_tx (t : Int) (k : Val) : conflictC (tC t) (rC t 6 k) = false := by simp [conflictC, tC, rC]
theorem cr_tt (t : Int) : conflictC (tC t) (tC t) = true := by simp [conflictC, tC, f66]
structure RK (w0 w : World) (k l : Val) : Prop where
  k : VBox w w0.heap.size k
  l : VBox w (w0.heap.size + 1) l
  bel : Below w0.heap.size w0 w
theorem RK.below {w0 w w' : World} {k l : Val} (h : RK w0 w k l) (hb : Below w.heap.size w w') : RK w0 w' k l := ⟨h.k.below hb, h.l.below hb, on h.bel hb⟩
theorem RK.new (w : World) (k l : Val) (T1 T2 : TypeId) : RK w ((w.alloc (vobj k T1)).alloc (vobj l T2)) k l :=
  ⟨(VBox.new w k T1).alloc _, by have := VBox.new (w.alloc (vobj k T1)) l T2; simpa using this, back2 (Below.refl _ _)⟩
/-- A store into a new box leaves all older blocks alone. -/
theorem new_store {w w2 : World} {o : Obj} (h : Sv (fun k => k = w.heap.size) (w.alloc o) w2) : Below w.heap.size w w2 := (alloc1 w o).trans (h.below (by simp) fun k hk e => by omega)
structure RB5 (w0 w : World) (t : Int) (k l : Val) (s u x p a : Nat) : Prop where
  rk : RK w0 w k l
  cs : CB w s (rC t 3 k)
  cu : CB w u (rC t 5 k)
  cx : CB w x (rC t 6 l)
  cp : CB w p (pC t 1)
  ca : CB w a (tC t)
theorem RB5.below {w0 w w' : World} {t : Int} {k l : Val} {s u x p a : Nat} (h : RB5 w0 w t k l s u x p a) (hb : Below w.heap.size w w') : RB5 w0 w' t k l s u x p a := ⟨h.rk.below hb, h.cs.below hb, h.cu.below hb, h.cx.below hb, h.cp.below hb, h.ca.below hb⟩
set_option maxHeartbeats 8000000 in
theorem crows_walk (t : Int) (k l : Val) (w : World) (hT : TabC w) (hk : k.s.size ≤ maxLen) (hl : l.s.size ≤ maxLen) : Tells 8 #[.int .i64 t, V k.t k.n k.s, V l.t l.n l.s] w (.bool true) := by
  have HW : Hid (∀ w1, Below w.heap.size w w1 → Tells 11 #[] w1 (.bool true)) := fun w1 h => awake_any w1 (hT.below h)
  have HK : Hid (k.s.size ≤ maxLen ∧ l.s.size ≤ maxLen) := ⟨hk, hl⟩
  have HC : Hid (∀ (c d : CP) (v : Bool) w1, conflictC c d = v → Below w.heap.size w w1 → CIn w1 c → CIn w1 d → Tells 17 #[c.val, d.val] w1 (.bool v)) := fun c d v w1 e h h1 h2 => by rw [← e]; exact conflict_any c d w1 (hT.below h) h1 h2
  have HN : Hid (∀ T1 T2, RK w ((w.alloc (vobj k T1)).alloc (vobj l T2)) k l) := RK.new w k l
  have ev := fun w => eql_V k l w
  clear hT hk hl
  generalize hq : eqV k l = q at *
  have HQ : Hid (eqV k l = q) := hq
  clear hq
  go_enter Tryd.func8, Tryd.ntmps8
  go_wp2_with fail
  refine Calls.mono (HW.out _ (HN.out _ _).bel) ?_
  rintro e w1 ⟨rfl, hb1⟩
  have R1 : Hid (RK w w1 k l) := (HN.out _ _).below hb1
  clear hb1 HN HW
  obtain ⟨k0, k1, k2⟩ := R1.out.k
  obtain ⟨l0, l1, l2⟩ := R1.out.l
  go_upto_region 10 with (first
    | (refine step_cstore rfl _ _ rfl w1.heap.size (rC t 3 k) zeroC rfl rfl (one_rC _ _ _) (CB.new w1 zeroC) ?_; intro w2 h1 h2
       have hs := new_store h2
       have R2 : Hid (RK w w2 k l) := R1.out.below hs
       have Bs : Hid (CB w2 w1.heap.size (rC t 3 k)) := h1
       clear hs h1 h2 R1 k0 k1 k2 l0 l1 l2
       obtain ⟨k0, k1, k2⟩ := R2.out.k
       obtain ⟨l0, l1, l2⟩ := R2.out.l)
    | (refine step_cstore rfl _ _ rfl w2.heap.size (rC t 5 k) zeroC rfl rfl (one_rC _ _ _) (CB.new w2 zeroC) ?_; intro w3 h1 h2
       have hs := new_store h2
       have R3 : Hid (RK w w3 k l) := R2.out.below hs
       replace Bs : Hid (CB w3 w1.heap.size (rC t 3 k)) := Bs.out.below hs
       have Bu : Hid (CB w3 w2.heap.size (rC t 5 k)) := h1
       clear hs h1 h2 R2 k0 k1 k2 l0 l1 l2
       obtain ⟨k0, k1, k2⟩ := R3.out.k
       obtain ⟨l0, l1, l2⟩ := R3.out.l)
    | (refine step_cstore rfl _ _ rfl w3.heap.size (rC t 6 l) zeroC rfl rfl (one_rC _ _ _) (CB.new w3 zeroC) ?_; intro w4 h1 h2
       have hs := new_store h2
       have R4 : Hid (RK w w4 k l) := R3.out.below hs
       replace Bs : Hid (CB w4 w1.heap.size (rC t 3 k)) := Bs.out.below hs
       replace Bu : Hid (CB w4 w2.heap.size (rC t 5 k)) := Bu.out.below hs
       have Bx : Hid (CB w4 w3.heap.size (rC t 6 l)) := h1
       clear hs h1 h2 R3 k0 k1 k2 l0 l1 l2
       obtain ⟨k0, k1, k2⟩ := R4.out.k
       obtain ⟨l0, l1, l2⟩ := R4.out.l)
    | (refine step_cstore rfl _ _ rfl w4.heap.size (pC t 1) zeroC rfl rfl (one_pC _ _) (CB.new w4 zeroC) ?_; intro w5 h1 h2
       have hs := new_store h2
       have R5 : Hid (RK w w5 k l) := R4.out.below hs
       replace Bs : Hid (CB w5 w1.heap.size (rC t 3 k)) := Bs.out.below hs
       replace Bu : Hid (CB w5 w2.heap.size (rC t 5 k)) := Bu.out.below hs
       replace Bx : Hid (CB w5 w3.heap.size (rC t 6 l)) := Bx.out.below hs
       have Bp : Hid (CB w5 w4.heap.size (pC t 1)) := h1
       clear hs h1 h2 R4 k0 k1 k2 l0 l1 l2
       obtain ⟨k0, k1, k2⟩ := R5.out.k
       obtain ⟨l0, l1, l2⟩ := R5.out.l)
    | (refine step_cstore rfl _ _ rfl w5.heap.size (tC t) zeroC rfl rfl (one_tC _) (CB.new w5 zeroC) ?_; intro w6 h1 h2
       have hs := new_store h2
       have R6 : Hid (RK w w6 k l) := R5.out.below hs
       replace Bs : Hid (CB w6 w1.heap.size (rC t 3 k)) := Bs.out.below hs
       replace Bu : Hid (CB w6 w2.heap.size (rC t 5 k)) := Bu.out.below hs
       replace Bx : Hid (CB w6 w3.heap.size (rC t 6 l)) := Bx.out.below hs
       replace Bp : Hid (CB w6 w4.heap.size (pC t 1)) := Bp.out.below hs
       have Ba : Hid (CB w6 w5.heap.size (tC t)) := h1
       clear hs h1 h2 R5 k0 k1 k2 l0 l1 l2
       obtain ⟨k0, k1, k2⟩ := R6.out.k
       obtain ⟨l0, l1, l2⟩ := R6.out.l)
    | fail)
  have HB : Hid (RB5 w w6 t k l w1.heap.size w2.heap.size w3.heap.size w4.heap.size w5.heap.size) := ⟨R6.out, Bs.out, Bu.out, Bx.out, Bp.out, Ba.out⟩
  clear R6 k0 k1 k2 l0 l1 l2 Bs Bu Bx Bp Ba
  simp only [List.append]
  go_wp2_with (first
    | (refine step_cload rfl _ rfl w1.heap.size (rC t 3 k) rfl HB.out.cs ?_)
    | fail)
  refine Calls.mono (HC.out (rC t 3 k) (rC t 3 k) false _ (cr_ss _ _) HB.out.rk.bel (in_rC _ _ _ _ HK.out.1) (in_rC _ _ _ _ HK.out.1)) ?_
  rintro e w7 ⟨rfl, hb⟩
  replace HB : Hid _ := HB.out.below hb
  clear hb 
  go_wp2_with (first
    | (refine step_cloadG _ rfl w1.heap.size (rC t 3 k) rfl HB.out.cs rfl ?_)
    | (refine step_cloadG _ rfl w2.heap.size (rC t 5 k) rfl HB.out.cu rfl ?_)
    | fail)
  refine Calls.mono (HC.out (rC t 3 k) (rC t 5 k) false _ (cr_su _ _) HB.out.rk.bel (in_rC _ _ _ _ HK.out.1) (in_rC _ _ _ _ HK.out.1)) ?_
  rintro e w8 ⟨rfl, hb⟩
  replace HB : Hid _ := HB.out.below hb
  clear hb 
  go_wp2_with (first
    | (refine step_cloadG _ rfl w2.heap.size (rC t 5 k) rfl HB.out.cu rfl ?_)
    | fail)
  refine Calls.mono (HC.out (rC t 5 k) (rC t 5 k) true _ (cr_uu _ _) HB.out.rk.bel (in_rC _ _ _ _ HK.out.1) (in_rC _ _ _ _ HK.out.1)) ?_
  rintro e w9 ⟨rfl, hb⟩
  replace HB : Hid _ := HB.out.below hb
  clear hb 
  go_wp2_with (first
    | (refine step_cloadG _ rfl w1.heap.size (rC t 3 k) rfl HB.out.cs rfl ?_)
    | (refine step_cloadG _ rfl w3.heap.size (rC t 6 l) rfl HB.out.cx rfl ?_)
    | fail)
  refine Calls.mono (HC.out (rC t 3 k) (rC t 6 l) q _ ((cr_sx _ _ _).trans HQ.out) HB.out.rk.bel (in_rC _ _ _ _ HK.out.1) (in_rC _ _ _ _ HK.out.2)) ?_
  rintro e w10 ⟨rfl, hb⟩
  replace HB : Hid _ := HB.out.below hb
  clear hb 
  go_wp2_with (first
    | (refine step_cloadG _ rfl w2.heap.size (rC t 5 k) rfl HB.out.cu rfl ?_)
    | (refine step_cloadG _ rfl w3.heap.size (rC t 6 l) rfl HB.out.cx rfl ?_)
    | fail)
  refine Calls.mono (HC.out (rC t 5 k) (rC t 6 l) q _ ((cr_ux _ _ _).trans HQ.out) HB.out.rk.bel (in_rC _ _ _ _ HK.out.1) (in_rC _ _ _ _ HK.out.2)) ?_
  rintro e w11 ⟨rfl, hb⟩
  replace HB : Hid _ := HB.out.below hb
  clear hb 
  go_wp2_with (first
    | (refine step_cloadG _ rfl w4.heap.size (pC t 1) rfl HB.out.cp rfl ?_)
    | (refine step_cloadG _ rfl w1.heap.size (rC t 3 k) rfl HB.out.cs rfl ?_)
    | fail)
  refine Calls.mono (HC.out (pC t 1) (rC t 3 k) false _ (cr_p _ _ _) HB.out.rk.bel (in_pC _ _ _) (in_rC _ _ _ _ HK.out.1)) ?_
  rintro e w12 ⟨rfl, hb⟩
  replace HB : Hid _ := HB.out.below hb
  clear hb 
  go_wp2_with (first
    | (refine step_cloadG _ rfl w4.heap.size (pC t 1) rfl HB.out.cp rfl ?_)
    | (refine step_cloadG _ rfl w2.heap.size (rC t 5 k) rfl HB.out.cu rfl ?_)
    | fail)
  refine Calls.mono (HC.out (pC t 1) (rC t 5 k) false _ (cr_p _ _ _) HB.out.rk.bel (in_pC _ _ _) (in_rC _ _ _ _ HK.out.1)) ?_
  rintro e w13 ⟨rfl, hb⟩
  replace HB : Hid _ := HB.out.below hb
  clear hb 
  go_wp2_with (first
    | (refine step_cloadG _ rfl w4.heap.size (pC t 1) rfl HB.out.cp rfl ?_)
    | (refine step_cloadG _ rfl w3.heap.size (rC t 6 l) rfl HB.out.cx rfl ?_)
    | fail)
  refine Calls.mono (HC.out (pC t 1) (rC t 6 l) false _ (cr_p _ _ _) HB.out.rk.bel (in_pC _ _ _) (in_rC _ _ _ _ HK.out.2)) ?_
  rintro e w14 ⟨rfl, hb⟩
  replace HB : Hid _ := HB.out.below hb
  clear hb 
  go_wp2_with (first
    | (refine step_cloadG _ rfl w4.heap.size (pC t 1) rfl HB.out.cp rfl ?_)
    | fail)
  refine Calls.mono (HC.out (pC t 1) (pC t 1) false _ (cr_pp _) HB.out.rk.bel (in_pC _ _ _) (in_pC _ _ _)) ?_
  rintro e w15 ⟨rfl, hb⟩
  replace HB : Hid _ := HB.out.below hb
  clear hb 
  go_wp2_with (first
    | (refine step_cloadG _ rfl w5.heap.size (tC t) rfl HB.out.ca rfl ?_)
    | (refine step_cloadG _ rfl w3.heap.size (rC t 6 l) rfl HB.out.cx rfl ?_)
    | fail)
  refine Calls.mono (HC.out (tC t) (rC t 6 l) false _ (cr_tx _ _) HB.out.rk.bel (in_tC _ _) (in_rC _ _ _ _ HK.out.2)) ?_
  rintro e w16 ⟨rfl, hb⟩
  replace HB : Hid _ := HB.out.below hb
  clear hb 
  go_wp2_with (first
    | (refine step_cloadG _ rfl w5.heap.size (tC t) rfl HB.out.ca rfl ?_)
    | fail)
  refine Calls.mono (HC.out (tC t) (tC t) true _ (cr_tt _) HB.out.rk.bel (in_tC _ _) (in_tC _ _)) ?_
  rintro e w17 ⟨rfl, hb⟩
  replace HB : Hid _ := HB.out.below hb
  clear hb 
  have HE : Hid (Below w.heap.size w w17) := HB.out.rk.bel
  clear HB HC HK
  go_wp2_with fail
  go_ret
  exact ⟨rfl, HE.out⟩
end Go.Proofs.YtkkbbpldeeajaaaDoor.Val

