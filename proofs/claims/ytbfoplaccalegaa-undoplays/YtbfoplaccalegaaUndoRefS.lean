/- What the reference's Same answers of entries that are the same. -/
import Derived.Test.YtbfoplaccalegaaUndoRefP
import Derived.BigRegion
import Derived.BigQuiet
import Derived.Deep.QuietTactic
import Derived.WalkSmall
namespace Go.Proofs.Ytbfoplaccalegaa.Val
open Go Go.RowKit

set_option maxHeartbeats 1000000 in
theorem rsame7_any (va vb : Value) (la lb : List En) (w : World) (ha : EntsIn w va la) (hb : EntsIn w vb lb) (hp : la.map En.pe = lb.map En.pe) :
    Calls Try.prog 13 #[va, vb] w fun e w' => e = .returned (.bool true) ∧ Below w.heap.size w w' := by
  obtain ⟨aa, ca, rfl, hma⟩ := ha.1.slice
  obtain ⟨ab, cb, rfl, hmb⟩ := hb.1.slice
  have hlen : lb.length = la.length := (pe_len hp).symm
  have HA : Hid (EntsIn w (.slice aa la.length ca) la) := ha
  have HB : Hid (EntsIn w (.slice ab lb.length cb) lb) := hb
  have HP : Hid (la.map En.pe = lb.map En.pe) := hp
  rw [hlen] at HB ⊢
  have HL : Hid (lb.length = la.length ∧ la.length ≤ 9223372036854775807) := ⟨hlen, hma⟩
  have H0 : Hid (Below w.heap.size w w) := Below.refl _ _
  clear ha hb hp hma hmb hlen
  go_enter Try.func13, Try.ntmps13
  go_wp2_with fail
  go_loopw [5] (fun i wr => ∃ k : Nat, k ≤ la.length ∧ i = .int .i64 k ∧ Hid (Below w.heap.size w wr)) (fun i _ => la.length - (intOf i).toNat)
  case atStart => exact ⟨0, Nat.zero_le _, rfl, H0⟩
  case round =>
    obtain ⟨k, hk, rfl, HW⟩ := hrel
    clear H0
    rcases Nat.lt_or_ge k la.length with h1 | h1
    · have h2 : k < lb.length := by have := HL.out.1; omega
      have i1 : (k : Int) < la.length := by omega
      have i2 : IntKind.i64.wrap ((k : Int) + 1) = k + 1 := by have := HL.out.2; rw [IntKind.wrap_i64]; omega
      have i3 : ((k : Int) + 1).toNat = k + 1 := by omega
      have ha := HA.out.below HW.out
      have hb := HB.out.below HW.out
      rw [← HL.out.1] at hb
      obtain ⟨ba, oa, rfl, a0, a1, a2, a3, a4⟩ := ents_at ha.1 k h1
      obtain ⟨bb, ob, rfl, b0, b1, b2, b3, b4⟩ := ents_at hb.1 k h2
      have epe : la[k].pe = lb[k].pe := by
        have := congrArg (fun z => z[k]?) HP.out
        simpa [h1, h2] using this
      have ra := ha.2 _ (List.getElem_mem h1)
      have rb := hb.2 _ (List.getElem_mem h2)
      generalize la[k] = e at *
      generalize lb[k] = f at *
      simp only [En.pe, Pe.mk.injEq] at epe
      rw [← epe.1] at b0
      rw [← epe.2.1] at b1 b2 b3
      have HC : Hid (∀ w1, Below wr.heap.size wr w1 → Calls Try.prog 19 #[e.r, f.r] w1 fun x w' => x = .returned (.bool true) ∧ Below w1.heap.size w1 w') := fun w1 h => by
        have := rsame_any e.r f.r e.xs f.xs w1 (ra.below h) (rb.below h)
        rwa [← epe.2.2, eqRow_self] at this
      have HX : Hid (∀ w', Below wr.heap.size wr w' → (w'.cell? ⟨ba, oa + k * 5, none⟩ = some (.int .i64 e.t) ∧ w'.cell? ⟨ba, oa + k * 5 + 1, none⟩ = some (.bool e.k.t) ∧ w'.cell? ⟨ba, oa + k * 5 + 2, none⟩ = some (.int .i64 e.k.n) ∧ w'.cell? ⟨ba, oa + k * 5 + 3, none⟩ = some (.string e.k.s)) ∧
        (w'.cell? ⟨bb, ob + k * 5, none⟩ = some (.int .i64 e.t) ∧ w'.cell? ⟨bb, ob + k * 5 + 1, none⟩ = some (.bool e.k.t) ∧ w'.cell? ⟨bb, ob + k * 5 + 2, none⟩ = some (.int .i64 e.k.n) ∧ w'.cell? ⟨bb, ob + k * 5 + 3, none⟩ = some (.string e.k.s)) ∧
        w'.cell? ⟨ba, oa + k * 5 + 4, none⟩ = some e.r ∧ w'.cell? ⟨bb, ob + k * 5 + 4, none⟩ = some f.r) := fun w' h => ⟨⟨cell_below a0 h, cell_below a1 h, cell_below a2 h, cell_below a3 h⟩, ⟨cell_below b0 h, cell_below b1 h, cell_below b2 h, cell_below b3 h⟩, cell_below a4 h, cell_below b4 h⟩
      obtain ⟨ra', rca, hra, -⟩ := ra.slice
      obtain ⟨rb', rcb, hrb, -⟩ := rb.slice
      rw [hra, hrb] at HC HX
      have hql := neq_V e.k e.k
      simp only [show eqV e.k e.k = true from eqV_iff.2 rfl, Bool.not_true] at hql
      have HJ : Hid (k < la.length) := h1
      clear hk ha hb h1 h2 epe ra rb a0 a1 a2 a3 a4 b0 b1 b2 b3 b4 hra hrb
      go_wp2_with fail
      refine wp_region_held_drew (S := fun w' => w'.cell? ⟨ba, oa + k * 5 + 4, none⟩ = some (.slice ra' e.xs.length rca) ∧ w'.cell? ⟨bb, ob + k * 5 + 4, none⟩ = some (.slice rb' f.xs.length rcb)) (by kernel_rfl) ?_ (fun hHeld => ?_)
      · exact (HX.out _ (Below.refl _ _).drew).2.2
      (try clear hK K)
      refine wpAnyH_take (i := 0) (v := ?_) rfl (by kernel_rfl) (by kernel_rfl) (by kernel_rfl) (fun _ _ _ h => h) (Or.inl ⟨by rfl, ?_⟩) (by assumption) ?_
      rotate_left
      · intro w hSw; (try dsimp only at hSw); go_simp; (try with_reducible rfl)
      (try simp only [Act.put, List.getElem_toArray, List.getElem_cons_zero, List.setIfInBounds_toArray, List.set_cons_zero, List.set_cons_succ])
      refine wpAnyH_take (i := 1) (v := ?_) rfl (by kernel_rfl) (by kernel_rfl) (by kernel_rfl) (fun _ _ _ h => h) (Or.inl ⟨by rfl, ?_⟩) (by assumption) ?_
      rotate_left
      · intro w hSw; (try dsimp only at hSw); go_simp; (try with_reducible rfl)
      (try simp only [Act.put, List.getElem_toArray, List.getElem_cons_succ, List.getElem_cons_zero, List.setIfInBounds_toArray, List.set_cons_zero, List.set_cons_succ])
      refine wpAnyH_take (i := 2) (v := ?_) rfl (by kernel_rfl) (by kernel_rfl) (by kernel_rfl) (fun _ _ _ h => h) (Or.inl ⟨by rfl, ?_⟩) (by assumption) ?_
      rotate_left
      · intro w hSw; (try dsimp only at hSw); go_simp; (try with_reducible rfl)
      (try simp only [Act.put, List.getElem_toArray, List.getElem_cons_succ, List.getElem_cons_zero, List.setIfInBounds_toArray, List.set_cons_zero, List.set_cons_succ])
      refine wpAnyH_take (i := 3) (v := ?_) rfl (by kernel_rfl) (by kernel_rfl) (by kernel_rfl) (fun _ _ _ h => h) (Or.inl ⟨by rfl, ?_⟩) (by assumption) ?_
      rotate_left
      · intro w hSw; (try dsimp only at hSw); go_simp; (try with_reducible rfl)
      (try simp only [Act.put, List.getElem_toArray, List.getElem_cons_succ, List.getElem_cons_zero, List.setIfInBounds_toArray, List.set_cons_zero, List.set_cons_succ])
      refine wpAnyH_take (i := 4) (v := ?_) rfl (by kernel_rfl) (by kernel_rfl) (by kernel_rfl) (fun _ _ _ h => h) (Or.inl ⟨by rfl, ?_⟩) (by assumption) ?_
      rotate_left
      · intro w hSw; (try dsimp only at hSw); go_simp; (try with_reducible rfl)
      (try simp only [Act.put, List.getElem_toArray, List.getElem_cons_succ, List.getElem_cons_zero, List.setIfInBounds_toArray, List.set_cons_zero, List.set_cons_succ])
      refine wpAnyH_take (i := 5) (v := ?_) rfl (by kernel_rfl) (by kernel_rfl) (by kernel_rfl) (fun _ _ _ h => h) (Or.inl ⟨by rfl, ?_⟩) (by assumption) ?_
      rotate_left
      · intro w hSw; (try dsimp only at hSw); go_simp; (try with_reducible rfl)
      (try simp only [Act.put, List.getElem_toArray, List.getElem_cons_succ, List.getElem_cons_zero, List.setIfInBounds_toArray, List.set_cons_zero, List.set_cons_succ])
      refine wpAnyH_take (i := 6) (v := ?_) rfl (by kernel_rfl) (by kernel_rfl) (by kernel_rfl) (fun _ _ _ h => h) (Or.inl ⟨by rfl, ?_⟩) (by assumption) ?_
      rotate_left
      · intro w hSw; (try dsimp only at hSw); go_simp; (try with_reducible rfl)
      (try simp only [Act.put, List.getElem_toArray, List.getElem_cons_succ, List.getElem_cons_zero, List.setIfInBounds_toArray, List.set_cons_zero, List.set_cons_succ])
      refine wpAnyH_take (i := 7) (v := ?_) rfl (by kernel_rfl) (by kernel_rfl) (by kernel_rfl) (fun _ _ _ h => h) (Or.inl ⟨by rfl, ?_⟩) (by assumption) ?_
      rotate_left
      · intro w hSw; (try dsimp only at hSw); go_simp; (try with_reducible rfl)
      (try simp only [Act.put, List.getElem_toArray, List.getElem_cons_succ, List.getElem_cons_zero, List.setIfInBounds_toArray, List.set_cons_zero, List.set_cons_succ])
      refine wpAnyH_take (i := 8) (v := ?_) rfl (by kernel_rfl) (by kernel_rfl) (by kernel_rfl) (fun _ _ _ h => h) (Or.inl ⟨by rfl, ?_⟩) (by assumption) ?_
      rotate_left
      · intro w hSw; (try dsimp only at hSw); go_simp; (try with_reducible rfl)
      (try simp only [Act.put, List.getElem_toArray, List.getElem_cons_succ, List.getElem_cons_zero, List.setIfInBounds_toArray, List.set_cons_zero, List.set_cons_succ])
      refine wpAnyH_take (i := 9) (v := ?_) rfl (by kernel_rfl) (by kernel_rfl) (by kernel_rfl) (fun _ _ _ h => h) (Or.inl ⟨by rfl, ?_⟩) (by assumption) ?_
      rotate_left
      · intro w hSw; (try dsimp only at hSw); go_simp; (try with_reducible rfl)
      (try simp only [Act.put, List.getElem_toArray, List.getElem_cons_succ, List.getElem_cons_zero, List.setIfInBounds_toArray, List.set_cons_zero, List.set_cons_succ])
      (try clear hK K)
      refine wpAnyH_ready (rs := [10]) (by kernel_rfl) (by simp) ?_
      refine AllReadyH.cons rfl (fun K hK => ?_) AllReadyH.nil
      go_simp
      (refine Calls.mono (HC.out _ (Below.refl _ _).drew) ?_; rintro x w3 ⟨rfl, hb3⟩)
      refine hK.out _ _ ?_ (fun hHeld => ?_)
      · exact (HX.out _ (on (Below.refl _ _).drew hb3)).2.2
      (try clear hK K)
      refine wpAnyH_take (i := 11) (v := ?_) rfl (by kernel_rfl) (by kernel_rfl) (by kernel_rfl) (fun _ _ _ h => h) (Or.inl ⟨by rfl, ?_⟩) (by assumption) ?_
      rotate_left
      · intro w hSw; (try dsimp only at hSw); go_simp; (try with_reducible rfl)
      (try simp only [Act.put, List.getElem_toArray, List.getElem_cons_succ, List.getElem_cons_zero, List.setIfInBounds_toArray, List.set_cons_zero, List.set_cons_succ])
      (try clear hK K)
      refine wpAnyH_done (by kernel_rfl) ?_ _
      have hb4 : Below wr.heap.size wr w3 := on (Below.refl _ _).drew hb3
      obtain ⟨⟨a0, a1, a2, a3⟩, ⟨b0, b1, b2, b3⟩, -⟩ := HX.out _ hb4
      have HW2 : Hid (Below w.heap.size w w3) := on HW.out hb4
      clear hHeld HC HX hb3 hb4 HW
      go_wp2
      go_quiet (fail)
      go_wp2
      go_roundw
      case rel => exact ⟨k + 1, HJ.out, by simp, below_drewN HW2.out _⟩
      case measure => have := HJ.out; simp [intOf]; omega
    · obtain rfl : k = la.length := by omega
      clear hk h1
      go_wp2
      go_ret
      exact ⟨rfl, HW.out⟩
end Go.Proofs.Ytbfoplaccalegaa.Val
