/- What the reference's Sets answers: the same as the program's CheckSets asks. -/
import Derived.Test.YtncefhjegkhamaaRefSet2
namespace Go.Proofs.Ytncefhjegkhamaa.Val
open Go.RowKit

set_option maxHeartbeats 1000000 in
theorem rsets_long (vc vs : Value) (l : List SetP) (w : World) (hs : SetsIn w vs l) (hl : 3 < l.length) :
    Calls Try.prog 17 #[.agg #[vc], vs] w fun e w' => e = .returned (.bool false) ∧ Below w.heap.size w w' := by
  obtain ⟨as', cs, rfl, ls⟩ := hs.slice
  clear hs
  go_enter Try.func17, Try.ntmps17
  go_wp2_with fail
  go_ret
  exact ⟨rfl, (Below.refl _ _).alloc (Nat.le_refl _) _⟩
/-- No set ahead of the k-th has its column. -/
def Apart (l : List SetP) (k j : Nat) : Prop := ∀ i (hk : k < l.length) (_ : i < j) (hi : i < k), l[i].col ≠ l[k].col
set_option maxHeartbeats 2000000 in
theorem rsets_any (vc vs : Value) (cols : List Bool) (l : List SetP) (w : World) (hc : BoolsIn w vc cols) (hs : SetsIn w vs l) (ho : ∀ s ∈ l, s.v.s.size ≤ maxLen) (hl : l.length ≤ 3) :
    Calls Try.prog 17 #[.agg #[vc], vs] w fun e w' => e = .returned (.bool (setsB cols l)) ∧ Below w.heap.size w w' := by
  have HS : Hid (∀ w1 (k : Nat) (h : k < l.length), Below w.heap.size w w1 → Calls Try.prog 26 #[.agg #[vc], SV l[k].col l[k].op l[k].src l[k].other l[k].v.t l[k].v.n l[k].v.s] w1 fun e w' => e = .returned (.bool (setOk cols l[k])) ∧ Below w1.heap.size w1 w') :=
    fun w1 k h hb => rset_any vc cols l[k] w1 (hc.below hb) (ho _ (List.getElem_mem _))
  obtain ⟨as', cs, rfl, ls⟩ := hs.slice
  have HSI : Hid (SetsIn w (.slice as' l.length cs) l) := hs
  clear hc hs ho
  go_enter Try.func17, Try.ntmps17
  go_wp2_with fail
  go_loopw [5] (fun i wr => ∃ k : Nat, k ≤ l.length ∧ i = .int .i64 k ∧ Hid (OkTo cols l k) ∧ Hid (wr.cell? ⟨w.heap.size, 0, none⟩ = some vc ∧ Below w.heap.size w wr)) (fun i _ => l.length - (intOf i).toNat)
  case atStart => exact ⟨0, Nat.zero_le _, rfl, OkTo.zero _ _, by simp, (Below.refl _ _).alloc (Nat.le_refl _) _⟩
  case round =>
    obtain ⟨k, hk, rfl, HT, HW⟩ := hrel
    by_cases hlt : k < l.length
    · obtain ⟨b, o, rfl, d0, d1, d2, d3, d4, d5, d6⟩ := (HSI.out.below HW.out.2).at k hlt
      have c0 := HW.out.1
      have k0 : (0 : Int) ≤ (k : Int) := by omega
      have k1 : (k : Int) < (l.length : Int) := by omega
      have HSk : Hid (∀ w1, Below w.heap.size w w1 → Calls Try.prog 26 #[.agg #[vc], SV l[k].col l[k].op l[k].src l[k].other l[k].v.t l[k].v.n l[k].v.s] w1 fun e w' => e = .returned (.bool (setOk cols l[k])) ∧ Below w1.heap.size w1 w') := fun w1 => HS.out w1 k hlt
      go_wp2_with fail
      refine wp_region_held_drew (S := fun w' => w'.cell? ⟨w.heap.size, 0, none⟩ = some vc ∧ SBO w' b (o + k * 7) l[k].col l[k].op l[k].src l[k].other l[k].v.t l[k].v.n l[k].v.s) (by kernel_rfl) ?_ (fun hHeld => ?_)
      · exact ⟨c0, d0, d1, d2, d3, d4, d5, d6⟩
      unfold SBO at *
      (try clear hK K)
      refine wpAnyH_take (i := 0) (v := ?_) rfl (by kernel_rfl) (by kernel_rfl) (by kernel_rfl) (fun _ _ _ h => h) (Or.inl ⟨by rfl, ?_⟩) (by assumption) ?_
      rotate_left
      · intro w hSw; (try dsimp only at hSw); go_simp; (try with_reducible rfl)
      (try simp only [Act.put, List.getElem_toArray, List.getElem_cons_zero, List.setIfInBounds_toArray, List.set_cons_zero, List.set_cons_succ])
      refine wpAnyH_take (i := 1) (v := ?_) rfl (by kernel_rfl) (by kernel_rfl) (by kernel_rfl) (fun _ _ _ h => h) (Or.inl ⟨by rfl, ?_⟩) (by assumption) ?_
      rotate_left
      · intro w hSw; (try dsimp only at hSw); go_simp; (try with_reducible rfl)
      (try simp only [Act.put, List.getElem_toArray, List.getElem_cons_succ, List.getElem_cons_zero, List.setIfInBounds_toArray, List.set_cons_zero, List.set_cons_succ])
      refine wpAnyH_take (i := 2) (v := ?_) rfl (by kernel_rfl) (by kernel_rfl) (by kernel_rfl) (fun _ _ _ h => h) (Or.inl ⟨by rfl, ?_⟩) (by assumption) ?_
      rotate_left
      · intro w hSw; (try dsimp only at hSw); go_simp; (try with_reducible rfl)
      (try simp only [Act.put, List.getElem_toArray, List.getElem_cons_succ, List.getElem_cons_zero, List.setIfInBounds_toArray, List.set_cons_zero, List.set_cons_succ])
      refine wpAnyH_take (i := 3) (v := ?_) rfl (by kernel_rfl) (by kernel_rfl) (by kernel_rfl) (fun _ _ _ h => h) (Or.inl ⟨by rfl, ?_⟩) (by assumption) ?_
      rotate_left
      · intro w hSw; (try dsimp only at hSw); go_simp; (try with_reducible rfl)
      (try simp only [Act.put, List.getElem_toArray, List.getElem_cons_succ, List.getElem_cons_zero, List.setIfInBounds_toArray, List.set_cons_zero, List.set_cons_succ])
      refine wpAnyH_take (i := 4) (v := ?_) rfl (by kernel_rfl) (by kernel_rfl) (by kernel_rfl) (fun _ _ _ h => h) (Or.inl ⟨by rfl, ?_⟩) (by assumption) ?_
      rotate_left
      · intro w hSw; (try dsimp only at hSw); go_simp; (try with_reducible rfl)
      (try simp only [Act.put, List.getElem_toArray, List.getElem_cons_succ, List.getElem_cons_zero, List.setIfInBounds_toArray, List.set_cons_zero, List.set_cons_succ])
      (try clear hK K)
      refine wpAnyH_ready (rs := [5]) (by kernel_rfl) (by simp) ?_
      refine AllReadyH.cons rfl (fun K hK => ?_) AllReadyH.nil
      go_simp
      (refine Calls.mono (HSk.out _ HW.out.2.drew) ?_; rintro e w1 ⟨rfl, hb1⟩)
      refine hK.out _ _ ?_ (fun hHeld => ?_)
      · exact ⟨by rw [hb1.cell (World.block_lt_of_cell? _ _ c0)]; exact c0, by rw [hb1.cell (World.block_lt_of_cell? _ _ d0)]; exact d0, by rw [hb1.cell (World.block_lt_of_cell? _ _ d1)]; exact d1, by rw [hb1.cell (World.block_lt_of_cell? _ _ d2)]; exact d2, by rw [hb1.cell (World.block_lt_of_cell? _ _ d3)]; exact d3, by rw [hb1.cell (World.block_lt_of_cell? _ _ d4)]; exact d4, by rw [hb1.cell (World.block_lt_of_cell? _ _ d5)]; exact d5, by rw [hb1.cell (World.block_lt_of_cell? _ _ d6)]; exact d6⟩
      (try clear hK K)
      refine wpAnyH_take (i := 6) (v := ?_) rfl (by kernel_rfl) (by kernel_rfl) (by kernel_rfl) (fun _ _ _ h => h) (Or.inl ⟨by rfl, ?_⟩) (by assumption) ?_
      rotate_left
      · intro w hSw; (try dsimp only at hSw); go_simp; (try with_reducible rfl)
      (try simp only [Act.put, List.getElem_toArray, List.getElem_cons_succ, List.getElem_cons_zero, List.setIfInBounds_toArray, List.set_cons_zero, List.set_cons_succ])
      (try clear hK K)
      refine wpAnyH_done (by kernel_rfl) ?_ _
      have HB1 : Hid (Below w.heap.size w w1) := HW.out.2.drew.trans (hb1.mono HW.out.2.size)
      have HC1 : Hid (w1.cell? ⟨w.heap.size, 0, none⟩ = some vc) := by show _ = _; rw [hb1.cell (World.block_lt_of_cell? _ _ c0)]; exact c0
      clear hb1 c0 d0 d1 d2 d3 d4 d5 d6 hHeld HSk
      cases hok : setOk cols l[k]
      · have HN : Hid (setsB cols l = false) := setsB_bad hlt hok
        clear hok
        go_wp2_with fail
        go_ret
        exact ⟨ret_bool' HN.out.symm, HB1.out⟩
      · have HOK : Hid (setOk cols l[k] = true) := hok
        clear hok
        go_wp2_with fail
        go_loopw [7] (fun i wr => ∃ j : Nat, j ≤ k ∧ i = .int .i64 j ∧ Hid (Apart l k j) ∧ Hid (∃ q, wr = w1.drewN q)) (fun i _ => k - (intOf i).toNat)
        case atStart => exact ⟨0, Nat.zero_le _, rfl, fun i _ h _ => absurd h (Nat.not_lt_zero _), 0, rfl⟩
        case round =>
          obtain ⟨j, hj, rfl, HA, HQ⟩ := hrel
          obtain ⟨q, hq⟩ := HQ.out
          subst hq
          clear HQ
          by_cases hjk : j < k
          · obtain ⟨b', o', e', g0, g1⟩ := (HSI.out.below HB1.out).at k hlt
            cases e'
            obtain ⟨b', o', e', f0, f1⟩ := (HSI.out.below HB1.out).at j (by omega)
            cases e'
            clear g1 f1
            have j0 : (0 : Int) ≤ (j : Int) := by omega
            have j1 : (j : Int) < (l.length : Int) := by omega
            have j2 : (j : Int) < (k : Int) := by omega
            go_wp2_with fail
            go_quiet (fail)
            go_wp2_with fail
            · have HN : Hid (setsB cols l = false) := setsB_no hlt fun g => g.2 j hjk (eq_of_beq ‹(_ == _) = true›)
              go_ret
              exact ⟨ret_bool' HN.out.symm, below_drewN (below_drewN HB1.out _) _⟩
            · have HN : Hid (Apart l k (j + 1)) := fun i hk' hi hik => by
                by_cases e : i = j
                · subst e; exact ne_of_beq_false ‹(_ == _) = false›
                · exact HA.out i hk' (by omega) hik
              go_roundw
              case rel => exact ⟨j + 1, by omega, by go_num, HN, _, rfl⟩
              case measure => simp [intOf]; omega
          · have HN : Hid (OkTo cols l (k + 1)) := HT.out.next hlt HOK.out fun i hi => HA.out i hlt (by omega) hi
            go_wp2_with fail
            go_roundw
            case rel => exact ⟨k + 1, by omega, by go_num, HN, HC1.out, below_drewN HB1.out _⟩
            case measure => simp [intOf]; omega
    · have HN : Hid (setsB cols l = true) := setsB_yes hl (by omega) HT.out
      go_wp2_with fail
      go_ret
      exact ⟨ret_bool' HN.out.symm, HW.out.2⟩
theorem rsets_all (vc vs : Value) (cols : List Bool) (l : List SetP) (w : World) (hc : BoolsIn w vc cols) (hs : SetsIn w vs l) (ho : ∀ s ∈ l, s.v.s.size ≤ maxLen) :
    Calls Try.prog 17 #[.agg #[vc], vs] w fun e w' => e = .returned (.bool (setsB cols l)) ∧ Below w.heap.size w w' := by
  by_cases hl : l.length ≤ 3
  · exact rsets_any vc vs cols l w hc hs ho hl
  · rw [setsB_long (by omega)]; exact rsets_long vc vs l w hs (by omega)
end Go.Proofs.Ytncefhjegkhamaa.Val
