/- TreeChanges: the walk. -/
import Derived.Test.YtmagnpcdnhijlaaU20
import Derived.Test.YtmagnpcdnhijlaaU14
import Derived.Test.YtmagnpcdnhijlaaUO
import Derived.Test.YtmagnpcdnhijlaaUR
namespace Go.Proofs.Ytmagnpcdnhijlaa.Val
open Go Go.RowKit

/-- An act in a box. -/
structure ABox (w : World) (b : Nat) (a : AcP) : Prop where
  c0 : w.cell? ⟨b, 0, none⟩ = some (.bool a.del)
  c1 : w.cell? ⟨b, 1, none⟩ = some (.bool a.k.t)
  c2 : w.cell? ⟨b, 2, none⟩ = some (.int .i64 a.k.n)
  c3 : w.cell? ⟨b, 3, none⟩ = some (.string a.k.s)
  c4 : w.cell? ⟨b, 4, none⟩ = some (.int .i64 a.v)
theorem ABox.below {w w' : World} {b : Nat} {a : AcP} (h : ABox w b a) (hb : Below w.heap.size w w') : ABox w' b a :=
  ⟨by rw [hb.cell (World.block_lt_of_cell? _ _ h.c0)]; exact h.c0, by rw [hb.cell (World.block_lt_of_cell? _ _ h.c1)]; exact h.c1, by rw [hb.cell (World.block_lt_of_cell? _ _ h.c2)]; exact h.c2, by rw [hb.cell (World.block_lt_of_cell? _ _ h.c3)]; exact h.c3, by rw [hb.cell (World.block_lt_of_cell? _ _ h.c4)]; exact h.c4⟩
/-- What a Put makes of the pairs, whatever the key. -/
def insK (k : Val) (v : Int) (l : List Pr) : List Pr := if rightX k then insP k v l else l
/-- A tree of the call's own that holds these pairs. -/
def QL (w0 : World) (l : List Pr) (w1 : World) : Prop := ∃ h m u d, Own5 w0 w1 l 200 h m u d ∧ m ≤ 150
section
variable {w0 w1 : World} {l : List Pr}
theorem QL.blw (q : QL w0 l w1) : Below w0.heap.size w0 w1 := by
  obtain ⟨h, m, u, d, o, _⟩ := q
  exact o.blw
theorem QL.below {w2 : World} (q : QL w0 l w1) (hb : Below w1.heap.size w1 w2) : QL w0 l w2 := by
  obtain ⟨h, m, u, d, o, hm⟩ := q
  exact ⟨h, m, u, d, o.below hb, hm⟩
theorem QL.rises (q : QL w0 l w1) : Rises l ∧ Rights l := by
  obtain ⟨h, m, u, d, o, _⟩ := q
  exact ⟨o.tr.rises.1, o.tr.rises.2⟩
theorem q_get (q : QL w0 l w1) (hl : l.length ≤ 200) (k : Val) (hs : k.s.size ≤ maxLen) : Calls Try.prog 13 #[.pointer (some ⟨w0.heap.size, 0, none⟩), V k.t k.n k.s] w1 fun e w' => e = .returned (.tuple #[.int .i64 (getP k l).1, .bool (getP k l).2]) ∧ QL w0 l w' := by
  obtain ⟨h, m, u, d, o, hm⟩ := q
  have := get_any o.tr (by omega) k hs
  rw [o.p] at this
  exact this.mono fun e w' ⟨he, hb⟩ => ⟨he, h, m, u, d, o.below hb, hm⟩
theorem q_len (q : QL w0 l w1) : Calls Try.prog 15 #[.pointer (some ⟨w0.heap.size, 0, none⟩)] w1 fun e w' => e = .returned (.int .i64 l.length) ∧ QL w0 l w' := by
  obtain ⟨h, m, u, d, o, hm⟩ := q
  have := len_any o.tr
  rw [o.p] at this
  exact this.mono fun e w' ⟨he, hb⟩ => ⟨he, h, m, u, d, o.below hb, hm⟩
theorem q_del (q : QL w0 l w1) (hl : l.length ≤ 200) (k : Val) (hs : k.s.size ≤ maxLen) : Calls Try.prog 21 #[.pointer (some ⟨w0.heap.size, 0, none⟩), V k.t k.n k.s] w1 fun e w' => e = .returned (.bool (hasP k l)) ∧ QL w0 (delP k l) w' := by
  obtain ⟨h, m, u, d, o, hm⟩ := q
  have := del_any o.tr (by omega) (by omega) k hs
  rw [o.p] at this
  exact this.mono fun e w' ⟨he, h', u', d', t', vv⟩ => ⟨he, h', m, u', d', o.mv vv t' o.room, hm⟩
theorem len_insK {k : Val} {v : Int} (hr : Rises l) (hg : Rights l) : (insK k v l).length = if rightX k && !hasP k l then l.length + 1 else l.length := by
  unfold insK
  cases hk : rightX k
  · simp
  · have := len_put (v := v) hk hr hg
    simp only [if_true, this]
    cases hasP k l <;> simp
theorem q_put (q : QL w0 l w1) (hl : l.length ≤ 140) (k : Val) (v : Int) (hs : k.s.size ≤ maxLen) : Calls Try.prog 19 #[.pointer (some ⟨w0.heap.size, 0, none⟩), V k.t k.n k.s, .int .i64 v] w1 fun e w' => e = .returned (.bool (rightX k && !hasP k l)) ∧ QL w0 (insK k v l) w' := by
  obtain ⟨h, m, u, d, o, hm⟩ := q
  cases hk : rightX k
  · refine (put_wrong w0.heap.size k v hs hk).mono fun e w' ⟨he, hb⟩ => ⟨by rw [he]; rfl, h, m, u, d, ?_, hm⟩
    simp only [insK, hk]
    exact o.below hb
  · have := put_any o.tr (by omega) (by omega) k v hs hk
    rw [o.p] at this
    refine this.mono fun e w' ⟨he, h', m', u', d', t', vv, hmm⟩ => ⟨by rw [he]; rfl, h', m', u', d', ?_, ?_⟩
    · simp only [insK, hk, if_true]
      refine o.mv vv t' ?_
      have hsh := t'.shape
      have hlen := len_put (v := v) hk o.tr.rises.1 o.tr.rises.2
      have hlen2 : (insP k v l).length ≤ 141 := by rw [hlen]; split <;> omega
      omega
    · have hsh := t'.shape
      have hlen := len_put (v := v) hk o.tr.rises.1 o.tr.rises.2
      have hlen2 : (insP k v l).length ≤ 141 := by rw [hlen]; split <;> omega
      omega
theorem get_insK {k j : Val} {v : Int} (hr : Rises l) (hg : Rights l) (hne : j ≠ k) : getP j (insK k v l) = getP j l := by
  unfold insK
  cases hk : rightX k
  · rfl
  · exact get_ins_other hk hg hr hne
theorem insK_rises {k : Val} {v : Int} (hr : Rises l) : Rises (insK k v l) := by
  unfold insK
  split
  · exact ins_rises hr
  · exact hr
theorem has_insK {k : Val} {v : Int} (hr : Rises l) (hg : Rights l) : hasP k (insK k v l) = rightX k := by
  unfold insK
  cases hk : rightX k
  · simp only [Bool.false_eq_true, if_false]
    cases hh : hasP k l
    · rfl
    · obtain ⟨v', hv⟩ := has_iff.1 hh
      have := hg _ hv
      rw [hk] at this
      exact this.symm
  · exact has_iff.2 ⟨v, by rw [if_pos rfl]; exact (mem_ins_iff hr).2 (.inl rfl)⟩
end
set_option maxRecDepth 100000 in
set_option maxHeartbeats 16000000 in
theorem tchanges_walk (v : Value) (xs : List AcP) (a : AcP) (k : Val) (w : World) (hin : ActsIn w v xs) (hok : ∀ a ∈ xs, a.k.s.size ≤ maxLen) (ha : a.k.s.size ≤ maxLen) (hk : k.s.size ≤ maxLen) : Calls Try.prog 9 #[v, a.val, V k.t k.n k.s] w fun e w' => e = .returned (.bool true) ∧ Below w.heap.size w w' := by
  obtain ⟨ao, cap, rfl, hmx⟩ := Lies.slice hin
  have HA : Hid (∀ w1, Calls Try.prog 10 #[] w1 fun e w' => e = .returned (.bool true) ∧ Below w1.heap.size w1 w') := awake_any
  have HN : Hid (∀ w1, Calls Try.prog 11 #[] w1 fun e w' => e = .returned (.pointer (some ⟨w1.heap.size, 0, none⟩)) ∧ TR w' ⟨w1.heap.size, .slice none 0 0, .slice none 0 0, .slice none 0 0⟩ [] 0 0 0 ∧ Below w1.heap.size w1 w') := new_any
  have HIN : Hid (ActsIn w (.slice ao xs.length cap) xs ∧ ∀ a ∈ xs, a.k.s.size ≤ maxLen) := ⟨hin, hok⟩
  have HK : Hid (a.k.s.size ≤ maxLen ∧ k.s.size ≤ maxLen) := ⟨ha, hk⟩
  clear hin hok ha hk
  unfold AcP.val
  go_enter Try.func9, Try.ntmps9
  go_wp2_with fail
  refine Calls.mono (HA.out _) ?_
  rintro e w0 ⟨rfl, hb⟩
  have HB0 : Hid (Below w.heap.size w w0) := back2 hb
  have HXA : Hid (ABox w0 w.heap.size a) := ABox.below (by constructor <;> simp [go_sem]) hb
  have HXK : Hid (VBox w0 (w.heap.size + 1) k) := VBox.below (by constructor <;> simp [go_sem]) hb
  clear hb HA
  obtain ⟨a0, a1, a2, a3, a4⟩ := HXA.out
  obtain ⟨k0, k1, k2⟩ := HXK.out
  have EQ := fun w => eql_V a.k k w
  cases hq : eqV a.k k
  · simp only [hq] at EQ
    have HNE : Hid (k ≠ a.k) := fun e => by rw [e, eqV_iff.2 rfl] at hq; cases hq
    have HCC : Hid (∀ w1, Below w0.heap.size w0 w1 → ABox w1 w.heap.size a ∧ VBox w1 (w.heap.size + 1) k) := fun w1 hb => ⟨HXA.out.below hb, HXK.out.below hb⟩
    clear hq HXA HXK
    go_wp2_with fail
    clear EQ a0 a1 a2 a3 a4 k0 k1 k2
    refine Calls.mono (HN.out _) ?_
    rintro e w1 ⟨rfl, T1, hb⟩
    have HO1 : Hid (∃ l, QL w0 l w1 ∧ l.length ≤ 0) := ⟨[], ⟨_, 0, 0, 0, ⟨T1, rfl, new_mine w0, hb, by omega⟩, by omega⟩, by simp⟩
    clear T1 hb HN
    go_wp2_with fail
    go_loopw [9] (fun a9 wr => ∃ j : Nat, j ≤ xs.length ∧ j ≤ 120 ∧ a9 = .int .i64 j ∧ Hid (∃ l, QL w0 l wr ∧ l.length ≤ j)) (fun a9 _ => xs.length - (intOf a9).toNat)
    case atStart => exact ⟨0, Nat.zero_le _, by omega, rfl, HO1.out⟩
    case round =>
      obtain ⟨j, hj, hj2, rfl, HO⟩ := hrel
      clear HO1
      by_cases h1 : j < xs.length ∧ j < 120
      · obtain ⟨l, q, hl⟩ := HO.out
        have HIR : ActsIn wr (.slice ao xs.length cap) xs := HIN.out.1.below (HB0.out.trans (q.blw.mono HB0.out.size))
        obtain ⟨b, oo, rfl, _, c1, c2, c3, c4⟩ := HIR.at j h1.1
        have hs := HIN.out.2 xs[j] (List.getElem_mem h1.1)
        have HPUT : Hid (∀ w1, Below wr.heap.size wr w1 → Calls Try.prog 19 #[.pointer (some ⟨w0.heap.size, 0, none⟩), V xs[j].k.t xs[j].k.n xs[j].k.s, .int .i64 xs[j].v] w1 fun e w' => (∃ bb, e = .returned (.bool bb)) ∧ ∃ l', QL w0 l' w' ∧ l'.length ≤ j + 1) := fun w1 hb => by
          refine (q_put (q.below hb) (by omega) xs[j].k xs[j].v hs).mono fun e w' ⟨he, q'⟩ => ⟨⟨_, he⟩, _, q', ?_⟩
          rw [len_insK q.rises.1 q.rises.2]
          split <;> omega
        have HCB : Hid (∀ w3, Below w0.heap.size w0 w3 → w3.cell? ⟨b, oo + j * 5 + 1, none⟩ = some (.bool xs[j].k.t) ∧ w3.cell? ⟨b, oo + j * 5 + 2, none⟩ = some (.int .i64 xs[j].k.n) ∧ w3.cell? ⟨b, oo + j * 5 + 3, none⟩ = some (.string xs[j].k.s) ∧ w3.cell? ⟨b, oo + j * 5 + 4, none⟩ = some (.int .i64 xs[j].v)) := fun w3 hb => by
          have hR : ActsIn w3 (.slice (some ⟨b, oo, none⟩) xs.length cap) xs := HIN.out.1.below (HB0.out.trans (hb.mono HB0.out.size))
          obtain ⟨b', oo', e, _, q1, q2, q3, q4⟩ := hR.at j h1.1
          cases e
          exact ⟨q1, q2, q3, q4⟩
        have HBR : Hid (Below w0.heap.size w0 wr) := q.blw
        clear HIR q hl hs HO
        generalize xs[j] = x at *
        have j0 : (0 : Int) ≤ (j : Int) := by omega
        have j1 : (j : Int) < (xs.length : Int) := by omega
        have j2 : (j : Int) < 120 := by omega
        have j3 : j ≤ 120 := by omega
        have HJ : Hid (j + 1 ≤ xs.length ∧ j < 120) := ⟨h1.1, h1.2⟩
        clear h1 hj hj2
        go_wp2_with fail
        refine wp_region_held_drew (S := fun w' => w'.cell? ⟨b, oo + j * 5 + 1, none⟩ = some (.bool x.k.t) ∧ w'.cell? ⟨b, oo + j * 5 + 2, none⟩ = some (.int .i64 x.k.n) ∧ w'.cell? ⟨b, oo + j * 5 + 3, none⟩ = some (.string x.k.s) ∧ w'.cell? ⟨b, oo + j * 5 + 4, none⟩ = some (.int .i64 x.v)) (by kernel_rfl) ?_ (fun hHeld => ?_)
        · exact HCB.out _ (HBR.out.trans ((Below.refl _ _).drew.mono HBR.out.size))
        (try clear hK K)
        refine wpAnyH_take (i := 0) (v := ?_) rfl (by kernel_rfl) (by kernel_rfl) (by kernel_rfl) (fun _ _ _ h => h) (Or.inl ⟨by rfl, ?_⟩) (by assumption) ?_
        rotate_left
        · intro w hSw; (try dsimp only at hSw); go_simp; (try with_reducible rfl)
        (try simp only [Act.put, List.getElem_toArray, List.getElem_cons_zero, List.setIfInBounds_toArray, List.set_cons_zero, List.set_cons_succ])
        refine wpAnyH_take (i := 1) (v := ?_) rfl (by kernel_rfl) (by kernel_rfl) (by kernel_rfl) (fun _ _ _ h => h) (Or.inl ⟨by rfl, ?_⟩) (by assumption) ?_
        rotate_left
        · intro w hSw; (try dsimp only at hSw); go_simp; (try with_reducible rfl)
        (try simp only [Act.put, List.getElem_toArray, List.getElem_cons_succ, List.getElem_cons_zero, List.setIfInBounds_toArray, List.set_cons_zero, List.set_cons_succ])
        refine wpAnyH_take (i := 2) (v := ?_) rfl (by kernel_rfl) (by kernel_rfl) (by kernel_rfl) (fun _ _ _ h => h) (Or.inl ⟨by rfl, ?_⟩) (by assumption) ?_
        rotate_left
        · intro w hSw; (try dsimp only at hSw); go_simp; (try with_reducible rfl)
        (try simp only [Act.put, List.getElem_toArray, List.getElem_cons_succ, List.getElem_cons_zero, List.setIfInBounds_toArray, List.set_cons_zero, List.set_cons_succ])
        refine wpAnyH_take (i := 3) (v := ?_) rfl (by kernel_rfl) (by kernel_rfl) (by kernel_rfl) (fun _ _ _ h => h) (Or.inl ⟨by rfl, ?_⟩) (by assumption) ?_
        rotate_left
        · intro w hSw; (try dsimp only at hSw); go_simp; (try with_reducible rfl)
        (try simp only [Act.put, List.getElem_toArray, List.getElem_cons_succ, List.getElem_cons_zero, List.setIfInBounds_toArray, List.set_cons_zero, List.set_cons_succ])
        refine wpAnyH_take (i := 4) (v := ?_) rfl (by kernel_rfl) (by kernel_rfl) (by kernel_rfl) (fun _ _ _ h => h) (Or.inl ⟨by rfl, ?_⟩) (by assumption) ?_
        rotate_left
        · intro w hSw; (try dsimp only at hSw); go_simp; (try with_reducible rfl)
        (try simp only [Act.put, List.getElem_toArray, List.getElem_cons_succ, List.getElem_cons_zero, List.setIfInBounds_toArray, List.set_cons_zero, List.set_cons_succ])
        refine wpAnyH_take (i := 5) (v := ?_) rfl (by kernel_rfl) (by kernel_rfl) (by kernel_rfl) (fun _ _ _ h => h) (Or.inl ⟨by rfl, ?_⟩) (by assumption) ?_
        rotate_left
        · intro w hSw; (try dsimp only at hSw); go_simp; (try with_reducible rfl)
        (try simp only [Act.put, List.getElem_toArray, List.getElem_cons_succ, List.getElem_cons_zero, List.setIfInBounds_toArray, List.set_cons_zero, List.set_cons_succ])
        refine wpAnyH_take (i := 6) (v := ?_) rfl (by kernel_rfl) (by kernel_rfl) (by kernel_rfl) (fun _ _ _ h => h) (Or.inl ⟨by rfl, ?_⟩) (by assumption) ?_
        rotate_left
        · intro w hSw; (try dsimp only at hSw); go_simp; (try with_reducible rfl)
        (try simp only [Act.put, List.getElem_toArray, List.getElem_cons_succ, List.getElem_cons_zero, List.setIfInBounds_toArray, List.set_cons_zero, List.set_cons_succ])
        refine wpAnyH_take (i := 7) (v := ?_) rfl (by kernel_rfl) (by kernel_rfl) (by kernel_rfl) (fun _ _ _ h => h) (Or.inl ⟨by rfl, ?_⟩) (by assumption) ?_
        rotate_left
        · intro w hSw; (try dsimp only at hSw); go_simp; (try with_reducible rfl)
        (try simp only [Act.put, List.getElem_toArray, List.getElem_cons_succ, List.getElem_cons_zero, List.setIfInBounds_toArray, List.set_cons_zero, List.set_cons_succ])
        refine wpAnyH_take (i := 8) (v := ?_) rfl (by kernel_rfl) (by kernel_rfl) (by kernel_rfl) (fun _ _ _ h => h) (Or.inl ⟨by rfl, ?_⟩) (by assumption) ?_
        rotate_left
        · intro w hSw; (try dsimp only at hSw); go_simp; (try with_reducible rfl)
        (try simp only [Act.put, List.getElem_toArray, List.getElem_cons_succ, List.getElem_cons_zero, List.setIfInBounds_toArray, List.set_cons_zero, List.set_cons_succ])
        refine wpAnyH_take (i := 9) (v := ?_) rfl (by kernel_rfl) (by kernel_rfl) (by kernel_rfl) (fun _ _ _ h => h) (Or.inl ⟨by rfl, ?_⟩) (by assumption) ?_
        rotate_left
        · intro w hSw; (try dsimp only at hSw); go_simp; (try with_reducible rfl)
        (try simp only [Act.put, List.getElem_toArray, List.getElem_cons_succ, List.getElem_cons_zero, List.setIfInBounds_toArray, List.set_cons_zero, List.set_cons_succ])
        refine wpAnyH_take (i := 10) (v := ?_) rfl (by kernel_rfl) (by kernel_rfl) (by kernel_rfl) (fun _ _ _ h => h) (Or.inl ⟨by rfl, ?_⟩) (by assumption) ?_
        rotate_left
        · intro w hSw; (try dsimp only at hSw); go_simp; (try with_reducible rfl)
        (try simp only [Act.put, List.getElem_toArray, List.getElem_cons_succ, List.getElem_cons_zero, List.setIfInBounds_toArray, List.set_cons_zero, List.set_cons_succ])
        (try clear hK K)
        refine wpAnyH_ready (rs := [11]) (by kernel_rfl) (by simp) ?_
        refine AllReadyH.cons rfl (fun K hK => ?_) AllReadyH.nil
        go_simp
        (refine Calls.mono (HPUT.out _ (Below.refl _ _).drew) ?_; rintro e w3 ⟨⟨bb, rfl⟩, l', hq'⟩)
        refine hK.out _ _ ?_ (fun hHeld => ?_)
        · exact HCB.out w3 hq'.1.blw
        clear c1 c2 c3 c4 HPUT
        (try clear hK K)
        refine wpAnyH_done (by kernel_rfl) ?_ _
        have HQ : Hid (QL w0 l' w3 ∧ l'.length ≤ j + 1) := hq'
        clear hq'
        go_wp2_with fail
        go_roundw
        case rel => exact ⟨j + 1, HJ.out.1, by have := HJ.out.2; omega, by go_num, l', HQ.out⟩
        case measure => have := HJ.out; simp [intOf]; omega
      · by_cases h2 : j < xs.length
        · obtain rfl : j = 120 := by omega
          have j1 : ((120 : Nat) : Int) < (xs.length : Int) := by omega
          have j1' : (120 : Int) < (xs.length : Int) := by omega
          have j1'' : 120 < xs.length := by omega
          clear h1 h2 hj hj2
          obtain ⟨l, q, hl⟩ := HO.out
          have HQ0 : Hid (QL w0 l wr) := q
          have hri := q.rises
          obtain ⟨gv, gb, hg⟩ : ∃ gv gb, getP k l = (gv, gb) := ⟨_, _, rfl⟩
          obtain ⟨n, hn⟩ : ∃ n, l.length = n := ⟨_, rfl⟩
          have hln := len_insK (k := a.k) (v := a.v) hri.1 hri.2
          have e1 : getP k (insK a.k a.v l) = (gv, gb) := by rw [get_insK hri.1 hri.2 HNE.out, hg]
          have e2 : getP k (delP a.k (insK a.k a.v l)) = (gv, gb) := by rw [get_del_other (insK_rises hri.1) HNE.out, e1]
          have e3 := has_insK (k := a.k) (v := a.v) hri.1 hri.2
          have hl2 : (insK a.k a.v l).length ≤ 121 := by rw [hln]; split <;> omega
          have hl3 : (delP a.k (insK a.k a.v l)).length ≤ 121 := Nat.le_trans (List.length_filter_le ..) hl2
          have CG0 : Hid (∀ w1, QL w0 l w1 → Calls Try.prog 13 #[.pointer (some ⟨w0.heap.size, 0, none⟩), V k.t k.n k.s] w1 fun e w' => e = .returned (.tuple #[.int .i64 gv, .bool gb]) ∧ QL w0 l w') := fun w1 q => by have := q_get q (by omega) k HK.out.2; rwa [hg] at this
          have CG1 : Hid (∀ w1, QL w0 (insK a.k a.v l) w1 → Calls Try.prog 13 #[.pointer (some ⟨w0.heap.size, 0, none⟩), V k.t k.n k.s] w1 fun e w' => e = .returned (.tuple #[.int .i64 gv, .bool gb]) ∧ QL w0 (insK a.k a.v l) w') := fun w1 q => by have := q_get q (by omega) k HK.out.2; rwa [e1] at this
          have CG2 : Hid (∀ w1, QL w0 (delP a.k (insK a.k a.v l)) w1 → Calls Try.prog 13 #[.pointer (some ⟨w0.heap.size, 0, none⟩), V k.t k.n k.s] w1 fun e w' => e = .returned (.tuple #[.int .i64 gv, .bool gb]) ∧ QL w0 (delP a.k (insK a.k a.v l)) w') := fun w1 q => by have := q_get q (by omega) k HK.out.2; rwa [e2] at this
          have CL0 : Hid (∀ w1, QL w0 l w1 → Calls Try.prog 15 #[.pointer (some ⟨w0.heap.size, 0, none⟩)] w1 fun e w' => e = .returned (.int .i64 n) ∧ QL w0 l w') := fun w1 q => by have := q_len q; rwa [hn] at this
          have CT : Hid (∀ w1, Calls Try.prog 26 #[V a.k.t a.k.n a.k.s] w1 fun e w' => e = .returned (.bool (rightX a.k)) ∧ Below w1.heap.size w1 w') := fun w1 => rright_any a.k.t a.k.n a.k.s w1 HK.out.1
          have CP : Hid (∀ w1, QL w0 l w1 → Calls Try.prog 19 #[.pointer (some ⟨w0.heap.size, 0, none⟩), V a.k.t a.k.n a.k.s, .int .i64 a.v] w1 fun e w' => e = .returned (.bool (rightX a.k && !hasP a.k l)) ∧ QL w0 (insK a.k a.v l) w') := fun w1 q => q_put q (by omega) a.k a.v HK.out.1
          have CD : Hid (∀ w1, QL w0 (insK a.k a.v l) w1 → Calls Try.prog 21 #[.pointer (some ⟨w0.heap.size, 0, none⟩), V a.k.t a.k.n a.k.s] w1 fun e w' => e = .returned (.bool (rightX a.k)) ∧ QL w0 (delP a.k (insK a.k a.v l)) w') := fun w1 q => by have := q_del q (by omega) a.k HK.out.1; rwa [e3] at this
          have CL1 : ∀ w1, QL w0 (insK a.k a.v l) w1 → Calls Try.prog 15 #[.pointer (some ⟨w0.heap.size, 0, none⟩)] w1 fun e w' => e = .returned (.int .i64 (if rightX a.k && !hasP a.k l then n + 1 else n : Nat)) ∧ QL w0 (insK a.k a.v l) w' := fun w1 q => by have := q_len q; rwa [hln, hn] at this
          have n0 : (0 : Int) ≤ (n : Int) := by omega
          have n1 : n ≤ 120 := by omega
          clear q hri hg hn hln e1 e2 e3 hl2 hl3 hl HO
          generalize insK a.k a.v l = l1 at *
          generalize delP a.k l1 = l2 at *
          generalize rightX a.k = r at *
          generalize hasP a.k l = hh at *
          cases r <;> cases hh
          · have CL1 : Hid (∀ w1, QL w0 l1 w1 → Calls Try.prog 15 #[.pointer (some ⟨w0.heap.size, 0, none⟩)] w1 fun e w' => e = .returned (.int .i64 (n : Int)) ∧ QL w0 l1 w') := CL1
            replace CP : Hid (∀ w1, QL w0 l w1 → Calls Try.prog 19 #[.pointer (some ⟨w0.heap.size, 0, none⟩), V a.k.t a.k.n a.k.s, .int .i64 a.v] w1 fun e w' => e = .returned (.bool false) ∧ QL w0 l1 w') := CP
            obtain ⟨⟨_, a1, a2, a3, a4⟩, ⟨k0, k1, k2⟩⟩ := HCC.out _ HQ0.out.blw
            go_wp2_with fail
            refine Calls.mono (CG0.out _ HQ0.out) ?_
            rintro e u0 ⟨rfl, q⟩
            have HQ1 : Hid (QL w0 l u0) := q
            clear q HQ0 CG0 a1 a2 a3 a4 k0 k1 k2
            obtain ⟨⟨_, a1, a2, a3, a4⟩, ⟨k0, k1, k2⟩⟩ := HCC.out _ HQ1.out.blw
            go_wp2_with fail
            refine Calls.mono (CL0.out _ HQ1.out) ?_
            rintro e u1 ⟨rfl, q⟩
            have HQ2 : Hid (QL w0 l u1) := q
            clear q HQ1 CL0 a1 a2 a3 a4 k0 k1 k2
            obtain ⟨⟨_, a1, a2, a3, a4⟩, ⟨k0, k1, k2⟩⟩ := HCC.out _ HQ2.out.blw
            go_wp2_with fail
            refine Calls.mono (CP.out _ HQ2.out) ?_
            rintro e u2 ⟨rfl, q⟩
            have HQ3 : Hid (QL w0 l1 u2) := q
            clear q HQ2 CP a1 a2 a3 a4 k0 k1 k2
            obtain ⟨⟨_, a1, a2, a3, a4⟩, ⟨k0, k1, k2⟩⟩ := HCC.out _ HQ3.out.blw
            go_wp2_with fail
            refine Calls.mono (CG1.out _ HQ3.out) ?_
            rintro e u3 ⟨rfl, q⟩
            have HQ4 : Hid (QL w0 l1 u3) := q
            clear q HQ3 CG1 a1 a2 a3 a4 k0 k1 k2
            obtain ⟨⟨_, a1, a2, a3, a4⟩, ⟨k0, k1, k2⟩⟩ := HCC.out _ HQ4.out.blw
            go_wp2_with fail
            refine Calls.mono (CL1.out _ HQ4.out) ?_
            rintro e u4 ⟨rfl, q⟩
            have HQ5 : Hid (QL w0 l1 u4) := q
            clear q HQ4 CL1 a1 a2 a3 a4 k0 k1 k2
            obtain ⟨⟨_, a1, a2, a3, a4⟩, ⟨k0, k1, k2⟩⟩ := HCC.out _ HQ5.out.blw
            go_wp2_with fail
            refine Calls.mono (CD.out _ HQ5.out) ?_
            rintro e u5 ⟨rfl, q⟩
            have HQ6 : Hid (QL w0 l2 u5) := q
            clear q HQ5 CD a1 a2 a3 a4 k0 k1 k2
            obtain ⟨⟨_, a1, a2, a3, a4⟩, ⟨k0, k1, k2⟩⟩ := HCC.out _ HQ6.out.blw
            go_wp2_with fail
            refine Calls.mono (CG2.out _ HQ6.out) ?_
            rintro e u6 ⟨rfl, q⟩
            have HQ7 : Hid (QL w0 l2 u6) := q
            clear q HQ6 CG2 a1 a2 a3 a4 k0 k1 k2
            obtain ⟨⟨_, a1, a2, a3, a4⟩, _⟩ := HCC.out _ HQ7.out.blw
            go_wp2_with fail
            refine Calls.mono (CT.out _) ?_
            rintro e u9 ⟨rfl, hb⟩
            have HE : Hid (Below w.heap.size w u9) := (HB0.out.trans (HQ7.out.blw.mono HB0.out.size)).trans (hb.mono (Nat.le_trans HB0.out.size HQ7.out.blw.size))
            clear hb HQ7 CT a1 a2 a3 a4 HCC HNE HK HIN HB0
            go_wp2_with fail
            go_ret
            exact ⟨rfl, HE.out⟩
          · have CL1 : Hid (∀ w1, QL w0 l1 w1 → Calls Try.prog 15 #[.pointer (some ⟨w0.heap.size, 0, none⟩)] w1 fun e w' => e = .returned (.int .i64 (n : Int)) ∧ QL w0 l1 w') := CL1
            replace CP : Hid (∀ w1, QL w0 l w1 → Calls Try.prog 19 #[.pointer (some ⟨w0.heap.size, 0, none⟩), V a.k.t a.k.n a.k.s, .int .i64 a.v] w1 fun e w' => e = .returned (.bool false) ∧ QL w0 l1 w') := CP
            obtain ⟨⟨_, a1, a2, a3, a4⟩, ⟨k0, k1, k2⟩⟩ := HCC.out _ HQ0.out.blw
            go_wp2_with fail
            refine Calls.mono (CG0.out _ HQ0.out) ?_
            rintro e u0 ⟨rfl, q⟩
            have HQ1 : Hid (QL w0 l u0) := q
            clear q HQ0 CG0 a1 a2 a3 a4 k0 k1 k2
            obtain ⟨⟨_, a1, a2, a3, a4⟩, ⟨k0, k1, k2⟩⟩ := HCC.out _ HQ1.out.blw
            go_wp2_with fail
            refine Calls.mono (CL0.out _ HQ1.out) ?_
            rintro e u1 ⟨rfl, q⟩
            have HQ2 : Hid (QL w0 l u1) := q
            clear q HQ1 CL0 a1 a2 a3 a4 k0 k1 k2
            obtain ⟨⟨_, a1, a2, a3, a4⟩, ⟨k0, k1, k2⟩⟩ := HCC.out _ HQ2.out.blw
            go_wp2_with fail
            refine Calls.mono (CP.out _ HQ2.out) ?_
            rintro e u2 ⟨rfl, q⟩
            have HQ3 : Hid (QL w0 l1 u2) := q
            clear q HQ2 CP a1 a2 a3 a4 k0 k1 k2
            obtain ⟨⟨_, a1, a2, a3, a4⟩, ⟨k0, k1, k2⟩⟩ := HCC.out _ HQ3.out.blw
            go_wp2_with fail
            refine Calls.mono (CG1.out _ HQ3.out) ?_
            rintro e u3 ⟨rfl, q⟩
            have HQ4 : Hid (QL w0 l1 u3) := q
            clear q HQ3 CG1 a1 a2 a3 a4 k0 k1 k2
            obtain ⟨⟨_, a1, a2, a3, a4⟩, ⟨k0, k1, k2⟩⟩ := HCC.out _ HQ4.out.blw
            go_wp2_with fail
            refine Calls.mono (CL1.out _ HQ4.out) ?_
            rintro e u4 ⟨rfl, q⟩
            have HQ5 : Hid (QL w0 l1 u4) := q
            clear q HQ4 CL1 a1 a2 a3 a4 k0 k1 k2
            obtain ⟨⟨_, a1, a2, a3, a4⟩, ⟨k0, k1, k2⟩⟩ := HCC.out _ HQ5.out.blw
            go_wp2_with fail
            refine Calls.mono (CD.out _ HQ5.out) ?_
            rintro e u5 ⟨rfl, q⟩
            have HQ6 : Hid (QL w0 l2 u5) := q
            clear q HQ5 CD a1 a2 a3 a4 k0 k1 k2
            obtain ⟨⟨_, a1, a2, a3, a4⟩, ⟨k0, k1, k2⟩⟩ := HCC.out _ HQ6.out.blw
            go_wp2_with fail
            refine Calls.mono (CG2.out _ HQ6.out) ?_
            rintro e u6 ⟨rfl, q⟩
            have HQ7 : Hid (QL w0 l2 u6) := q
            clear q HQ6 CG2 a1 a2 a3 a4 k0 k1 k2
            obtain ⟨⟨_, a1, a2, a3, a4⟩, _⟩ := HCC.out _ HQ7.out.blw
            go_wp2_with fail
            refine Calls.mono (CT.out _) ?_
            rintro e u9 ⟨rfl, hb⟩
            have HE : Hid (Below w.heap.size w u9) := (HB0.out.trans (HQ7.out.blw.mono HB0.out.size)).trans (hb.mono (Nat.le_trans HB0.out.size HQ7.out.blw.size))
            clear hb HQ7 CT a1 a2 a3 a4 HCC HNE HK HIN HB0
            go_wp2_with fail
            go_ret
            exact ⟨rfl, HE.out⟩
          · have CL1 : Hid (∀ w1, QL w0 l1 w1 → Calls Try.prog 15 #[.pointer (some ⟨w0.heap.size, 0, none⟩)] w1 fun e w' => e = .returned (.int .i64 ((n : Int) + 1)) ∧ QL w0 l1 w') := CL1
            replace CP : Hid (∀ w1, QL w0 l w1 → Calls Try.prog 19 #[.pointer (some ⟨w0.heap.size, 0, none⟩), V a.k.t a.k.n a.k.s, .int .i64 a.v] w1 fun e w' => e = .returned (.bool true) ∧ QL w0 l1 w') := CP
            obtain ⟨⟨_, a1, a2, a3, a4⟩, ⟨k0, k1, k2⟩⟩ := HCC.out _ HQ0.out.blw
            go_wp2_with fail
            refine Calls.mono (CG0.out _ HQ0.out) ?_
            rintro e u0 ⟨rfl, q⟩
            have HQ1 : Hid (QL w0 l u0) := q
            clear q HQ0 CG0 a1 a2 a3 a4 k0 k1 k2
            obtain ⟨⟨_, a1, a2, a3, a4⟩, ⟨k0, k1, k2⟩⟩ := HCC.out _ HQ1.out.blw
            go_wp2_with fail
            refine Calls.mono (CL0.out _ HQ1.out) ?_
            rintro e u1 ⟨rfl, q⟩
            have HQ2 : Hid (QL w0 l u1) := q
            clear q HQ1 CL0 a1 a2 a3 a4 k0 k1 k2
            obtain ⟨⟨_, a1, a2, a3, a4⟩, ⟨k0, k1, k2⟩⟩ := HCC.out _ HQ2.out.blw
            go_wp2_with fail
            refine Calls.mono (CP.out _ HQ2.out) ?_
            rintro e u2 ⟨rfl, q⟩
            have HQ3 : Hid (QL w0 l1 u2) := q
            clear q HQ2 CP a1 a2 a3 a4 k0 k1 k2
            obtain ⟨⟨_, a1, a2, a3, a4⟩, ⟨k0, k1, k2⟩⟩ := HCC.out _ HQ3.out.blw
            go_wp2_with fail
            refine Calls.mono (CG1.out _ HQ3.out) ?_
            rintro e u3 ⟨rfl, q⟩
            have HQ4 : Hid (QL w0 l1 u3) := q
            clear q HQ3 CG1 a1 a2 a3 a4 k0 k1 k2
            obtain ⟨⟨_, a1, a2, a3, a4⟩, ⟨k0, k1, k2⟩⟩ := HCC.out _ HQ4.out.blw
            go_wp2_with fail
            refine Calls.mono (CL1.out _ HQ4.out) ?_
            rintro e u4 ⟨rfl, q⟩
            have HQ5 : Hid (QL w0 l1 u4) := q
            clear q HQ4 CL1 a1 a2 a3 a4 k0 k1 k2
            obtain ⟨⟨_, a1, a2, a3, a4⟩, ⟨k0, k1, k2⟩⟩ := HCC.out _ HQ5.out.blw
            go_wp2_with fail
            refine Calls.mono (CD.out _ HQ5.out) ?_
            rintro e u5 ⟨rfl, q⟩
            have HQ6 : Hid (QL w0 l2 u5) := q
            clear q HQ5 CD a1 a2 a3 a4 k0 k1 k2
            obtain ⟨⟨_, a1, a2, a3, a4⟩, ⟨k0, k1, k2⟩⟩ := HCC.out _ HQ6.out.blw
            go_wp2_with fail
            refine Calls.mono (CG2.out _ HQ6.out) ?_
            rintro e u6 ⟨rfl, q⟩
            have HQ7 : Hid (QL w0 l2 u6) := q
            clear q HQ6 CG2 a1 a2 a3 a4 k0 k1 k2
            obtain ⟨⟨_, a1, a2, a3, a4⟩, _⟩ := HCC.out _ HQ7.out.blw
            go_wp2_with fail
            refine Calls.mono (CT.out _) ?_
            rintro e u9 ⟨rfl, hb⟩
            have HE : Hid (Below w.heap.size w u9) := (HB0.out.trans (HQ7.out.blw.mono HB0.out.size)).trans (hb.mono (Nat.le_trans HB0.out.size HQ7.out.blw.size))
            clear hb HQ7 CT a1 a2 a3 a4 HCC HNE HK HIN HB0
            go_wp2_with fail
            go_ret
            exact ⟨rfl, HE.out⟩
          · have CL1 : Hid (∀ w1, QL w0 l1 w1 → Calls Try.prog 15 #[.pointer (some ⟨w0.heap.size, 0, none⟩)] w1 fun e w' => e = .returned (.int .i64 (n : Int)) ∧ QL w0 l1 w') := CL1
            replace CP : Hid (∀ w1, QL w0 l w1 → Calls Try.prog 19 #[.pointer (some ⟨w0.heap.size, 0, none⟩), V a.k.t a.k.n a.k.s, .int .i64 a.v] w1 fun e w' => e = .returned (.bool false) ∧ QL w0 l1 w') := CP
            obtain ⟨⟨_, a1, a2, a3, a4⟩, ⟨k0, k1, k2⟩⟩ := HCC.out _ HQ0.out.blw
            go_wp2_with fail
            refine Calls.mono (CG0.out _ HQ0.out) ?_
            rintro e u0 ⟨rfl, q⟩
            have HQ1 : Hid (QL w0 l u0) := q
            clear q HQ0 CG0 a1 a2 a3 a4 k0 k1 k2
            obtain ⟨⟨_, a1, a2, a3, a4⟩, ⟨k0, k1, k2⟩⟩ := HCC.out _ HQ1.out.blw
            go_wp2_with fail
            refine Calls.mono (CL0.out _ HQ1.out) ?_
            rintro e u1 ⟨rfl, q⟩
            have HQ2 : Hid (QL w0 l u1) := q
            clear q HQ1 CL0 a1 a2 a3 a4 k0 k1 k2
            obtain ⟨⟨_, a1, a2, a3, a4⟩, ⟨k0, k1, k2⟩⟩ := HCC.out _ HQ2.out.blw
            go_wp2_with fail
            refine Calls.mono (CP.out _ HQ2.out) ?_
            rintro e u2 ⟨rfl, q⟩
            have HQ3 : Hid (QL w0 l1 u2) := q
            clear q HQ2 CP a1 a2 a3 a4 k0 k1 k2
            obtain ⟨⟨_, a1, a2, a3, a4⟩, ⟨k0, k1, k2⟩⟩ := HCC.out _ HQ3.out.blw
            go_wp2_with fail
            refine Calls.mono (CG1.out _ HQ3.out) ?_
            rintro e u3 ⟨rfl, q⟩
            have HQ4 : Hid (QL w0 l1 u3) := q
            clear q HQ3 CG1 a1 a2 a3 a4 k0 k1 k2
            obtain ⟨⟨_, a1, a2, a3, a4⟩, ⟨k0, k1, k2⟩⟩ := HCC.out _ HQ4.out.blw
            go_wp2_with fail
            refine Calls.mono (CL1.out _ HQ4.out) ?_
            rintro e u4 ⟨rfl, q⟩
            have HQ5 : Hid (QL w0 l1 u4) := q
            clear q HQ4 CL1 a1 a2 a3 a4 k0 k1 k2
            obtain ⟨⟨_, a1, a2, a3, a4⟩, ⟨k0, k1, k2⟩⟩ := HCC.out _ HQ5.out.blw
            go_wp2_with fail
            refine Calls.mono (CD.out _ HQ5.out) ?_
            rintro e u5 ⟨rfl, q⟩
            have HQ6 : Hid (QL w0 l2 u5) := q
            clear q HQ5 CD a1 a2 a3 a4 k0 k1 k2
            obtain ⟨⟨_, a1, a2, a3, a4⟩, ⟨k0, k1, k2⟩⟩ := HCC.out _ HQ6.out.blw
            go_wp2_with fail
            refine Calls.mono (CG2.out _ HQ6.out) ?_
            rintro e u6 ⟨rfl, q⟩
            have HQ7 : Hid (QL w0 l2 u6) := q
            clear q HQ6 CG2 a1 a2 a3 a4 k0 k1 k2
            obtain ⟨⟨_, a1, a2, a3, a4⟩, _⟩ := HCC.out _ HQ7.out.blw
            go_wp2_with fail
            refine Calls.mono (CT.out _) ?_
            rintro e u9 ⟨rfl, hb⟩
            have HE : Hid (Below w.heap.size w u9) := (HB0.out.trans (HQ7.out.blw.mono HB0.out.size)).trans (hb.mono (Nat.le_trans HB0.out.size HQ7.out.blw.size))
            clear hb HQ7 CT a1 a2 a3 a4 HCC HNE HK HIN HB0
            go_wp2_with fail
            go_ret
            exact ⟨rfl, HE.out⟩
        · obtain rfl : j = xs.length := by omega
          have hj3 : xs.length ≤ 120 := hj2
          clear h1 h2 hj hj2
          obtain ⟨l, q, hl⟩ := HO.out
          have HQ0 : Hid (QL w0 l wr) := q
          have hri := q.rises
          obtain ⟨gv, gb, hg⟩ : ∃ gv gb, getP k l = (gv, gb) := ⟨_, _, rfl⟩
          obtain ⟨n, hn⟩ : ∃ n, l.length = n := ⟨_, rfl⟩
          have hln := len_insK (k := a.k) (v := a.v) hri.1 hri.2
          have e1 : getP k (insK a.k a.v l) = (gv, gb) := by rw [get_insK hri.1 hri.2 HNE.out, hg]
          have e2 : getP k (delP a.k (insK a.k a.v l)) = (gv, gb) := by rw [get_del_other (insK_rises hri.1) HNE.out, e1]
          have e3 := has_insK (k := a.k) (v := a.v) hri.1 hri.2
          have hl2 : (insK a.k a.v l).length ≤ 121 := by rw [hln]; split <;> omega
          have hl3 : (delP a.k (insK a.k a.v l)).length ≤ 121 := Nat.le_trans (List.length_filter_le ..) hl2
          have CG0 : Hid (∀ w1, QL w0 l w1 → Calls Try.prog 13 #[.pointer (some ⟨w0.heap.size, 0, none⟩), V k.t k.n k.s] w1 fun e w' => e = .returned (.tuple #[.int .i64 gv, .bool gb]) ∧ QL w0 l w') := fun w1 q => by have := q_get q (by omega) k HK.out.2; rwa [hg] at this
          have CG1 : Hid (∀ w1, QL w0 (insK a.k a.v l) w1 → Calls Try.prog 13 #[.pointer (some ⟨w0.heap.size, 0, none⟩), V k.t k.n k.s] w1 fun e w' => e = .returned (.tuple #[.int .i64 gv, .bool gb]) ∧ QL w0 (insK a.k a.v l) w') := fun w1 q => by have := q_get q (by omega) k HK.out.2; rwa [e1] at this
          have CG2 : Hid (∀ w1, QL w0 (delP a.k (insK a.k a.v l)) w1 → Calls Try.prog 13 #[.pointer (some ⟨w0.heap.size, 0, none⟩), V k.t k.n k.s] w1 fun e w' => e = .returned (.tuple #[.int .i64 gv, .bool gb]) ∧ QL w0 (delP a.k (insK a.k a.v l)) w') := fun w1 q => by have := q_get q (by omega) k HK.out.2; rwa [e2] at this
          have CL0 : Hid (∀ w1, QL w0 l w1 → Calls Try.prog 15 #[.pointer (some ⟨w0.heap.size, 0, none⟩)] w1 fun e w' => e = .returned (.int .i64 n) ∧ QL w0 l w') := fun w1 q => by have := q_len q; rwa [hn] at this
          have CT : Hid (∀ w1, Calls Try.prog 26 #[V a.k.t a.k.n a.k.s] w1 fun e w' => e = .returned (.bool (rightX a.k)) ∧ Below w1.heap.size w1 w') := fun w1 => rright_any a.k.t a.k.n a.k.s w1 HK.out.1
          have CP : Hid (∀ w1, QL w0 l w1 → Calls Try.prog 19 #[.pointer (some ⟨w0.heap.size, 0, none⟩), V a.k.t a.k.n a.k.s, .int .i64 a.v] w1 fun e w' => e = .returned (.bool (rightX a.k && !hasP a.k l)) ∧ QL w0 (insK a.k a.v l) w') := fun w1 q => q_put q (by omega) a.k a.v HK.out.1
          have CD : Hid (∀ w1, QL w0 (insK a.k a.v l) w1 → Calls Try.prog 21 #[.pointer (some ⟨w0.heap.size, 0, none⟩), V a.k.t a.k.n a.k.s] w1 fun e w' => e = .returned (.bool (rightX a.k)) ∧ QL w0 (delP a.k (insK a.k a.v l)) w') := fun w1 q => by have := q_del q (by omega) a.k HK.out.1; rwa [e3] at this
          have CL1 : ∀ w1, QL w0 (insK a.k a.v l) w1 → Calls Try.prog 15 #[.pointer (some ⟨w0.heap.size, 0, none⟩)] w1 fun e w' => e = .returned (.int .i64 (if rightX a.k && !hasP a.k l then n + 1 else n : Nat)) ∧ QL w0 (insK a.k a.v l) w' := fun w1 q => by have := q_len q; rwa [hln, hn] at this
          have n0 : (0 : Int) ≤ (n : Int) := by omega
          have n1 : n ≤ 120 := by omega
          clear q hri hg hn hln e1 e2 e3 hl2 hl3 hl HO
          generalize insK a.k a.v l = l1 at *
          generalize delP a.k l1 = l2 at *
          generalize rightX a.k = r at *
          generalize hasP a.k l = hh at *
          cases r <;> cases hh
          · have CL1 : Hid (∀ w1, QL w0 l1 w1 → Calls Try.prog 15 #[.pointer (some ⟨w0.heap.size, 0, none⟩)] w1 fun e w' => e = .returned (.int .i64 (n : Int)) ∧ QL w0 l1 w') := CL1
            replace CP : Hid (∀ w1, QL w0 l w1 → Calls Try.prog 19 #[.pointer (some ⟨w0.heap.size, 0, none⟩), V a.k.t a.k.n a.k.s, .int .i64 a.v] w1 fun e w' => e = .returned (.bool false) ∧ QL w0 l1 w') := CP
            obtain ⟨⟨_, a1, a2, a3, a4⟩, ⟨k0, k1, k2⟩⟩ := HCC.out _ HQ0.out.blw
            go_wp2_with fail
            refine Calls.mono (CG0.out _ HQ0.out) ?_
            rintro e u0 ⟨rfl, q⟩
            have HQ1 : Hid (QL w0 l u0) := q
            clear q HQ0 CG0 a1 a2 a3 a4 k0 k1 k2
            obtain ⟨⟨_, a1, a2, a3, a4⟩, ⟨k0, k1, k2⟩⟩ := HCC.out _ HQ1.out.blw
            go_wp2_with fail
            refine Calls.mono (CL0.out _ HQ1.out) ?_
            rintro e u1 ⟨rfl, q⟩
            have HQ2 : Hid (QL w0 l u1) := q
            clear q HQ1 CL0 a1 a2 a3 a4 k0 k1 k2
            obtain ⟨⟨_, a1, a2, a3, a4⟩, ⟨k0, k1, k2⟩⟩ := HCC.out _ HQ2.out.blw
            go_wp2_with fail
            refine Calls.mono (CP.out _ HQ2.out) ?_
            rintro e u2 ⟨rfl, q⟩
            have HQ3 : Hid (QL w0 l1 u2) := q
            clear q HQ2 CP a1 a2 a3 a4 k0 k1 k2
            obtain ⟨⟨_, a1, a2, a3, a4⟩, ⟨k0, k1, k2⟩⟩ := HCC.out _ HQ3.out.blw
            go_wp2_with fail
            refine Calls.mono (CG1.out _ HQ3.out) ?_
            rintro e u3 ⟨rfl, q⟩
            have HQ4 : Hid (QL w0 l1 u3) := q
            clear q HQ3 CG1 a1 a2 a3 a4 k0 k1 k2
            obtain ⟨⟨_, a1, a2, a3, a4⟩, ⟨k0, k1, k2⟩⟩ := HCC.out _ HQ4.out.blw
            go_wp2_with fail
            refine Calls.mono (CL1.out _ HQ4.out) ?_
            rintro e u4 ⟨rfl, q⟩
            have HQ5 : Hid (QL w0 l1 u4) := q
            clear q HQ4 CL1 a1 a2 a3 a4 k0 k1 k2
            obtain ⟨⟨_, a1, a2, a3, a4⟩, ⟨k0, k1, k2⟩⟩ := HCC.out _ HQ5.out.blw
            go_wp2_with fail
            refine Calls.mono (CD.out _ HQ5.out) ?_
            rintro e u5 ⟨rfl, q⟩
            have HQ6 : Hid (QL w0 l2 u5) := q
            clear q HQ5 CD a1 a2 a3 a4 k0 k1 k2
            obtain ⟨⟨_, a1, a2, a3, a4⟩, ⟨k0, k1, k2⟩⟩ := HCC.out _ HQ6.out.blw
            go_wp2_with fail
            refine Calls.mono (CG2.out _ HQ6.out) ?_
            rintro e u6 ⟨rfl, q⟩
            have HQ7 : Hid (QL w0 l2 u6) := q
            clear q HQ6 CG2 a1 a2 a3 a4 k0 k1 k2
            obtain ⟨⟨_, a1, a2, a3, a4⟩, _⟩ := HCC.out _ HQ7.out.blw
            go_wp2_with fail
            refine Calls.mono (CT.out _) ?_
            rintro e u9 ⟨rfl, hb⟩
            have HE : Hid (Below w.heap.size w u9) := (HB0.out.trans (HQ7.out.blw.mono HB0.out.size)).trans (hb.mono (Nat.le_trans HB0.out.size HQ7.out.blw.size))
            clear hb HQ7 CT a1 a2 a3 a4 HCC HNE HK HIN HB0
            go_wp2_with fail
            go_ret
            exact ⟨rfl, HE.out⟩
          · have CL1 : Hid (∀ w1, QL w0 l1 w1 → Calls Try.prog 15 #[.pointer (some ⟨w0.heap.size, 0, none⟩)] w1 fun e w' => e = .returned (.int .i64 (n : Int)) ∧ QL w0 l1 w') := CL1
            replace CP : Hid (∀ w1, QL w0 l w1 → Calls Try.prog 19 #[.pointer (some ⟨w0.heap.size, 0, none⟩), V a.k.t a.k.n a.k.s, .int .i64 a.v] w1 fun e w' => e = .returned (.bool false) ∧ QL w0 l1 w') := CP
            obtain ⟨⟨_, a1, a2, a3, a4⟩, ⟨k0, k1, k2⟩⟩ := HCC.out _ HQ0.out.blw
            go_wp2_with fail
            refine Calls.mono (CG0.out _ HQ0.out) ?_
            rintro e u0 ⟨rfl, q⟩
            have HQ1 : Hid (QL w0 l u0) := q
            clear q HQ0 CG0 a1 a2 a3 a4 k0 k1 k2
            obtain ⟨⟨_, a1, a2, a3, a4⟩, ⟨k0, k1, k2⟩⟩ := HCC.out _ HQ1.out.blw
            go_wp2_with fail
            refine Calls.mono (CL0.out _ HQ1.out) ?_
            rintro e u1 ⟨rfl, q⟩
            have HQ2 : Hid (QL w0 l u1) := q
            clear q HQ1 CL0 a1 a2 a3 a4 k0 k1 k2
            obtain ⟨⟨_, a1, a2, a3, a4⟩, ⟨k0, k1, k2⟩⟩ := HCC.out _ HQ2.out.blw
            go_wp2_with fail
            refine Calls.mono (CP.out _ HQ2.out) ?_
            rintro e u2 ⟨rfl, q⟩
            have HQ3 : Hid (QL w0 l1 u2) := q
            clear q HQ2 CP a1 a2 a3 a4 k0 k1 k2
            obtain ⟨⟨_, a1, a2, a3, a4⟩, ⟨k0, k1, k2⟩⟩ := HCC.out _ HQ3.out.blw
            go_wp2_with fail
            refine Calls.mono (CG1.out _ HQ3.out) ?_
            rintro e u3 ⟨rfl, q⟩
            have HQ4 : Hid (QL w0 l1 u3) := q
            clear q HQ3 CG1 a1 a2 a3 a4 k0 k1 k2
            obtain ⟨⟨_, a1, a2, a3, a4⟩, ⟨k0, k1, k2⟩⟩ := HCC.out _ HQ4.out.blw
            go_wp2_with fail
            refine Calls.mono (CL1.out _ HQ4.out) ?_
            rintro e u4 ⟨rfl, q⟩
            have HQ5 : Hid (QL w0 l1 u4) := q
            clear q HQ4 CL1 a1 a2 a3 a4 k0 k1 k2
            obtain ⟨⟨_, a1, a2, a3, a4⟩, ⟨k0, k1, k2⟩⟩ := HCC.out _ HQ5.out.blw
            go_wp2_with fail
            refine Calls.mono (CD.out _ HQ5.out) ?_
            rintro e u5 ⟨rfl, q⟩
            have HQ6 : Hid (QL w0 l2 u5) := q
            clear q HQ5 CD a1 a2 a3 a4 k0 k1 k2
            obtain ⟨⟨_, a1, a2, a3, a4⟩, ⟨k0, k1, k2⟩⟩ := HCC.out _ HQ6.out.blw
            go_wp2_with fail
            refine Calls.mono (CG2.out _ HQ6.out) ?_
            rintro e u6 ⟨rfl, q⟩
            have HQ7 : Hid (QL w0 l2 u6) := q
            clear q HQ6 CG2 a1 a2 a3 a4 k0 k1 k2
            obtain ⟨⟨_, a1, a2, a3, a4⟩, _⟩ := HCC.out _ HQ7.out.blw
            go_wp2_with fail
            refine Calls.mono (CT.out _) ?_
            rintro e u9 ⟨rfl, hb⟩
            have HE : Hid (Below w.heap.size w u9) := (HB0.out.trans (HQ7.out.blw.mono HB0.out.size)).trans (hb.mono (Nat.le_trans HB0.out.size HQ7.out.blw.size))
            clear hb HQ7 CT a1 a2 a3 a4 HCC HNE HK HIN HB0
            go_wp2_with fail
            go_ret
            exact ⟨rfl, HE.out⟩
          · have CL1 : Hid (∀ w1, QL w0 l1 w1 → Calls Try.prog 15 #[.pointer (some ⟨w0.heap.size, 0, none⟩)] w1 fun e w' => e = .returned (.int .i64 ((n : Int) + 1)) ∧ QL w0 l1 w') := CL1
            replace CP : Hid (∀ w1, QL w0 l w1 → Calls Try.prog 19 #[.pointer (some ⟨w0.heap.size, 0, none⟩), V a.k.t a.k.n a.k.s, .int .i64 a.v] w1 fun e w' => e = .returned (.bool true) ∧ QL w0 l1 w') := CP
            obtain ⟨⟨_, a1, a2, a3, a4⟩, ⟨k0, k1, k2⟩⟩ := HCC.out _ HQ0.out.blw
            go_wp2_with fail
            refine Calls.mono (CG0.out _ HQ0.out) ?_
            rintro e u0 ⟨rfl, q⟩
            have HQ1 : Hid (QL w0 l u0) := q
            clear q HQ0 CG0 a1 a2 a3 a4 k0 k1 k2
            obtain ⟨⟨_, a1, a2, a3, a4⟩, ⟨k0, k1, k2⟩⟩ := HCC.out _ HQ1.out.blw
            go_wp2_with fail
            refine Calls.mono (CL0.out _ HQ1.out) ?_
            rintro e u1 ⟨rfl, q⟩
            have HQ2 : Hid (QL w0 l u1) := q
            clear q HQ1 CL0 a1 a2 a3 a4 k0 k1 k2
            obtain ⟨⟨_, a1, a2, a3, a4⟩, ⟨k0, k1, k2⟩⟩ := HCC.out _ HQ2.out.blw
            go_wp2_with fail
            refine Calls.mono (CP.out _ HQ2.out) ?_
            rintro e u2 ⟨rfl, q⟩
            have HQ3 : Hid (QL w0 l1 u2) := q
            clear q HQ2 CP a1 a2 a3 a4 k0 k1 k2
            obtain ⟨⟨_, a1, a2, a3, a4⟩, ⟨k0, k1, k2⟩⟩ := HCC.out _ HQ3.out.blw
            go_wp2_with fail
            refine Calls.mono (CG1.out _ HQ3.out) ?_
            rintro e u3 ⟨rfl, q⟩
            have HQ4 : Hid (QL w0 l1 u3) := q
            clear q HQ3 CG1 a1 a2 a3 a4 k0 k1 k2
            obtain ⟨⟨_, a1, a2, a3, a4⟩, ⟨k0, k1, k2⟩⟩ := HCC.out _ HQ4.out.blw
            go_wp2_with fail
            refine Calls.mono (CL1.out _ HQ4.out) ?_
            rintro e u4 ⟨rfl, q⟩
            have HQ5 : Hid (QL w0 l1 u4) := q
            clear q HQ4 CL1 a1 a2 a3 a4 k0 k1 k2
            obtain ⟨⟨_, a1, a2, a3, a4⟩, ⟨k0, k1, k2⟩⟩ := HCC.out _ HQ5.out.blw
            go_wp2_with fail
            refine Calls.mono (CD.out _ HQ5.out) ?_
            rintro e u5 ⟨rfl, q⟩
            have HQ6 : Hid (QL w0 l2 u5) := q
            clear q HQ5 CD a1 a2 a3 a4 k0 k1 k2
            obtain ⟨⟨_, a1, a2, a3, a4⟩, ⟨k0, k1, k2⟩⟩ := HCC.out _ HQ6.out.blw
            go_wp2_with fail
            refine Calls.mono (CG2.out _ HQ6.out) ?_
            rintro e u6 ⟨rfl, q⟩
            have HQ7 : Hid (QL w0 l2 u6) := q
            clear q HQ6 CG2 a1 a2 a3 a4 k0 k1 k2
            obtain ⟨⟨_, a1, a2, a3, a4⟩, _⟩ := HCC.out _ HQ7.out.blw
            go_wp2_with fail
            refine Calls.mono (CT.out _) ?_
            rintro e u9 ⟨rfl, hb⟩
            have HE : Hid (Below w.heap.size w u9) := (HB0.out.trans (HQ7.out.blw.mono HB0.out.size)).trans (hb.mono (Nat.le_trans HB0.out.size HQ7.out.blw.size))
            clear hb HQ7 CT a1 a2 a3 a4 HCC HNE HK HIN HB0
            go_wp2_with fail
            go_ret
            exact ⟨rfl, HE.out⟩
          · have CL1 : Hid (∀ w1, QL w0 l1 w1 → Calls Try.prog 15 #[.pointer (some ⟨w0.heap.size, 0, none⟩)] w1 fun e w' => e = .returned (.int .i64 (n : Int)) ∧ QL w0 l1 w') := CL1
            replace CP : Hid (∀ w1, QL w0 l w1 → Calls Try.prog 19 #[.pointer (some ⟨w0.heap.size, 0, none⟩), V a.k.t a.k.n a.k.s, .int .i64 a.v] w1 fun e w' => e = .returned (.bool false) ∧ QL w0 l1 w') := CP
            obtain ⟨⟨_, a1, a2, a3, a4⟩, ⟨k0, k1, k2⟩⟩ := HCC.out _ HQ0.out.blw
            go_wp2_with fail
            refine Calls.mono (CG0.out _ HQ0.out) ?_
            rintro e u0 ⟨rfl, q⟩
            have HQ1 : Hid (QL w0 l u0) := q
            clear q HQ0 CG0 a1 a2 a3 a4 k0 k1 k2
            obtain ⟨⟨_, a1, a2, a3, a4⟩, ⟨k0, k1, k2⟩⟩ := HCC.out _ HQ1.out.blw
            go_wp2_with fail
            refine Calls.mono (CL0.out _ HQ1.out) ?_
            rintro e u1 ⟨rfl, q⟩
            have HQ2 : Hid (QL w0 l u1) := q
            clear q HQ1 CL0 a1 a2 a3 a4 k0 k1 k2
            obtain ⟨⟨_, a1, a2, a3, a4⟩, ⟨k0, k1, k2⟩⟩ := HCC.out _ HQ2.out.blw
            go_wp2_with fail
            refine Calls.mono (CP.out _ HQ2.out) ?_
            rintro e u2 ⟨rfl, q⟩
            have HQ3 : Hid (QL w0 l1 u2) := q
            clear q HQ2 CP a1 a2 a3 a4 k0 k1 k2
            obtain ⟨⟨_, a1, a2, a3, a4⟩, ⟨k0, k1, k2⟩⟩ := HCC.out _ HQ3.out.blw
            go_wp2_with fail
            refine Calls.mono (CG1.out _ HQ3.out) ?_
            rintro e u3 ⟨rfl, q⟩
            have HQ4 : Hid (QL w0 l1 u3) := q
            clear q HQ3 CG1 a1 a2 a3 a4 k0 k1 k2
            obtain ⟨⟨_, a1, a2, a3, a4⟩, ⟨k0, k1, k2⟩⟩ := HCC.out _ HQ4.out.blw
            go_wp2_with fail
            refine Calls.mono (CL1.out _ HQ4.out) ?_
            rintro e u4 ⟨rfl, q⟩
            have HQ5 : Hid (QL w0 l1 u4) := q
            clear q HQ4 CL1 a1 a2 a3 a4 k0 k1 k2
            obtain ⟨⟨_, a1, a2, a3, a4⟩, ⟨k0, k1, k2⟩⟩ := HCC.out _ HQ5.out.blw
            go_wp2_with fail
            refine Calls.mono (CD.out _ HQ5.out) ?_
            rintro e u5 ⟨rfl, q⟩
            have HQ6 : Hid (QL w0 l2 u5) := q
            clear q HQ5 CD a1 a2 a3 a4 k0 k1 k2
            obtain ⟨⟨_, a1, a2, a3, a4⟩, ⟨k0, k1, k2⟩⟩ := HCC.out _ HQ6.out.blw
            go_wp2_with fail
            refine Calls.mono (CG2.out _ HQ6.out) ?_
            rintro e u6 ⟨rfl, q⟩
            have HQ7 : Hid (QL w0 l2 u6) := q
            clear q HQ6 CG2 a1 a2 a3 a4 k0 k1 k2
            obtain ⟨⟨_, a1, a2, a3, a4⟩, _⟩ := HCC.out _ HQ7.out.blw
            go_wp2_with fail
            refine Calls.mono (CT.out _) ?_
            rintro e u9 ⟨rfl, hb⟩
            have HE : Hid (Below w.heap.size w u9) := (HB0.out.trans (HQ7.out.blw.mono HB0.out.size)).trans (hb.mono (Nat.le_trans HB0.out.size HQ7.out.blw.size))
            clear hb HQ7 CT a1 a2 a3 a4 HCC HNE HK HIN HB0
            go_wp2_with fail
            go_ret
            exact ⟨rfl, HE.out⟩
  · simp only [hq] at EQ
    go_wp2_with fail
    go_ret
    exact ⟨rfl, HB0.out⟩
end Go.Proofs.Ytmagnpcdnhijlaa.Val
/- Behind any script (of its first 120 acts) a change at one key is seen at no other, and is counted. No conditions. -/
namespace Go.Proofs.Ytmagnpcdnhijlaa.Val
open Go.ChangeShapes Go.WideShapes Go.ChangeAt Go.RowKit
open Go.ChangeMaps (open_string)

set_option maxRecDepth 100000 in
theorem tchanges_lifted (os : Os) (started : os.Started) (H : Type) (enc : TypeId × Value → H) :
    ReturnsInHanded {} Try.checked os 9 .any (Rows.treeChangesSpec.pre6 enc Try.prog Try.f9 Rows.treeChangesRow.domain false) (Rows.treeChangesSpec.post enc Try.prog Try.f9 false true false false) := by
  refine returnsInHanded_of_change (C := Try.checked) own started (by kernel_rfl) Try.func9
    (ChangeSpec.witness6 (enc := enc) (C := Try.checked) false ⟨#[], #[.slice none 0 0, .agg #[.bool false, .bool false, .int .i64 0, .string ⟨#[]⟩, .int .i64 0], .agg #[.bool false, .int .i64 0, .string ⟨#[]⟩]], []⟩ 8 (by kernel_rfl) (by kernel_rfl) (by kernel_rfl) (by kernel_rfl)) ?_
  intro W base args ds gs before hval0 hW _ _
  have hval : ∀ (j : Nat) t v, Try.f9.params[j]? = some t → args[j]? = some v → Value.okWide Try.prog W .any base t v := hval0
  have hW' := hW
  obtain ⟨p, q, hA0, hV, rfl, hfz, hnd⟩ := hW
  have hA : DataW.TrodAll enc Try.prog W 0 (fun _ => true) true Try.f9.params.toList args.toList ds p := hA0
  rw [Try.params9] at hA hval
  obtain ⟨v0, vs0, d0, ds0, p0, q0, hargs, rfl, rfl, h0, r0⟩ := trodAll_cons hA
  obtain ⟨v1, vs1, d1, ds1, p1, q1, rfl, rfl, rfl, h1, r1⟩ := trodAll_cons r0
  obtain ⟨v2, vs2, d2, ds2, p2, q2, rfl, rfl, rfl, h2, r2⟩ := trodAll_cons r1
  obtain ⟨rfl, rfl, rfl⟩ := trodAll_nil r2
  obtain rfl : args = #[v0, v1, v2] := by cases args; simp_all
  obtain ⟨rfl, rfl⟩ := trodVars_none hV
  have k0 := h0
  have lt0 : ∀ x ∈ p0, x.block < W.heap.size := by obtain ⟨m, hm⟩ := k0; exact DataW.trod_lt m _ _ _ hm
  obtain ⟨a0, len0, cap0, rfl⟩ := okWide_slice Try.underlying22 (hval 0 22 v0 rfl rfl)
  obtain ⟨l0, w0, o0⟩ := open_acts h0 rfl
  have k1 := h1
  have lt1 : ∀ x ∈ p1, x.block < W.heap.size := by obtain ⟨m, hm⟩ := k1; exact DataW.trod_lt m _ _ _ hm
  obtain ⟨x1, rfl, o1⟩ := open_act (hval 1 32 v1 rfl rfl) h1
  have k2 := h2
  have lt2 : ∀ x ∈ p2, x.block < W.heap.size := by obtain ⟨m, hm⟩ := k2; exact DataW.trod_lt m _ _ _ hm
  obtain ⟨x2, rfl, o2⟩ := open_value (hval 2 30 v2 rfl rfl) h2
  clear hA0 hval0
  refine (tchanges_walk _ _ x1 x2 W w0 o0 o1 o2.2).mono fun e W' ⟨he, bel⟩ => ?_
  subst he
  exact ⟨_, rfl, _, _, _, [], _, [], hW', trodAll_mk1 (shut_bool Try.underlying4 _), (trodAll_cons_mk (Below.trod laidOut (by kernel_rfl) (of_decide_eq_true (by kernel_rfl)) k0 bel lt0) (trodAll_cons_mk (Below.trod laidOut (by kernel_rfl) (of_decide_eq_true (by kernel_rfl)) k1 bel lt1) (trodAll_cons_mk (Below.trod laidOut (by kernel_rfl) (of_decide_eq_true (by kernel_rfl)) k2 bel lt2) trodAll_mk0))), rfl, bel.frame _, fun h => by cases h⟩

/-- The statement. -/
theorem tchanges_said : Rows.TreeChangesSaid :=
  OpenClaim.holds_of_wide 9 Try.f9 rfl rfl rfl rfl rfl rfl rfl ⟨rfl, rfl, rfl, rfl, rfl⟩ rfl rfl rfl rfl rfl (by kernel_rfl) Try.func9 (by kernel_rfl)
    (of_decide_eq_true (by kernel_rfl)) (by unfold Func.isWrapper; first | (rw [if_pos (by decide +kernel)]; kernel_rfl) | (rw [if_neg (by decide +kernel)]; exact ⟨rfl, rfl⟩))
    (fun os started H enc _ => tchanges_lifted os started H enc)
end Go.Proofs.Ytmagnpcdnhijlaa.Val
