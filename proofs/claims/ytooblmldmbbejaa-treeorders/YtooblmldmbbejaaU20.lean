/- What the law's awake answers: the document's example holds. -/
import Derived.Test.YtooblmldmbbejaaU18
import Derived.Test.YtooblmldmbbejaaU19
import Derived.Test.YtooblmldmbbejaaU14
namespace Go.Proofs.Ytooblmldmbbejaa.Val
open Go Go.RowKit

def kn (n : Int) : Val := ⟨false, n, ⟨#[]⟩⟩
/-- The pairs behind so many puts of the example. -/
def exL : Nat → List Pr
  | 0 => []
  | 1 => [⟨kn 5, 50⟩]
  | 2 => [⟨kn 4, 40⟩, ⟨kn 5, 50⟩]
  | 3 => [⟨kn 3, 30⟩, ⟨kn 4, 40⟩, ⟨kn 5, 50⟩]
  | 4 => [⟨kn 2, 20⟩, ⟨kn 3, 30⟩, ⟨kn 4, 40⟩, ⟨kn 5, 50⟩]
  | _ => [⟨kn 1, 10⟩, ⟨kn 2, 20⟩, ⟨kn 3, 30⟩, ⟨kn 4, 40⟩, ⟨kn 5, 50⟩]
theorem cmp_kn (a b : Int) : cmpX (kn a) (kn b) = cmpN a b := rfl
theorem exL_ins (j : Nat) (hj : j < 5) : insP (kn (5 - j)) (10 * (5 - j)) (exL j) = exL (j + 1) := by
  match j, hj with
  | 0, _ => rfl
  | 1, _ => simp [exL, insP, cmp_kn, cmpN]
  | 2, _ => simp [exL, insP, cmp_kn, cmpN]
  | 3, _ => simp [exL, insP, cmp_kn, cmpN]
  | 4, _ => simp [exL, insP, cmp_kn, cmpN]
theorem exL_len (j : Nat) (hj : j ≤ 5) : (exL j).length = j := by
  match j, hj with
  | 0, _ => rfl
  | 1, _ => rfl
  | 2, _ => rfl
  | 3, _ => rfl
  | 4, _ => rfl
  | 5, _ => rfl
def exSp : Sp := ⟨false, true, true, kn 1, true, false, kn 3⟩
theorem exL_range : rangeP exSp (exL 5) = [⟨kn 2, 20⟩, ⟨kn 3, 30⟩] := by
  have h1 : withinS exSp (kn 1) = false := by decide
  have h2 : withinS exSp (kn 2) = true := by decide
  have h3 : withinS exSp (kn 3) = true := by decide
  have h4 : withinS exSp (kn 4) = false := by decide
  have h5 : withinS exSp (kn 5) = false := by decide
  simp [rangeP, exL, h1, h2, h3, h4, h5]
theorem kn_right (n : Int) : rightX (kn n) = true := by simp [rightX, rightV, kn, ByteArray.toList_eq]
/-- A tree of one's own. -/
structure Own5 (w wr : World) (l : List Pr) (M : Nat) (h : Hd) (m u d : Nat) : Prop where
  tr : TR wr h l m u d
  p : h.p = w.heap.size
  mine : ∀ k, h.has k → w.heap.size ≤ k
  blw : Below w.heap.size w wr
  room : m ≤ M
theorem Own5.mv {w wr w' : World} {l l' : List Pr} {M : Nat} {h h' : Hd} {m u d m' u' d' : Nat} (o : Own5 w wr l M h m u d) (v : Mv wr h w' h') (t : TR w' h' l' m' u' d') (hm : m' ≤ M) : Own5 w w' l' M h' m' u' d' :=
  ⟨t, v.p.trans o.p, fun k hk => (v.own k hk).elim (o.mine k) fun hs => Nat.le_trans o.blw.size hs, o.blw.trans (v.below o.blw.size o.mine), hm⟩
theorem Own5.below {w wr w' : World} {l : List Pr} {M : Nat} {h : Hd} {m u d : Nat} (o : Own5 w wr l M h m u d) (hb : Below wr.heap.size wr w') : Own5 w w' l M h m u d := o.mv (Mv.of hb) (o.tr.below hb) o.room
set_option maxHeartbeats 4000000 in
theorem awake_any (w : World) : Calls Try.prog 7 #[] w fun e w' => e = .returned (.bool true) ∧ Below w.heap.size w w' := by
  have HN : Hid (∀ w1, Calls Try.prog 8 #[] w1 fun e w' => e = .returned (.pointer (some ⟨w1.heap.size, 0, none⟩)) ∧ TR w' ⟨w1.heap.size, .slice none 0 0, .slice none 0 0, .slice none 0 0⟩ [] 0 0 0 ∧ Below w1.heap.size w1 w') := new_any
  have HP : Hid (∀ wr (j : Nat) h m u d, j < 5 → Own5 w wr (exL j) 10 h m u d → Calls Try.prog 16 #[.pointer (some ⟨w.heap.size, 0, none⟩), V false ((5 : Int) - j) ⟨#[]⟩, .int .i64 (10 * ((5 : Int) - j))] wr fun e w' => (∃ b, e = .returned (.bool b)) ∧ ∃ h' m' u' d', Own5 w w' (exL (j + 1)) 10 h' m' u' d') := fun wr j h m u d hj o => by
    have := put_any o.tr (by have := o.room; omega) (by rw [exL_len j (by omega)]; omega) (kn (5 - j)) (10 * (5 - j)) (Nat.zero_le _) (kn_right _)
    rw [o.p] at this
    refine Calls.mono this ?_
    rintro e w' ⟨rfl, h', m', u', d', t', v, hmm⟩
    rw [exL_ins j hj] at t'
    have hs := t'.shape
    rw [exL_len (j + 1) (by omega)] at hs
    exact ⟨⟨_, rfl⟩, h', m', u', d', o.mv v t' (by have := o.room; omega)⟩
  go_enter Try.func7, Try.ntmps7
  go_wp2_with fail
  refine Calls.mono (HN.out _) ?_
  rintro e w1 ⟨rfl, T1, hb⟩
  have H0 : Hid (∃ h m u d, Own5 w w1 (exL 0) 10 h m u d) := ⟨_, 0, 0, 0, T1, rfl, new_mine w, hb, by omega⟩
  clear T1 hb HN
  go_wp2_with fail
  go_loopw [2] (fun i wr => ∃ j : Nat, j ≤ 5 ∧ i = .int .i64 ((5 : Int) - j) ∧ Hid (∃ h m u d, Own5 w wr (exL j) 10 h m u d)) (fun i _ => (intOf i).toNat)
  case atStart => exact ⟨0, by omega, rfl, H0⟩
  case round =>
    obtain ⟨j, hj, rfl, HO⟩ := hrel
    clear H0
    by_cases h1 : j < 5
    · have i1 : (0 : Int) < 5 - (j : Int) := by omega
      have i2 : IntKind.i64.wrap (10 * (5 - (j : Int))) = 10 * (5 - (j : Int)) := by rw [IntKind.wrap_i64]; omega
      have i3 : IntKind.i64.wrap (5 - (j : Int) - 1) = 5 - (j : Int) - 1 := by rw [IntKind.wrap_i64]; omega
      obtain ⟨h, m, u, d, o⟩ := HO.out
      have HPP : Hid _ := HP.out wr j h m u d h1 o
      have HJ : Hid (j < 5) := h1
      clear o HO HP h1 hj
      go_wp2_with fail
      refine Calls.mono HPP.out ?_
      rintro e w2 ⟨⟨b, rfl⟩, h', m', u', d', o'⟩
      have HO2 : Hid (∃ h m u d, Own5 w w2 (exL (j + 1)) 10 h m u d) := ⟨_, _, _, _, o'⟩
      clear o' HPP
      go_wp2_with fail
      go_roundw
      case rel => exact ⟨j + 1, HJ.out, by congr 1; omega, HO2⟩
      case measure => have := HJ.out; simp [intOf]; omega
    · obtain rfl : j = 5 := by omega
      clear HP h1 hj
      obtain ⟨h, m, u, d, o⟩ := HO.out
      have HPA : Hid (∀ w1, Below wr.heap.size wr w1 → Calls Try.prog 14 #[.pointer (some ⟨w.heap.size, 0, none⟩), exSp.val] w1 fun e w' => ∃ v, e = .returned v ∧ w'.ownsRow w1.heap.size TPr 4 v 2 (pcells [⟨kn 2, 20⟩, ⟨kn 3, 30⟩]) ∧ Below w1.heap.size w1 w') := fun w1 hb => by
        have := pairs_any w1 (o.tr.below hb) (by rw [exL_len 5 (by omega)]; omega) exSp
        rwa [exL_range, o.p] at this
      have hsh := o.tr.shape
      rw [exL_len 5 (by omega)] at hsh
      have H1 : Hid (∀ w1, Below wr.heap.size wr w1 → Calls Try.prog 12 #[.pointer (some ⟨w.heap.size, 0, none⟩)] w1 fun e w' => e = .returned (.int .i64 5) ∧ Below w1.heap.size w1 w') := fun w1 hb => by
        have := len_any (o.tr.below hb)
        rw [o.p, exL_len 5 (by omega)] at this; exact this
      have H2 : Hid (∀ w1, Below wr.heap.size wr w1 → Calls Try.prog 20 #[.pointer (some ⟨w.heap.size, 0, none⟩)] w1 fun e w' => e = .returned (.int .i64 d) ∧ Below w1.heap.size w1 w') := fun w1 hb => by
        have := depth_any (o.tr.below hb)
        rwa [o.p] at this
      have H3 : Hid (∀ w1, Below wr.heap.size wr w1 → Calls Try.prog 21 #[.pointer (some ⟨w.heap.size, 0, none⟩)] w1 fun e w' => e = .returned (.int .i64 u) ∧ Below w1.heap.size w1 w') := fun w1 hb => by
        have := used_any (o.tr.below hb) (by have := o.room; omega)
        rwa [o.p] at this
      have d1 : (1 : Int) ≤ (d : Int) := by omega
      have u1 : (1 : Int) ≤ (u : Int) := by omega
      have HB0 : Hid (Below w.heap.size w wr) := o.blw
      clear o HO hsh
      go_wp2_with fail
      refine Calls.mono (HPA.out _ (Below.refl _ _)) ?_
      rintro e w2 ⟨v, rfl, hv, hb⟩
      obtain ⟨g, c, ev⟩ : ∃ g c, v = .slice (some ⟨g, 0, none⟩) 2 c := ownsRow_succ hv
      subst ev
      have q1 : w2.cell? ⟨g, 3, none⟩ = some (.int .i64 20) := World.ownsRow.cellAt hv 3 (by omega)
      have q2 : w2.cell? ⟨g, 5, none⟩ = some (.int .i64 3) := World.ownsRow.cellAt hv 5 (by omega)
      have HB1 : Hid (Below wr.heap.size wr w2) := hb
      have HQ : Hid (∀ w', Below w2.heap.size w2 w' → w'.cell? ⟨g, 3, none⟩ = some (.int .i64 20) ∧ w'.cell? ⟨g, 5, none⟩ = some (.int .i64 3)) := fun w' hb => ⟨by rw [hb.cell (World.block_lt_of_cell? _ _ q1)]; exact q1, by rw [hb.cell (World.block_lt_of_cell? _ _ q2)]; exact q2⟩
      clear hv hb HPA q1 q2
      go_wp2_with fail
      refine Calls.mono (H1.out _ HB1.out) ?_
      rintro e w3 ⟨rfl, hb⟩
      obtain ⟨q1, q2⟩ := HQ.out _ hb
      have HB2 : Hid (Below wr.heap.size wr w3) := HB1.out.trans (hb.mono HB1.out.size)
      clear hb H1 HQ
      go_wp2_with fail
      refine Calls.mono (H2.out _ HB2.out) ?_
      rintro e w4 ⟨rfl, hb⟩
      have HB3 : Hid (Below wr.heap.size wr w4) := HB2.out.trans (hb.mono HB2.out.size)
      clear hb H2 q1 q2
      go_wp2_with fail
      refine Calls.mono (H3.out _ HB3.out) ?_
      rintro e w5 ⟨rfl, hb⟩
      have HB4 : Hid (Below wr.heap.size wr w5) := HB3.out.trans (hb.mono HB3.out.size)
      clear hb H3
      go_wp2_with fail
      go_ret
      exact ⟨rfl, HB0.out.trans (HB4.out.mono HB0.out.size)⟩
end Go.Proofs.Ytooblmldmbbejaa.Val
/- A tree of the call's own that holds these pairs: what is got, put and deleted there. -/
namespace Go.Proofs.Ytooblmldmbbejaa.Val
open Go Go.RowKit

/-- What a Put makes of the pairs, whatever the key. -/
def insK (k : Val) (v : Int) (l : List Pr) : List Pr := if rightX k then insP k v l else l
/-- A tree of the call's own that holds these pairs. -/
def QL (w0 : World) (l : List Pr) (w1 : World) : Prop := ∃ h m u d, Own5 w0 w1 l 400 h m u d ∧ m ≤ 350
section
variable {w0 w1 : World} {l : List Pr}
theorem QL.blw (q : QL w0 l w1) : Below w0.heap.size w0 w1 := by
  obtain ⟨h, m, u, d, o, _⟩ := q
  exact o.blw
theorem QL.below {w2 : World} (q : QL w0 l w1) (hb : Below w1.heap.size w1 w2) : QL w0 l w2 := by
  obtain ⟨h, m, u, d, o, hm⟩ := q
  exact ⟨h, m, u, d, o.below hb, hm⟩
theorem QL.rises (q : QL w0 l w1) : Rises l ∧ Rights l := by
  obtain ⟨h, m, u, d, o, _⟩ := q
  exact ⟨o.tr.rises.1, o.tr.rises.2⟩
theorem q_get (q : QL w0 l w1) (hl : l.length ≤ 400) (k : Val) (hs : k.s.size ≤ maxLen) : Calls Try.prog 10 #[.pointer (some ⟨w0.heap.size, 0, none⟩), V k.t k.n k.s] w1 fun e w' => e = .returned (.tuple #[.int .i64 (getP k l).1, .bool (getP k l).2]) ∧ QL w0 l w' := by
  obtain ⟨h, m, u, d, o, hm⟩ := q
  have := get_any o.tr (by omega) k hs
  rw [o.p] at this
  exact this.mono fun e w' ⟨he, hb⟩ => ⟨he, h, m, u, d, o.below hb, hm⟩
theorem q_len (q : QL w0 l w1) : Calls Try.prog 12 #[.pointer (some ⟨w0.heap.size, 0, none⟩)] w1 fun e w' => e = .returned (.int .i64 l.length) ∧ QL w0 l w' := by
  obtain ⟨h, m, u, d, o, hm⟩ := q
  have := len_any o.tr
  rw [o.p] at this
  exact this.mono fun e w' ⟨he, hb⟩ => ⟨he, h, m, u, d, o.below hb, hm⟩
theorem q_del (q : QL w0 l w1) (hl : l.length ≤ 400) (k : Val) (hs : k.s.size ≤ maxLen) : Calls Try.prog 18 #[.pointer (some ⟨w0.heap.size, 0, none⟩), V k.t k.n k.s] w1 fun e w' => e = .returned (.bool (hasP k l)) ∧ QL w0 (delP k l) w' := by
  obtain ⟨h, m, u, d, o, hm⟩ := q
  have := del_any o.tr (by omega) (by omega) k hs
  rw [o.p] at this
  exact this.mono fun e w' ⟨he, h', u', d', t', vv⟩ => ⟨he, h', m, u', d', o.mv vv t' o.room, hm⟩
theorem len_insK {k : Val} {v : Int} (hr : Rises l) (hg : Rights l) : (insK k v l).length = if rightX k && !hasP k l then l.length + 1 else l.length := by
  unfold insK
  cases hk : rightX k
  · simp
  · have := len_put (v := v) hk hr hg
    simp only [if_true, this]
    cases hasP k l <;> simp
theorem q_put (q : QL w0 l w1) (hl : l.length ≤ 340) (k : Val) (v : Int) (hs : k.s.size ≤ maxLen) : Calls Try.prog 16 #[.pointer (some ⟨w0.heap.size, 0, none⟩), V k.t k.n k.s, .int .i64 v] w1 fun e w' => e = .returned (.bool (rightX k && !hasP k l)) ∧ QL w0 (insK k v l) w' := by
  obtain ⟨h, m, u, d, o, hm⟩ := q
  cases hk : rightX k
  · refine (put_wrong w0.heap.size k v hs hk).mono fun e w' ⟨he, hb⟩ => ⟨by rw [he]; rfl, h, m, u, d, ?_, hm⟩
    simp only [insK, hk]
    exact o.below hb
  · have := put_any o.tr (by omega) (by omega) k v hs hk
    rw [o.p] at this
    refine this.mono fun e w' ⟨he, h', m', u', d', t', vv, hmm⟩ => ⟨by rw [he]; rfl, h', m', u', d', ?_, ?_⟩
    · simp only [insK, hk, if_true]
      refine o.mv vv t' ?_
      have hsh := t'.shape
      have hlen := len_put (v := v) hk o.tr.rises.1 o.tr.rises.2
      have hlen2 : (insP k v l).length ≤ 341 := by rw [hlen]; split <;> omega
      omega
    · have hsh := t'.shape
      have hlen := len_put (v := v) hk o.tr.rises.1 o.tr.rises.2
      have hlen2 : (insP k v l).length ≤ 341 := by rw [hlen]; split <;> omega
      omega
theorem get_insK {k j : Val} {v : Int} (hr : Rises l) (hg : Rights l) (hne : j ≠ k) : getP j (insK k v l) = getP j l := by
  unfold insK
  cases hk : rightX k
  · rfl
  · exact get_ins_other hk hg hr hne
theorem insK_rises {k : Val} {v : Int} (hr : Rises l) : Rises (insK k v l) := by
  unfold insK
  split
  · exact ins_rises hr
  · exact hr
theorem has_insK {k : Val} {v : Int} (hr : Rises l) (hg : Rights l) : hasP k (insK k v l) = rightX k := by
  unfold insK
  cases hk : rightX k
  · simp only [Bool.false_eq_true, if_false]
    cases hh : hasP k l
    · rfl
    · obtain ⟨v', hv⟩ := has_iff.1 hh
      have := hg _ hv
      rw [hk] at this
      exact this.symm
  · exact has_iff.2 ⟨v, by rw [if_pos rfl]; exact (mem_ins_iff hr).2 (.inl rfl)⟩
end
end Go.Proofs.Ytooblmldmbbejaa.Val
