/- What the law's awake answers: the document's example holds. -/
import Derived.Test.YtmagnpcdnhijlaaU18
import Derived.Test.YtmagnpcdnhijlaaU19
namespace Go.Proofs.Ytmagnpcdnhijlaa.Val
open Go Go.RowKit

def kn (n : Int) : Val := ⟨false, n, ⟨#[]⟩⟩
/-- The pairs behind so many puts of the example. -/
def exL : Nat → List Pr
  | 0 => []
  | 1 => [⟨kn 5, 50⟩]
  | 2 => [⟨kn 4, 40⟩, ⟨kn 5, 50⟩]
  | 3 => [⟨kn 3, 30⟩, ⟨kn 4, 40⟩, ⟨kn 5, 50⟩]
  | 4 => [⟨kn 2, 20⟩, ⟨kn 3, 30⟩, ⟨kn 4, 40⟩, ⟨kn 5, 50⟩]
  | _ => [⟨kn 1, 10⟩, ⟨kn 2, 20⟩, ⟨kn 3, 30⟩, ⟨kn 4, 40⟩, ⟨kn 5, 50⟩]
theorem cmp_kn (a b : Int) : cmpX (kn a) (kn b) = cmpN a b := rfl
theorem exL_ins (j : Nat) (hj : j < 5) : insP (kn (5 - j)) (10 * (5 - j)) (exL j) = exL (j + 1) := by
  match j, hj with
  | 0, _ => rfl
  | 1, _ => simp [exL, insP, cmp_kn, cmpN]
  | 2, _ => simp [exL, insP, cmp_kn, cmpN]
  | 3, _ => simp [exL, insP, cmp_kn, cmpN]
  | 4, _ => simp [exL, insP, cmp_kn, cmpN]
theorem exL_len (j : Nat) (hj : j ≤ 5) : (exL j).length = j := by
  match j, hj with
  | 0, _ => rfl
  | 1, _ => rfl
  | 2, _ => rfl
  | 3, _ => rfl
  | 4, _ => rfl
  | 5, _ => rfl
def exSp : Sp := ⟨false, true, true, kn 1, true, false, kn 3⟩
theorem exL_range : rangeP exSp (exL 5) = [⟨kn 2, 20⟩, ⟨kn 3, 30⟩] := by
  have h1 : withinS exSp (kn 1) = false := by decide
  have h2 : withinS exSp (kn 2) = true := by decide
  have h3 : withinS exSp (kn 3) = true := by decide
  have h4 : withinS exSp (kn 4) = false := by decide
  have h5 : withinS exSp (kn 5) = false := by decide
  simp [rangeP, exL, h1, h2, h3, h4, h5]
theorem kn_right (n : Int) : rightX (kn n) = true := by simp [rightX, rightV, kn, ByteArray.toList_eq]
/-- A tree of one's own. -/
structure Own5 (w wr : World) (l : List Pr) (M : Nat) (h : Hd) (m u d : Nat) : Prop where
  tr : TR wr h l m u d
  p : h.p = w.heap.size
  mine : ∀ k, h.has k → w.heap.size ≤ k
  blw : Below w.heap.size w wr
  room : m ≤ M
theorem Own5.mv {w wr w' : World} {l l' : List Pr} {M : Nat} {h h' : Hd} {m u d m' u' d' : Nat} (o : Own5 w wr l M h m u d) (v : Mv wr h w' h') (t : TR w' h' l' m' u' d') (hm : m' ≤ M) : Own5 w w' l' M h' m' u' d' :=
  ⟨t, v.p.trans o.p, fun k hk => (v.own k hk).elim (o.mine k) fun hs => Nat.le_trans o.blw.size hs, o.blw.trans (v.below o.blw.size o.mine), hm⟩
theorem Own5.below {w wr w' : World} {l : List Pr} {M : Nat} {h : Hd} {m u d : Nat} (o : Own5 w wr l M h m u d) (hb : Below wr.heap.size wr w') : Own5 w w' l M h m u d := o.mv (Mv.of hb) (o.tr.below hb) o.room
set_option maxHeartbeats 4000000 in
theorem awake_any (w : World) : Calls Try.prog 10 #[] w fun e w' => e = .returned (.bool true) ∧ Below w.heap.size w w' := by
  have HN : Hid (∀ w1, Calls Try.prog 11 #[] w1 fun e w' => e = .returned (.pointer (some ⟨w1.heap.size, 0, none⟩)) ∧ TR w' ⟨w1.heap.size, .slice none 0 0, .slice none 0 0, .slice none 0 0⟩ [] 0 0 0 ∧ Below w1.heap.size w1 w') := new_any
  have HP : Hid (∀ wr (j : Nat) h m u d, j < 5 → Own5 w wr (exL j) 10 h m u d → Calls Try.prog 19 #[.pointer (some ⟨w.heap.size, 0, none⟩), V false ((5 : Int) - j) ⟨#[]⟩, .int .i64 (10 * ((5 : Int) - j))] wr fun e w' => (∃ b, e = .returned (.bool b)) ∧ ∃ h' m' u' d', Own5 w w' (exL (j + 1)) 10 h' m' u' d') := fun wr j h m u d hj o => by
    have := put_any o.tr (by have := o.room; omega) (by rw [exL_len j (by omega)]; omega) (kn (5 - j)) (10 * (5 - j)) (Nat.zero_le _) (kn_right _)
    rw [o.p] at this
    refine Calls.mono this ?_
    rintro e w' ⟨rfl, h', m', u', d', t', v, hmm⟩
    rw [exL_ins j hj] at t'
    have hs := t'.shape
    rw [exL_len (j + 1) (by omega)] at hs
    exact ⟨⟨_, rfl⟩, h', m', u', d', o.mv v t' (by have := o.room; omega)⟩
  go_enter Try.func10, Try.ntmps10
  go_wp2_with fail
  refine Calls.mono (HN.out _) ?_
  rintro e w1 ⟨rfl, T1, hb⟩
  have H0 : Hid (∃ h m u d, Own5 w w1 (exL 0) 10 h m u d) := ⟨_, 0, 0, 0, T1, rfl, new_mine w, hb, by omega⟩
  clear T1 hb HN
  go_wp2_with fail
  go_loopw [2] (fun i wr => ∃ j : Nat, j ≤ 5 ∧ i = .int .i64 ((5 : Int) - j) ∧ Hid (∃ h m u d, Own5 w wr (exL j) 10 h m u d)) (fun i _ => (intOf i).toNat)
  case atStart => exact ⟨0, by omega, rfl, H0⟩
  case round =>
    obtain ⟨j, hj, rfl, HO⟩ := hrel
    clear H0
    by_cases h1 : j < 5
    · have i1 : (0 : Int) < 5 - (j : Int) := by omega
      have i2 : IntKind.i64.wrap (10 * (5 - (j : Int))) = 10 * (5 - (j : Int)) := by rw [IntKind.wrap_i64]; omega
      have i3 : IntKind.i64.wrap (5 - (j : Int) - 1) = 5 - (j : Int) - 1 := by rw [IntKind.wrap_i64]; omega
      obtain ⟨h, m, u, d, o⟩ := HO.out
      have HPP : Hid _ := HP.out wr j h m u d h1 o
      have HJ : Hid (j < 5) := h1
      clear o HO HP h1 hj
      go_wp2_with fail
      refine Calls.mono HPP.out ?_
      rintro e w2 ⟨⟨b, rfl⟩, h', m', u', d', o'⟩
      have HO2 : Hid (∃ h m u d, Own5 w w2 (exL (j + 1)) 10 h m u d) := ⟨_, _, _, _, o'⟩
      clear o' HPP
      go_wp2_with fail
      go_roundw
      case rel => exact ⟨j + 1, HJ.out, by congr 1; omega, HO2⟩
      case measure => have := HJ.out; simp [intOf]; omega
    · obtain rfl : j = 5 := by omega
      clear HP h1 hj
      obtain ⟨h, m, u, d, o⟩ := HO.out
      have HPA : Hid (∀ w1, Below wr.heap.size wr w1 → Calls Try.prog 17 #[.pointer (some ⟨w.heap.size, 0, none⟩), exSp.val] w1 fun e w' => ∃ v, e = .returned v ∧ w'.ownsRow w1.heap.size TPr 4 v 2 (pcells [⟨kn 2, 20⟩, ⟨kn 3, 30⟩]) ∧ Below w1.heap.size w1 w') := fun w1 hb => by
        have := pairs_any w1 (o.tr.below hb) (by rw [exL_len 5 (by omega)]; omega) exSp
        rwa [exL_range, o.p] at this
      have hsh := o.tr.shape
      rw [exL_len 5 (by omega)] at hsh
      have H1 : Hid (∀ w1, Below wr.heap.size wr w1 → Calls Try.prog 15 #[.pointer (some ⟨w.heap.size, 0, none⟩)] w1 fun e w' => e = .returned (.int .i64 5) ∧ Below w1.heap.size w1 w') := fun w1 hb => by
        have := len_any (o.tr.below hb)
        rw [o.p, exL_len 5 (by omega)] at this; exact this
      have H2 : Hid (∀ w1, Below wr.heap.size wr w1 → Calls Try.prog 22 #[.pointer (some ⟨w.heap.size, 0, none⟩)] w1 fun e w' => e = .returned (.int .i64 d) ∧ Below w1.heap.size w1 w') := fun w1 hb => by
        have := depth_any (o.tr.below hb)
        rwa [o.p] at this
      have H3 : Hid (∀ w1, Below wr.heap.size wr w1 → Calls Try.prog 23 #[.pointer (some ⟨w.heap.size, 0, none⟩)] w1 fun e w' => e = .returned (.int .i64 u) ∧ Below w1.heap.size w1 w') := fun w1 hb => by
        have := used_any (o.tr.below hb) (by have := o.room; omega)
        rwa [o.p] at this
      have d1 : (1 : Int) ≤ (d : Int) := by omega
      have u1 : (1 : Int) ≤ (u : Int) := by omega
      have HB0 : Hid (Below w.heap.size w wr) := o.blw
      clear o HO hsh
      go_wp2_with fail
      refine Calls.mono (HPA.out _ (Below.refl _ _)) ?_
      rintro e w2 ⟨v, rfl, hv, hb⟩
      obtain ⟨g, c, ev⟩ : ∃ g c, v = .slice (some ⟨g, 0, none⟩) 2 c := ownsRow_succ hv
      subst ev
      have q1 : w2.cell? ⟨g, 3, none⟩ = some (.int .i64 20) := World.ownsRow.cellAt hv 3 (by omega)
      have q2 : w2.cell? ⟨g, 5, none⟩ = some (.int .i64 3) := World.ownsRow.cellAt hv 5 (by omega)
      have HB1 : Hid (Below wr.heap.size wr w2) := hb
      have HQ : Hid (∀ w', Below w2.heap.size w2 w' → w'.cell? ⟨g, 3, none⟩ = some (.int .i64 20) ∧ w'.cell? ⟨g, 5, none⟩ = some (.int .i64 3)) := fun w' hb => ⟨by rw [hb.cell (World.block_lt_of_cell? _ _ q1)]; exact q1, by rw [hb.cell (World.block_lt_of_cell? _ _ q2)]; exact q2⟩
      clear hv hb HPA q1 q2
      go_wp2_with fail
      refine Calls.mono (H1.out _ HB1.out) ?_
      rintro e w3 ⟨rfl, hb⟩
      obtain ⟨q1, q2⟩ := HQ.out _ hb
      have HB2 : Hid (Below wr.heap.size wr w3) := HB1.out.trans (hb.mono HB1.out.size)
      clear hb H1 HQ
      go_wp2_with fail
      refine Calls.mono (H2.out _ HB2.out) ?_
      rintro e w4 ⟨rfl, hb⟩
      have HB3 : Hid (Below wr.heap.size wr w4) := HB2.out.trans (hb.mono HB2.out.size)
      clear hb H2 q1 q2
      go_wp2_with fail
      refine Calls.mono (H3.out _ HB3.out) ?_
      rintro e w5 ⟨rfl, hb⟩
      have HB4 : Hid (Below wr.heap.size wr w5) := HB3.out.trans (hb.mono HB3.out.size)
      clear hb H3
      go_wp2_with fail
      go_ret
      exact ⟨rfl, HB0.out.trans (HB4.out.mono HB0.out.size)⟩
end Go.Proofs.Ytmagnpcdnhijlaa.Val

