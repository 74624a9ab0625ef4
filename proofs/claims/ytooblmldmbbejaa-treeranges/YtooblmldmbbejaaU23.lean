/- What the reference's Put answers. -/
import Derived.Test.YtooblmldmbbejaaU22
import Derived.Test.YtooblmldmbbejaaU20
import Derived.Test.YtooblmldmbbejaaU21
import Derived.Test.YtooblmldmbbejaaUO
namespace Go.Proofs.Ytooblmldmbbejaa.Val
open Go Go.RowKit

theorem cmpX_three (a b : Val) : cmpX a b = -1 ∨ cmpX a b = 0 ∨ cmpX a b = 1 := by
  unfold cmpX cmpV cmpN cmpS
  repeat' split
  all_goals simp
theorem right_size {k : Val} (h : rightX k = true) : k.s.size ≤ maxLen := by
  obtain ⟨t, n, s⟩ := k
  unfold rightX rightV at h
  cases t <;> simp only [Bool.false_eq_true, if_false, if_true] at h
  · have := empty_of h
    subst this
    exact Nat.zero_le _
  · rw [Bool.and_eq_true, decide_eq_true_eq] at h
    have h2 := h.2
    show s.size ≤ maxLen
    unfold maxLen; omega
theorem ml_le {n : Nat} (h : n ≤ 1000000) : n ≤ maxLen := by unfold maxLen; omega
section
variable {k : Val} {v : Int} {x : Pr} {m r : List Pr} {d f : Bool}
theorem put_low (h : cmpX x.k k = -1) : putLoop k v m d f (x :: r) = putLoop k v (m ++ [x]) d f r := by
  simp only [putLoop]
  rw [if_neg (by omega), if_neg (by omega)]
theorem put_at (h : cmpX x.k k = 0) : putLoop k v m d f (x :: r) = putLoop k v (m ++ [⟨k, v⟩]) true false r := by
  simp only [putLoop]
  rw [if_pos h]
theorem put_high (h : cmpX x.k k = 1) : putLoop k v m false f (x :: r) = putLoop k v (m ++ [⟨k, v⟩] ++ [x]) true f r := by
  simp only [putLoop]
  rw [if_neg (by omega), if_pos ⟨by omega, trivial⟩]
theorem put_past (h : cmpX x.k k = 1) : putLoop k v m true f (x :: r) = putLoop k v (m ++ [x]) true f r := by
  simp only [putLoop]
  rw [if_neg (by omega), if_neg (by simp)]
end
abbrev PObj (k : Val) (v : Int) : Obj := .cells #[.bool k.t, .int .i64 k.n, .string k.s, .int .i64 v] TPr (0, 0)
/-- While pairs are put out. -/
def PL (w : World) (k : Val) (v : Int) (l : List Pr) (j : Nat) (d f : Bool) (own : Value) (wr : World) : Prop := ∃ m, putLoop k v m d f (l.drop j) = putLoop k v [] false true l ∧ m.length ≤ 2 * j ∧ FL w (w.heap.size + 1) m own wr ∧ VBox wr w.heap.size k
theorem FL.more' {w wr W w2 : World} {m : List Pr} {own v' : Value} {x : Pr} {k : Val} (f : FL w (w.heap.size + 1) m own wr) (b : VBox wr w.heap.size k) (hW : Below wr.heap.size wr W) (ho : w2.ownsRow (w.heap.size + 1) TPr 4 v' (m.length + 1) (pcells m ++ x.cells)) (hg : W.grownBy w2 own.ownBlock) : (FL w (w.heap.size + 1) (m ++ [x]) v' w2 ∧ VBox w2 w.heap.size k) ∧ Below (w.heap.size + 1) wr w2 := by
  obtain ⟨r1, r2⟩ := f.more (Nat.le_succ _) hW ho hg
  exact ⟨⟨r1, b.low r2 (Nat.lt_succ_self _)⟩, r2⟩
set_option maxRecDepth 100000 in
set_option maxHeartbeats 8000000 in
theorem pput_right (lv : Value) (l : List Pr) (k : Val) (v : Int) (w : World) (hl : PairsIn w lv l) (hn : l.length ≤ 100000) (hr : rightX k = true) (hk : k.s.size ≤ maxLen) (hko : ∀ x ∈ l, x.k.s.size ≤ maxLen) (r1 : Rises l) (r2 : Rights l) :
    Calls Try.prog 23 #[lv, V k.t k.n k.s, .int .i64 v] w fun e w' => ∃ v', e = .returned (.tuple #[v', .bool (!hasP k l)]) ∧ PairsNew w' w.heap.size v' (insP k v l) ∧ Below w.heap.size w w' := by
  obtain ⟨inf, hi1, hi2, hi3, hi4⟩ := info_Pr
  have IN : Hid (Try.prog.info? TPr = some inf ∧ inf.zero = some (.agg #[.bool false, .int .i64 0, .string ⟨#[]⟩, .int .i64 0]) ∧ inf.size = 4 ∧ inf.bytes = 40) := ⟨hi1, hi2, hi3, hi4⟩
  obtain ⟨ao, c, rfl, hm⟩ := hl.slice
  have HL : Hid (PairsIn w (.slice ao l.length c) l) := hl
  have HP : Hid (putLoop k v [] false true l = (insP k v l, !hasP k l)) := put_ref hr r1 r2
  have HT : Hid (∀ w1, Calls Try.prog 38 #[V k.t k.n k.s] w1 fun e w' => e = .returned (.bool true) ∧ Below w1.heap.size w1 w') := fun w1 => by
    have := rright_any k.t k.n k.s w1 hk
    have e : rightV k.t k.n k.s = true := hr
    rw [e] at this; exact this
  have HC : Hid (∀ (j : Nat) (h : j < l.length) w1, Calls Try.prog 19 #[V l[j].k.t l[j].k.n l[j].k.s, V k.t k.n k.s] w1 fun e w' => e = .returned (.int .i64 (cmpX l[j].k k)) ∧ Below w1.heap.size w1 w') := fun j h w1 => rcmpX_any l[j].k k w1 (hko _ (List.getElem_mem h)) hk
  clear hl hi1 hi2 hi3 hi4 hr hk hko r1 r2
  go_enter Try.func23, Try.ntmps23
  go_wp2_with fail
  refine Calls.mono (HT.out _) ?_
  rintro e w1 ⟨rfl, hb⟩
  have HB0 : Hid (PL w k v l 0 false true (.slice none 0 0) w1) := ⟨[], rfl, by simp, ⟨World.ownsRow_nil _ _ _ _, back1 hb, by have := hb.size; simpa using this⟩, (VBox.new w k 30).below hb⟩
  clear hb HT
  go_wp2_with fail
  go_loopw [9, 10, 11, 12] (fun own dn fr i wr => ∃ (j : Nat) (d f : Bool), j ≤ l.length ∧ i = .int .i64 j ∧ dn = .bool d ∧ fr = .bool f ∧ Hid (PL w k v l j d f own wr)) (fun _ _ _ i _ => l.length - (intOf i).toNat)
  case atStart => exact ⟨0, false, true, Nat.zero_le _, rfl, rfl, rfl, HB0.out⟩
  case round =>
    obtain ⟨j, d, f, hj, rfl, rfl, rfl, HJ⟩ := hrel
    clear HB0
    obtain ⟨m, hpl, hml, hfl, hvb⟩ := HJ.out
    by_cases h1 : j < l.length
    · have i1 : (j : Int) < (l.length : Int) := by omega
      have i0 : (0 : Int) ≤ (j : Int) := by omega
      have j9 : j ≤ 100000 := by omega
      rw [List.drop_eq_getElem_cons h1] at hpl
      have HPL : Hid (putLoop k v m d f (l[j] :: l.drop (j + 1)) = putLoop k v [] false true l) := hpl
      have HCJ : Hid (∀ w1, Calls Try.prog 19 #[V l[j].k.t l[j].k.n l[j].k.s, V k.t k.n k.s] w1 fun e w' => e = .returned (.int .i64 (cmpX l[j].k k)) ∧ Below w1.heap.size w1 w') := HC.out j h1
      obtain ⟨b, o, rfl, c0, c1, c2, c3⟩ := (HL.out.below hfl.2.1).at j h1
      have HCC : Hid (∀ W, Below wr.heap.size wr W → (W.cell? ⟨b, o + j * 4, none⟩ = some (.bool l[j].k.t) ∧ W.cell? ⟨b, o + j * 4 + 1, none⟩ = some (.int .i64 l[j].k.n) ∧ W.cell? ⟨b, o + j * 4 + 2, none⟩ = some (.string l[j].k.s) ∧ W.cell? ⟨b, o + j * 4 + 3, none⟩ = some (.int .i64 l[j].v)) ∧ VBox W w.heap.size k ∧ FL w (w.heap.size + 1) m u9 W) := fun W hb => by
        obtain ⟨b', o', e, q0, q1, q2, q3⟩ := ((HL.out.below hfl.2.1).below hb).at j h1
        cases e
        exact ⟨⟨q0, q1, q2, q3⟩, hvb.below hb, hfl.below hb⟩
      have HCL : Hid (∀ W, Below w.heap.size w W → W.cell? ⟨b, o + j * 4, none⟩ = some (.bool l[j].k.t) ∧ W.cell? ⟨b, o + j * 4 + 1, none⟩ = some (.int .i64 l[j].k.n) ∧ W.cell? ⟨b, o + j * 4 + 2, none⟩ = some (.string l[j].k.s) ∧ W.cell? ⟨b, o + j * 4 + 3, none⟩ = some (.int .i64 l[j].v)) := fun W hb => by
        obtain ⟨b', o', e, q0, q1, q2, q3⟩ := (HL.out.below hb).at j h1
        cases e
        exact ⟨q0, q1, q2, q3⟩
      have HJ1 : Hid (j + 1 ≤ l.length) := h1
      clear c0 c1 c2 c3 HJ hpl hfl hvb
      generalize l[j] = x at *
      have hc3 := cmpX_three x.k k
      obtain ⟨cc, hcc⟩ : ∃ cc, cmpX x.k k = cc := ⟨_, rfl⟩
      have HQ : Hid (cmpX x.k k = cc) := hcc
      rw [hcc] at HCJ hc3
      clear hcc
      go_wp2_with fail
      refine wp_region_held_drew (S := fun w' => (w'.cell? ⟨b, o + j * 4, none⟩ = some (.bool x.k.t) ∧ w'.cell? ⟨b, o + j * 4 + 1, none⟩ = some (.int .i64 x.k.n) ∧ w'.cell? ⟨b, o + j * 4 + 2, none⟩ = some (.string x.k.s)) ∧ w'.cell? ⟨w.heap.size, 0, none⟩ = some (.bool k.t) ∧ w'.cell? ⟨w.heap.size, 1, none⟩ = some (.int .i64 k.n) ∧ w'.cell? ⟨w.heap.size, 2, none⟩ = some (.string k.s)) (by kernel_rfl) ?_ (fun hHeld => ?_)
      · obtain ⟨⟨q0, q1, q2, _⟩, q4, _⟩ := HCC.out _ (Below.refl _ _).drew
        exact ⟨⟨q0, q1, q2⟩, q4.c0, q4.c1, q4.c2⟩
      (try clear hK K)
      refine wpAnyH_take (i := 0) (v := ?_) rfl (by kernel_rfl) (by kernel_rfl) (by kernel_rfl) (fun _ _ _ h => h) (Or.inl ⟨by rfl, ?_⟩) (by assumption) ?_
      rotate_left
      · intro w hSw; (try dsimp only at hSw); go_simp; (try with_reducible rfl)
      (try simp only [Act.put, List.getElem_toArray, List.getElem_cons_zero, List.setIfInBounds_toArray, List.set_cons_zero, List.set_cons_succ])
      refine wpAnyH_take (i := 1) (v := ?_) rfl (by kernel_rfl) (by kernel_rfl) (by kernel_rfl) (fun _ _ _ h => h) (Or.inl ⟨by rfl, ?_⟩) (by assumption) ?_
      rotate_left
      · intro w hSw; (try dsimp only at hSw); go_simp; (try with_reducible rfl)
      (try simp only [Act.put, List.getElem_toArray, List.getElem_cons_succ, List.getElem_cons_zero, List.setIfInBounds_toArray, List.set_cons_zero, List.set_cons_succ])
      refine wpAnyH_take (i := 2) (v := ?_) rfl (by kernel_rfl) (by kernel_rfl) (by kernel_rfl) (fun _ _ _ h => h) (Or.inl ⟨by rfl, ?_⟩) (by assumption) ?_
      rotate_left
      · intro w hSw; (try dsimp only at hSw); go_simp; (try with_reducible rfl)
      (try simp only [Act.put, List.getElem_toArray, List.getElem_cons_succ, List.getElem_cons_zero, List.setIfInBounds_toArray, List.set_cons_zero, List.set_cons_succ])
      refine wpAnyH_take (i := 3) (v := ?_) rfl (by kernel_rfl) (by kernel_rfl) (by kernel_rfl) (fun _ _ _ h => h) (Or.inl ⟨by rfl, ?_⟩) (by assumption) ?_
      rotate_left
      · intro w hSw; (try dsimp only at hSw); go_simp; (try with_reducible rfl)
      (try simp only [Act.put, List.getElem_toArray, List.getElem_cons_succ, List.getElem_cons_zero, List.setIfInBounds_toArray, List.set_cons_zero, List.set_cons_succ])
      refine wpAnyH_take (i := 4) (v := ?_) rfl (by kernel_rfl) (by kernel_rfl) (by kernel_rfl) (fun _ _ _ h => h) (Or.inl ⟨by rfl, ?_⟩) (by assumption) ?_
      rotate_left
      · intro w hSw; (try dsimp only at hSw); go_simp; (try with_reducible rfl)
      (try simp only [Act.put, List.getElem_toArray, List.getElem_cons_succ, List.getElem_cons_zero, List.setIfInBounds_toArray, List.set_cons_zero, List.set_cons_succ])
      refine wpAnyH_take (i := 5) (v := ?_) rfl (by kernel_rfl) (by kernel_rfl) (by kernel_rfl) (fun _ _ _ h => h) (Or.inl ⟨by rfl, ?_⟩) (by assumption) ?_
      rotate_left
      · intro w hSw; (try dsimp only at hSw); go_simp; (try with_reducible rfl)
      (try simp only [Act.put, List.getElem_toArray, List.getElem_cons_succ, List.getElem_cons_zero, List.setIfInBounds_toArray, List.set_cons_zero, List.set_cons_succ])
      (try clear hK K)
      refine wpAnyH_ready (rs := [6]) (by kernel_rfl) (by simp) ?_
      refine AllReadyH.cons rfl (fun K hK => ?_) AllReadyH.nil
      go_simp
      (refine Calls.mono (HCJ.out _) ?_; rintro e w3 ⟨rfl, hb3⟩)
      refine hK.out _ _ ?_ (fun hHeld => ?_)
      · obtain ⟨⟨q0, q1, q2, _⟩, q4, _⟩ := HCC.out w3 (on (Below.refl _ _).drew hb3)
        exact ⟨⟨q0, q1, q2⟩, q4.c0, q4.c1, q4.c2⟩
      (try clear hK K)
      refine wpAnyH_take (i := 7) (v := ?_) rfl (by kernel_rfl) (by kernel_rfl) (by kernel_rfl) (fun _ _ _ h => h) (Or.inl ⟨by rfl, ?_⟩) (by assumption) ?_
      rotate_left
      · intro w hSw; (try dsimp only at hSw); go_simp; (try with_reducible rfl)
      (try simp only [Act.put, List.getElem_toArray, List.getElem_cons_succ, List.getElem_cons_zero, List.setIfInBounds_toArray, List.set_cons_zero, List.set_cons_succ])
      (try clear hK K)
      refine wpAnyH_done (by kernel_rfl) ?_ _
      have HB3 : Hid (Below wr.heap.size wr w3) := on (Below.refl _ _).drew hb3
      clear hb3
      obtain ⟨⟨c0, c1, c2, c3⟩, ⟨k0, k1, k2⟩, _⟩ := HCC.out _ HB3.out
      have HW3 : Hid (FL w (w.heap.size + 1) m u9 w3 ∧ VBox w3 w.heap.size k) := ⟨(HCC.out _ HB3.out).2.2, (HCC.out _ HB3.out).2.1⟩
      clear HCC HCJ HB3
      rcases hc3 with rfl | rfl | rfl
      · -- ahead of the key
        have HX : Hid (putLoop k v (m ++ [x]) d f (l.drop (j + 1)) = putLoop k v [] false true l) := (put_low HQ.out).symm.trans HPL.out
        clear HPL HQ
        go_wp2_with (at_builtin; refine wpList_append_own_at _ rfl _ _ _ rfl (w.heap.size + 1) TPr inf _ 4 40 Try.underlying26 IN.out.1 IN.out.2.1 IN.out.2.2.1 IN.out.2.2.2 rfl (by decide) u9 m.length (pcells m) rfl (own_below HW3.out.1.1 (alloc1 _ _)) ⟨w3.heap.size, 0, none⟩ 1 1 (Pr.cells x) rfl rfl (pr_new _ x) (Pr.cells_one _) ?_ ?_ ?_ ?_)
        · exact ml_le (by first | omega | (simp only [List.length_append, List.length_cons, List.length_nil]; omega))
        · first | omega | (simp only [List.length_append, List.length_cons, List.length_nil]; omega)
        · have := HW3.out.1.2.2; simp; omega
        · intro vw4 w4 hown' hgrow _ _
          obtain ⟨r1, r2⟩ := HW3.out.1.more' HW3.out.2 (alloc1 _ _) hown' hgrow
          have HXw4 : Hid (FL w (w.heap.size + 1) (m ++ [x]) vw4 w4 ∧ VBox w4 w.heap.size k) := r1
          clear r1 r2 hown' hgrow HW3
          clear c0 c1 c2 c3 k0 k1 k2
          go_wp2_with fail
          go_roundw
          case rel => exact ⟨j + 1, d, f, HJ1.out, by go_num, rfl, rfl, _, HX.out, by simp only [List.length_append, List.length_cons, List.length_nil]; omega, HXw4.out⟩
          case measure => simp [intOf]; omega
      · -- the key
        have HX : Hid (putLoop k v (m ++ [⟨k, v⟩]) true false (l.drop (j + 1)) = putLoop k v [] false true l) := (put_at HQ.out).symm.trans HPL.out
        clear HPL HQ
        clear c0 c1 c2 c3
        go_wp2_with (at_builtin; refine wpList_append_own_at _ rfl _ _ _ rfl (w.heap.size + 1) TPr inf _ 4 40 Try.underlying26 IN.out.1 IN.out.2.1 IN.out.2.2.1 IN.out.2.2.2 rfl (by decide) u9 m.length (pcells m) rfl (own_below HW3.out.1.1 (alloc1 _ _)) ⟨w3.heap.size, 0, none⟩ 1 1 (Pr.cells ⟨k, v⟩) rfl rfl (pr_new _ ⟨k, v⟩) (Pr.cells_one _) ?_ ?_ ?_ ?_)
        · exact ml_le (by first | omega | (simp only [List.length_append, List.length_cons, List.length_nil]; omega))
        · first | omega | (simp only [List.length_append, List.length_cons, List.length_nil]; omega)
        · have := HW3.out.1.2.2; simp; omega
        · intro vw4 w4 hown' hgrow _ _
          obtain ⟨r1, r2⟩ := HW3.out.1.more' HW3.out.2 (alloc1 _ _) hown' hgrow
          have HXw4 : Hid (FL w (w.heap.size + 1) (m ++ [⟨k, v⟩]) vw4 w4 ∧ VBox w4 w.heap.size k) := r1
          clear r1 r2 hown' hgrow HW3
          clear k0 k1 k2
          go_wp2_with fail
          go_roundw
          case rel => exact ⟨j + 1, true, false, HJ1.out, by go_num, rfl, rfl, _, HX.out, by simp only [List.length_append, List.length_cons, List.length_nil]; omega, HXw4.out⟩
          case measure => simp [intOf]; omega
      · cases d
        · -- behind the key, not done yet
          have HX : Hid (putLoop k v (m ++ [⟨k, v⟩] ++ [x]) true f (l.drop (j + 1)) = putLoop k v [] false true l) := (put_high HQ.out).symm.trans HPL.out
          clear HPL HQ
          clear c0 c1 c2 c3
          go_wp2_with (at_builtin; refine wpList_append_own_at _ rfl _ _ _ rfl (w.heap.size + 1) TPr inf _ 4 40 Try.underlying26 IN.out.1 IN.out.2.1 IN.out.2.2.1 IN.out.2.2.2 rfl (by decide) u9 m.length (pcells m) rfl (own_below HW3.out.1.1 (alloc1 _ _)) ⟨w3.heap.size, 0, none⟩ 1 1 (Pr.cells ⟨k, v⟩) rfl rfl (pr_new _ ⟨k, v⟩) (Pr.cells_one _) ?_ ?_ ?_ ?_)
          · exact ml_le (by first | omega | (simp only [List.length_append, List.length_cons, List.length_nil]; omega))
          · first | omega | (simp only [List.length_append, List.length_cons, List.length_nil]; omega)
          · have := HW3.out.1.2.2; simp; omega
          · intro vw4 w4 hown' hgrow _ _
            obtain ⟨r1, r2⟩ := HW3.out.1.more' HW3.out.2 (alloc1 _ _) hown' hgrow
            have HXw4 : Hid (FL w (w.heap.size + 1) (m ++ [⟨k, v⟩]) vw4 w4 ∧ VBox w4 w.heap.size k) := r1
            clear r1 r2 hown' hgrow HW3
            clear k0 k1 k2
            obtain ⟨c0, c1, c2, c3⟩ := HCL.out _ HXw4.out.1.2.1
            go_wp2_with (at_builtin; refine wpList_append_own_at _ rfl _ _ _ rfl (w.heap.size + 1) TPr inf _ 4 40 Try.underlying26 IN.out.1 IN.out.2.1 IN.out.2.2.1 IN.out.2.2.2 rfl (by decide) vw4 (m ++ [Pr.mk k v]).length (pcells (m ++ [Pr.mk k v])) rfl (own_below HXw4.out.1.1 (alloc1 _ _)) ⟨w4.heap.size, 0, none⟩ 1 1 (Pr.cells x) rfl rfl (pr_new _ x) (Pr.cells_one _) ?_ ?_ ?_ ?_)
            · exact ml_le (by first | omega | (simp only [List.length_append, List.length_cons, List.length_nil]; omega))
            · first | omega | (simp only [List.length_append, List.length_cons, List.length_nil]; omega)
            · have := HXw4.out.1.2.2; simp; omega
            · intro vw5 w5 hown' hgrow _ _
              obtain ⟨r1, r2⟩ := FL.more' (x := x) HXw4.out.1 HXw4.out.2 (alloc1 _ _) (by simpa using hown') hgrow
              have HXw5 : Hid (FL w (w.heap.size + 1) ((m ++ [⟨k, v⟩]) ++ [x]) vw5 w5 ∧ VBox w5 w.heap.size k) := r1
              clear r1 r2 hown' hgrow HXw4
              clear c0 c1 c2 c3
              go_wp2_with fail
              go_roundw
              case rel => exact ⟨j + 1, true, f, HJ1.out, by go_num, rfl, rfl, _, HX.out, by simp only [List.length_append, List.length_cons, List.length_nil]; omega, HXw5.out⟩
              case measure => simp [intOf]; omega
        · have HX : Hid (putLoop k v (m ++ [x]) true f (l.drop (j + 1)) = putLoop k v [] false true l) := (put_past HQ.out).symm.trans HPL.out
          clear HPL HQ
          go_wp2_with (at_builtin; refine wpList_append_own_at _ rfl _ _ _ rfl (w.heap.size + 1) TPr inf _ 4 40 Try.underlying26 IN.out.1 IN.out.2.1 IN.out.2.2.1 IN.out.2.2.2 rfl (by decide) u9 m.length (pcells m) rfl (own_below HW3.out.1.1 (alloc1 _ _)) ⟨w3.heap.size, 0, none⟩ 1 1 (Pr.cells x) rfl rfl (pr_new _ x) (Pr.cells_one _) ?_ ?_ ?_ ?_)
          · exact ml_le (by first | omega | (simp only [List.length_append, List.length_cons, List.length_nil]; omega))
          · first | omega | (simp only [List.length_append, List.length_cons, List.length_nil]; omega)
          · have := HW3.out.1.2.2; simp; omega
          · intro vw4 w4 hown' hgrow _ _
            obtain ⟨r1, r2⟩ := HW3.out.1.more' HW3.out.2 (alloc1 _ _) hown' hgrow
            have HXw4 : Hid (FL w (w.heap.size + 1) (m ++ [x]) vw4 w4 ∧ VBox w4 w.heap.size k) := r1
            clear r1 r2 hown' hgrow HW3
            clear c0 c1 c2 c3 k0 k1 k2
            go_wp2_with fail
            go_roundw
            case rel => exact ⟨j + 1, true, f, HJ1.out, by go_num, rfl, rfl, _, HX.out, by simp only [List.length_append, List.length_cons, List.length_nil]; omega, HXw4.out⟩
            case measure => simp [intOf]; omega
    · obtain rfl : j = l.length := by omega
      rw [List.drop_length] at hpl
      rw [HP.out] at hpl
      unfold putLoop at hpl
      simp only [Prod.mk.injEq] at hpl
      obtain ⟨hp1, hp2⟩ := hpl
      have HP2 : Hid (f = !hasP k l) := hp2
      clear hp2
      cases d
      · rw [if_neg (by simp)] at hp1
        obtain ⟨k0, k1, k2⟩ := hvb
        have HW3 : Hid (FL w (w.heap.size + 1) m u9 wr ∧ VBox wr w.heap.size k) := HJ.out.elim fun m' h => ⟨hfl, h.2.2.2⟩
        have HP1 : Hid (insP k v l = m ++ [⟨k, v⟩]) := hp1.symm
        clear hp1 HJ hfl HP HC HL
        go_wp2_with (at_builtin; refine wpList_append_own_at _ rfl _ _ _ rfl (w.heap.size + 1) TPr inf _ 4 40 Try.underlying26 IN.out.1 IN.out.2.1 IN.out.2.2.1 IN.out.2.2.2 rfl (by decide) u9 m.length (pcells m) rfl (own_below HW3.out.1.1 (alloc1 _ _)) ⟨wr.heap.size, 0, none⟩ 1 1 (Pr.cells ⟨k, v⟩) rfl rfl (pr_new _ ⟨k, v⟩) (Pr.cells_one _) ?_ ?_ ?_ ?_)
        · unfold maxLen; omega
        · omega
        · have := HW3.out.1.2.2; simp; omega
        · intro v' w2 hown' hgrow _ _
          obtain ⟨⟨r1, _⟩, _⟩ := HW3.out.1.more' HW3.out.2 (alloc1 _ _) hown' hgrow
          have HE : Hid (PairsNew w2 w.heap.size v' (m ++ [⟨k, v⟩]) ∧ Below w.heap.size w w2) := ⟨r1.new, r1.2.1⟩
          clear r1 hown' hgrow HW3 k0 k1 k2
          go_wp2_with fail
          go_ret2
          exact ⟨_, by rw [← HP2.out]; rfl, by rw [HP1.out]; exact HE.out⟩
      · rw [if_pos rfl] at hp1
        have HP1 : Hid (insP k v l = m) := hp1.symm
        have HE : Hid (PairsNew wr w.heap.size u9 m ∧ Below w.heap.size w wr) := ⟨hfl.new, hfl.2.1⟩
        clear hp1 HJ hfl hvb HP HC HL
        go_wp2_with fail
        go_ret2
        exact ⟨_, by rw [← HP2.out]; rfl, by rw [HP1.out]; exact HE.out⟩
set_option maxHeartbeats 1000000 in
theorem pput_wrong (lv : Value) (k : Val) (v : Int) (w : World) (hs : k.s.size ≤ maxLen) (hk : rightX k = false) : Calls Try.prog 23 #[lv, V k.t k.n k.s, .int .i64 v] w fun e w' => e = .returned (.tuple #[lv, .bool false]) ∧ Below w.heap.size w w' := by
  have HT : Hid (∀ w1, Calls Try.prog 38 #[V k.t k.n k.s] w1 fun e w' => e = .returned (.bool false) ∧ Below w1.heap.size w1 w') := fun w1 => by
    have := rright_any k.t k.n k.s w1 hs
    have e : rightV k.t k.n k.s = false := hk
    rw [e] at this; exact this
  clear hs hk
  go_enter Try.func23, Try.ntmps23
  go_wp2_with fail
  refine Calls.mono (HT.out _) ?_
  rintro e w1 ⟨rfl, hb⟩
  have HB : Hid (Below w.heap.size w w1) := back1 hb
  clear hb HT
  go_wp2_with fail
  go_ret2
  exact ⟨rfl, HB.out⟩
end Go.Proofs.Ytooblmldmbbejaa.Val
/- A tree of the call's own beside what else lies in memory: the reference's row, another tree. -/
namespace Go.Proofs.Ytooblmldmbbejaa.Val
open Go Go.RowKit

/-- A tree in memory that holds these pairs, of a size that can be. -/
def Tr (w : World) (h : Hd) (l : List Pr) : Prop := ∃ m u d, TR w h l m u d ∧ m ≤ 350
section
variable {w w' : World} {h : Hd} {l : List Pr}
theorem Tr.rises (t : Tr w h l) : Rises l ∧ Rights l := by
  obtain ⟨m, u, d, t, _⟩ := t
  exact ⟨t.rises.1, t.rises.2⟩
theorem Tr.lt (t : Tr w h l) : ∀ k, h.has k → k < w.heap.size := by
  obtain ⟨m, u, d, t, _⟩ := t
  exact t.lt
theorem Tr.sv {X : Nat → Prop} (t : Tr w h l) (hs : Sv X w w') (hx : ∀ k, h.has k → ¬ X k) : Tr w' h l := by
  obtain ⟨m, u, d, ⟨R, fr, root, t1, t2, t3⟩, hm⟩ := t
  exact ⟨m, u, d, ⟨R, fr, root, t1.sv hs hx, t2, t3⟩, hm⟩
theorem Tr.below (t : Tr w h l) (hb : Below w.heap.size w w') : Tr w' h l := t.sv (X := Nothing) (Sv.of hb) fun _ _ h => h
theorem tr_new (w : World) : Calls Try.prog 8 #[] w fun e w' => e = .returned (.pointer (some ⟨w.heap.size, 0, none⟩)) ∧ Tr w' ⟨w.heap.size, .slice none 0 0, .slice none 0 0, .slice none 0 0⟩ [] ∧ Below w.heap.size w w' :=
  (new_any w).mono fun e w' ⟨he, t, hb⟩ => ⟨he, ⟨0, 0, 0, t, by omega⟩, hb⟩
theorem tr_get (t : Tr w h l) (hl : l.length ≤ 400) (k : Val) (hs : k.s.size ≤ maxLen) : Calls Try.prog 10 #[.pointer (some ⟨h.p, 0, none⟩), V k.t k.n k.s] w fun e w' => e = .returned (.tuple #[.int .i64 (getP k l).1, .bool (getP k l).2]) ∧ Below w.heap.size w w' := by
  obtain ⟨m, u, d, t, hm⟩ := t
  exact get_any t (by omega) k hs
theorem tr_len (t : Tr w h l) : Calls Try.prog 12 #[.pointer (some ⟨h.p, 0, none⟩)] w fun e w' => e = .returned (.int .i64 l.length) ∧ Below w.heap.size w w' := by
  obtain ⟨m, u, d, t, hm⟩ := t
  exact len_any t
theorem tr_pairs (t : Tr w h l) (hl : l.length ≤ 400) (s : Sp) : Calls Try.prog 14 #[.pointer (some ⟨h.p, 0, none⟩), s.val] w fun e w' => ∃ v, e = .returned v ∧ w'.ownsRow w.heap.size TPr 4 v (rangeP s l).length (pcells (rangeP s l)) ∧ Below w.heap.size w w' := by
  obtain ⟨m, u, d, t, hm⟩ := t
  exact pairs_any w t (by omega) s
theorem tr_put (t : Tr w h l) (hl : l.length ≤ 340) (k : Val) (v : Int) (hs : k.s.size ≤ maxLen) : Calls Try.prog 16 #[.pointer (some ⟨h.p, 0, none⟩), V k.t k.n k.s, .int .i64 v] w fun e w' => e = .returned (.bool (rightX k && !hasP k l)) ∧ ∃ h', Tr w' h' (insK k v l) ∧ Mv w h w' h' := by
  cases hk : rightX k
  · refine (put_wrong h.p k v hs hk).mono fun e w' ⟨he, hb⟩ => ⟨by rw [he]; rfl, h, ?_, Mv.of hb⟩
    simp only [insK, hk]
    exact t.below hb
  · obtain ⟨m, u, d, t, hm⟩ := t
    refine (put_any t (by omega) (by omega) k v hs hk).mono fun e w' ⟨he, h', m', u', d', t', vv, hmm⟩ => ⟨by rw [he]; rfl, h', ⟨m', u', d', ?_, ?_⟩, vv⟩
    · simp only [insK, hk, if_true]
      exact t'
    · have hsh := t'.shape
      have hlen := len_put (v := v) hk t.rises.1 t.rises.2
      have hlen2 : (insP k v l).length ≤ 341 := by rw [hlen]; split <;> omega
      omega
theorem tr_del (t : Tr w h l) (hl : l.length ≤ 400) (k : Val) (hs : k.s.size ≤ maxLen) : Calls Try.prog 18 #[.pointer (some ⟨h.p, 0, none⟩), V k.t k.n k.s] w fun e w' => e = .returned (.bool (hasP k l)) ∧ ∃ h', Tr w' h' (delP k l) ∧ Mv w h w' h' := by
  obtain ⟨m, u, d, t, hm⟩ := t
  exact (del_any t (by omega) (by omega) k hs).mono fun e w' ⟨he, h', u', d', t', vv⟩ => ⟨he, h', ⟨m, u', d', t', hm⟩, vv⟩
end
/-- Two blocks that are apart stay apart. -/
theorem Mv.apart {w w' : World} {h h' : Hd} (v : Mv w h w' h') {P : Nat → Prop} (hP : ∀ k, P k → k < w.heap.size) (hx : ∀ k, P k → ¬ h.has k) : ∀ k, P k → ¬ h'.has k := fun k hk hh => by
  rcases v.own k hh with h1 | h1
  · exact hx k hk h1
  · have := hP k hk; omega
theorem PairsIn.lt {w : World} {v : Value} {l : List Pr} (h : PairsIn w v l) (hl : 0 < l.length) : ∀ g, v.ownBlock = some g → g < w.heap.size := by
  obtain ⟨ao, c, rfl, h1, h2, h0, h3⟩ := h
  rcases h3 with h3 | ⟨b, o, rfl, h3⟩
  · have h3' : l.flatMap Pr.cells = [] := h3
    have := flat_length Pr.cells 4 (fun _ => rfl) l
    rw [h3'] at this; simp at this; omega
  · intro g hg
    cases hg
    obtain ⟨x, rest, rfl⟩ := List.exists_cons_of_length_pos hl
    exact World.block_lt_of_cell? _ _ (h3 0 (.bool x.k.t) rfl)
theorem PairsIn.sv {w w' : World} {X : Nat → Prop} {v : Value} {l : List Pr} (h : PairsIn w v l) (hs : Sv X w w') (hx : ∀ g, v.ownBlock = some g → ¬ X g) : PairsIn w' v l := by
  obtain ⟨ao, c, rfl, h1, h2, h0, h3⟩ := h
  refine ⟨ao, c, rfl, h1, h2, h0, ?_⟩
  rcases h3 with h3 | ⟨b, o, rfl, h3⟩
  · exact .inl h3
  · refine .inr ⟨b, o, rfl, fun j u hj => ?_⟩
    have := h3 j u hj
    rw [hs.cell (World.block_lt_of_cell? w _ this) (hx b rfl)]; exact this
/-- A tree of the call's own that holds l, and a row of pairs l2 beside it. -/
def QP (w0 : World) (l : List Pr) (lv : Value) (l2 : List Pr) (w1 : World) : Prop := ∃ h, Tr w1 h l ∧ h.p = w0.heap.size ∧ (∀ k, h.has k → w0.heap.size ≤ k) ∧ Below w0.heap.size w0 w1 ∧ PairsIn w1 lv l2 ∧ (l2 = [] ∨ ∀ g, lv.ownBlock = some g → g < w1.heap.size ∧ ¬ h.has g)
section
variable {w0 w1 w2 : World} {l l2 : List Pr} {lv : Value}
theorem QP.blw (q : QP w0 l lv l2 w1) : Below w0.heap.size w0 w1 := by
  obtain ⟨h, t, hp, hm, hb, _⟩ := q
  exact hb
theorem QP.pairs (q : QP w0 l lv l2 w1) : PairsIn w1 lv l2 := by
  obtain ⟨h, t, hp, hm, hb, hl, _⟩ := q
  exact hl
theorem QP.rises (q : QP w0 l lv l2 w1) : Rises l ∧ Rights l := by
  obtain ⟨h, t, _⟩ := q
  exact t.rises
theorem QP.below (q : QP w0 l lv l2 w1) (hb : Below w1.heap.size w1 w2) : QP w0 l lv l2 w2 := by
  obtain ⟨h, t, hp, hm, hB, hl, hx⟩ := q
  exact ⟨h, t.below hb, hp, hm, on hB hb, hl.below hb, hx.imp id fun hx g hg => ⟨Nat.lt_of_lt_of_le (hx g hg).1 hb.size, (hx g hg).2⟩⟩
/-- Another row, in new memory. -/
theorem QP.turn {lv' : Value} {l3 : List Pr} (q : QP w0 l lv l2 w1) (hb : Below w1.heap.size w1 w2) (hl : PairsIn w2 lv' l3) (hn : ∀ g, lv'.ownBlock = some g → w1.heap.size ≤ g) : QP w0 l lv' l3 w2 := by
  obtain ⟨h, t, hp, hm, hB, _, _⟩ := q
  refine ⟨h, t.below hb, hp, hm, on hB hb, hl, ?_⟩
  by_cases h0 : l3 = []
  · exact .inl h0
  · exact .inr fun g hg => ⟨hl.lt (List.length_pos_iff.2 h0) g hg, fun hh => by have := t.lt g hh; have := hn g hg; omega⟩
theorem QP.moved {w' : World} {h h' : Hd} {l' : List Pr} (hp : h.p = w0.heap.size) (hm : ∀ k, h.has k → w0.heap.size ≤ k) (hb : Below w0.heap.size w0 w1) (hl : PairsIn w1 lv l2) (hx : l2 = [] ∨ ∀ g, lv.ownBlock = some g → g < w1.heap.size ∧ ¬ h.has g) (t' : Tr w' h' l') (v : Mv w1 h w' h') : QP w0 l' lv l2 w' := by
  refine ⟨h', t', v.p.trans hp, fun k hk => (v.own k hk).elim (hm k) fun hs => Nat.le_trans hb.size hs, hb.trans (v.below hb.size hm), ?_, ?_⟩
  · rcases hx with rfl | hx
    · obtain ⟨ao, c, rfl, h1, h2, h0, h3⟩ := hl
      exact ⟨ao, c, rfl, h1, h2, h0, .inl rfl⟩
    · exact hl.sv v.sv fun g hg => (hx g hg).2
  · refine hx.imp id fun hx g hg => ⟨Nat.lt_of_lt_of_le (hx g hg).1 v.sv.size, ?_⟩
    exact v.apart (P := fun k => k = g) (fun k hk => by subst hk; exact (hx k hg).1) (fun k hk => by subst hk; exact (hx k hg).2) g rfl
theorem qp_put (q : QP w0 l lv l2 w1) (hl : l.length ≤ 340) (k : Val) (v : Int) (hs : k.s.size ≤ maxLen) : Calls Try.prog 16 #[.pointer (some ⟨w0.heap.size, 0, none⟩), V k.t k.n k.s, .int .i64 v] w1 fun e w' => e = .returned (.bool (rightX k && !hasP k l)) ∧ QP w0 (insK k v l) lv l2 w' := by
  obtain ⟨h, t, hp, hm, hb, h5, h6⟩ := q
  have := tr_put t hl k v hs
  rw [hp] at this
  exact this.mono fun e w' ⟨he, h', t', vv⟩ => ⟨he, QP.moved hp hm hb h5 h6 t' vv⟩
theorem qp_del (q : QP w0 l lv l2 w1) (hl : l.length ≤ 400) (k : Val) (hs : k.s.size ≤ maxLen) : Calls Try.prog 18 #[.pointer (some ⟨w0.heap.size, 0, none⟩), V k.t k.n k.s] w1 fun e w' => e = .returned (.bool (hasP k l)) ∧ QP w0 (delP k l) lv l2 w' := by
  obtain ⟨h, t, hp, hm, hb, h5, h6⟩ := q
  have := tr_del t hl k hs
  rw [hp] at this
  exact this.mono fun e w' ⟨he, h', t', vv⟩ => ⟨he, QP.moved hp hm hb h5 h6 t' vv⟩
theorem qp_get (q : QP w0 l lv l2 w1) (hl : l.length ≤ 400) (k : Val) (hs : k.s.size ≤ maxLen) : Calls Try.prog 10 #[.pointer (some ⟨w0.heap.size, 0, none⟩), V k.t k.n k.s] w1 fun e w' => e = .returned (.tuple #[.int .i64 (getP k l).1, .bool (getP k l).2]) ∧ QP w0 l lv l2 w' := by
  obtain ⟨h, t, hp, hm, hb, h5, h6⟩ := q
  have := tr_get t hl k hs
  rw [hp] at this
  exact this.mono fun e w' ⟨he, hb'⟩ => ⟨he, QP.below ⟨h, t, hp, hm, hb, h5, h6⟩ hb'⟩
theorem qp_len (q : QP w0 l lv l2 w1) : Calls Try.prog 12 #[.pointer (some ⟨w0.heap.size, 0, none⟩)] w1 fun e w' => e = .returned (.int .i64 l.length) ∧ QP w0 l lv l2 w' := by
  obtain ⟨h, t, hp, hm, hb, h5, h6⟩ := q
  have := tr_len t
  rw [hp] at this
  exact this.mono fun e w' ⟨he, hb'⟩ => ⟨he, QP.below ⟨h, t, hp, hm, hb, h5, h6⟩ hb'⟩
theorem qp_pairs (q : QP w0 l lv l2 w1) (hl : l.length ≤ 400) (s : Sp) : Calls Try.prog 14 #[.pointer (some ⟨w0.heap.size, 0, none⟩), s.val] w1 fun e w' => ∃ v, e = .returned v ∧ PairsIn w' v (rangeP s l) ∧ QP w0 l lv l2 w' := by
  obtain ⟨h, t, hp, hm, hb, h5, h6⟩ := q
  have := tr_pairs t hl s
  rw [hp] at this
  exact this.mono fun e w' ⟨v, he, ho, hb'⟩ => ⟨v, he, own_pairs ho, QP.below ⟨h, t, hp, hm, hb, h5, h6⟩ hb'⟩
theorem qp_rdel (q : QP w0 l lv l2 w1) (hl : l2.length ≤ 400) (k : Val) : Calls Try.prog 22 #[lv, V k.t k.n k.s] w1 fun e w' => ∃ lv', e = .returned (.tuple #[lv', .bool (hasP k l2)]) ∧ QP w0 l lv' (delP k l2) w' :=
  (pdel_any lv l2 k w1 q.pairs (by omega)).mono fun e w' ⟨v, he, hp, hb⟩ => ⟨v, he, q.turn hb hp.1 hp.2⟩
theorem rights_size {l : List Pr} (h : Rights l) : ∀ x ∈ l, x.k.s.size ≤ maxLen := fun x hx => right_size (h x hx)
theorem qp_rput (q : QP w0 l lv l2 w1) (hl : l2.length ≤ 400) (k : Val) (v : Int) (hs : k.s.size ≤ maxLen) (r1 : Rises l2) (r2 : Rights l2) : Calls Try.prog 23 #[lv, V k.t k.n k.s, .int .i64 v] w1 fun e w' => ∃ lv', e = .returned (.tuple #[lv', .bool (rightX k && !hasP k l2)]) ∧ QP w0 l lv' (insK k v l2) w' := by
  cases hk : rightX k
  · refine (pput_wrong lv k v w1 hs hk).mono fun e w' ⟨he, hb⟩ => ⟨lv, by rw [he]; rfl, ?_⟩
    simp only [insK, hk]
    exact q.below hb
  · refine (pput_right lv l2 k v w1 q.pairs (by omega) hk hs (rights_size r2) r1 r2).mono fun e w' ⟨v', he, hp, hb⟩ => ⟨v', by rw [he]; rfl, ?_⟩
    simp only [insK, hk, if_true]
    exact q.turn hb hp.1 hp.2
theorem qp_new {w0 w1 : World} (T : Tr w1 ⟨w0.heap.size, .slice none 0 0, .slice none 0 0, .slice none 0 0⟩ []) (hb : Below w0.heap.size w0 w1) : QP w0 [] (.slice none 0 0) [] w1 :=
  ⟨_, T, rfl, new_mine w0, hb, ⟨none, 0, rfl, Nat.le_refl _, Nat.zero_le _, fun _ => ⟨rfl, rfl⟩, .inl rfl⟩, .inl rfl⟩
/-- What a tree's step keeps: a box that was made last. -/
theorem qp_put_box (q : QP w0 l lv l2 w1) (hl : l.length ≤ 340) (k : Val) (v : Int) (hs : k.s.size ≤ maxLen) (ob : Obj) : Calls Try.prog 16 #[.pointer (some ⟨w0.heap.size, 0, none⟩), V k.t k.n k.s, .int .i64 v] (w1.alloc ob) fun e w' => e = .returned (.bool (rightX k && !hasP k l)) ∧ QP w0 (insK k v l) lv l2 w' ∧ w1.heap.size < w'.heap.size ∧ ∀ j, w'.cell? ⟨w1.heap.size, j, none⟩ = (w1.alloc ob).cell? ⟨w1.heap.size, j, none⟩ := by
  obtain ⟨h0, t0, hp0, hm0, hb0, h50, h60⟩ := q
  have ha := alloc1 w1 ob
  have t := t0.below ha
  have := tr_put t hl k v hs
  rw [hp0] at this
  exact this.mono fun e w' ⟨he, h', t', vv⟩ => ⟨he, QP.moved hp0 hm0 (on hb0 ha) (h50.below ha) (h60.imp id fun hx g hg => ⟨Nat.lt_of_lt_of_le (hx g hg).1 ha.size, (hx g hg).2⟩) t' vv, by have := vv.sv.size; simp at this; omega, fun j => vv.sv.cell (p := ⟨w1.heap.size, j, none⟩) (by simp) fun hh => by have := t0.lt _ hh; exact absurd this (Nat.lt_irrefl _)⟩
theorem qp_del_box (q : QP w0 l lv l2 w1) (hl : l.length ≤ 400) (k : Val) (hs : k.s.size ≤ maxLen) (ob : Obj) : Calls Try.prog 18 #[.pointer (some ⟨w0.heap.size, 0, none⟩), V k.t k.n k.s] (w1.alloc ob) fun e w' => e = .returned (.bool (hasP k l)) ∧ QP w0 (delP k l) lv l2 w' ∧ w1.heap.size < w'.heap.size ∧ ∀ j, w'.cell? ⟨w1.heap.size, j, none⟩ = (w1.alloc ob).cell? ⟨w1.heap.size, j, none⟩ := by
  obtain ⟨h0, t0, hp0, hm0, hb0, h50, h60⟩ := q
  have ha := alloc1 w1 ob
  have t := t0.below ha
  have := tr_del t hl k hs
  rw [hp0] at this
  exact this.mono fun e w' ⟨he, h', t', vv⟩ => ⟨he, QP.moved hp0 hm0 (on hb0 ha) (h50.below ha) (h60.imp id fun hx g hg => ⟨Nat.lt_of_lt_of_le (hx g hg).1 ha.size, (hx g hg).2⟩) t' vv, by have := vv.sv.size; simp at this; omega, fun j => vv.sv.cell (p := ⟨w1.heap.size, j, none⟩) (by simp) fun hh => by have := t0.lt _ hh; exact absurd this (Nat.lt_irrefl _)⟩
end
end Go.Proofs.Ytooblmldmbbejaa.Val
/- What the law's done answers: an act over a tree and over the reference's row. -/
namespace Go.Proofs.Ytooblmldmbbejaa.Val
open Go Go.RowKit

/-- What an act makes of the pairs. -/
def actP (a : AcP) (l : List Pr) : List Pr := if a.del then delP a.k l else insK a.k a.v l
theorem actP_len {l : List Pr} (hr : Rises l) (hg : Rights l) (a : AcP) : (actP a l).length ≤ l.length + 1 := by
  unfold actP
  split
  · exact Nat.le_trans (List.length_filter_le ..) (Nat.le_succ _)
  · rw [len_insK hr hg]; split <;> omega
abbrev aobj (a : AcP) : Obj := .cells #[.bool a.del, .bool a.k.t, .int .i64 a.k.n, .string a.k.s, .int .i64 a.v] 32 (0, 0)
set_option maxHeartbeats 4000000 in
theorem done_any {w0 w1 : World} {l : List Pr} {lv : Value} (q : QP w0 l lv l w1) (hl : l.length ≤ 300) (a : AcP) (hs : a.k.s.size ≤ maxLen) :
    Calls Try.prog 9 #[.pointer (some ⟨w0.heap.size, 0, none⟩), lv, a.val] w1 fun e w' => ∃ lv', e = .returned (.tuple #[lv', .bool true]) ∧ QP w0 (actP a l) lv' (actP a l) w' := by
  have hri := q.rises
  obtain ⟨ad, k, v⟩ := a
  cases ad
  · have HP : Hid (Calls Try.prog 16 #[.pointer (some ⟨w0.heap.size, 0, none⟩), V k.t k.n k.s, .int .i64 v] (w1.alloc (aobj ⟨false, k, v⟩)) fun e w' => e = .returned (.bool (rightX k && !hasP k l)) ∧ QP w0 (insK k v l) lv l w' ∧ w1.heap.size < w'.heap.size ∧ ∀ j, w'.cell? ⟨w1.heap.size, j, none⟩ = (w1.alloc (aobj ⟨false, k, v⟩)).cell? ⟨w1.heap.size, j, none⟩) := qp_put_box q (by omega) k v hs _
    have HR : Hid (∀ W, QP w0 (insK k v l) lv l W → Calls Try.prog 23 #[lv, V k.t k.n k.s, .int .i64 v] W fun e w' => ∃ lv', e = .returned (.tuple #[lv', .bool (rightX k && !hasP k l)]) ∧ QP w0 (insK k v l) lv' (insK k v l) w') := fun W q' => qp_rput q' (by omega) k v hs hri.1 hri.2
    simp only [actP, Bool.false_eq_true, if_false]
    generalize (rightX k && !hasP k l) = bb at *
    clear q hri hl hs
    unfold AcP.val
    go_enter Try.func9, Try.ntmps9
    go_wp2_with fail
    refine Calls.mono HP.out ?_
    rintro e w2 ⟨rfl, q2, h2, hc⟩
    have HQ : Hid (QP w0 (insK k v l) lv l w2) := q2
    have c1 : w2.cell? ⟨w1.heap.size, 1, none⟩ = some (.bool k.t) := by rw [hc]; simp [go_sem]
    have c2 : w2.cell? ⟨w1.heap.size, 2, none⟩ = some (.int .i64 k.n) := by rw [hc]; simp [go_sem]
    have c3 : w2.cell? ⟨w1.heap.size, 3, none⟩ = some (.string k.s) := by rw [hc]; simp [go_sem]
    have c4 : w2.cell? ⟨w1.heap.size, 4, none⟩ = some (.int .i64 v) := by rw [hc]; simp [go_sem]
    clear hc q2 HP
    go_wp2_with fail
    refine Calls.mono (HR.out _ HQ.out) ?_
    rintro e w3 ⟨lv', rfl, q3⟩
    have HQ3 : Hid (QP w0 (insK k v l) lv' (insK k v l) w3) := q3
    clear q3 HQ HR c1 c2 c3 c4 h2
    cases bb
    all_goals
      go_wp2_with fail
      go_ret2
      exact ⟨_, rfl, HQ3.out⟩
  · have HP : Hid (Calls Try.prog 18 #[.pointer (some ⟨w0.heap.size, 0, none⟩), V k.t k.n k.s] (w1.alloc (aobj ⟨true, k, v⟩)) fun e w' => e = .returned (.bool (hasP k l)) ∧ QP w0 (delP k l) lv l w' ∧ w1.heap.size < w'.heap.size ∧ ∀ j, w'.cell? ⟨w1.heap.size, j, none⟩ = (w1.alloc (aobj ⟨true, k, v⟩)).cell? ⟨w1.heap.size, j, none⟩) := qp_del_box q (by omega) k hs _
    have HR : Hid (∀ W, QP w0 (delP k l) lv l W → Calls Try.prog 22 #[lv, V k.t k.n k.s] W fun e w' => ∃ lv', e = .returned (.tuple #[lv', .bool (hasP k l)]) ∧ QP w0 (delP k l) lv' (delP k l) w') := fun W q' => qp_rdel q' (by omega) k
    simp only [actP, if_true]
    generalize hasP k l = bb at *
    clear q hri hl hs
    unfold AcP.val
    go_enter Try.func9, Try.ntmps9
    go_wp2_with fail
    refine Calls.mono HP.out ?_
    rintro e w2 ⟨rfl, q2, h2, hc⟩
    have HQ : Hid (QP w0 (delP k l) lv l w2) := q2
    have c1 : w2.cell? ⟨w1.heap.size, 1, none⟩ = some (.bool k.t) := by rw [hc]; simp [go_sem]
    have c2 : w2.cell? ⟨w1.heap.size, 2, none⟩ = some (.int .i64 k.n) := by rw [hc]; simp [go_sem]
    have c3 : w2.cell? ⟨w1.heap.size, 3, none⟩ = some (.string k.s) := by rw [hc]; simp [go_sem]
    clear hc q2 HP
    go_wp2_with fail
    refine Calls.mono (HR.out _ HQ.out) ?_
    rintro e w3 ⟨lv', rfl, q3⟩
    have HQ3 : Hid (QP w0 (delP k l) lv' (delP k l) w3) := q3
    clear q3 HQ HR c1 c2 c3 h2
    cases bb
    all_goals
      go_wp2_with fail
      go_ret2
      exact ⟨_, rfl, HQ3.out⟩
end Go.Proofs.Ytooblmldmbbejaa.Val
