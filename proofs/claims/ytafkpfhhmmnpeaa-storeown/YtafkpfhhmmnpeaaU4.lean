/- What the tree's find and way answer: the place of a key in a row that rises. -/
import Derived.Test.YtafkpfhhmmnpeaaU2
import Derived.Deep.MidRow
import Derived.Test.YtafkpfhhmmnpeaaU3
import Derived.Test.YtafkpfhhmmnpeaaU1
namespace Go.Proofs.Ytafkpfhhmmnpeaa.Val
open Go Go.RowKit
set_option maxRecDepth 100000

/-- Where a key stands in a row, or would stand. -/
def place (k : Val) (r : List It) : Nat := r.findIdx fun x => decide (0 ≤ cmpX x.k k)
def there (k : Val) (r : List It) : Bool := match r[place k r]? with
  | some x => decide (cmpX x.k k = 0)
  | none => false
def wayP (k : Val) (r : List It) : Nat := if there k r then place k r else place k r - 1
def RisesI (r : List It) : Prop := r.Pairwise fun a b => cmpX a.k b.k < 0
theorem place_le (k : Val) (r : List It) : place k r ≤ r.length := List.findIdx_le_length
theorem place_of {k : Val} {r : List It} {i : Nat} (hi : i ≤ r.length) (h1 : ∀ j (h : j < r.length), j < i → cmpX r[j].k k < 0) (h2 : ∀ j (h : j < r.length), i ≤ j → 0 ≤ cmpX r[j].k k) : place k r = i := by
  rcases Nat.lt_or_ge i r.length with h | h
  · refine (List.findIdx_eq h).2 ⟨?_, fun j hj => ?_⟩
    · simpa using h2 i h (Nat.le_refl _)
    · have := h1 j (by omega) hj
      simp; omega
  · have e : i = r.length := by omega
    subst e
    refine List.findIdx_eq_length.2 fun x hx => ?_
    obtain ⟨j, hj, rfl⟩ := List.getElem_of_mem hx
    have := h1 j hj hj
    simp; omega
theorem there_at {k : Val} {r : List It} {i : Nat} (hp : place k r = i) (hi : i < r.length) : there k r = decide (cmpX r[i].k k = 0) := by
  unfold there; rw [hp, List.getElem?_eq_getElem hi]
theorem there_end {k : Val} {r : List It} (hp : place k r = r.length) : there k r = false := by
  unfold there; rw [hp, List.getElem?_eq_none (Nat.le_refl _)]
theorem rises_lt {r : List It} (h : RisesI r) {i j : Nat} (hij : i < j) (hj : j < r.length) : cmpX r[i].k r[j].k < 0 := List.pairwise_iff_getElem.1 h i j (by omega) hj hij

/-- The cells of an item in a row. -/
structure ItAt (w : World) (b o : Nat) (x : It) : Prop where
  c0 : w.cell? ⟨b, o, none⟩ = some (.bool x.k.t)
  c1 : w.cell? ⟨b, o + 1, none⟩ = some (.int .i64 x.k.n)
  c2 : w.cell? ⟨b, o + 2, none⟩ = some (.string x.k.s)
  c3 : w.cell? ⟨b, o + 3, none⟩ = some (.bool x.v.a.t)
  c4 : w.cell? ⟨b, o + 4, none⟩ = some (.int .i64 x.v.a.n)
  c5 : w.cell? ⟨b, o + 5, none⟩ = some (.string x.v.a.s)
  c6 : w.cell? ⟨b, o + 6, none⟩ = some (.bool x.v.b.t)
  c7 : w.cell? ⟨b, o + 7, none⟩ = some (.int .i64 x.v.b.n)
  c8 : w.cell? ⟨b, o + 8, none⟩ = some (.string x.v.b.s)
  c9 : w.cell? ⟨b, o + 9, none⟩ = some (.bool x.v.c.t)
  c10 : w.cell? ⟨b, o + 10, none⟩ = some (.int .i64 x.v.c.n)
  c11 : w.cell? ⟨b, o + 11, none⟩ = some (.string x.v.c.s)
  c12 : w.cell? ⟨b, o + 12, none⟩ = some (.bool x.v.d.t)
  c13 : w.cell? ⟨b, o + 13, none⟩ = some (.int .i64 x.v.d.n)
  c14 : w.cell? ⟨b, o + 14, none⟩ = some (.string x.v.d.s)
  c15 : w.cell? ⟨b, o + 15, none⟩ = some (.int .i64 x.v.w)
  c16 : w.cell? ⟨b, o + 16, none⟩ = some (.int .i64 x.v.m)
  c17 : w.cell? ⟨b, o + 17, none⟩ = some (.int .i64 x.d)
/-- A node's row lies there. -/
def RowAt (w : World) (b o : Nat) (r : List It) : Prop := ∀ j u, (icells r)[j]? = some u → w.cell? ⟨b, o + j, none⟩ = some u
theorem RowAt.at {w : World} {b o : Nat} {r : List It} (h : RowAt w b o r) (i : Nat) (hi : i < r.length) : ItAt w b (o + i * 18) r[i] := by
  have key : ∀ s u, s < 18 → r[i].cells[s]? = some u → w.cell? ⟨b, o + i * 18 + s, none⟩ = some u := fun s u hs hu => by
    rw [Nat.add_assoc]
    exact h _ _ (by rw [flat_at _ 18 It.cells_length r i s hi hs]; exact hu)
  exact ⟨key 0 _ (by omega) rfl, key 1 _ (by omega) rfl, key 2 _ (by omega) rfl, key 3 _ (by omega) rfl, key 4 _ (by omega) rfl, key 5 _ (by omega) rfl, key 6 _ (by omega) rfl, key 7 _ (by omega) rfl, key 8 _ (by omega) rfl, key 9 _ (by omega) rfl, key 10 _ (by omega) rfl, key 11 _ (by omega) rfl, key 12 _ (by omega) rfl, key 13 _ (by omega) rfl, key 14 _ (by omega) rfl, key 15 _ (by omega) rfl, key 16 _ (by omega) rfl, key 17 _ (by omega) rfl⟩
theorem ItAt.there {w : World} {b o : Nat} {x : It} (h : ItAt w b o x) (hf : ∀ j, w.frozen? ⟨b, j, none⟩ = false) : w.there b o 18 := fun j hj => ⟨by
  match j, hj with
  | 0, _ => have e := h.c0; simp [e]
  | 1, _ => have e := h.c1; simp [e]
  | 2, _ => have e := h.c2; simp [e]
  | 3, _ => have e := h.c3; simp [e]
  | 4, _ => have e := h.c4; simp [e]
  | 5, _ => have e := h.c5; simp [e]
  | 6, _ => have e := h.c6; simp [e]
  | 7, _ => have e := h.c7; simp [e]
  | 8, _ => have e := h.c8; simp [e]
  | 9, _ => have e := h.c9; simp [e]
  | 10, _ => have e := h.c10; simp [e]
  | 11, _ => have e := h.c11; simp [e]
  | 12, _ => have e := h.c12; simp [e]
  | 13, _ => have e := h.c13; simp [e]
  | 14, _ => have e := h.c14; simp [e]
  | 15, _ => have e := h.c15; simp [e]
  | 16, _ => have e := h.c16; simp [e]
  | 17, _ => have e := h.c17; simp [e]
  | n + 18, hn => exact absurd hn (by omega), hf _⟩
theorem isize_I : (Try.prog.info? TI).map (·.size) = some 18 := by kernel_rfl
theorem RowAt.range {w : World} {b o : Nat} {r : List It} (h : RowAt w b o r) (i : Nat) (hi : i < r.length) : w.rangeAt b (o + i * 18) r[i].cells := fun s u hu => by
  have hs : s < 18 := (List.getElem?_eq_some_iff.1 hu).1
  rw [Nat.add_assoc]
  exact h _ _ (by rw [flat_at _ 18 It.cells_length r i s hi hs]; exact hu)
theorem RowAt.below {w w' : World} {b o : Nat} {r : List It} (h : RowAt w b o r) (hb : Below w.heap.size w w') : RowAt w' b o r := fun j u hj => by
  have := h j u hj
  rw [hb.cell (World.block_lt_of_cell? w _ this)]; exact this
theorem RowAt.seg {w : World} {b o : Nat} {cur : List Value} {t : TypeId} {r : List It} (hg : w.heap[b]? = some (.cells cur.toArray t (0, 0))) (h : Seg cur o (icells r)) : RowAt w b o r := fun j u hj => by
  simp [World.cell?, hg, h j u hj]

set_option maxHeartbeats 1000000 in
theorem findf_any (x : It) (k : Val) (w : World) : Calls Try.prog 70 #[x.val, V k.t k.n k.s] w fun e w' => e = .returned (.int .i64 (cmpX x.k k)) ∧ Below w.heap.size w w' := by
  have H : Hid (∀ w1, Calls Try.prog 71 #[V x.k.t x.k.n x.k.s, V k.t k.n k.s] w1 fun e w' => e = .returned (.int .i64 (cmpX x.k k)) ∧ Below w1.heap.size w1 w') := cmpX_any x.k k
  go_enter Try.func70, Try.ntmps70
  go_wp2_with fail
  refine Calls.mono (H.out _) ?_
  rintro e w1 ⟨rfl, hb⟩
  go_wp2_with fail
  go_ret
  exact ⟨rfl, back2 hb⟩
set_option maxHeartbeats 2000000 in
theorem search_any (g o : Nat) (r : List It) (k : Val) (w : World) (hr : RowAt w g o r) (hl : r.length ≤ 5) (hrise : RisesI r) :
    Calls Try.prog 69 #[.slice (some ⟨g, o, none⟩) r.length 5, V k.t k.n k.s, FV 70 #[] #[]] w fun e w' => e = .returned (.tuple #[.int .i64 (place k r), .bool (there k r)]) ∧ Below w.heap.size w w' := by
  have HR : Hid (RowAt w g o r ∧ RisesI r) := ⟨hr, hrise⟩
  have H : Hid (∀ (x : It) w1, Calls Try.prog 70 #[x.val, V k.t k.n k.s] w1 fun e w' => e = .returned (.int .i64 (cmpX x.k k)) ∧ Below w1.heap.size w1 w') := fun x w1 => findf_any x k w1
  obtain ⟨pl, hpl⟩ : ∃ pl, place k r = pl := ⟨_, rfl⟩
  obtain ⟨th, hth⟩ : ∃ th, there k r = th := ⟨_, rfl⟩
  rw [hpl, hth]
  have HA : Hid (place k r = pl ∧ there k r = th) := ⟨hpl, hth⟩
  clear hr hrise hpl hth
  go_enter Try.func69, Try.ntmps69
  go_wp2_with fail
  go_loopw [9, 10] (fun i j wr => ∃ a b : Nat, a ≤ b ∧ b ≤ r.length ∧ i = .int .i64 a ∧ j = .int .i64 b ∧ Hid ((∀ s (h : s < r.length), s < a → cmpX r[s].k k < 0) ∧ (∀ s (h : s < r.length), b ≤ s → 0 ≤ cmpX r[s].k k)) ∧ Hid (Below w.heap.size w wr ∧ VBox wr w.heap.size k))
    (fun i j _ => (intOf j - intOf i).toNat)
  case atStart => exact ⟨0, r.length, Nat.zero_le _, Nat.le_refl _, rfl, rfl, ⟨fun s _ h => by omega, fun s h h' => by omega⟩, (Below.refl _ _).alloc (Nat.le_refl _) _, VBox.new _ _ _⟩
  case round =>
    obtain ⟨a, b, hab, hb5, rfl, rfl, HP, HW⟩ := hrel
    obtain ⟨v0, v1, v2⟩ := HW.out.2
    have hE : ∀ args w, (callFunc 70 args).run Try.prog w = .ok (.enter 70 args) w := by
      exact enters_of Try.func70 rfl rfl
    by_cases h1 : a < b
    · have i1 : (a : Int) < (b : Int) := by omega
      obtain ⟨M, hM⟩ : ∃ M : Nat, M = (a + b) / 2 := ⟨_, rfl⟩
      have hM2 : ((a : Int) + (b : Int)) / 2 = (M : Int) := by omega
      have hMb : M < b := by omega
      have haM : a ≤ M := by omega
      have m0 : (0 : Int) ≤ (M : Int) := by omega
      have m1 : (M : Int) < (r.length : Int) := by omega
      have hMr : M < r.length := by omega
      have HS : Hid (∀ w', Below wr.heap.size wr w' → (w'.rangeAt g (o + M * 18) r[M].cells ∧ w'.cell? ⟨w.heap.size, 0, none⟩ = some (.bool k.t) ∧ w'.cell? ⟨w.heap.size, 1, none⟩ = some (.int .i64 k.n) ∧ w'.cell? ⟨w.heap.size, 2, none⟩ = some (.string k.s))) := fun w' hb => by
        have c0 := (HR.out.1.below (HW.out.1.trans (hb.mono HW.out.1.size))).range M hMr
        obtain ⟨v0, v1, v2⟩ := HW.out.2.below hb
        exact ⟨c0, v0, v1, v2⟩
      have HN1 : Hid (cmpX r[M].k k < 0 → (∀ s (h : s < r.length), s < M + 1 → cmpX r[s].k k < 0)) := fun hc s h hs => by
        rcases Nat.lt_or_ge s M with h' | h'
        · exact ltX_trans (rises_lt HR.out.2 h' hMr) hc
        · obtain rfl : s = M := by omega
          exact hc
      have HN2 : Hid (¬ cmpX r[M].k k < 0 → (∀ s (h : s < r.length), M ≤ s → 0 ≤ cmpX r[s].k k)) := fun hc s h hs => by
        rcases Nat.lt_or_ge M s with h' | h'
        · rcases Int.lt_or_le (cmpX r[s].k k) 0 with h2 | h2
          · exact absurd (ltX_trans (rises_lt HR.out.2 h' h) h2) hc
          · exact h2
        · obtain rfl : s = M := by omega
          omega
      have HM : Hid (M = (a + b) / 2 ∧ M < b ∧ a ≤ M ∧ M < r.length ∧ a ≤ b ∧ b ≤ r.length) := ⟨hM, hMb, haM, hMr, hab, hb5⟩
      have HC : Hid (∀ w1, Calls Try.prog 70 #[.agg r[M].cells.toArray, V k.t k.n k.s] w1 fun e w' => e = .returned (.int .i64 (cmpX r[M].k k)) ∧ Below w1.heap.size w1 w') := fun w1 => H.out _ w1
      obtain ⟨cc, hcc⟩ : ∃ cc, cmpX r[M].k k = cc := ⟨_, rfl⟩
      rw [hcc] at HC HN1 HN2
      clear v0 v1 v2 hM hMb haM hab H hcc
      obtain ⟨cs, hcs⟩ : ∃ cs, r[M].cells = cs := ⟨_, rfl⟩
      have hcl : cs.length = 18 := by rw [← hcs]; rfl
      rw [hcs] at HS HC
      clear hcs
      go_wp2_with fail
      refine wp_region_held_drew (S := fun w' => w'.rangeAt g (o + M * 18) cs ∧ w'.cell? ⟨w.heap.size, 0, none⟩ = some (.bool k.t) ∧ w'.cell? ⟨w.heap.size, 1, none⟩ = some (.int .i64 k.n) ∧ w'.cell? ⟨w.heap.size, 2, none⟩ = some (.string k.s)) (by kernel_rfl) ?_ (fun hHeld => ?_)
      · exact HS.out _ (Below.refl _ _).drew
      (try clear hK K)
      refine wpAnyH_take (i := 0) (v := ?_) rfl (by kernel_rfl) (by kernel_rfl) (by kernel_rfl) (fun _ _ _ h => h) (Or.inl ⟨by rfl, ?_⟩) (by assumption) ?_
      rotate_left
      · intro w hSw; (try dsimp only at hSw); go_simp; (try with_reducible rfl)
      (try simp only [Act.put, List.getElem_toArray, List.getElem_cons_zero, List.setIfInBounds_toArray, List.set_cons_zero, List.set_cons_succ])
      refine wpAnyH_take (i := 1) (v := ?_) rfl (by kernel_rfl) (by kernel_rfl) (by kernel_rfl) (fun _ _ _ h => h) (Or.inl ⟨by rfl, ?_⟩) (by assumption) ?_
      rotate_left
      · intro w hSw; (try dsimp only at hSw); go_simp; (try with_reducible rfl)
      (try simp only [Act.put, List.getElem_toArray, List.getElem_cons_succ, List.getElem_cons_zero, List.setIfInBounds_toArray, List.set_cons_zero, List.set_cons_succ])
      refine wpAnyH_take (i := 2) (v := ?_) rfl (by kernel_rfl) (by kernel_rfl) (by kernel_rfl) (fun _ _ _ h => h) (Or.inl ⟨by rfl, ?_⟩) (by assumption) ?_
      rotate_left
      · intro w hSw; (try dsimp only at hSw); go_simp; (try with_reducible rfl)
      (try simp only [Act.put, List.getElem_toArray, List.getElem_cons_succ, List.getElem_cons_zero, List.setIfInBounds_toArray, List.set_cons_zero, List.set_cons_succ])
      refine wpAnyH_take (i := 3) (v := ?_) rfl (by kernel_rfl) (by kernel_rfl) (by kernel_rfl) (fun _ _ _ h => h) (Or.inl ⟨by rfl, ?_⟩) (by assumption) ?_
      rotate_left
      · intro w hSw; (try dsimp only at hSw); go_simp; (try with_reducible rfl)
      (try simp only [Act.put, List.getElem_toArray, List.getElem_cons_succ, List.getElem_cons_zero, List.setIfInBounds_toArray, List.set_cons_zero, List.set_cons_succ])
      (try clear hK K)
      refine wpAnyH_take (i := 4) (v := .agg (cs).toArray) rfl (by kernel_rfl) (by kernel_rfl) (by kernel_rfl) (fun _ _ _ h => h) (yieldsIf_load_mid (by rfl) 105 _ rfl g (o + M * 18) rfl (cs) _ (fun _ h => h.1) Try.underlying105 rfl (by rw [hcl]; exact isize_I)) (by assumption) ?_
      (try simp only [Act.put, List.getElem_toArray, List.getElem_cons_succ, List.getElem_cons_zero, List.setIfInBounds_toArray, List.set_cons_zero, List.set_cons_succ])
      (try clear hK K)
      refine wpAnyH_take (i := 5) (v := ?_) rfl (by kernel_rfl) (by kernel_rfl) (by kernel_rfl) (fun _ _ _ h => h) (Or.inl ⟨by rfl, ?_⟩) (by assumption) ?_
      rotate_left
      · intro w hSw; (try dsimp only at hSw); go_simp; (try with_reducible rfl)
      (try simp only [Act.put, List.getElem_toArray, List.getElem_cons_succ, List.getElem_cons_zero, List.setIfInBounds_toArray, List.set_cons_zero, List.set_cons_succ])
      (try clear hK K)
      refine wpAnyH_ready (rs := [6]) (by kernel_rfl) (by simp) ?_
      refine AllReadyH.cons rfl (fun K hK => ?_) AllReadyH.nil
      go_simp
      (refine Calls.mono (HC.out _) ?_; rintro e w1 ⟨rfl, hb⟩)
      refine hK.out _ _ ?_ (fun hHeld => ?_)
      · exact HS.out _ ((Below.refl _ _).drew.trans hb)
      have HB1 : Hid (Below w.heap.size w w1 ∧ VBox w1 w.heap.size k) := ⟨HW.out.1.trans (((Below.refl _ _).drew.trans hb).mono HW.out.1.size), HW.out.2.below ((Below.refl _ _).drew.trans hb)⟩
      clear hb HS
      (try clear hK K)
      refine wpAnyH_take (i := 7) (v := ?_) rfl (by kernel_rfl) (by kernel_rfl) (by kernel_rfl) (fun _ _ _ h => h) (Or.inl ⟨by rfl, ?_⟩) (by assumption) ?_
      rotate_left
      · intro w hSw; (try dsimp only at hSw); go_simp; (try with_reducible rfl)
      (try simp only [Act.put, List.getElem_toArray, List.getElem_cons_succ, List.getElem_cons_zero, List.setIfInBounds_toArray, List.set_cons_zero, List.set_cons_succ])
      (try clear hK K)
      refine wpAnyH_done (by kernel_rfl) ?_ _
      by_cases hc : cc < 0
      · have HX : Hid _ := HN1.out hc
        go_wp2_with fail
        go_roundw
        case rel => exact ⟨M + 1, b, by have := HM.out; omega, by have := HM.out; omega, by go_num, rfl, ⟨HX.out, HP.out.2⟩, HB1⟩
        case measure => have := HM.out; simp [intOf]; omega
      · have HX : Hid _ := HN2.out (by omega)
        have hc' : decide (cc < 0) = false := by simp; omega
        go_wp2_with fail
        go_roundw
        case rel => exact ⟨a, M, by have := HM.out; omega, by have := HM.out; omega, rfl, rfl, ⟨HP.out.1, HX.out⟩, HB1⟩
        case measure => have := HM.out; simp [intOf]; omega
    · have i1 : decide ((a : Int) < (b : Int)) = false := by simp; omega
      obtain rfl : a = b := by omega
      have hp : place k r = a := place_of hb5 HP.out.1 HP.out.2
      have e1 : pl = a := HA.out.1.symm.trans hp
      by_cases h2 : a < r.length
      · have ht := HA.out.2.symm.trans (there_at hp h2)
        have m0 : (0 : Int) ≤ (a : Int) := by omega
        have m1 : (a : Int) < (r.length : Int) := by omega
        have HS : Hid (∀ w', Below wr.heap.size wr w' → (w'.rangeAt g (o + a * 18) r[a].cells ∧ w'.cell? ⟨w.heap.size, 0, none⟩ = some (.bool k.t) ∧ w'.cell? ⟨w.heap.size, 1, none⟩ = some (.int .i64 k.n) ∧ w'.cell? ⟨w.heap.size, 2, none⟩ = some (.string k.s))) := fun w' hb => by
          have c0 := (HR.out.1.below (HW.out.1.trans (hb.mono HW.out.1.size))).range a h2
          obtain ⟨v0, v1, v2⟩ := HW.out.2.below hb
          exact ⟨c0, v0, v1, v2⟩
        have HC : Hid (∀ w1, Calls Try.prog 70 #[.agg r[a].cells.toArray, V k.t k.n k.s] w1 fun e w' => e = .returned (.int .i64 (cmpX r[a].k k)) ∧ Below w1.heap.size w1 w') := fun w1 => H.out _ w1
        obtain ⟨cc, hcc⟩ : ∃ cc, cmpX r[a].k k = cc := ⟨_, rfl⟩
        rw [hcc] at HC ht
        have HE : Hid (pl = a ∧ th = decide (cc = 0)) := ⟨e1, ht⟩
        clear v0 v1 v2 H hcc ht hp hab HA e1
        obtain ⟨cs, hcs⟩ : ∃ cs, r[a].cells = cs := ⟨_, rfl⟩
        have hcl : cs.length = 18 := by rw [← hcs]; rfl
        rw [hcs] at HS HC
        clear hcs
        go_wp2_with fail
        refine wp_region_held_drew (S := fun w' => w'.rangeAt g (o + a * 18) cs ∧ w'.cell? ⟨w.heap.size, 0, none⟩ = some (.bool k.t) ∧ w'.cell? ⟨w.heap.size, 1, none⟩ = some (.int .i64 k.n) ∧ w'.cell? ⟨w.heap.size, 2, none⟩ = some (.string k.s)) (by kernel_rfl) ?_ (fun hHeld => ?_)
        · exact HS.out _ (Below.refl _ _).drew
        (try clear hK K)
        refine wpAnyH_take (i := 0) (v := ?_) rfl (by kernel_rfl) (by kernel_rfl) (by kernel_rfl) (fun _ _ _ h => h) (Or.inl ⟨by rfl, ?_⟩) (by assumption) ?_
        rotate_left
        · intro w hSw; (try dsimp only at hSw); go_simp; (try with_reducible rfl)
        (try simp only [Act.put, List.getElem_toArray, List.getElem_cons_zero, List.setIfInBounds_toArray, List.set_cons_zero, List.set_cons_succ])
        refine wpAnyH_take (i := 1) (v := ?_) rfl (by kernel_rfl) (by kernel_rfl) (by kernel_rfl) (fun _ _ _ h => h) (Or.inl ⟨by rfl, ?_⟩) (by assumption) ?_
        rotate_left
        · intro w hSw; (try dsimp only at hSw); go_simp; (try with_reducible rfl)
        (try simp only [Act.put, List.getElem_toArray, List.getElem_cons_succ, List.getElem_cons_zero, List.setIfInBounds_toArray, List.set_cons_zero, List.set_cons_succ])
        refine wpAnyH_take (i := 2) (v := ?_) rfl (by kernel_rfl) (by kernel_rfl) (by kernel_rfl) (fun _ _ _ h => h) (Or.inl ⟨by rfl, ?_⟩) (by assumption) ?_
        rotate_left
        · intro w hSw; (try dsimp only at hSw); go_simp; (try with_reducible rfl)
        (try simp only [Act.put, List.getElem_toArray, List.getElem_cons_succ, List.getElem_cons_zero, List.setIfInBounds_toArray, List.set_cons_zero, List.set_cons_succ])
        refine wpAnyH_take (i := 3) (v := ?_) rfl (by kernel_rfl) (by kernel_rfl) (by kernel_rfl) (fun _ _ _ h => h) (Or.inl ⟨by rfl, ?_⟩) (by assumption) ?_
        rotate_left
        · intro w hSw; (try dsimp only at hSw); go_simp; (try with_reducible rfl)
        (try simp only [Act.put, List.getElem_toArray, List.getElem_cons_succ, List.getElem_cons_zero, List.setIfInBounds_toArray, List.set_cons_zero, List.set_cons_succ])
        refine wpAnyH_take (i := 4) (v := ?_) rfl (by kernel_rfl) (by kernel_rfl) (by kernel_rfl) (fun _ _ _ h => h) (Or.inl ⟨by rfl, ?_⟩) (by assumption) ?_
        rotate_left
        · intro w hSw; (try dsimp only at hSw); go_simp; (try with_reducible rfl)
        (try simp only [Act.put, List.getElem_toArray, List.getElem_cons_succ, List.getElem_cons_zero, List.setIfInBounds_toArray, List.set_cons_zero, List.set_cons_succ])
        refine wpAnyH_take (i := 5) (v := ?_) rfl (by kernel_rfl) (by kernel_rfl) (by kernel_rfl) (fun _ _ _ h => h) (Or.inl ⟨by rfl, ?_⟩) (by assumption) ?_
        rotate_left
        · intro w hSw; (try dsimp only at hSw); go_simp; (try with_reducible rfl)
        (try simp only [Act.put, List.getElem_toArray, List.getElem_cons_succ, List.getElem_cons_zero, List.setIfInBounds_toArray, List.set_cons_zero, List.set_cons_succ])
        refine wpAnyH_take (i := 6) (v := ?_) rfl (by kernel_rfl) (by kernel_rfl) (by kernel_rfl) (fun _ _ _ h => h) (Or.inl ⟨by rfl, ?_⟩) (by assumption) ?_
        rotate_left
        · intro w hSw; (try dsimp only at hSw); go_simp; (try with_reducible rfl)
        (try simp only [Act.put, List.getElem_toArray, List.getElem_cons_succ, List.getElem_cons_zero, List.setIfInBounds_toArray, List.set_cons_zero, List.set_cons_succ])
        refine wpAnyH_take (i := 7) (v := ?_) rfl (by kernel_rfl) (by kernel_rfl) (by kernel_rfl) (fun _ _ _ h => h) (Or.inl ⟨by rfl, ?_⟩) (by assumption) ?_
        rotate_left
        · intro w hSw; (try dsimp only at hSw); go_simp; (try with_reducible rfl)
        (try simp only [Act.put, List.getElem_toArray, List.getElem_cons_succ, List.getElem_cons_zero, List.setIfInBounds_toArray, List.set_cons_zero, List.set_cons_succ])
        refine wpAnyH_take (i := 8) (v := ?_) rfl (by kernel_rfl) (by kernel_rfl) (by kernel_rfl) (fun _ _ _ h => h) (Or.inl ⟨by rfl, ?_⟩) (by assumption) ?_
        rotate_left
        · intro w hSw; (try dsimp only at hSw); go_simp; (try with_reducible rfl)
        (try simp only [Act.put, List.getElem_toArray, List.getElem_cons_succ, List.getElem_cons_zero, List.setIfInBounds_toArray, List.set_cons_zero, List.set_cons_succ])
        (try clear hK K)
        refine wpAnyH_take (i := 9) (v := .agg (cs).toArray) rfl (by kernel_rfl) (by kernel_rfl) (by kernel_rfl) (fun _ _ _ h => h) (yieldsIf_load_mid (by rfl) 105 _ rfl g (o + a * 18) rfl (cs) _ (fun _ h => h.1) Try.underlying105 rfl (by rw [hcl]; exact isize_I)) (by assumption) ?_
        (try simp only [Act.put, List.getElem_toArray, List.getElem_cons_succ, List.getElem_cons_zero, List.setIfInBounds_toArray, List.set_cons_zero, List.set_cons_succ])
        (try clear hK K)
        refine wpAnyH_take (i := 10) (v := ?_) rfl (by kernel_rfl) (by kernel_rfl) (by kernel_rfl) (fun _ _ _ h => h) (Or.inl ⟨by rfl, ?_⟩) (by assumption) ?_
        rotate_left
        · intro w hSw; (try dsimp only at hSw); go_simp; (try with_reducible rfl)
        (try simp only [Act.put, List.getElem_toArray, List.getElem_cons_succ, List.getElem_cons_zero, List.setIfInBounds_toArray, List.set_cons_zero, List.set_cons_succ])
        (try clear hK K)
        refine wpAnyH_ready (rs := [11]) (by kernel_rfl) (by simp) ?_
        refine AllReadyH.cons rfl (fun K hK => ?_) AllReadyH.nil
        go_simp
        (refine Calls.mono (HC.out _) ?_; rintro e w1 ⟨rfl, hb⟩)
        refine hK.out _ _ ?_ (fun hHeld => ?_)
        · exact HS.out _ ((Below.refl _ _).drew.trans hb)
        have HB1 : Hid (Below w.heap.size w w1) := HW.out.1.trans (((Below.refl _ _).drew.trans hb).mono HW.out.1.size)
        clear hb HS
        (try clear hK K)
        refine wpAnyH_take (i := 12) (v := ?_) rfl (by kernel_rfl) (by kernel_rfl) (by kernel_rfl) (fun _ _ _ h => h) (Or.inl ⟨by rfl, ?_⟩) (by assumption) ?_
        rotate_left
        · intro w hSw; (try dsimp only at hSw); go_simp; (try with_reducible rfl)
        (try simp only [Act.put, List.getElem_toArray, List.getElem_cons_succ, List.getElem_cons_zero, List.setIfInBounds_toArray, List.set_cons_zero, List.set_cons_succ])
        refine wpAnyH_take (i := 13) (v := ?_) rfl (by kernel_rfl) (by kernel_rfl) (by kernel_rfl) (fun _ _ _ h => h) (Or.inl ⟨by rfl, ?_⟩) (by assumption) ?_
        rotate_left
        · intro w hSw; (try dsimp only at hSw); go_simp; (try with_reducible rfl)
        (try simp only [Act.put, List.getElem_toArray, List.getElem_cons_succ, List.getElem_cons_zero, List.setIfInBounds_toArray, List.set_cons_zero, List.set_cons_succ])
        refine wpAnyH_take (i := 14) (v := ?_) rfl (by kernel_rfl) (by kernel_rfl) (by kernel_rfl) (fun _ _ _ h => h) (Or.inl ⟨by rfl, ?_⟩) (by assumption) ?_
        rotate_left
        · intro w hSw; (try dsimp only at hSw); go_simp; (try with_reducible rfl)
        (try simp only [Act.put, List.getElem_toArray, List.getElem_cons_succ, List.getElem_cons_zero, List.setIfInBounds_toArray, List.set_cons_zero, List.set_cons_succ])
        refine wpAnyH_take (i := 15) (v := ?_) rfl (by kernel_rfl) (by kernel_rfl) (by kernel_rfl) (fun _ _ _ h => h) (Or.inl ⟨by rfl, ?_⟩) (by assumption) ?_
        rotate_left
        · intro w hSw; (try dsimp only at hSw); go_simp; (try with_reducible rfl)
        (try simp only [Act.put, List.getElem_toArray, List.getElem_cons_succ, List.getElem_cons_zero, List.setIfInBounds_toArray, List.set_cons_zero, List.set_cons_succ])
        (try clear hK K)
        refine wpAnyH_done (by kernel_rfl) ?_ _
        go_wp2_with fail
        go_ret2
        exact ⟨by rw [HE.out.1, HE.out.2]; rfl, HB1.out⟩
      · have ht : there k r = false := there_end (by rw [hp]; omega)
        have HE : Hid (pl = a ∧ th = false) := ⟨e1, HA.out.2.symm.trans ht⟩
        have m1 : decide ((a : Int) < (r.length : Int)) = false := by simp; omega
        have HB1 : Hid (Below w.heap.size w wr) := HW.out.1
        clear v0 v1 v2 H ht hp hab HA e1
        go_wp2_with fail
        refine wp_region_held_drew (S := fun _ => True) (by kernel_rfl) ?_ (fun hHeld => ?_)
        · trivial
        (try clear hK K)
        refine wpAnyH_take (i := 0) (v := ?_) rfl (by kernel_rfl) (by kernel_rfl) (by kernel_rfl) (fun _ _ _ h => h) (Or.inl ⟨by rfl, ?_⟩) (by assumption) ?_
        rotate_left
        · intro w hSw; (try dsimp only at hSw); go_simp; (try with_reducible rfl)
        (try simp only [Act.put, List.getElem_toArray, List.getElem_cons_zero, List.setIfInBounds_toArray, List.set_cons_zero, List.set_cons_succ])
        refine wpAnyH_take (i := 1) (v := ?_) rfl (by kernel_rfl) (by kernel_rfl) (by kernel_rfl) (fun _ _ _ h => h) (Or.inl ⟨by rfl, ?_⟩) (by assumption) ?_
        rotate_left
        · intro w hSw; (try dsimp only at hSw); go_simp; (try with_reducible rfl)
        (try simp only [Act.put, List.getElem_toArray, List.getElem_cons_succ, List.getElem_cons_zero, List.setIfInBounds_toArray, List.set_cons_zero, List.set_cons_succ])
        refine wpAnyH_take (i := 2) (v := ?_) rfl (by kernel_rfl) (by kernel_rfl) (by kernel_rfl) (fun _ _ _ h => h) (Or.inl ⟨by rfl, ?_⟩) (by assumption) ?_
        rotate_left
        · intro w hSw; (try dsimp only at hSw); go_simp; (try with_reducible rfl)
        (try simp only [Act.put, List.getElem_toArray, List.getElem_cons_succ, List.getElem_cons_zero, List.setIfInBounds_toArray, List.set_cons_zero, List.set_cons_succ])
        refine wpAnyH_take (i := 3) (v := ?_) rfl (by kernel_rfl) (by kernel_rfl) (by kernel_rfl) (fun _ _ _ h => h) (Or.inl ⟨by rfl, ?_⟩) (by assumption) ?_
        rotate_left
        · intro w hSw; (try dsimp only at hSw); go_simp; (try with_reducible rfl)
        (try simp only [Act.put, List.getElem_toArray, List.getElem_cons_succ, List.getElem_cons_zero, List.setIfInBounds_toArray, List.set_cons_zero, List.set_cons_succ])
        refine wpAnyH_take (i := 4) (v := ?_) rfl (by kernel_rfl) (by kernel_rfl) (by kernel_rfl) (fun _ _ _ h => h) (Or.inl ⟨by rfl, ?_⟩) (by assumption) ?_
        rotate_left
        · intro w hSw; (try dsimp only at hSw); go_simp; (try with_reducible rfl)
        (try simp only [Act.put, List.getElem_toArray, List.getElem_cons_succ, List.getElem_cons_zero, List.setIfInBounds_toArray, List.set_cons_zero, List.set_cons_succ])
        (try clear hK K)
        refine wpAnyH_take (i := 5) (v := undef) rfl (by kernel_rfl) (by kernel_rfl) (by kernel_rfl) (fun _ _ _ h => h) (Or.inr ⟨by rfl, rfl⟩) (by assumption) ?_
        (try simp only [Act.put, List.getElem_toArray, List.getElem_cons_succ, List.getElem_cons_zero, List.setIfInBounds_toArray, List.set_cons_zero, List.set_cons_succ])
        refine wpAnyH_take (i := 6) (v := undef) rfl (by kernel_rfl) (by kernel_rfl) (by kernel_rfl) (fun _ _ _ h => h) (Or.inr ⟨by rfl, rfl⟩) (by assumption) ?_
        (try simp only [Act.put, List.getElem_toArray, List.getElem_cons_succ, List.getElem_cons_zero, List.setIfInBounds_toArray, List.set_cons_zero, List.set_cons_succ])
        refine wpAnyH_take (i := 7) (v := undef) rfl (by kernel_rfl) (by kernel_rfl) (by kernel_rfl) (fun _ _ _ h => h) (Or.inr ⟨by rfl, rfl⟩) (by assumption) ?_
        (try simp only [Act.put, List.getElem_toArray, List.getElem_cons_succ, List.getElem_cons_zero, List.setIfInBounds_toArray, List.set_cons_zero, List.set_cons_succ])
        refine wpAnyH_take (i := 8) (v := undef) rfl (by kernel_rfl) (by kernel_rfl) (by kernel_rfl) (fun _ _ _ h => h) (Or.inr ⟨by rfl, rfl⟩) (by assumption) ?_
        (try simp only [Act.put, List.getElem_toArray, List.getElem_cons_succ, List.getElem_cons_zero, List.setIfInBounds_toArray, List.set_cons_zero, List.set_cons_succ])
        refine wpAnyH_take (i := 9) (v := undef) rfl (by kernel_rfl) (by kernel_rfl) (by kernel_rfl) (fun _ _ _ h => h) (Or.inr ⟨by rfl, rfl⟩) (by assumption) ?_
        (try simp only [Act.put, List.getElem_toArray, List.getElem_cons_succ, List.getElem_cons_zero, List.setIfInBounds_toArray, List.set_cons_zero, List.set_cons_succ])
        refine wpAnyH_take (i := 10) (v := undef) rfl (by kernel_rfl) (by kernel_rfl) (by kernel_rfl) (fun _ _ _ h => h) (Or.inr ⟨by rfl, rfl⟩) (by assumption) ?_
        (try simp only [Act.put, List.getElem_toArray, List.getElem_cons_succ, List.getElem_cons_zero, List.setIfInBounds_toArray, List.set_cons_zero, List.set_cons_succ])
        refine wpAnyH_take (i := 11) (v := undef) rfl (by kernel_rfl) (by kernel_rfl) (by kernel_rfl) (fun _ _ _ h => h) (Or.inr ⟨by rfl, rfl⟩) (by assumption) ?_
        (try simp only [Act.put, List.getElem_toArray, List.getElem_cons_succ, List.getElem_cons_zero, List.setIfInBounds_toArray, List.set_cons_zero, List.set_cons_succ])
        refine wpAnyH_take (i := 12) (v := undef) rfl (by kernel_rfl) (by kernel_rfl) (by kernel_rfl) (fun _ _ _ h => h) (Or.inr ⟨by rfl, rfl⟩) (by assumption) ?_
        (try simp only [Act.put, List.getElem_toArray, List.getElem_cons_succ, List.getElem_cons_zero, List.setIfInBounds_toArray, List.set_cons_zero, List.set_cons_succ])
        (try clear hK K)
        refine wpAnyH_take (i := 13) (v := ?_) rfl (by kernel_rfl) (by kernel_rfl) (by kernel_rfl) (fun _ _ _ h => h) (Or.inl ⟨by rfl, ?_⟩) (by assumption) ?_
        rotate_left
        · intro w hSw; (try dsimp only at hSw); go_simp; (try with_reducible rfl)
        (try simp only [Act.put, List.getElem_toArray, List.getElem_cons_succ, List.getElem_cons_zero, List.setIfInBounds_toArray, List.set_cons_zero, List.set_cons_succ])
        refine wpAnyH_take (i := 14) (v := ?_) rfl (by kernel_rfl) (by kernel_rfl) (by kernel_rfl) (fun _ _ _ h => h) (Or.inl ⟨by rfl, ?_⟩) (by assumption) ?_
        rotate_left
        · intro w hSw; (try dsimp only at hSw); go_simp; (try with_reducible rfl)
        (try simp only [Act.put, List.getElem_toArray, List.getElem_cons_succ, List.getElem_cons_zero, List.setIfInBounds_toArray, List.set_cons_zero, List.set_cons_succ])
        refine wpAnyH_take (i := 15) (v := ?_) rfl (by kernel_rfl) (by kernel_rfl) (by kernel_rfl) (fun _ _ _ h => h) (Or.inl ⟨by rfl, ?_⟩) (by assumption) ?_
        rotate_left
        · intro w hSw; (try dsimp only at hSw); go_simp; (try with_reducible rfl)
        (try simp only [Act.put, List.getElem_toArray, List.getElem_cons_succ, List.getElem_cons_zero, List.setIfInBounds_toArray, List.set_cons_zero, List.set_cons_succ])
        (try clear hK K)
        refine wpAnyH_done (by kernel_rfl) ?_ _
        go_wp2_with fail
        go_ret2
        exact ⟨by rw [HE.out.1, HE.out.2]; rfl, HB1.out.drew⟩
end Go.Proofs.Ytafkpfhhmmnpeaa.Val
/- What the tree's find, way and link answer. -/
namespace Go.Proofs.Ytafkpfhhmmnpeaa.Val
open Go Go.RowKit
set_option maxRecDepth 100000

/-- A tree whose counts are its rows' lengths. -/
abbrev TL (w : World) (h : Hd) (R : Nat → List It) (m : Nat) (fr : List Nat) (root dep cnt : Nat) : Prop := TM w h R (fun n => (R n).length) m fr root dep cnt
section
variable {w : World} {h : Hd} {R : Nat → List It} {m : Nat} {fr : List Nat} {root dep cnt : Nat}
theorem TMx.len5 {F : Nat → Nat} (t : TM w h R F m fr root dep cnt) (n : Nat) (hn : n < m) : (R n).length ≤ 5 := by
  obtain ⟨g, cap, cur, _, _, _, _, _, hr⟩ := t.arenaAt (by omega)
  exact (hr n hn).1
theorem TMx.rowAt {F : Nat → Nat} (t : TM w h R F m fr root dep cnt) (g l cap : Nat) (hav : h.av = .slice (some ⟨g, 0, none⟩) l cap) (n : Nat) (hn : n < m) : RowAt w g (n * 90) (R n) := by
  obtain ⟨g', cap', cur, e, hg, _, _, _, hr⟩ := t.arenaAt (by omega)
  rw [e] at hav
  cases hav
  exact RowAt.seg hg (hr n hn).2
set_option maxHeartbeats 1000000 in
theorem find_any (t : TL w h R m fr root dep cnt) (n : Nat) (hn : n < m) (k : Val) (hr : RisesI (R n)) :
    Calls Try.prog 55 #[.pointer (some ⟨h.p, 0, none⟩), .int .i64 n, V k.t k.n k.s] w fun e w' => e = .returned (.tuple #[.int .i64 (place k (R n)), .bool (there k (R n))]) ∧ Below w.heap.size w w' := by
  obtain ⟨g, cap, cur, hav, _⟩ := t.arenaAt (by omega)
  have H1 : Hid (∀ w1, Below w.heap.size w w1 → Calls Try.prog 53 #[.pointer (some ⟨h.p, 0, none⟩), .int .i64 n] w1 fun e w' => e = .returned (.slice (some ⟨g, n * 90, none⟩) (R n).length 5) ∧ Below w1.heap.size w1 w') :=
    fun w1 hb => row_any (t.below hb) n hn (t.len5 n hn) g cap hav
  have H2 : Hid (∀ w1, Below w.heap.size w w1 → Calls Try.prog 69 #[.slice (some ⟨g, n * 90, none⟩) (R n).length 5, V k.t k.n k.s, FV 70 #[] #[]] w1 fun e w' => e = .returned (.tuple #[.int .i64 (place k (R n)), .bool (there k (R n))]) ∧ Below w1.heap.size w1 w') :=
    fun w1 hb => search_any g (n * 90) (R n) k w1 ((t.rowAt g _ cap hav n hn).below hb) (t.len5 n hn) hr
  clear t hav hr
  go_enter Try.func55, Try.ntmps55
  go_wp2_with fail
  have V0 : VBox (w.alloc (vobj k 32)) w.heap.size k := VBox.new w k 32
  have HV : Hid (∀ w', Below (w.alloc (vobj k 32)).heap.size (w.alloc (vobj k 32)) w' → w'.cell? ⟨w.heap.size, 0, none⟩ = some (.bool k.t) ∧ w'.cell? ⟨w.heap.size, 1, none⟩ = some (.int .i64 k.n) ∧ w'.cell? ⟨w.heap.size, 2, none⟩ = some (.string k.s)) := fun w' hb => by
    obtain ⟨v0, v1, v2⟩ := V0.below hb
    exact ⟨v0, v1, v2⟩
  clear V0
  refine wp_region_held_drew (S := fun w' => w'.cell? ⟨w.heap.size, 0, none⟩ = some (.bool k.t) ∧ w'.cell? ⟨w.heap.size, 1, none⟩ = some (.int .i64 k.n) ∧ w'.cell? ⟨w.heap.size, 2, none⟩ = some (.string k.s)) (by kernel_rfl) ?_ (fun hHeld => ?_)
  · exact HV.out _ (Below.refl _ _).drew
  (try clear hK K)
  refine wpAnyH_take (i := 0) (v := ?_) rfl (by kernel_rfl) (by kernel_rfl) (by kernel_rfl) (fun _ _ _ h => h) (Or.inl ⟨by rfl, ?_⟩) (by assumption) ?_
  rotate_left
  · intro w hSw; (try dsimp only at hSw); go_simp; (try with_reducible rfl)
  (try simp only [Act.put, List.getElem_toArray, List.getElem_cons_zero, List.setIfInBounds_toArray, List.set_cons_zero, List.set_cons_succ])
  refine wpAnyH_take (i := 1) (v := ?_) rfl (by kernel_rfl) (by kernel_rfl) (by kernel_rfl) (fun _ _ _ h => h) (Or.inl ⟨by rfl, ?_⟩) (by assumption) ?_
  rotate_left
  · intro w hSw; (try dsimp only at hSw); go_simp; (try with_reducible rfl)
  (try simp only [Act.put, List.getElem_toArray, List.getElem_cons_succ, List.getElem_cons_zero, List.setIfInBounds_toArray, List.set_cons_zero, List.set_cons_succ])
  refine wpAnyH_take (i := 3) (v := ?_) rfl (by kernel_rfl) (by kernel_rfl) (by kernel_rfl) (fun _ _ _ h => h) (Or.inl ⟨by rfl, ?_⟩) (by assumption) ?_
  rotate_left
  · intro w hSw; (try dsimp only at hSw); go_simp; (try with_reducible rfl)
  (try simp only [Act.put, List.getElem_toArray, List.getElem_cons_succ, List.getElem_cons_zero, List.setIfInBounds_toArray, List.set_cons_zero, List.set_cons_succ])
  (try clear hK K)
  refine wpAnyH_ready (rs := [2]) (by kernel_rfl) (by simp) ?_
  refine AllReadyH.cons rfl (fun K hK => ?_) AllReadyH.nil
  go_simp
  (refine Calls.mono (H1.out _ (alloc1 _ _).drew) ?_; rintro e w1 ⟨rfl, hb⟩)
  refine hK.out _ _ ?_ (fun hHeld => ?_)
  · exact HV.out _ ((Below.refl _ _).drew.trans hb)
  have HB : Hid (Below (w.alloc (vobj k 32)).heap.size (w.alloc (vobj k 32)) w1) := (Below.refl _ _).drew.trans hb
  clear hb
  (try clear hK K)
  refine wpAnyH_ready (rs := [4]) (by kernel_rfl) (by simp) ?_
  refine AllReadyH.cons rfl (fun K hK => ?_) AllReadyH.nil
  go_simp
  (refine Calls.mono (H2.out _ (back1 HB.out)) ?_; rintro e w2 ⟨rfl, hb⟩)
  refine hK.out _ _ ?_ (fun hHeld => ?_)
  · exact HV.out _ (HB.out.trans (hb.mono HB.out.size))
  have HB2 : Hid (Below w.heap.size w w2) := back1 (HB.out.trans (hb.mono HB.out.size))
  clear hb
  (try clear hK K)
  refine wpAnyH_take (i := 5) (v := ?_) rfl (by kernel_rfl) (by kernel_rfl) (by kernel_rfl) (fun _ _ _ h => h) (Or.inl ⟨by rfl, ?_⟩) (by assumption) ?_
  rotate_left
  · intro w hSw; (try dsimp only at hSw); go_simp; (try with_reducible rfl)
  (try simp only [Act.put, List.getElem_toArray, List.getElem_cons_succ, List.getElem_cons_zero, List.setIfInBounds_toArray, List.set_cons_zero, List.set_cons_succ])
  refine wpAnyH_take (i := 6) (v := ?_) rfl (by kernel_rfl) (by kernel_rfl) (by kernel_rfl) (fun _ _ _ h => h) (Or.inl ⟨by rfl, ?_⟩) (by assumption) ?_
  rotate_left
  · intro w hSw; (try dsimp only at hSw); go_simp; (try with_reducible rfl)
  (try simp only [Act.put, List.getElem_toArray, List.getElem_cons_succ, List.getElem_cons_zero, List.setIfInBounds_toArray, List.set_cons_zero, List.set_cons_succ])
  refine wpAnyH_take (i := 7) (v := ?_) rfl (by kernel_rfl) (by kernel_rfl) (by kernel_rfl) (fun _ _ _ h => h) (Or.inl ⟨by rfl, ?_⟩) (by assumption) ?_
  rotate_left
  · intro w hSw; (try dsimp only at hSw); go_simp; (try with_reducible rfl)
  (try simp only [Act.put, List.getElem_toArray, List.getElem_cons_succ, List.getElem_cons_zero, List.setIfInBounds_toArray, List.set_cons_zero, List.set_cons_succ])
  refine wpAnyH_take (i := 8) (v := ?_) rfl (by kernel_rfl) (by kernel_rfl) (by kernel_rfl) (fun _ _ _ h => h) (Or.inl ⟨by rfl, ?_⟩) (by assumption) ?_
  rotate_left
  · intro w hSw; (try dsimp only at hSw); go_simp; (try with_reducible rfl)
  (try simp only [Act.put, List.getElem_toArray, List.getElem_cons_succ, List.getElem_cons_zero, List.setIfInBounds_toArray, List.set_cons_zero, List.set_cons_succ])
  (try clear hK K)
  refine wpAnyH_done (by kernel_rfl) ?_ _
  go_wp2_with fail
  go_ret2
  exact ⟨rfl, HB2.out⟩
set_option maxHeartbeats 1000000 in
theorem way_any (t : TL w h R m fr root dep cnt) (n : Nat) (hn : n < m) (k : Val) (hr : RisesI (R n)) :
    Calls Try.prog 54 #[.pointer (some ⟨h.p, 0, none⟩), .int .i64 n, V k.t k.n k.s] w fun e w' => e = .returned (.int .i64 (wayP k (R n))) ∧ Below w.heap.size w w' := by
  have H1 : Hid (∀ w1, Below w.heap.size w w1 → Calls Try.prog 55 #[.pointer (some ⟨h.p, 0, none⟩), .int .i64 n, V k.t k.n k.s] w1 fun e w' => e = .returned (.tuple #[.int .i64 (place k (R n)), .bool (there k (R n))]) ∧ Below w1.heap.size w1 w') :=
    fun w1 hb => find_any (t.below hb) n hn k hr
  have hp5 : place k (R n) ≤ 5 := Nat.le_trans (place_le _ _) (t.len5 n hn)
  have hw : wayP k (R n) = if there k (R n) then place k (R n) else place k (R n) - 1 := rfl
  obtain ⟨wp, hwp⟩ : ∃ wp, wayP k (R n) = wp := ⟨_, rfl⟩
  rw [hwp] at hw ⊢
  clear t hr hwp
  generalize place k (R n) = pl at *
  generalize there k (R n) = th at *
  have HE : Hid (wp = if th then pl else pl - 1) := hw
  clear hw
  go_enter Try.func54, Try.ntmps54
  go_wp2_with fail
  refine Calls.mono (H1.out _ (alloc1 _ _)) ?_
  rintro e w1 ⟨rfl, hb⟩
  have HB : Hid (Below w.heap.size w w1) := back1 hb
  clear hb
  cases th
  · rcases Nat.eq_zero_or_pos pl with rfl | hp
    · go_wp2_with fail
      go_ret
      exact ⟨by rw [HE.out]; rfl, HB.out⟩
    · have i0 : (0 : Int) ≤ (pl : Int) - 1 := by omega
      have i2 : ((pl : Int) - 1 : Int) = ((pl - 1 : Nat) : Int) := by omega
      have HI : Hid (((pl : Int) - 1 : Int) = ((pl - 1 : Nat) : Int)) := i2
      clear i2
      go_wp2_with fail
      go_ret
      exact ⟨by rw [HE.out]; exact congrArg (fun z => Ending.returned (.int .i64 z)) HI.out, HB.out⟩
  · go_wp2_with fail
    go_ret
    exact ⟨by rw [HE.out]; rfl, HB.out⟩
theorem It.cells_one (x : It) : ∀ u ∈ x.cells, u.oneCell' = true := fun u hu => icells_one [x] u (by simpa [icells] using hu)
theorem below_sets {B b : Nat} {a : World} (hb : B ≤ b) : ∀ (vs : List Value) (o : Nat) (w : World), Below B a w → Below B a (w.setCells b o vs)
  | [], _, _, h => h
  | v :: r, o, _, h => below_sets hb r (o + 1) _ (h.setCell (p := ⟨b, o, none⟩) hb v)
theorem results_cell_mid {P : Program} {fn : Func} {p : Tmp} {ty : TypeId} (h : fn.results = #[.cell p ty]) (tmps : Array Value) (w : World) (b o : Nat) (cs : List Value) (d : TypeDesc) (ha : tmps.getD p undef = .pointer (some ⟨b, o, none⟩)) (hc : w.rangeAt b o cs)
    (hu : P.underlying ty = some d) (hd : d.isRow = true) (hi : (P.info? ty).map (·.size) = some cs.length) : (results fn tmps).run P w = .ok (.agg cs.toArray) w := by
  have hl := run_loadVar_mid (P := P) w b o ty cs d hc hu hd hi
  have ha' : tmps[p]?.getD undef = .pointer (some ⟨b, o, none⟩) := by simpa using ha
  simp [results, h, ha', asAddr, hl]
theorem there_new (w w1 : World) (cs : List Value) (t : TypeId) (hb : Below (w.alloc (.cells cs.toArray t (0, 0))).heap.size (w.alloc (.cells cs.toArray t (0, 0))) w1) : w1.there w.heap.size 0 cs.length := fun j hj => by
  have hg : w1.heap[w.heap.size]? = some (.cells cs.toArray t (0, 0)) := by rw [hb.block _ (by simp)]; exact heap_alloc_new _ _
  refine ⟨?_, ?_⟩
  · simp [World.cell?, hg, hj]
  · simp [World.frozen?, hg]
set_option maxRecDepth 100000 in
set_option maxHeartbeats 1000000 in
theorem link_any (t : TL w h R m fr root dep cnt) (n : Nat) (hn : n < m) (x : It) (rest : List It) (hr : R n = x :: rest) :
    Calls Try.prog 75 #[.pointer (some ⟨h.p, 0, none⟩), .int .i64 n] w fun e w' => e = .returned (It.mk x.k Pl.zero n).val ∧ Below w.heap.size w w' := by
  obtain ⟨g, cap, cur, hav, _⟩ := t.arenaAt (by omega)
  have H1 : Hid (∀ w1, Below w.heap.size w w1 → Calls Try.prog 53 #[.pointer (some ⟨h.p, 0, none⟩), .int .i64 n] w1 fun e w' => e = .returned (.slice (some ⟨g, n * 90, none⟩) (R n).length 5) ∧ Below w1.heap.size w1 w') :=
    fun w1 hb => row_any (t.below hb) n hn (t.len5 n hn) g cap hav
  have H2 : Hid (∀ w1, Below w.heap.size w w1 → ItAt w1 g (n * 90) x) := fun w1 hb => by
    have := ((t.rowAt g _ cap hav n hn).below hb).at 0 (by rw [hr]; simp)
    simpa [hr] using this
  have hl : 0 < (R n).length := by rw [hr]; simp
  clear t hav hr
  generalize (R n).length = L at *
  go_enter Try.func75, Try.ntmps75
  go_wp2_with fail
  refine Calls.mono (H1.out _ (alloc1 _ _)) ?_
  rintro e w1 ⟨rfl, hb⟩
  obtain ⟨c0, c1, c2, _, _, _, _, _, _, _, _, _, _, _, _, _, _, _⟩ := H2.out _ (back1 hb)
  have ht : w1.there w.heap.size 0 18 := there_new w w1 [.bool false, .int .i64 0, .string ⟨#[]⟩, .bool false, .int .i64 0, .string ⟨#[]⟩, .bool false, .int .i64 0, .string ⟨#[]⟩, .bool false, .int .i64 0, .string ⟨#[]⟩, .bool false, .int .i64 0, .string ⟨#[]⟩, .int .i64 0, .int .i64 0, .int .i64 0] TI (by simpa using hb)
  have HT : Hid (w1.there w.heap.size 0 18) := ht
  have HRG : Hid ((w1.setCells w.heap.size 0 (It.mk x.k Pl.zero n).cells).rangeAt w.heap.size 0 (It.mk x.k Pl.zero n).cells) := World.rangeAt_setCells_same w1 w.heap.size 0 (It.mk x.k Pl.zero n).cells ht
  have HB : Hid (Below w.heap.size w w1) := back1 hb
  have i1 : (0 : Int) < (L : Int) := by omega
  clear hb H1 H2 ht
  go_wp2_with (refine wpList_store_mid rfl _ _ _ rfl w.heap.size 0 (It.mk x.k Pl.zero n).cells.toArray rfl rfl HT.out isize_I (all_oneCell_toArray (It.cells_one _)) ?_)
  refine bodyPost_ret (v := (It.mk x.k Pl.zero n).val) (results_cell_mid (p := 4) (ty := TI) Try.results75 _ _ w.heap.size 0 (It.mk x.k Pl.zero n).cells _ rfl HRG.out Try.underlying105 rfl isize_I) rfl ⟨rfl, ?_⟩
  exact below_sets (Nat.le_refl _) _ _ _ HB.out
end
end Go.Proofs.Ytafkpfhhmmnpeaa.Val
/- What the tree's insert does: items are put into a node's row, from a place on. -/
namespace Go.Proofs.Ytafkpfhhmmnpeaa.Val
open Go Go.RowKit
set_option maxRecDepth 100000

/-- One node's row turned. -/
def upd {α : Type} (R : Nat → α) (n : Nat) (r : α) : Nat → α := fun x => if x = n then r else R x
theorem upd_same {α : Type} (R : Nat → α) (n : Nat) (r : α) : upd R n r n = r := by simp [upd]
theorem upd_other {α : Type} (R : Nat → α) {n x : Nat} (r : α) (h : x ≠ n) : upd R n r x = R x := by simp [upd, h]
theorem upd_upd {α : Type} (R : Nat → α) (n : Nat) (r s : α) : upd (upd R n r) n s = upd R n s := by funext x; simp only [upd]; split <;> rfl
theorem upd_length (R : Nat → List It) (n : Nat) (r : List It) : (fun x => (upd R n r x).length) = upd (fun x => (R x).length) n r.length := by funext x; simp only [upd]; split <;> rfl
theorem sv_setRow (X : Nat → Prop) (w : World) (g : Nat) (cs : Array Value) (hx : X g) : Sv X w (w.setRow g cs) :=
  ⟨rfl, rfl, rfl, by simp [World.setRow], fun k _ h => setRow_other w g k cs fun e => h (by rw [e]; exact hx)⟩

theorem slice_lo (w : World) (g o L c lo : Nat) (x : Int) (hx : x = lo) (h1 : lo ≤ L) :
    (Instr.slice 98 (.slice (some ⟨g, o, none⟩) L c) (some (.int .i64 x)) none none).run Try.prog w = .ok (.slice (if c = lo then some ⟨g, o, none⟩ else some ⟨g, o + lo * 18, none⟩) (L - lo) (c - lo)) w := by
  subst hx
  simp [Instr.slice, Instr.sliceBounds, Instr.sliceBound, run_underlying Try.underlying98, asIntOf, h1, Addr.add_lit]
theorem slice_lohi (w : World) (g o L c lo hi : Nat) (x y : Int) (hx : x = lo) (hy : y = hi) (h1 : lo ≤ hi) (h2 : hi ≤ c) :
    (Instr.slice 98 (.slice (some ⟨g, o, none⟩) L c) (some (.int .i64 x)) (some (.int .i64 y)) none).run Try.prog w = .ok (.slice (if c = lo then some ⟨g, o, none⟩ else some ⟨g, o + lo * 18, none⟩) (hi - lo) (c - lo)) w := by
  subst hx hy
  simp [Instr.slice, Instr.sliceBounds, Instr.sliceBound, run_underlying Try.underlying98, asIntOf, h1, h2, Addr.add_lit]
theorem slice_hi (w : World) (g o L c hi : Nat) (y : Int) (hy : y = hi) (h2 : hi ≤ c) :
    (Instr.slice 98 (.slice (some ⟨g, o, none⟩) L c) none (some (.int .i64 y)) none).run Try.prog w = .ok (.slice (some ⟨g, o, none⟩) hi c) w := by
  subst hy
  simp [Instr.slice, Instr.sliceBounds, Instr.sliceBound, run_underlying Try.underlying98, asIntOf, h2, Addr.add_lit]

set_option maxRecDepth 100000 in
theorem info_I : ∃ i, Try.prog.info? TI = some i ∧ i.zero = some It.zero.val ∧ i.size = 18 ∧ i.bytes = 184 := ⟨_, rfl, rfl, rfl, rfl⟩
section
variable {w : World} {h : Hd} {R : Nat → List It} {F : Nat → Nat} {m : Nat} {fr : List Nat} {root dep cnt : Nat}
theorem TMx.node (t : TM w h R F m fr root dep cnt) (g cap : Nat) (cur cur' : List Value) (hav : h.av = .slice (some ⟨g, 0, none⟩) (m * 5) cap) (hg : w.heap[g]? = some (.cells cur.toArray TI (0, 0)))
    (n : Nat) (hN : Node (n * 90) cur cur') (r : List It) (h5 : r.length ≤ 5) (hs : Seg cur' (n * 90) (icells r)) :
    TM (w.setRow g cur'.toArray) h (upd R n r) F m fr root dep cnt ∧ (w.setRow g cur'.toArray).heap[g]? = some (.cells cur'.toArray TI (0, 0)) ∧ Mv w h (w.setRow g cur'.toArray) h := by
  have hgb : h.av.ownBlock = some g := by rw [hav]; rfl
  have hg' : (w.setRow g cur'.toArray).heap[g]? = some (.cells cur'.toArray TI (0, 0)) := setRow_heap w g _ _ _ _ hg
  have hsv : Sv (fun k => k = g) w (w.setRow g cur'.toArray) := sv_setRow _ w g _ rfl
  refine ⟨⟨?_, ?_, ownsRow_sv t.fill hsv fun k hk e => ?_, ownsRow_sv t.free hsv fun k hk e => ?_, t.ap, t.fp, t.rp, t.af, t.ar, t.fr'⟩, hg', ⟨sv_setRow _ w g _ (.inr (.inl hgb)), rfl, fun _ h => .inl h⟩⟩
  · rw [hsv.block _ (Array.getElem?_eq_some_iff.1 t.box).1 (fun e => t.ap (by rw [hgb, e]))]; exact t.box
  · rcases t.arena with ⟨e, _⟩ | ⟨g1, cap1, cur1, e, hg1, h1, h2, h3, h4⟩
    · rw [e] at hav; cases hav
    · rw [e] at hav
      cases hav
      have ec : cur1 = cur := by
        rw [hg1] at hg
        injection hg with hg
        injection hg with hg
        simpa using congrArg Array.toList hg
      subst ec
      refine .inr ⟨g, cap, cur', e, hg', h1, h2, hN.len.trans h3, fun x hx => ?_⟩
      by_cases c : x = n
      · subst c; rw [upd_same]; exact ⟨h5, hs⟩
      · rw [upd_other R r c]
        refine ⟨(h4 x hx).1, hN.seg (h4 x hx).2 ?_⟩
        rw [icells_length]
        have := (h4 x hx).1
        omega
  · subst e; exact t.af _ hgb hk
  · subst e; exact t.ar _ hgb hk
theorem fcells_set (F : Nat → Nat) (m n q : Nat) : (fcells F m).set n (.int .i64 q) = fcells (upd F n q) m := by
  apply List.ext_getElem?
  intro j
  rw [List.getElem?_set]
  by_cases c : n = j
  · subst c
    by_cases hm : n < m
    · simp [hm, upd]
    · simp [hm]
  · rw [if_neg c]
    by_cases hm : j < m
    · simp [hm, upd, Ne.symm c]
    · simp [hm]
theorem TMx.fillSet (t : TM w h R F m fr root dep cnt) (g c : Nat) (hfv : h.fv = .slice (some ⟨g, 0, none⟩) m c) (n q : Nat) :
    TM (w.setCell ⟨g, n, none⟩ (.int .i64 q)) h R (upd F n q) m fr root dep cnt ∧ Mv w h (w.setCell ⟨g, n, none⟩ (.int .i64 q)) h := by
  have hgb : h.fv.ownBlock = some g := by rw [hfv]; rfl
  have hsv : Sv (fun k => k = g) w (w.setCell ⟨g, n, none⟩ (.int .i64 q)) := Sv.set (X := fun k => k = g) (Sv.refl _ _) (a := ⟨g, n, none⟩) rfl _
  refine ⟨⟨?_, t.arena.sv hsv fun k hk e => ?_, ?_, ownsRow_sv t.free hsv fun k hk e => ?_, t.ap, t.fp, t.rp, t.af, t.ar, t.fr'⟩, ⟨(Sv.refl h.has w).set (a := ⟨g, n, none⟩) (.inr (.inr (.inl hgb))) _, rfl, fun _ h => .inl h⟩⟩
  · rw [hsv.block _ (Array.getElem?_eq_some_iff.1 t.box).1 (fun e => t.fp (by rw [hgb, e]))]; exact t.box
  · subst e; exact t.af _ hk hgb
  · have := t.fill
    rw [hfv] at this ⊢
    have h2 := (World.ownsRow.stored this n (.int .i64 q)).1
    rwa [fcells_set] at h2
  · subst e; exact t.fr' _ hgb hk
end
end Go.Proofs.Ytafkpfhhmmnpeaa.Val
/- What the tree's insert does: items are put into a node's row, from a place on. -/
namespace Go.Proofs.Ytafkpfhhmmnpeaa.Val
open Go Go.RowKit
set_option maxRecDepth 100000

/-- The row behind it. -/
def insR (r : List It) (p : Nat) (l : List It) : List It := r.take p ++ (l ++ r.drop p)
theorem insR_length (r : List It) (p : Nat) (l : List It) (hp : p ≤ r.length) : (insR r p l).length = r.length + l.length := by simp [insR]; omega
theorem app_take_drop (r : List It) (p : Nat) : icells r = icells (r.take p) ++ icells (r.drop p) := by rw [← icells_append, List.take_append_drop]

section
variable {w : World} {h : Hd} {R : Nat → List It} {m : Nat} {fr : List Nat} {root dep cnt : Nat}
set_option maxHeartbeats 4000000 in
theorem insert_any (t : TL w h R m fr root dep cnt) (n p : Nat) (hn : n < m) (hp : p ≤ (R n).length) (l : List It) (hl : 0 < l.length) (hfit : (R n).length + l.length ≤ 5) (b o c : Nat) (hsrc : RowAt w b o l)
    (hap : ¬ h.has b ∨ (h.av.ownBlock = some b ∧ (o + l.length * 18 ≤ n * 90 ∨ n * 90 + 90 ≤ o))) :
    Calls Try.prog 63 #[.pointer (some ⟨h.p, 0, none⟩), .int .i64 n, .int .i64 p, .slice (some ⟨b, o, none⟩) l.length c] w fun e w' =>
      e = .returned (.tuple #[]) ∧ TL w' h (upd R n (insR (R n) p l)) m fr root dep cnt ∧ Mv w h w' h := by
  obtain ⟨g, cap, cur, hav, hg, hc1, hc2, hc3, hrows⟩ := t.arenaAt (by omega)
  obtain ⟨gf, cf, hfv, _, _, hgf, hmx⟩ := t.fillAt n hn
  obtain ⟨inf, hi1, hi2, hi3, hi4⟩ := info_I
  have hgb : h.av.ownBlock = some g := by rw [hav]; rfl
  obtain ⟨A, hA⟩ : ∃ A, A = (R n).take p := ⟨_, rfl⟩
  obtain ⟨B, hB⟩ : ∃ B, B = (R n).drop p := ⟨_, rfl⟩
  have hlA : A.length = p := by rw [hA]; simp; omega
  have hlB : B.length = (R n).length - p := by rw [hB]; simp
  have hsz : n * 90 + 90 ≤ cur.length := by rw [hc3]; omega
  have hseg := (hrows n hn).2
  rw [app_take_drop (R n) p, ← hA, ← hB] at hseg
  have sA := hseg.left
  have sB := hseg.right
  rw [icells_length, hlA] at sB
  have lA := icells_length A
  have lB := icells_length B
  have lI := icells_length l
  -- the three turns of the cells
  obtain ⟨c1, hc1'⟩ : ∃ c1, c1 = splice cur (n * 90 + (R n).length * 18) (icells l) := ⟨_, rfl⟩
  obtain ⟨c2, hc2'⟩ : ∃ c2, c2 = splice c1 (n * 90 + (p + l.length) * 18) (icells B) := ⟨_, rfl⟩
  obtain ⟨c3, hc3'⟩ : ∃ c3, c3 = splice c2 (n * 90 + p * 18) (icells l) := ⟨_, rfl⟩
  have f1 : n * 90 + (R n).length * 18 + (icells l).length ≤ cur.length := by omega
  have N1 : Node (n * 90) cur c1 := by rw [hc1']; exact Node.put f1 (by omega) (by omega)
  have f2 : n * 90 + (p + l.length) * 18 + (icells B).length ≤ c1.length := by rw [N1.len]; omega
  have N2 : Node (n * 90) c1 c2 := by rw [hc2']; exact Node.put f2 (by omega) (by omega)
  have f3 : n * 90 + p * 18 + (icells l).length ≤ c2.length := by rw [N2.len, N1.len]; omega
  have N3 : Node (n * 90) c2 c3 := by rw [hc3']; exact Node.put f3 (by omega) (by omega)
  have a1 : Seg c1 (n * 90) (icells A) := by rw [hc1']; exact sA.far f1 (by omega)
  have b1 : Seg c1 (n * 90 + p * 18) (icells B) := by rw [hc1']; exact sB.far f1 (by omega)
  have a2 : Seg c2 (n * 90) (icells A) := by rw [hc2']; exact a1.far f2 (by omega)
  have b2 : Seg c2 (n * 90 + (p + l.length) * 18) (icells B) := by rw [hc2']; exact Seg.put _ _ _ f2
  have a3 : Seg c3 (n * 90) (icells A) := by rw [hc3']; exact a2.far f3 (by omega)
  have b3 : Seg c3 (n * 90 + (p + l.length) * 18) (icells B) := by rw [hc3']; exact b2.far f3 (by omega)
  have i3 : Seg c3 (n * 90 + p * 18) (icells l) := by rw [hc3']; exact Seg.put _ _ _ f3
  have s3 : Seg c3 (n * 90) (icells (insR (R n) p l)) := by
    unfold insR
    rw [← hA, ← hB, icells_append, icells_append]
    refine a3.app ?_
    rw [lA, hlA]
    refine i3.app ?_
    rw [lI, show n * 90 + p * 18 + l.length * 18 = n * 90 + (p + l.length) * 18 by omega]
    exact b3
  have hlen : (insR (R n) p l).length ≤ 5 := by rw [insR_length _ _ _ hp]; exact hfit
  -- what lies where, world by world
  have src : ∀ w', Mv w h w' h → (∀ x, w'.heap[g]? = some (.cells (List.toArray x) TI (0, 0)) → Node (n * 90) cur x → ∀ j u, (icells l)[j]? = some u → w'.cell? ((⟨b, o, none⟩ : Addr).add j) = some u) := fun w' hm x hx hN j u hj => by
    have hcell := hsrc j u hj
    have hlt := World.block_lt_of_cell? w _ hcell
    have hj' := (List.getElem?_eq_some_iff.1 hj).1
    rw [lI] at hj'
    have hadd : (⟨b, o, none⟩ : Addr).add j = ⟨b, o + j, none⟩ := by unfold Addr.add; split <;> simp_all
    rw [hadd]
    rcases hap with hb | ⟨hb, ho⟩
    · rw [hm.sv.cell hlt hb]; exact hcell
    · have : b = g := by rw [hgb] at hb; injection hb with hb; exact hb.symm
      subst this
      have hin : cur[o + j]? = some u := by simpa [World.cell?, hg] using hcell
      have : x[o + j]? = some u := by rw [hN.out _ (by omega)]; exact hin
      simp [World.cell?, hx, this]
  have R1 : Hid (∀ w', TL w' h R m fr root dep cnt → Mv w h w' h → w'.heap[g]? = some (.cells cur.toArray TI (0, 0)) → ∀ ty, (Builtin.append_ #[98, 98] ty #[.slice (some ⟨g, n * 90, none⟩) (R n).length 5, .slice (some ⟨b, o, none⟩) l.length c]).run Try.prog w' = .ok (.slice (some ⟨g, n * 90, none⟩) ((R n).length + l.length) 5) (w'.setRow g c1.toArray)) := fun w' ht hm hx ty => by
    have := run_append_in (P := Try.prog) w' 98 ty TI inf Try.underlying98 hi1 g (n * 90) (R n).length 5 cur hx ⟨b, o, none⟩ l.length c (icells l) (by rw [lI, hi3]) (src w' hm cur hx (Node.refl _ _)) (icells_one l) hfit (by rw [hi3]; exact f1)
    rw [this, hi3, ← hc1']
  have R2 : Hid (∀ w', w'.heap[g]? = some (.cells c1.toArray TI (0, 0)) → ∀ ty, (Builtin.copy_ #[98, 98] ty #[.slice (if 5 = p + l.length then some ⟨g, n * 90, none⟩ else some ⟨g, n * 90 + (p + l.length) * 18, none⟩) ((R n).length + l.length - (p + l.length)) (5 - (p + l.length)), .slice (if 5 = p then some ⟨g, n * 90, none⟩ else some ⟨g, n * 90 + p * 18, none⟩) ((R n).length - p) (5 - p)]).run Try.prog w' = .ok (goInt (((R n).length - p : Nat) : Int)) (w'.setRow g c2.toArray)) := fun w' hx ty => by
    rcases Nat.eq_zero_or_pos ((R n).length - p) with h0 | h0
    · have hBn : B = [] := List.eq_nil_of_length_eq_zero (by omega)
      have hc : c2 = c1 := by rw [hc2', hBn]; simp [splice]
      rw [run_copy_no (P := Try.prog) w' _ _ ty TI inf Try.underlying98 hi1 _ _ _ _ _ _ (by rw [h0]; simp), h0, hc, setRow_self w' g _ _ _ hx]; rfl
    · have e1 : (R n).length + l.length - (p + l.length) = (R n).length - p := by omega
      rw [if_neg (by omega), if_neg (by omega), e1]
      have := run_copy_in (P := Try.prog) w' 98 98 ty TI inf Try.underlying98 hi1 g (n * 90 + (p + l.length) * 18) ((R n).length - p) (5 - (p + l.length)) ⟨g, n * 90 + p * 18, none⟩ ((R n).length - p) (5 - p) c1 TI (icells B) hx (by rw [lB, hi3, hlB]; simp) (fun j u hj => by
        have := b1 j u hj
        have hadd : (⟨g, n * 90 + p * 18, none⟩ : Addr).add j = ⟨g, n * 90 + p * 18 + j, none⟩ := by unfold Addr.add; split <;> simp_all
        rw [hadd]
        simp [World.cell?, hx, this]) f2 (icells_one B)
      rw [this, ← hc2']; simp
  have R3 : Hid (∀ w', Mv w h w' h → w'.heap[g]? = some (.cells c2.toArray TI (0, 0)) → ∀ ty, (Builtin.copy_ #[98, 98] ty #[.slice (if 5 = p then some ⟨g, n * 90, none⟩ else some ⟨g, n * 90 + p * 18, none⟩) ((R n).length + l.length - p) (5 - p), .slice (some ⟨b, o, none⟩) l.length c]).run Try.prog w' = .ok (goInt l.length) (w'.setRow g c3.toArray)) := fun w' hm hx ty => by
    rw [if_neg (by omega)]
    have hmin : Nat.min l.length ((R n).length + l.length - p) = l.length := Nat.min_eq_left (by omega)
    have := run_copy_in (P := Try.prog) w' 98 98 ty TI inf Try.underlying98 hi1 g (n * 90 + p * 18) ((R n).length + l.length - p) (5 - p) ⟨b, o, none⟩ l.length c c2 TI (icells l) hx (by rw [lI, hi3, hmin]) (src w' hm c2 hx (N1.trans N2)) f3 (icells_one l)
    rw [this, ← hc3', hmin]
  have FX : Hid (∀ w' R', TM w' h R' (fun n => (R n).length) m fr root dep cnt → w'.cell? ⟨h.p, 1, none⟩ = some (.slice (some ⟨gf, 0, none⟩) m cf) ∧ w'.cell? ⟨gf, n, none⟩ = some (.int .i64 (R n).length) ∧ w'.frozen? ⟨gf, n, none⟩ = false) := fun w' R' ht => by
    obtain ⟨_, k1, _⟩ := ht.c
    obtain ⟨g1, c1, e1, k2, k3, _, _⟩ := ht.fillAt n hn
    rw [hfv] at e1 k1
    cases e1
    exact ⟨k1, k2, k3⟩
  have W1 : Hid (∀ w1, Below w.heap.size w w1 → TL w1 h R m fr root dep cnt ∧ w1.heap[g]? = some (.cells cur.toArray TI (0, 0)) ∧ Mv w h w1 h) := fun w1 hb => ⟨t.below hb, by rw [hb.block g (Array.getElem?_eq_some_iff.1 hg).1]; exact hg, Mv.of hb⟩
  have W2 : Hid (∀ w1, TL w1 h R m fr root dep cnt → w1.heap[g]? = some (.cells cur.toArray TI (0, 0)) → Mv w h w1 h → TM (w1.setRow g c1.toArray) h (upd R n A) (fun n => (R n).length) m fr root dep cnt ∧ (w1.setRow g c1.toArray).heap[g]? = some (.cells c1.toArray TI (0, 0)) ∧ Mv w h (w1.setRow g c1.toArray) h) := fun w1 h1 h2 h3 => by
    obtain ⟨k1, k2, k3⟩ := h1.node g cap cur c1 hav h2 n N1 A (by omega) a1
    exact ⟨k1, k2, h3.trans k3⟩
  have W3 : Hid (∀ w2, TM w2 h (upd R n A) (fun n => (R n).length) m fr root dep cnt → w2.heap[g]? = some (.cells c1.toArray TI (0, 0)) → Mv w h w2 h → TM (w2.setRow g c2.toArray) h (upd R n A) (fun n => (R n).length) m fr root dep cnt ∧ (w2.setRow g c2.toArray).heap[g]? = some (.cells c2.toArray TI (0, 0)) ∧ Mv w h (w2.setRow g c2.toArray) h) := fun w1 h1 h2 h3 => by
    obtain ⟨k1, k2, k3⟩ := h1.node g cap c1 c2 hav h2 n N2 A (by omega) a2
    rw [upd_upd] at k1
    exact ⟨k1, k2, h3.trans k3⟩
  have W4 : Hid (∀ w3, TM w3 h (upd R n A) (fun n => (R n).length) m fr root dep cnt → w3.heap[g]? = some (.cells c2.toArray TI (0, 0)) → Mv w h w3 h → TM (w3.setRow g c3.toArray) h (upd R n (insR (R n) p l)) (fun n => (R n).length) m fr root dep cnt ∧ Mv w h (w3.setRow g c3.toArray) h) := fun w1 h1 h2 h3 => by
    obtain ⟨k1, k2, k3⟩ := h1.node g cap c2 c3 hav h2 n N3 (insR (R n) p l) hlen s3
    rw [upd_upd] at k1
    exact ⟨k1, h3.trans k3⟩
  have W5 : Hid (∀ w4, TM w4 h (upd R n (insR (R n) p l)) (fun n => (R n).length) m fr root dep cnt → Mv w h w4 h → TL (w4.setCell ⟨gf, n, none⟩ (.int .i64 (((R n).length + l.length : Nat) : Int))) h (upd R n (insR (R n) p l)) m fr root dep cnt ∧ Mv w h (w4.setCell ⟨gf, n, none⟩ (.int .i64 (((R n).length + l.length : Nat) : Int))) h) := fun w4 h1 h3 => by
    obtain ⟨k1, k3⟩ := h1.fillSet gf cf hfv n ((R n).length + l.length)
    refine ⟨?_, h3.trans k3⟩
    rw [← insR_length (R n) p l hp, ← upd_length] at k1
    rw [← insR_length (R n) p l hp]
    exact k1
  have H1 : Hid (∀ w1, Below w.heap.size w w1 → Calls Try.prog 53 #[.pointer (some ⟨h.p, 0, none⟩), .int .i64 n] w1 fun e w' => e = .returned (.slice (some ⟨g, n * 90, none⟩) (R n).length 5) ∧ Below w1.heap.size w1 w') :=
    fun w1 hb => row_any (t.below hb) n hn (t.len5 n hn) g cap hav
  clear t hav hg hc1 hc2 hc3 hrows hfv hgb hsrc hap hA hB hlA hlB hsz hseg sA sB lA lB lI hc1' hc2' hc3' f1 N1 f2 N2 f3 N3 a1 b1 a2 b2 a3 b3 i3 s3 hlen src hi1 hi2 hi3 hi4
  generalize insR (R n) p l = ins at *
  generalize hL : (R n).length = L at *
  clear hL
  generalize l.length = q at *
  have hs5 : ∀ w', (Instr.slice 98 (.slice (some ⟨g, n * 90, none⟩) (L + q) 5) (some (.int .i64 ((p : Int) + (q : Int)))) none none).run Try.prog w' = .ok (.slice (if 5 = p + q then some ⟨g, n * 90, none⟩ else some ⟨g, n * 90 + (p + q) * 18, none⟩) (L + q - (p + q)) (5 - (p + q))) w' := fun w' => slice_lo w' g (n * 90) (L + q) 5 (p + q) _ (by simp) (by omega)
  have hs15 : ∀ w', (Instr.slice 98 (.slice (some ⟨g, n * 90, none⟩) (L + q) 5) (some (.int .i64 (p : Int))) (some (.int .i64 (L : Int))) none).run Try.prog w' = .ok (.slice (if 5 = p then some ⟨g, n * 90, none⟩ else some ⟨g, n * 90 + p * 18, none⟩) (L - p) (5 - p)) w' := fun w' => slice_lohi w' g (n * 90) (L + q) 5 p L _ _ rfl rfl hp (by omega)
  have hs33 : ∀ w', (Instr.slice 98 (.slice (some ⟨g, n * 90, none⟩) (L + q) 5) (some (.int .i64 (p : Int))) none none).run Try.prog w' = .ok (.slice (if 5 = p then some ⟨g, n * 90, none⟩ else some ⟨g, n * 90 + p * 18, none⟩) (L + q - p) (5 - p)) w' := fun w' => slice_lo w' g (n * 90) (L + q) 5 p _ rfl (by omega)
  generalize (if 5 = p + q then some (⟨g, n * 90, none⟩ : Addr) else some ⟨g, n * 90 + (p + q) * 18, none⟩) = d5 at *
  generalize (if 5 = p then some (⟨g, n * 90, none⟩ : Addr) else some ⟨g, n * 90 + p * 18, none⟩) = d15 at *
  generalize L + q - (p + q) = x5 at *
  generalize 5 - (p + q) = y5 at *
  generalize hx15 : L - p = x15 at *
  generalize L + q - p = x33 at *
  generalize 5 - p = y15 at *
  have n0 : (0 : Int) ≤ (n : Int) := by omega
  have n1 : (n : Int) < (m : Int) := by omega
  have hp5 : p ≤ 5 := by omega
  have hq5 : q ≤ 5 := by omega
  have hL5 : L ≤ 5 := by omega
  have e1 : IntKind.i64.wrap ((p : Int) + (q : Int)) = (p : Int) + (q : Int) := by rw [IntKind.wrap_i64]; omega
  have HP : Hid (L + q ≤ 5 ∧ p ≤ L ∧ 0 < q) := ⟨hfit, hp, hl⟩
  clear hfit hp hl hx15 hmx hgf
  go_enter Try.func63, Try.ntmps63
  go_wp2_with fail
  refine Calls.mono (H1.out _ (Below.refl _ _)) ?_
  rintro e w1 ⟨rfl, hb⟩
  have T1 : Hid _ := W1.out w1 hb
  clear hb
  go_wp2_with (at_builtin; refine wpList_append_known rfl _ _ _ _ rfl _ _ rfl rfl _ _ (R1.out _ T1.out.1 T1.out.2.2 T1.out.2.1 _) ?_)
  have T2 : Hid _ := W2.out _ T1.out.1 T1.out.2.1 T1.out.2.2
  generalize w1.setRow g c1.toArray = w2 at *
  have T2' : Hid (TM w2.drew h (upd R n A) (fun n => (R n).length) m fr root dep cnt ∧ w2.drew.heap[g]? = some (.cells c1.toArray TI (0, 0)) ∧ Mv w h w2.drew h) := ⟨T2.out.1.below (Below.refl _ _).drew, T2.out.2.1, T2.out.2.2.trans (Mv.of (Below.refl _ _).drew)⟩
  clear T1 T2 W1 W2 R1 H1
  refine wp_region_held_drew (S := fun w' => w'.cell? ⟨h.p, 1, none⟩ = some (.slice (some ⟨gf, 0, none⟩) m cf) ∧ w'.cell? ⟨gf, n, none⟩ = some (.int .i64 L)) (by kernel_rfl) ?_ (fun hHeld => ?_)
  · obtain ⟨k1, k2, _⟩ := FX.out _ _ T2'.out.1
    exact ⟨k1, k2⟩
  (try clear hK K)
  refine wpAnyH_take (i := 0) (v := ?_) rfl (by kernel_rfl) (by kernel_rfl) (by kernel_rfl) (fun _ _ _ h => h) (Or.inl ⟨by rfl, ?_⟩) (by assumption) ?_
  rotate_left
  · intro w hSw; (try dsimp only at hSw); go_simp; (try with_reducible rfl)
  (try simp only [Act.put, List.getElem_toArray, List.getElem_cons_zero, List.setIfInBounds_toArray, List.set_cons_zero, List.set_cons_succ])
  refine wpAnyH_take (i := 1) (v := ?_) rfl (by kernel_rfl) (by kernel_rfl) (by kernel_rfl) (fun _ _ _ h => h) (Or.inl ⟨by rfl, ?_⟩) (by assumption) ?_
  rotate_left
  · intro w hSw; (try dsimp only at hSw); go_simp; (try with_reducible rfl)
  (try simp only [Act.put, List.getElem_toArray, List.getElem_cons_succ, List.getElem_cons_zero, List.setIfInBounds_toArray, List.set_cons_zero, List.set_cons_succ])
  refine wpAnyH_take (i := 2) (v := ?_) rfl (by kernel_rfl) (by kernel_rfl) (by kernel_rfl) (fun _ _ _ h => h) (Or.inl ⟨by rfl, ?_⟩) (by assumption) ?_
  rotate_left
  · intro w hSw; (try dsimp only at hSw); go_simp; (try with_reducible rfl)
  (try simp only [Act.put, List.getElem_toArray, List.getElem_cons_succ, List.getElem_cons_zero, List.setIfInBounds_toArray, List.set_cons_zero, List.set_cons_succ])
  refine wpAnyH_take (i := 3) (v := ?_) rfl (by kernel_rfl) (by kernel_rfl) (by kernel_rfl) (fun _ _ _ h => h) (Or.inl ⟨by rfl, ?_⟩) (by assumption) ?_
  rotate_left
  · intro w hSw; (try dsimp only at hSw); go_simp; (try with_reducible rfl)
  (try simp only [Act.put, List.getElem_toArray, List.getElem_cons_succ, List.getElem_cons_zero, List.setIfInBounds_toArray, List.set_cons_zero, List.set_cons_succ])
  refine wpAnyH_take (i := 4) (v := ?_) rfl (by kernel_rfl) (by kernel_rfl) (by kernel_rfl) (fun _ _ _ h => h) (Or.inl ⟨by rfl, ?_⟩) (by assumption) ?_
  rotate_left
  · intro w hSw; (try dsimp only at hSw); go_simp; (try with_reducible rfl)
  (try simp only [Act.put, List.getElem_toArray, List.getElem_cons_succ, List.getElem_cons_zero, List.setIfInBounds_toArray, List.set_cons_zero, List.set_cons_succ])
  refine wpAnyH_take (i := 5) (v := ?_) rfl (by kernel_rfl) (by kernel_rfl) (by kernel_rfl) (fun _ _ _ h => h) (Or.inl ⟨by rfl, ?_⟩) (by assumption) ?_
  rotate_left
  · intro w hSw; (try dsimp only at hSw); go_simp; (try with_reducible rfl)
  (try simp only [Act.put, List.getElem_toArray, List.getElem_cons_succ, List.getElem_cons_zero, List.setIfInBounds_toArray, List.set_cons_zero, List.set_cons_succ])
  refine wpAnyH_take (i := 6) (v := ?_) rfl (by kernel_rfl) (by kernel_rfl) (by kernel_rfl) (fun _ _ _ h => h) (Or.inl ⟨by rfl, ?_⟩) (by assumption) ?_
  rotate_left
  · intro w hSw; (try dsimp only at hSw); go_simp; (try with_reducible rfl)
  (try simp only [Act.put, List.getElem_toArray, List.getElem_cons_succ, List.getElem_cons_zero, List.setIfInBounds_toArray, List.set_cons_zero, List.set_cons_succ])
  refine wpAnyH_take (i := 7) (v := ?_) rfl (by kernel_rfl) (by kernel_rfl) (by kernel_rfl) (fun _ _ _ h => h) (Or.inl ⟨by rfl, ?_⟩) (by assumption) ?_
  rotate_left
  · intro w hSw; (try dsimp only at hSw); go_simp; (try with_reducible rfl)
  (try simp only [Act.put, List.getElem_toArray, List.getElem_cons_succ, List.getElem_cons_zero, List.setIfInBounds_toArray, List.set_cons_zero, List.set_cons_succ])
  refine wpAnyH_take (i := 8) (v := ?_) rfl (by kernel_rfl) (by kernel_rfl) (by kernel_rfl) (fun _ _ _ h => h) (Or.inl ⟨by rfl, ?_⟩) (by assumption) ?_
  rotate_left
  · intro w hSw; (try dsimp only at hSw); go_simp; (try with_reducible rfl)
  (try simp only [Act.put, List.getElem_toArray, List.getElem_cons_succ, List.getElem_cons_zero, List.setIfInBounds_toArray, List.set_cons_zero, List.set_cons_succ])
  refine wpAnyH_take (i := 9) (v := ?_) rfl (by kernel_rfl) (by kernel_rfl) (by kernel_rfl) (fun _ _ _ h => h) (Or.inl ⟨by rfl, ?_⟩) (by assumption) ?_
  rotate_left
  · intro w hSw; (try dsimp only at hSw); go_simp; (try with_reducible rfl)
  (try simp only [Act.put, List.getElem_toArray, List.getElem_cons_succ, List.getElem_cons_zero, List.setIfInBounds_toArray, List.set_cons_zero, List.set_cons_succ])
  refine wpAnyH_take (i := 10) (v := ?_) rfl (by kernel_rfl) (by kernel_rfl) (by kernel_rfl) (fun _ _ _ h => h) (Or.inl ⟨by rfl, ?_⟩) (by assumption) ?_
  rotate_left
  · intro w hSw; (try dsimp only at hSw); go_simp; (try with_reducible rfl)
  (try simp only [Act.put, List.getElem_toArray, List.getElem_cons_succ, List.getElem_cons_zero, List.setIfInBounds_toArray, List.set_cons_zero, List.set_cons_succ])
  refine wpAnyH_take (i := 11) (v := ?_) rfl (by kernel_rfl) (by kernel_rfl) (by kernel_rfl) (fun _ _ _ h => h) (Or.inl ⟨by rfl, ?_⟩) (by assumption) ?_
  rotate_left
  · intro w hSw; (try dsimp only at hSw); go_simp; (try with_reducible rfl)
  (try simp only [Act.put, List.getElem_toArray, List.getElem_cons_succ, List.getElem_cons_zero, List.setIfInBounds_toArray, List.set_cons_zero, List.set_cons_succ])
  refine wpAnyH_take (i := 12) (v := ?_) rfl (by kernel_rfl) (by kernel_rfl) (by kernel_rfl) (fun _ _ _ h => h) (Or.inl ⟨by rfl, ?_⟩) (by assumption) ?_
  rotate_left
  · intro w hSw; (try dsimp only at hSw); go_simp; (try with_reducible rfl)
  (try simp only [Act.put, List.getElem_toArray, List.getElem_cons_succ, List.getElem_cons_zero, List.setIfInBounds_toArray, List.set_cons_zero, List.set_cons_succ])
  refine wpAnyH_take (i := 13) (v := ?_) rfl (by kernel_rfl) (by kernel_rfl) (by kernel_rfl) (fun _ _ _ h => h) (Or.inl ⟨by rfl, ?_⟩) (by assumption) ?_
  rotate_left
  · intro w hSw; (try dsimp only at hSw); go_simp; (try with_reducible rfl)
  (try simp only [Act.put, List.getElem_toArray, List.getElem_cons_succ, List.getElem_cons_zero, List.setIfInBounds_toArray, List.set_cons_zero, List.set_cons_succ])
  refine wpAnyH_take (i := 14) (v := ?_) rfl (by kernel_rfl) (by kernel_rfl) (by kernel_rfl) (fun _ _ _ h => h) (Or.inl ⟨by rfl, ?_⟩) (by assumption) ?_
  rotate_left
  · intro w hSw; (try dsimp only at hSw); go_simp; (try with_reducible rfl)
  (try simp only [Act.put, List.getElem_toArray, List.getElem_cons_succ, List.getElem_cons_zero, List.setIfInBounds_toArray, List.set_cons_zero, List.set_cons_succ])
  refine wpAnyH_take (i := 15) (v := ?_) rfl (by kernel_rfl) (by kernel_rfl) (by kernel_rfl) (fun _ _ _ h => h) (Or.inl ⟨by rfl, ?_⟩) (by assumption) ?_
  rotate_left
  · intro w hSw; (try dsimp only at hSw); go_simp; (try with_reducible rfl)
  (try simp only [Act.put, List.getElem_toArray, List.getElem_cons_succ, List.getElem_cons_zero, List.setIfInBounds_toArray, List.set_cons_zero, List.set_cons_succ])
  (try clear hK K)
  refine wpAnyH_ready (rs := [16]) (by kernel_rfl) (by simp) ?_
  refine AllReadyH.cons rfl (fun K hK => ?_) AllReadyH.nil
  (refine step_copy_known rfl (.tmp 19) (.tmp 29) _ _ rfl _ _ rfl rfl _ _ (R2.out _ T2'.out.2.1 _) ?_; refine hK.out _ _ ?_ (fun hHeld => ?_))
  · obtain ⟨k1, k2, _⟩ := FX.out _ _ (W3.out _ T2'.out.1 T2'.out.2.1 T2'.out.2.2).1
    exact ⟨k1, k2⟩
  have T3 : Hid _ := W3.out _ T2'.out.1 T2'.out.2.1 T2'.out.2.2
  generalize w2.drew.setRow g c2.toArray = w3 at *
  clear T2' W3 R2
  (try clear hK K)
  refine wpAnyH_done (by kernel_rfl) ?_ _
  have hcp := fun ty => R3.out w3 T3.out.2.2 T3.out.2.1 ty
  have T4 : Hid _ := W4.out _ T3.out.1 T3.out.2.1 T3.out.2.2
  generalize w3.setRow g c3.toArray = w4 at *
  obtain ⟨k1, k2, k3⟩ := FX.out _ _ T4.out.1
  have T5 : Hid _ := W5.out _ T4.out.1 T4.out.2
  clear T3 W4 R3 FX W5 T4
  go_wp2_with fail
  go_end0
  have hz : ((L : Int) + (q : Int)) = ((L + q : Nat) : Int) := by simp
  rw [hz]
  exact ⟨rfl, T5.out⟩
end
end Go.Proofs.Ytafkpfhhmmnpeaa.Val
