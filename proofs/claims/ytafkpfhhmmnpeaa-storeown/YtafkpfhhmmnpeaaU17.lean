/- What the tree's below answers: the span of the keys below a place. -/
import Derived.Test.YtafkpfhhmmnpeaaU14
import Derived.Test.YtafkpfhhmmnpeaaU16
import Derived.Laws.EntriesVeiled
namespace Go.Proofs.Ytafkpfhhmmnpeaa.Val
open Go Go.RowKit
set_option maxRecDepth 100000

/-- The span of the keys below a place. -/
def belowS (r : List It) (p : Nat) : Sp := match r[p + 1]? with
  | some y => ⟨false, true, false, (r.getD p It.zero).k, true, true, y.k⟩
  | none => ⟨false, true, false, (r.getD p It.zero).k, false, false, Val.zero⟩
theorem below_has {r : List It} {p : Nat} {v : Val} (h1 : cmpX (r.getD p It.zero).k v ≤ 0) (h2 : ∀ y, r[p + 1]? = some y → cmpX v y.k < 0) : withinS (belowS r p) v = true := by
  unfold belowS
  generalize r.getD p It.zero = x0 at *
  rw [within_eq]
  have lo : ∀ x, cmpX x v ≤ 0 → loB ⟨true, false, x⟩ v = true := fun x hx => by
    rw [loB_eq]
    have : sideB (cmpX x v) false = false := (nside_iff _ _).2 ((Int.lt_or_eq_of_le hx).imp id fun h => ⟨h, rfl⟩)
    simp [this]
  cases h : r[p + 1]? with
  | none => simp [lowE, uppE, lo _ h1, hiB_zero]
  | some y =>
    have hy := h2 y h
    have : hiB ⟨true, true, y.k⟩ v = true := by
      rw [hiB_eq]
      have : sideB (cmpX v y.k) true = false := (nside_iff _ _).2 (.inl hy)
      simp [this]
    simp [lowE, uppE, lo _ h1, this]
section
set_option maxHeartbeats 8000000 in
theorem below_last (g o : Nat) (r : List It) (p : Nat) (w : World) (hr : RowAt w g o r) (hl : r.length ≤ 5) (hp : p < r.length) (hq : r.length = p + 1) :
    Calls Try.prog 82 #[.slice (some ⟨g, o, none⟩) r.length 5, .int .i64 p] w fun e w' => e = .returned (belowS r p).val ∧ Below w.heap.size w w' := by
  have hb : belowS r p = ⟨false, true, false, r[p].k, false, false, Val.zero⟩ := by
    unfold belowS
    rw [List.getElem?_eq_none (by omega)]
    simp [List.getElem?_eq_getElem hp]
  obtain ⟨c0, c1, c2, _, _⟩ := hr.at p hp
  have hg := World.block_lt_of_cell? w _ c0
  rw [hb]
  clear hr hb
  generalize r[p].k = k at *
  obtain ⟨L, hL⟩ : ∃ L, r.length = L := ⟨_, rfl⟩
  have hpL : p < L := by omega
  rw [hL] at hl hq ⊢
  have p0 : (0 : Int) ≤ (p : Int) := by omega
  have p1 : (p : Int) < (L : Int) := by omega
  have p5 : p ≤ 5 := by omega
  have p2 : decide ((p : Int) + 1 < (L : Int)) = false := by simp; omega
  clear hq hl hL hpL
  go_enter Try.func82, Try.ntmps82
  go_wp2_with fail
  refine bodyPost_ret (v := (Sp.mk false true false k false false Val.zero).val) (by simp [results, Try.results82, go_sem, Sp.val, Val.zero]) rfl ⟨rfl, ?_⟩
  exact back2 (Below.refl _ _)
set_option maxHeartbeats 8000000 in
theorem below_more (g o : Nat) (r : List It) (p : Nat) (w : World) (hr : RowAt w g o r) (hl : r.length ≤ 5) (hq : p + 1 < r.length) :
    Calls Try.prog 82 #[.slice (some ⟨g, o, none⟩) r.length 5, .int .i64 p] w fun e w' => e = .returned (belowS r p).val ∧ Below w.heap.size w w' := by
  have hp : p < r.length := by omega
  have hb : belowS r p = ⟨false, true, false, r[p].k, true, true, r[p + 1].k⟩ := by
    unfold belowS
    rw [List.getElem?_eq_getElem hq]
    simp [List.getElem?_eq_getElem hp]
  obtain ⟨c0, c1, c2, _, _⟩ := hr.at p hp
  have HS : Hid (∀ w', Below w.heap.size w w' → w'.cell? ⟨g, o + (p + 1) * 18, none⟩ = some (.bool r[p + 1].k.t) ∧ w'.cell? ⟨g, o + (p + 1) * 18 + 1, none⟩ = some (.int .i64 r[p + 1].k.n) ∧ w'.cell? ⟨g, o + (p + 1) * 18 + 2, none⟩ = some (.string r[p + 1].k.s)) := fun w' hb => by
    obtain ⟨e0, e1, e2, _, _⟩ := (hr.below hb).at (p + 1) hq
    exact ⟨e0, e1, e2⟩
  have hg := World.block_lt_of_cell? w _ c0
  rw [hb]
  clear hr hb
  generalize r[p].k = k at *
  generalize r[p + 1].k = k2 at *
  obtain ⟨L, hL⟩ : ∃ L, r.length = L := ⟨_, rfl⟩
  have hpL : p + 1 < L := by omega
  rw [hL] at hl ⊢
  have p0 : (0 : Int) ≤ (p : Int) := by omega
  have p1 : (p : Int) < (L : Int) := by omega
  have p5 : p ≤ 5 := by omega
  have p2 : (p : Int) + 1 < (L : Int) := by omega
  have p3 : (0 : Int) ≤ (p : Int) + 1 := by omega
  have p4 : ((p : Int) + 1).toNat = p + 1 := by omega
  have p6 : IntKind.i64.wrap ((p : Int) + 1) = (p : Int) + 1 := by rw [IntKind.wrap_i64]; omega
  clear hl hL hpL
  go_enter Try.func82, Try.ntmps82
  go_wp2_with fail
  refine wp_region_held_drew (S := fun w' => w'.cell? ⟨g, o + (p + 1) * 18, none⟩ = some (.bool k2.t) ∧ w'.cell? ⟨g, o + (p + 1) * 18 + 1, none⟩ = some (.int .i64 k2.n) ∧ w'.cell? ⟨g, o + (p + 1) * 18 + 2, none⟩ = some (.string k2.s)) (by kernel_rfl) ?_ (fun hHeld => ?_)
  · refine HS.out _ ?_
    repeat (first | exact Below.refl _ _ | refine Below.drew ?_ | refine Below.alloc ?_ (by simp) _ | refine Below.setCell ?_ (by simp) _)
  (try clear hK K)
  refine wpAnyH_take (i := 0) (v := ?_) rfl (by kernel_rfl) (by kernel_rfl) (by kernel_rfl) (fun _ _ _ h => h) (Or.inl ⟨by rfl, ?_⟩) (by assumption) ?_
  rotate_left
  · intro w hSw; (try dsimp only at hSw); go_simp; (try with_reducible rfl)
  (try simp only [Act.put, List.getElem_toArray, List.getElem_cons_zero, List.setIfInBounds_toArray, List.set_cons_zero, List.set_cons_succ])
  refine wpAnyH_take (i := 1) (v := ?_) rfl (by kernel_rfl) (by kernel_rfl) (by kernel_rfl) (fun _ _ _ h => h) (Or.inl ⟨by rfl, ?_⟩) (by assumption) ?_
  rotate_left
  · intro w hSw; (try dsimp only at hSw); go_simp; (try with_reducible rfl)
  (try simp only [Act.put, List.getElem_toArray, List.getElem_cons_succ, List.getElem_cons_zero, List.setIfInBounds_toArray, List.set_cons_zero, List.set_cons_succ])
  refine wpAnyH_take (i := 2) (v := ?_) rfl (by kernel_rfl) (by kernel_rfl) (by kernel_rfl) (fun _ _ _ h => h) (Or.inl ⟨by rfl, ?_⟩) (by assumption) ?_
  rotate_left
  · intro w hSw; (try dsimp only at hSw); go_simp; (try with_reducible rfl)
  (try simp only [Act.put, List.getElem_toArray, List.getElem_cons_succ, List.getElem_cons_zero, List.setIfInBounds_toArray, List.set_cons_zero, List.set_cons_succ])
  refine wpAnyH_take (i := 3) (v := ?_) rfl (by kernel_rfl) (by kernel_rfl) (by kernel_rfl) (fun _ _ _ h => h) (Or.inl ⟨by rfl, ?_⟩) (by assumption) ?_
  rotate_left
  · intro w hSw; (try dsimp only at hSw); go_simp; (try with_reducible rfl)
  (try simp only [Act.put, List.getElem_toArray, List.getElem_cons_succ, List.getElem_cons_zero, List.setIfInBounds_toArray, List.set_cons_zero, List.set_cons_succ])
  refine wpAnyH_take (i := 4) (v := ?_) rfl (by kernel_rfl) (by kernel_rfl) (by kernel_rfl) (fun _ _ _ h => h) (Or.inl ⟨by rfl, ?_⟩) (by assumption) ?_
  rotate_left
  · intro w hSw; (try dsimp only at hSw); go_simp; (try with_reducible rfl)
  (try simp only [Act.put, List.getElem_toArray, List.getElem_cons_succ, List.getElem_cons_zero, List.setIfInBounds_toArray, List.set_cons_zero, List.set_cons_succ])
  refine wpAnyH_take (i := 5) (v := ?_) rfl (by kernel_rfl) (by kernel_rfl) (by kernel_rfl) (fun _ _ _ h => h) (Or.inl ⟨by rfl, ?_⟩) (by assumption) ?_
  rotate_left
  · intro w hSw; (try dsimp only at hSw); go_simp; (try with_reducible rfl)
  (try simp only [Act.put, List.getElem_toArray, List.getElem_cons_succ, List.getElem_cons_zero, List.setIfInBounds_toArray, List.set_cons_zero, List.set_cons_succ])
  refine wpAnyH_take (i := 6) (v := ?_) rfl (by kernel_rfl) (by kernel_rfl) (by kernel_rfl) (fun _ _ _ h => h) (Or.inl ⟨by rfl, ?_⟩) (by assumption) ?_
  rotate_left
  · intro w hSw; (try dsimp only at hSw); go_simp; (try with_reducible rfl)
  (try simp only [Act.put, List.getElem_toArray, List.getElem_cons_succ, List.getElem_cons_zero, List.setIfInBounds_toArray, List.set_cons_zero, List.set_cons_succ])
  (try clear hK K)
  refine wpAnyH_ready (rs := [7]) (by kernel_rfl) (by simp) ?_
  refine AllReadyH.cons rfl (fun K hK => ?_) AllReadyH.nil
  go_simp
  refine hK.out _ _ ?_ (fun hHeld => ?_)
  · refine HS.out _ ?_
    repeat (first | exact Below.refl _ _ | refine Below.drew ?_ | refine Below.alloc ?_ (by simp) _ | refine Below.setCell ?_ (by simp) _)
  (try clear hK K)
  refine wpAnyH_take (i := 8) (v := ?_) rfl (by kernel_rfl) (by kernel_rfl) (by kernel_rfl) (fun _ _ _ h => h) (Or.inl ⟨by rfl, ?_⟩) (by assumption) ?_
  rotate_left
  · intro w hSw; (try dsimp only at hSw); go_simp; (try with_reducible rfl)
  (try simp only [Act.put, List.getElem_toArray, List.getElem_cons_succ, List.getElem_cons_zero, List.setIfInBounds_toArray, List.set_cons_zero, List.set_cons_succ])
  (try clear hK K)
  refine wpAnyH_ready (rs := [9]) (by kernel_rfl) (by simp) ?_
  refine AllReadyH.cons rfl (fun K hK => ?_) AllReadyH.nil
  go_simp
  refine hK.out _ _ ?_ (fun hHeld => ?_)
  · refine HS.out _ ?_
    repeat (first | exact Below.refl _ _ | refine Below.drew ?_ | refine Below.alloc ?_ (by simp) _ | refine Below.setCell ?_ (by simp) _)
  (try clear hK K)
  refine wpAnyH_take (i := 10) (v := ?_) rfl (by kernel_rfl) (by kernel_rfl) (by kernel_rfl) (fun _ _ _ h => h) (Or.inl ⟨by rfl, ?_⟩) (by assumption) ?_
  rotate_left
  · intro w hSw; (try dsimp only at hSw); go_simp; (try with_reducible rfl)
  (try simp only [Act.put, List.getElem_toArray, List.getElem_cons_succ, List.getElem_cons_zero, List.setIfInBounds_toArray, List.set_cons_zero, List.set_cons_succ])
  (try clear hK K)
  refine wpAnyH_ready (rs := [11]) (by kernel_rfl) (by simp) ?_
  refine AllReadyH.cons rfl (fun K hK => ?_) AllReadyH.nil
  go_simp
  refine hK.out _ _ ?_ (fun hHeld => ?_)
  · refine HS.out _ ?_
    repeat (first | exact Below.refl _ _ | refine Below.drew ?_ | refine Below.alloc ?_ (by simp) _ | refine Below.setCell ?_ (by simp) _)
  (try clear hK K)
  refine wpAnyH_done (by kernel_rfl) ?_ _
  go_wp2_with fail
  refine bodyPost_ret (v := (Sp.mk false true false k true true k2).val) (by simp [results, Try.results82, go_sem, Sp.val]) rfl ⟨rfl, ?_⟩
  repeat (first | exact Below.refl _ _ | refine Below.drew ?_ | refine Below.alloc ?_ (by simp) _ | refine Below.setCell ?_ (by simp) _)
theorem below_any (g o : Nat) (r : List It) (p : Nat) (w : World) (hr : RowAt w g o r) (hl : r.length ≤ 5) (hp : p < r.length) :
    Calls Try.prog 82 #[.slice (some ⟨g, o, none⟩) r.length 5, .int .i64 p] w fun e w' => e = .returned (belowS r p).val ∧ Below w.heap.size w w' := by
  rcases (by omega : r.length = p + 1 ∨ p + 1 < r.length) with h | h
  · exact below_last g o r p w hr hl hp h
  · exact below_more g o r p w hr hl h
end
end Go.Proofs.Ytafkpfhhmmnpeaa.Val
/- What the tree's gather visits: the leaves' items within a span. -/
namespace Go.Proofs.Ytafkpfhhmmnpeaa.Val
open Go Go.RowKit
set_option maxRecDepth 100000

/-- The leaves' items. -/
def lvs (R : Nat → List It) : Nat → List It → List It
  | 0, l => l
  | h + 1, l => l.flatMap fun x => lvs R h (R x.d)
theorem lvs_append (R : Nat → List It) (h : Nat) (a b : List It) : lvs R h (a ++ b) = lvs R h a ++ lvs R h b := by cases h <;> simp [lvs]
theorem lvs_up (R : Nat → List It) (h : Nat) (x : It) : lvs R (h + 1) [x] = lvs R h (R x.d) := by simp [lvs]
theorem prs_lvs (R : Nat → List It) : ∀ (h : Nat) (l : List It), prs R h l = (lvs R h l).map toP := by
  intro h
  induction h with
  | zero => intro l; rfl
  | succ h ih =>
    intro l
    show (l.flatMap fun x => prs R h (R x.d)) = (l.flatMap fun x => lvs R h (R x.d)).map toP
    rw [List.map_flatMap]
    congr 1
    funext x
    exact ih (R x.d)
def selS (s : Sp) (l : List It) : List It := l.filter fun x => withinS s x.k
theorem sel_append (s : Sp) (a b : List It) : selS s (a ++ b) = selS s a ++ selS s b := List.filter_append ..
theorem sel_prs (s : Sp) (l : List It) : (selS s l).map toP = rangeP s (l.map toP) := by
  unfold selS rangeP
  rw [List.filter_map]
  rfl
/-- Where a span does not meet the keys below a place, there is nothing to be told. -/
theorem sel_none {R : Nat → List It} {q : Nat} {r : List It} {p : Nat} (hp : p < r.length) (hok : okL R (q + 1) r) (hr : Rises (prs R (q + 1) r)) {s : Sp} (h : (meetS s (belowS r p)).no = true) : selS s (lvs R (q + 1) [r[p]]) = [] := by
  unfold selS
  rw [List.filter_eq_nil_iff]
  intro y hy e
  have hparts := row_parts r p hp
  have hok' := hok
  rw [hparts, okL_append, okL_append] at hok'
  have hr' := hr
  rw [hparts, prs_append, prs_append] at hr'
  have h1 := List.pairwise_append.1 (List.pairwise_append.1 hr').2.1
  have hyp : toP y ∈ prs R (q + 1) [r[p]] := by rw [prs_lvs]; exact List.mem_map.2 ⟨y, hy, rfl⟩
  obtain ⟨v, rest, hv⟩ := head_prs (R := R) (q + 1) r[p] [] hok'.2.1
  have hle : cmpX r[p].k y.k ≤ 0 := by
    have h2 := h1.1
    rw [hv] at h2 hyp
    rcases List.mem_cons.1 hyp with e | e
    · have : y.k = r[p].k := congrArg Pr.k e
      rw [this, selfX]; omega
    · have := (List.pairwise_cons.1 h2).1 _ e
      have h3 : cmpX r[p].k y.k < 0 := this
      omega
  have hw : withinS (belowS r p) y.k = true := by
    refine below_has ?_ fun z hz => ?_
    · have : r.getD p It.zero = r[p] := by simp [List.getElem?_eq_getElem hp]
      rw [this]; exact hle
    · obtain ⟨hz1, hz2⟩ := List.getElem?_eq_some_iff.1 hz
      have hmem : z ∈ r.drop (p + 1) := by
        rw [← hz2, List.mem_drop_iff_getElem]
        exact ⟨0, by omega, by simp⟩
      obtain ⟨u, hu⟩ := key_mem hok'.2.2 hmem
      exact h1.2.2 _ hyp _ hu
  have hm := within_meet s (belowS r p) y.k
  rw [hw, e, within_eq, h] at hm
  simp at hm
/-- While leaves are visited: the tree, the boxes, and what was found. -/
structure GS (w : World) (h : Hd) (R : Nat → List It) (m : Nat) (fr : List Nat) (root dep cnt : Nat) (bt bs bv bf fb : Nat) (s : Sp) (F : List It) : Prop where
  tl : TL w h R m fr root dep cnt
  ct : w.cell? ⟨bt, 0, none⟩ = some (.pointer (some ⟨h.p, 0, none⟩))
  sb : SBox w bs s
  cv : w.cell? ⟨bv, 0, none⟩ = some (FV 80 #[] #[.pointer (some ⟨bt, 0, none⟩), .pointer (some ⟨bs, 0, none⟩), .pointer (some ⟨bv, 0, none⟩), .pointer (some ⟨bf, 0, none⟩)])
  fnd : ∃ v, w.heap[bf]? = some (.cells #[v] 98 (0, 0)) ∧ w.ownsRow fb TI 18 v F.length (icells F)
  hlt : ∀ b, h.has b → b < fb ∧ b ≠ bf
  lt : bt < fb ∧ bs < fb ∧ bv < fb ∧ bf < fb
  ne : bt ≠ bf ∧ bs ≠ bf ∧ bv ≠ bf
  sz : fb ≤ w.heap.size
/-- What a visit turns: the box of what was found, and blocks of its own. -/
def FrV (bf fb : Nat) (w w' : World) : Prop := Sv (fun k => k = bf ∨ fb ≤ k) w w'
section
variable {w w' : World} {h : Hd} {R : Nat → List It} {m : Nat} {fr : List Nat} {root dep cnt : Nat} {bt bs bv bf fb : Nat} {s : Sp} {F : List It}
theorem FrV.of (hb : Below w.heap.size w w') : FrV bf fb w w' := Sv.of hb
theorem GS.mv (g : GS w h R m fr root dep cnt bt bs bv bf fb s F) (hf : FrV bf fb w w') {F' : List It} (hn : ∃ v, w'.heap[bf]? = some (.cells #[v] 98 (0, 0)) ∧ w'.ownsRow fb TI 18 v F'.length (icells F')) : GS w' h R m fr root dep cnt bt bs bv bf fb s F' := by
  obtain ⟨l1, l2, l3, l4⟩ := g.lt
  obtain ⟨n1, n2, n3⟩ := g.ne
  have hsz := g.sz
  have far : ∀ (b j : Nat), b < fb → b ≠ bf → w'.cell? ⟨b, j, none⟩ = w.cell? ⟨b, j, none⟩ := fun b j hb hne => hf.cell (p := ⟨b, j, none⟩) (show b < w.heap.size by omega) (fun h => by rcases h with h | h; exact hne h; have : fb ≤ b := h; omega)
  refine ⟨g.tl.sv hf fun k hk hx => ?_, by rw [far _ _ l1 n1]; exact g.ct, ?_, by rw [far _ _ l3 n3]; exact g.cv, hn, g.hlt, g.lt, g.ne, Nat.le_trans g.sz hf.size⟩
  · obtain ⟨a1, a2⟩ := g.hlt k hk
    rcases hx with hx | hx
    · exact a2 hx
    · omega
  · obtain ⟨s0, s1, s2, s3, s4, s5, s6, s7, s8, s9, s10⟩ := g.sb
    exact ⟨by rw [far _ _ l2 n2]; exact s0, by rw [far _ _ l2 n2]; exact s1, by rw [far _ _ l2 n2]; exact s2, by rw [far _ _ l2 n2]; exact s3, by rw [far _ _ l2 n2]; exact s4, by rw [far _ _ l2 n2]; exact s5, by rw [far _ _ l2 n2]; exact s6, by rw [far _ _ l2 n2]; exact s7, by rw [far _ _ l2 n2]; exact s8, by rw [far _ _ l2 n2]; exact s9, by rw [far _ _ l2 n2]; exact s10⟩
theorem GS.below (g : GS w h R m fr root dep cnt bt bs bv bf fb s F) (hb : Below w.heap.size w w') : GS w' h R m fr root dep cnt bt bs bv bf fb s F := by
  obtain ⟨v, h1, h2⟩ := g.fnd
  exact g.mv (FrV.of hb) ⟨v, by rw [hb.block bf (Array.getElem?_eq_some_iff.1 h1).1]; exact h1, ownsRow_sv h2 (Sv.of (X := Nothing) hb) fun _ _ h => h⟩
/-- One more is found. -/
theorem GS.more {w1 : World} {v v1 : Value} (g : GS w h R m fr root dep cnt bt bs bv bf fb s F) (hv : w.heap[bf]? = some (.cells #[v] 98 (0, 0))) (hg : w.grownBy w1 v.ownBlock) (ho : w.ownsRow fb TI 18 v F.length (icells F)) (x : It) (hn : w1.ownsRow fb TI 18 v1 (F.length + 1) (icells F ++ x.cells)) :
    GS (w1.setCell ⟨bf, 0, none⟩ v1) h R m fr root dep cnt bt bs bv bf fb s (F ++ [x]) ∧ FrV bf fb w (w1.setCell ⟨bf, 0, none⟩ v1) ∧ w1.heap[bf]? = some (.cells #[v] 98 (0, 0)) := by
  have hb1 : bf < w.heap.size := (Array.getElem?_eq_some_iff.1 hv).1
  have hvo : ∀ k, v.ownBlock = some k → fb ≤ k := fun k hk => (ho.lt k hk).1
  have hne : some bf ≠ v.ownBlock := fun e => by have := hvo bf e.symm; have := g.lt.2.2.2; omega
  have hbf : w1.heap[bf]? = some (.cells #[v] 98 (0, 0)) := by rw [hg.block bf hb1 hne]; exact hv
  have hf : FrV bf fb w (w1.setCell ⟨bf, 0, none⟩ v1) := by
    have f1 : FrV bf fb w w1 := ⟨hg.os, hg.tape, hg.output, hg.size, fun k hk hx => hg.block k hk fun e => hx (.inr (hvo k e.symm))⟩
    exact f1.set (a := ⟨bf, 0, none⟩) (.inl rfl) _
  refine ⟨g.mv hf ⟨v1, ?_, ?_⟩, hf, hbf⟩
  · exact heap_setCell_same w1 bf 0 _ _ _ hbf
  · rw [show (F ++ [x]).length = F.length + 1 by simp, icells_append, show icells [x] = x.cells by simp [icells]]
    have hs : Sv (fun k => k = bf) w1 (w1.setCell ⟨bf, 0, none⟩ v1) := Sv.set (X := fun k => k = bf) (Sv.refl _ _) (a := ⟨bf, 0, none⟩) rfl _
    exact ownsRow_sv hn hs fun k hk e => by
      have h1 := (hn.lt k hk).1
      have h2 := g.lt.2.2.2
      subst e; omega
end
end Go.Proofs.Ytafkpfhhmmnpeaa.Val
/- What the tree's gather visits, in a leaf. -/
namespace Go.Proofs.Ytafkpfhhmmnpeaa.Val
open Go Go.RowKit
set_option maxRecDepth 100000

/-- A node that can be visited. -/
structure Vis (R : Nat → List It) (m hh n : Nat) : Prop where
  ok : okL R hh (R n)
  rises : Rises (prs R hh (R n))
  lt : n < m
  nlt : ∀ z ∈ nds R hh (R n), z < m
theorem sel_take {s : Sp} {l : List It} {j : Nat} (hj : j < l.length) : selS s (l.take (j + 1)) = selS s (l.take j) ++ (if withinS s l[j].k then [l[j]] else []) := by
  rw [List.take_succ_eq_append_getElem hj, sel_append]
  congr 1
  unfold selS
  split <;> simp_all
abbrev itobj (x : It) : Obj := .cells #[.bool x.k.t, .int .i64 x.k.n, .string x.k.s, .bool x.v.a.t, .int .i64 x.v.a.n, .string x.v.a.s, .bool x.v.b.t, .int .i64 x.v.b.n, .string x.v.b.s, .bool x.v.c.t, .int .i64 x.v.c.n, .string x.v.c.s, .bool x.v.d.t, .int .i64 x.v.d.n, .string x.v.d.s, .int .i64 x.v.w, .int .i64 x.v.m, .int .i64 x.d] TI (0, 0)
theorem ItAt.new (w : World) (x : It) : ItAt (w.alloc (itobj x)) w.heap.size 0 x := ⟨by simp [go_sem], by simp [go_sem], by simp [go_sem], by simp [go_sem], by simp [go_sem], by simp [go_sem], by simp [go_sem], by simp [go_sem], by simp [go_sem], by simp [go_sem], by simp [go_sem], by simp [go_sem], by simp [go_sem], by simp [go_sem], by simp [go_sem], by simp [go_sem], by simp [go_sem], by simp [go_sem]⟩
theorem ItAt.below {w w' : World} {b o : Nat} {x : It} (h : ItAt w b o x) (hb : Below w.heap.size w w') : ItAt w' b o x := by
  exact ⟨by rw [hb.cell (World.block_lt_of_cell? w _ h.c0)]; exact h.c0, by rw [hb.cell (World.block_lt_of_cell? w _ h.c1)]; exact h.c1, by rw [hb.cell (World.block_lt_of_cell? w _ h.c2)]; exact h.c2, by rw [hb.cell (World.block_lt_of_cell? w _ h.c3)]; exact h.c3, by rw [hb.cell (World.block_lt_of_cell? w _ h.c4)]; exact h.c4, by rw [hb.cell (World.block_lt_of_cell? w _ h.c5)]; exact h.c5, by rw [hb.cell (World.block_lt_of_cell? w _ h.c6)]; exact h.c6, by rw [hb.cell (World.block_lt_of_cell? w _ h.c7)]; exact h.c7, by rw [hb.cell (World.block_lt_of_cell? w _ h.c8)]; exact h.c8, by rw [hb.cell (World.block_lt_of_cell? w _ h.c9)]; exact h.c9, by rw [hb.cell (World.block_lt_of_cell? w _ h.c10)]; exact h.c10, by rw [hb.cell (World.block_lt_of_cell? w _ h.c11)]; exact h.c11, by rw [hb.cell (World.block_lt_of_cell? w _ h.c12)]; exact h.c12, by rw [hb.cell (World.block_lt_of_cell? w _ h.c13)]; exact h.c13, by rw [hb.cell (World.block_lt_of_cell? w _ h.c14)]; exact h.c14, by rw [hb.cell (World.block_lt_of_cell? w _ h.c15)]; exact h.c15, by rw [hb.cell (World.block_lt_of_cell? w _ h.c16)]; exact h.c16, by rw [hb.cell (World.block_lt_of_cell? w _ h.c17)]; exact h.c17⟩
theorem ItAt.cells {w : World} {b : Nat} {x : It} (h : ItAt w b 0 x) : ∀ j u, x.cells[j]? = some u → w.cell? ((⟨b, 0, none⟩ : Addr).add j) = some u := fun j u hj => by
  have hadd : (⟨b, 0, none⟩ : Addr).add j = ⟨b, j, none⟩ := by unfold Addr.add; split <;> simp_all
  rw [hadd]
  have hj5 : j < 18 := (List.getElem?_eq_some_iff.1 hj).1
  match j, hj5, hj with
  | 0, _, hj => simp [It.cells] at hj; subst hj; exact h.c0
  | 1, _, hj => simp [It.cells] at hj; subst hj; exact h.c1
  | 2, _, hj => simp [It.cells] at hj; subst hj; exact h.c2
  | 3, _, hj => simp [It.cells] at hj; subst hj; exact h.c3
  | 4, _, hj => simp [It.cells] at hj; subst hj; exact h.c4
  | 5, _, hj => simp [It.cells] at hj; subst hj; exact h.c5
  | 6, _, hj => simp [It.cells] at hj; subst hj; exact h.c6
  | 7, _, hj => simp [It.cells] at hj; subst hj; exact h.c7
  | 8, _, hj => simp [It.cells] at hj; subst hj; exact h.c8
  | 9, _, hj => simp [It.cells] at hj; subst hj; exact h.c9
  | 10, _, hj => simp [It.cells] at hj; subst hj; exact h.c10
  | 11, _, hj => simp [It.cells] at hj; subst hj; exact h.c11
  | 12, _, hj => simp [It.cells] at hj; subst hj; exact h.c12
  | 13, _, hj => simp [It.cells] at hj; subst hj; exact h.c13
  | 14, _, hj => simp [It.cells] at hj; subst hj; exact h.c14
  | 15, _, hj => simp [It.cells] at hj; subst hj; exact h.c15
  | 16, _, hj => simp [It.cells] at hj; subst hj; exact h.c16
  | 17, _, hj => simp [It.cells] at hj; subst hj; exact h.c17
theorem range_key {w : World} {b o : Nat} {x : It} (h : w.rangeAt b o x.cells) : w.cell? ⟨b, o, none⟩ = some (.bool x.k.t) ∧ w.cell? ⟨b, o + 1, none⟩ = some (.int .i64 x.k.n) ∧ w.cell? ⟨b, o + 2, none⟩ = some (.string x.k.s) :=
  ⟨h 0 _ rfl, h 1 _ rfl, h 2 _ rfl⟩
theorem range_down {w : World} {b o : Nat} {x : It} (h : w.rangeAt b o x.cells) : w.cell? ⟨b, o + 17, none⟩ = some (.int .i64 x.d) := h 17 _ rfl
/-- An item is loaded. -/
theorem step_iload {ops : Array Oper} {rest : List Oper} {op : Oper} {a : Act} {w : World} {Q : Exit → Act → World → Prop} (hgd : op.guard = none) (x : Operand) (ho : op.op = .load TI x) (b o : Nat) (hx : a.eval x = .pointer (some ⟨b, o, none⟩)) (y : It) (hc : w.rangeAt b o y.cells)
    (h : wpList Try.prog ops Q rest (a.put op.dst y.val) w) : wpList Try.prog ops Q (op :: rest) a w :=
  wpList_load_mid hgd TI x ho b o hx y.cells _ hc Try.underlying105 rfl isize_I h
/-- An item is stored, in whatever world comes of it. -/
theorem step_istore {ops : Array Oper} {rest : List Oper} {op : Oper} {a : Act} {w : World} {Q : Exit → Act → World → Prop} (hgd : op.guard = none) (x y : Operand) (ho : op.op = .store TI x y) (b o : Nat) (i : It) (hx : a.eval x = .pointer (some ⟨b, o, none⟩)) (hy : a.eval y = i.val) (ht : w.there b o 18)
    (h : ∀ w', w'.rangeAt b o i.cells → Sv (fun k => k = b) w w' → wpList Try.prog ops Q rest (a.put op.dst undef) w') : wpList Try.prog ops Q (op :: rest) a w :=
  wpList_store_mid hgd TI x y ho b o i.cells.toArray hx hy ht isize_I (all_oneCell_toArray (It.cells_one i)) (h _ (World.rangeAt_setCells_same w b o i.cells ht) (sv_sets b i.cells o w))
section
variable {w : World} {h : Hd} {R : Nat → List It} {m : Nat} {fr : List Nat} {root dep cnt : Nat} {bt bs bv bf fb : Nat} {s : Sp} {F : List It}
set_option maxHeartbeats 8000000 in
theorem visit_leaf (n : Nat) (G : GS w h R m fr root dep cnt bt bs bv bf fb s F) (D : Vis R m 0 n) (hF : F.length + (R n).length ≤ 1000000) :
    Calls Try.prog 80 #[.int .i64 n, .int .i64 1, .pointer (some ⟨bt, 0, none⟩), .pointer (some ⟨bs, 0, none⟩), .pointer (some ⟨bv, 0, none⟩), .pointer (some ⟨bf, 0, none⟩)] w fun e w' => e = .returned (.tuple #[]) ∧ GS w' h R m fr root dep cnt bt bs bv bf fb s (F ++ selS s (R n)) ∧ FrV bf fb w w' := by
  obtain ⟨g, cap, cur, hav, _⟩ := G.tl.arenaAt (by have := D.lt; omega)
  have hl5 := G.tl.len5 n D.lt
  have HR : Hid (∀ w1 F1, GS w1 h R m fr root dep cnt bt bs bv bf fb s F1 → Calls Try.prog 53 #[.pointer (some ⟨h.p, 0, none⟩), .int .i64 n] w1 fun e w' => e = .returned (.slice (some ⟨g, n * 90, none⟩) (R n).length 5) ∧ Below w1.heap.size w1 w') := fun w1 F1 G1 => row_any G1.tl n D.lt hl5 g cap hav
  have HI : Hid (∀ w1 F1, GS w1 h R m fr root dep cnt bt bs bv bf fb s F1 → ∀ j (hj : j < (R n).length), w1.rangeAt g (n * 90 + j * 18) (R n)[j].cells) := fun w1 F1 G1 j hj => (G1.tl.rowAt g _ cap hav n D.lt).range j hj
  have HWI : Hid (∀ (x : Val) w1, Calls Try.prog 83 #[s.val, V x.t x.n x.s] w1 fun e w' => e = .returned (.bool (withinS s x)) ∧ Below w1.heap.size w1 w') := fun x w1 => within_any s x w1
  obtain ⟨inf, hi1, hi2, hi3, hi4⟩ := info_I
  have IN : Hid (Try.prog.info? TI = some inf ∧ inf.zero = some It.zero.val ∧ inf.size = 18 ∧ inf.bytes = 184) := ⟨hi1, hi2, hi3, hi4⟩
  clear D hav hi1 hi2 hi3 hi4
  have ct := G.ct
  have HG : Hid (GS w h R m fr root dep cnt bt bs bv bf fb s F) := G
  clear G
  obtain ⟨r, hr⟩ : ∃ r, R n = r := ⟨_, rfl⟩
  rw [hr] at hF hl5 HR HI ⊢
  clear hr
  go_enter Try.func80, Try.ntmps80
  go_wp2_with fail
  refine Calls.mono (HR.out _ _ HG.out) ?_
  rintro e w1 ⟨rfl, hb⟩
  have HG1 : Hid (GS w1 h R m fr root dep cnt bt bs bv bf fb s F ∧ FrV bf fb w w1) := ⟨HG.out.below hb, FrV.of hb⟩
  clear hb HG HR ct
  go_wp2_with fail
  go_loopw [16] (fun i wr => ∃ j : Nat, j ≤ r.length ∧ i = .int .i64 j ∧ Hid (GS wr h R m fr root dep cnt bt bs bv bf fb s (F ++ selS s (r.take j)) ∧ FrV bf fb w wr)) (fun i _ => r.length - (intOf i).toNat)
  case atStart => exact ⟨0, Nat.zero_le _, rfl, by rw [List.take_zero, show selS s [] = [] from rfl, List.append_nil]; exact HG1.out⟩
  case round =>
    obtain ⟨j, hj, rfl, HGr⟩ := hrel
    by_cases h1 : j < r.length
    · have HIT : Hid (wr.rangeAt g (n * 90 + j * 18) r[j].cells) := HI.out _ _ HGr.out.1 j h1
      have hst := sel_take (s := s) h1
      have hlen : (F ++ selS s (r.take j)).length ≤ 999999 := by
        have : (selS s (r.take j)).length ≤ (r.take j).length := List.length_filter_le ..
        rw [List.length_append]
        rw [List.length_take] at this
        omega
      have HST : Hid (selS s (r.take (j + 1)) = selS s (r.take j) ++ (if withinS s r[j].k then [r[j]] else [])) := hst
      clear hst
      have HW1 : Hid (∀ w1, Calls Try.prog 83 #[s.val, V r[j].k.t r[j].k.n r[j].k.s] w1 fun e w' => e = .returned (.bool (withinS s r[j].k)) ∧ Below w1.heap.size w1 w') := fun w1 => HWI.out _ w1
      generalize r[j] = x at *
      generalize hF1 : F ++ selS s (r.take j) = F1 at *
      have HF1 : Hid (F ++ selS s (r.take j) = F1) := hF1
      clear hF1
      have j0 : (0 : Int) ≤ (j : Int) := by omega
      have j1 : (j : Int) < (r.length : Int) := by omega
      have j5 : j ≤ 5 := by omega
      have HJ : Hid (j < r.length) := h1
      clear h1 hj
      have HZ : Hid ((wr.alloc (.cells It.zero.cells.toArray TI)).there wr.heap.size 0 18) := new_there It.zero.cells TI rfl rfl
      go_wp2_with (first | (refine step_iload rfl _ rfl g (n * 90 + j * 18) rfl x HIT.out ?_) | (refine step_istore rfl _ _ rfl wr.heap.size 0 x rfl rfl HZ.out ?_; intro wx hrx hsx) | fail)
      have HRX : Hid (wx.rangeAt wr.heap.size 0 x.cells ∧ Below wr.heap.size wr wx) := ⟨hrx, (alloc1 _ _).trans (hsx.below (by simp) fun k hk e => by omega)⟩
      clear hrx hsx HZ HIT
      refine wp_region_held_drew (S := fun _ => True) (by kernel_rfl) ?_ (fun hHeld => ?_)
      · trivial
      (try clear hK K)
      refine wpAnyH_take (i := 0) (v := ?_) rfl (by kernel_rfl) (by kernel_rfl) (by kernel_rfl) (fun _ _ _ h => h) (Or.inl ⟨by rfl, ?_⟩) (by assumption) ?_
      rotate_left
      · intro w hSw; (try dsimp only at hSw); go_simp; (try with_reducible rfl)
      (try simp only [Act.put, List.getElem_toArray, List.getElem_cons_zero, List.setIfInBounds_toArray, List.set_cons_zero, List.set_cons_succ])
      refine wpAnyH_take (i := 1) (v := ?_) rfl (by kernel_rfl) (by kernel_rfl) (by kernel_rfl) (fun _ _ _ h => h) (Or.inl ⟨by rfl, ?_⟩) (by assumption) ?_
      rotate_left
      · intro w hSw; (try dsimp only at hSw); go_simp; (try with_reducible rfl)
      (try simp only [Act.put, List.getElem_toArray, List.getElem_cons_succ, List.getElem_cons_zero, List.setIfInBounds_toArray, List.set_cons_zero, List.set_cons_succ])
      refine wpAnyH_take (i := 2) (v := ?_) rfl (by kernel_rfl) (by kernel_rfl) (by kernel_rfl) (fun _ _ _ h => h) (Or.inl ⟨by rfl, ?_⟩) (by assumption) ?_
      rotate_left
      · intro w hSw; (try dsimp only at hSw); go_simp; (try with_reducible rfl)
      (try simp only [Act.put, List.getElem_toArray, List.getElem_cons_succ, List.getElem_cons_zero, List.setIfInBounds_toArray, List.set_cons_zero, List.set_cons_succ])
      (try clear hK K)
      refine wpAnyH_take (i := 3) (v := undef) rfl (by kernel_rfl) (by kernel_rfl) (by kernel_rfl) (fun _ _ _ h => h) (Or.inr ⟨by rfl, rfl⟩) (by assumption) ?_
      (try simp only [Act.put, List.getElem_toArray, List.getElem_cons_succ, List.getElem_cons_zero, List.setIfInBounds_toArray, List.set_cons_zero, List.set_cons_succ])
      refine wpAnyH_take (i := 4) (v := undef) rfl (by kernel_rfl) (by kernel_rfl) (by kernel_rfl) (fun _ _ _ h => h) (Or.inr ⟨by rfl, rfl⟩) (by assumption) ?_
      (try simp only [Act.put, List.getElem_toArray, List.getElem_cons_succ, List.getElem_cons_zero, List.setIfInBounds_toArray, List.set_cons_zero, List.set_cons_succ])
      refine wpAnyH_take (i := 5) (v := undef) rfl (by kernel_rfl) (by kernel_rfl) (by kernel_rfl) (fun _ _ _ h => h) (Or.inr ⟨by rfl, rfl⟩) (by assumption) ?_
      (try simp only [Act.put, List.getElem_toArray, List.getElem_cons_succ, List.getElem_cons_zero, List.setIfInBounds_toArray, List.set_cons_zero, List.set_cons_succ])
      refine wpAnyH_take (i := 6) (v := undef) rfl (by kernel_rfl) (by kernel_rfl) (by kernel_rfl) (fun _ _ _ h => h) (Or.inr ⟨by rfl, rfl⟩) (by assumption) ?_
      (try simp only [Act.put, List.getElem_toArray, List.getElem_cons_succ, List.getElem_cons_zero, List.setIfInBounds_toArray, List.set_cons_zero, List.set_cons_succ])
      refine wpAnyH_take (i := 7) (v := undef) rfl (by kernel_rfl) (by kernel_rfl) (by kernel_rfl) (fun _ _ _ h => h) (Or.inr ⟨by rfl, rfl⟩) (by assumption) ?_
      (try simp only [Act.put, List.getElem_toArray, List.getElem_cons_succ, List.getElem_cons_zero, List.setIfInBounds_toArray, List.set_cons_zero, List.set_cons_succ])
      refine wpAnyH_take (i := 8) (v := undef) rfl (by kernel_rfl) (by kernel_rfl) (by kernel_rfl) (fun _ _ _ h => h) (Or.inr ⟨by rfl, rfl⟩) (by assumption) ?_
      (try simp only [Act.put, List.getElem_toArray, List.getElem_cons_succ, List.getElem_cons_zero, List.setIfInBounds_toArray, List.set_cons_zero, List.set_cons_succ])
      refine wpAnyH_take (i := 9) (v := undef) rfl (by kernel_rfl) (by kernel_rfl) (by kernel_rfl) (fun _ _ _ h => h) (Or.inr ⟨by rfl, rfl⟩) (by assumption) ?_
      (try simp only [Act.put, List.getElem_toArray, List.getElem_cons_succ, List.getElem_cons_zero, List.setIfInBounds_toArray, List.set_cons_zero, List.set_cons_succ])
      (try clear hK K)
      refine wpAnyH_take (i := 10) (v := ?_) rfl (by kernel_rfl) (by kernel_rfl) (by kernel_rfl) (fun _ _ _ h => h) (Or.inl ⟨by rfl, ?_⟩) (by assumption) ?_
      rotate_left
      · intro w hSw; (try dsimp only at hSw); go_simp; (try with_reducible rfl)
      (try simp only [Act.put, List.getElem_toArray, List.getElem_cons_succ, List.getElem_cons_zero, List.setIfInBounds_toArray, List.set_cons_zero, List.set_cons_succ])
      refine wpAnyH_take (i := 11) (v := ?_) rfl (by kernel_rfl) (by kernel_rfl) (by kernel_rfl) (fun _ _ _ h => h) (Or.inl ⟨by rfl, ?_⟩) (by assumption) ?_
      rotate_left
      · intro w hSw; (try dsimp only at hSw); go_simp; (try with_reducible rfl)
      (try simp only [Act.put, List.getElem_toArray, List.getElem_cons_succ, List.getElem_cons_zero, List.setIfInBounds_toArray, List.set_cons_zero, List.set_cons_succ])
      (try clear hK K)
      refine wpAnyH_done (by kernel_rfl) ?_ _
      have HA : Hid (GS wx.drew h R m fr root dep cnt bt bs bv bf fb s F1 ∧ FrV bf fb w wx.drew ∧ wx.drew.rangeAt wr.heap.size 0 x.cells) := by
        have hb : Below wr.heap.size wr wx.drew := HRX.out.2.drew
        exact ⟨HGr.out.1.below hb, HGr.out.2.trans (FrV.of hb), range_below HRX.out.1 (Below.refl _ _).drew⟩
      clear HGr HRX
      obtain ⟨s0, s1, s2, s3, s4, s5, s6, s7, s8, s9, s10⟩ := HA.out.1.sb
      obtain ⟨c0, c1, c2⟩ := range_key HA.out.2.2
      go_wp2_with fail
      refine Calls.mono (HW1.out _) ?_
      rintro e w2 ⟨rfl, hb⟩
      have HA2 : Hid (GS w2 h R m fr root dep cnt bt bs bv bf fb s F1 ∧ FrV bf fb w w2 ∧ w2.rangeAt wr.heap.size 0 x.cells) := ⟨HA.out.1.below hb, HA.out.2.1.trans (FrV.of hb), range_below HA.out.2.2 hb⟩
      clear hb HA HW1 s0 s1 s2 s3 s4 s5 s6 s7 s8 s9 s10 c0 c1 c2
      cases hw : withinS s x.k
      · have HE : Hid (F ++ selS s (r.take (j + 1)) = F1) := by
          show F ++ selS s (r.take (j + 1)) = F1
          rw [HST.out, hw]; simpa using HF1.out
        clear hw HST HF1
        go_wp2_with fail
        go_roundw
        case rel => exact ⟨j + 1, HJ.out, by go_num, by rw [HE.out]; exact ⟨HA2.out.1, HA2.out.2.1⟩⟩
        case measure => have := HJ.out; simp [intOf]; omega
      · have HE : Hid (F ++ selS s (r.take (j + 1)) = F1 ++ [x]) := by
          show F ++ selS s (r.take (j + 1)) = F1 ++ [x]
          rw [HST.out, hw, if_pos rfl, ← List.append_assoc, HF1.out]
        clear hw HST HF1
        obtain ⟨v, hv1, hv2⟩ := HA2.out.1.fnd
        obtain ⟨va, vc, ev⟩ := owns_slice hv2
        subst ev
        have HV : Hid (w2.heap[bf]? = some (.cells #[.slice va F1.length vc] 98 (0, 0)) ∧ w2.ownsRow fb TI 18 (.slice va F1.length vc) F1.length (icells F1)) := ⟨hv1, hv2⟩
        have f0 : w2.cell? ⟨bf, 0, none⟩ = some (.slice va F1.length vc) := by simp [World.cell?, hv1]
        clear hv1 hv2
        go_wp2_with (first | (refine step_iload rfl _ rfl wr.heap.size 0 rfl x HA2.out.2.2 ?_) | (at_builtin; refine wpList_append_own_at _ rfl _ _ _ rfl fb TI inf _ 18 184 Try.underlying98 IN.out.1 IN.out.2.1 IN.out.2.2.1 IN.out.2.2.2 rfl (by decide) (.slice va F1.length vc) F1.length (icells F1) rfl (HV.out.2.alloc _) ⟨w2.heap.size, 0, none⟩ 1 1 x.cells rfl rfl (ItAt.new w2 x).cells (It.cells_one x) (by unfold maxLen; omega) (by omega) (Nat.le_trans HA2.out.1.sz (by simp)) ?_) | fail)
        intro v1 w3 hown hgrow _ hat
        have hbA : Below w2.heap.size w2 (w2.alloc (itobj x)) := alloc1 _ _
        have hvA : (w2.alloc (itobj x)).heap[bf]? = some (.cells #[.slice va F1.length vc] 98 (0, 0)) := by rw [hbA.block bf (Array.getElem?_eq_some_iff.1 HV.out.1).1]; exact HV.out.1
        obtain ⟨m1, m2, m3⟩ := (HA2.out.1.below hbA).more hvA hgrow (HV.out.2.alloc _) x hown
        obtain ⟨ga, gc, eg⟩ : ∃ a c, v1 = .slice a (F1.length + 1) c := owns_slice hown
        have HM : Hid (GS (w3.setCell ⟨bf, 0, none⟩ v1) h R m fr root dep cnt bt bs bv bf fb s (F1 ++ [x]) ∧ FrV bf fb w (w3.setCell ⟨bf, 0, none⟩ v1)) := ⟨m1, HA2.out.2.1.trans ((FrV.of hbA).trans m2)⟩
        have y1 : w3.cell? ⟨bf, 0, none⟩ = some (.slice va F1.length vc) := by simp [World.cell?, m3]
        have y2 : w3.frozen? ⟨bf, 0, none⟩ = false := by simp [World.frozen?, m3]
        clear m1 m2 m3 hown hgrow hat hbA hvA HV HA2 f0
        subst eg
        go_wp2_with fail
        go_roundw
        case rel => exact ⟨j + 1, HJ.out, by go_num, by rw [HE.out]; exact HM.out⟩
        case measure => have := HJ.out; simp [intOf]; omega
    · obtain rfl : j = r.length := by omega
      have j1 : decide ((r.length : Int) < (r.length : Int)) = false := by simp
      have HGe : Hid (GS wr h R m fr root dep cnt bt bs bv bf fb s (F ++ selS s r) ∧ FrV bf fb w wr) := by
        have := HGr.out
        rwa [List.take_length] at this
      clear HGr HG1
      go_wp2_with fail
      go_end0
      exact ⟨rfl, HGe.out⟩
end
end Go.Proofs.Ytafkpfhhmmnpeaa.Val
/- What the tree's gather visits, at any depth. -/
namespace Go.Proofs.Ytafkpfhhmmnpeaa.Val
open Go Go.RowKit
set_option maxRecDepth 100000

theorem gather_enters : Enters 80 := enters_of Try.func80 rfl rfl
theorem field_no (M : Sp) (w' : World) : (Instr.field 36 (SV M.no M.hl M.ol M.lo.t M.lo.n M.lo.s M.hh M.oh M.hi.t M.hi.n M.hi.s) 0).run Try.prog w' = .ok (.bool M.no) w' := by
  simp [Instr.field, run_underlying Try.underlying36, asAgg, part, go_sem]
section
variable {h : Hd} {R : Nat → List It} {m : Nat} {fr : List Nat} {root dep cnt : Nat} {bt bs bv bf fb : Nat} {s : Sp}
/-- The contract of a visit, so deep. -/
def ViOk (h : Hd) (R : Nat → List It) (m : Nat) (fr : List Nat) (root dep cnt bt bs bv bf fb : Nat) (s : Sp) (hh : Nat) : Prop :=
  ∀ {w : World} {F : List It} (n : Nat), GS w h R m fr root dep cnt bt bs bv bf fb s F → Vis R m hh n → F.length + (lvs R hh (R n)).length ≤ 1000000 → hh ≤ 200000 →
    Calls Try.prog 80 #[.int .i64 n, .int .i64 (hh + 1 : Nat), .pointer (some ⟨bt, 0, none⟩), .pointer (some ⟨bs, 0, none⟩), .pointer (some ⟨bv, 0, none⟩), .pointer (some ⟨bf, 0, none⟩)] w fun e w' => e = .returned (.tuple #[]) ∧ GS w' h R m fr root dep cnt bt bs bv bf fb s (F ++ selS s (lvs R hh (R n))) ∧ FrV bf fb w w'
theorem Vis.part {q n j : Nat} (D : Vis R m (q + 1) n) (hj : j < (R n).length) : Vis R m q (R n)[j].d := by
  have hparts := row_parts (R n) j hj
  have ho := D.ok
  rw [hparts, okL_append, okL_append] at ho
  have hr := D.rises
  rw [hparts, prs_append, prs_append, prs_up] at hr
  have hn := D.nlt
  rw [hparts, nds_append, nds_append, nds_up] at hn
  exact ⟨(okI_up.1 (okL_one.1 ho.2.1)).2.2.2, (List.pairwise_append.1 (List.pairwise_append.1 hr).2.1).1, hn _ (by simp), fun z hz => hn z (by simp [hz])⟩
theorem lvs_take {q : Nat} {r : List It} {j : Nat} (hj : j < r.length) : lvs R (q + 1) (r.take (j + 1)) = lvs R (q + 1) (r.take j) ++ lvs R q (R r[j].d) := by
  rw [List.take_succ_eq_append_getElem hj, lvs_append, lvs_up]
theorem lvs_le {q : Nat} {r : List It} {j : Nat} (hj : j < r.length) : (lvs R (q + 1) (r.take j)).length + (lvs R q (R r[j].d)).length ≤ (lvs R (q + 1) r).length := by
  have h1 : lvs R (q + 1) r = lvs R (q + 1) (r.take (j + 1)) ++ lvs R (q + 1) (r.drop (j + 1)) := by rw [← lvs_append, List.take_append_drop]
  rw [h1, lvs_take hj]
  simp only [List.length_append]; omega
set_option maxHeartbeats 8000000 in
theorem visit_up {q : Nat} (IH : ViOk h R m fr root dep cnt bt bs bv bf fb s q) : ViOk h R m fr root dep cnt bt bs bv bf fb s (q + 1) := by
  intro w F n G D hF hh6
  obtain ⟨g, cap, cur, hav, _⟩ := G.tl.arenaAt (by have := D.lt; omega)
  have hl5 := G.tl.len5 n D.lt
  have HR : Hid (∀ w1 F1, GS w1 h R m fr root dep cnt bt bs bv bf fb s F1 → Calls Try.prog 53 #[.pointer (some ⟨h.p, 0, none⟩), .int .i64 n] w1 fun e w' => e = .returned (.slice (some ⟨g, n * 90, none⟩) (R n).length 5) ∧ Below w1.heap.size w1 w') := fun w1 F1 G1 => row_any G1.tl n D.lt hl5 g cap hav
  have HI : Hid (∀ w1 F1, GS w1 h R m fr root dep cnt bt bs bv bf fb s F1 → ∀ j (hj : j < (R n).length), w1.rangeAt g (n * 90 + j * 18) (R n)[j].cells) := fun w1 F1 G1 j hj => (G1.tl.rowAt g _ cap hav n D.lt).range j hj
  have HBE : Hid (∀ w1 F1, GS w1 h R m fr root dep cnt bt bs bv bf fb s F1 → ∀ j, j < (R n).length → Calls Try.prog 82 #[.slice (some ⟨g, n * 90, none⟩) (R n).length 5, .int .i64 j] w1 fun e w' => e = .returned (belowS (R n) j).val ∧ Below w1.heap.size w1 w') := fun w1 F1 G1 j hj => below_any g (n * 90) (R n) j w1 (G1.tl.rowAt g _ cap hav n D.lt) hl5 hj
  have HME : Hid (∀ j w1, Calls Try.prog 81 #[s.val, (belowS (R n) j).val] w1 fun e w' => e = .returned (meetS s (belowS (R n) j)).val ∧ Below w1.heap.size w1 w') := fun j w1 => meet_any s (belowS (R n) j) w1
  have HNO : Hid (∀ j (hj : j < (R n).length), (meetS s (belowS (R n) j)).no = true → selS s (lvs R q (R (R n)[j].d)) = []) := fun j hj hno => by
    have := sel_none hj D.ok D.rises hno
    rwa [lvs_up] at this
  have HCH : Hid (∀ w1 F1 j (hj : j < (R n).length), GS w1 h R m fr root dep cnt bt bs bv bf fb s F1 → F1.length + (lvs R q (R (R n)[j].d)).length ≤ 1000000 → Calls Try.prog 80 #[.int .i64 (R n)[j].d, .int .i64 ((q + 1 : Nat) : Int), .pointer (some ⟨bt, 0, none⟩), .pointer (some ⟨bs, 0, none⟩), .pointer (some ⟨bv, 0, none⟩), .pointer (some ⟨bf, 0, none⟩)] w1 fun e w' => e = .returned (.tuple #[]) ∧ GS w' h R m fr root dep cnt bt bs bv bf fb s (F1 ++ selS s (lvs R q (R (R n)[j].d))) ∧ FrV bf fb w1 w') := fun w1 F1 j hj G1 hl => IH _ G1 (D.part hj) hl (by omega)
  have hE : ∀ args w, (callFunc 80 args).run Try.prog w = .ok (.enter 80 args) w := gather_enters
  clear D hav IH
  have ct := G.ct
  have HG : Hid (GS w h R m fr root dep cnt bt bs bv bf fb s F) := G
  clear G
  obtain ⟨r, hr⟩ : ∃ r, R n = r := ⟨_, rfl⟩
  rw [hr] at hF hl5 HR HI HBE HME HNO HCH ⊢
  clear hr
  obtain ⟨dp, hdp⟩ : ∃ dp : Nat, q + 1 + 1 = dp := ⟨_, rfl⟩
  rw [hdp]
  have hd2 : ((q + 1 : Nat) : Int) = (dp : Int) - 1 := by omega
  rw [hd2] at HCH
  have d1 : (1 : Int) < (dp : Int) := by omega
  have d2 : ((dp : Int) == 1) = false := by rw [beq_eq_false_iff_ne]; omega
  have d4 : IntKind.i64.wrap ((dp : Int) - 1) = (dp : Int) - 1 := by rw [IntKind.wrap_i64]; omega
  have HFL : Hid (F.length + (lvs R (q + 1) r).length ≤ 1000000) := hF
  clear hdp hd2 hh6 hF
  go_enter Try.func80, Try.ntmps80
  go_wp2_with fail
  refine Calls.mono (HR.out _ _ HG.out) ?_
  rintro e w1 ⟨rfl, hb⟩
  have HG1 : Hid (GS w1 h R m fr root dep cnt bt bs bv bf fb s F ∧ FrV bf fb w w1) := ⟨HG.out.below hb, FrV.of hb⟩
  clear hb HG HR ct
  go_wp2_with fail
  go_loopw [16] (fun i wr => ∃ j : Nat, j ≤ r.length ∧ i = .int .i64 j ∧ Hid (GS wr h R m fr root dep cnt bt bs bv bf fb s (F ++ selS s (lvs R (q + 1) (r.take j))) ∧ FrV bf fb w wr)) (fun i _ => r.length - (intOf i).toNat)
  case atStart => exact ⟨0, Nat.zero_le _, rfl, by rw [List.take_zero, show lvs R (q + 1) [] = [] from rfl, show selS s [] = [] from rfl, List.append_nil]; exact HG1.out⟩
  case round =>
    obtain ⟨j, hj, rfl, HGr⟩ := hrel
    by_cases h1 : j < r.length
    · have HIT : Hid (wr.rangeAt g (n * 90 + j * 18) r[j].cells) := HI.out _ _ HGr.out.1 j h1
      have HST : Hid (F ++ selS s (lvs R (q + 1) (r.take (j + 1))) = (F ++ selS s (lvs R (q + 1) (r.take j))) ++ selS s (lvs R q (R r[j].d))) := by
        show _ = _
        rw [lvs_take h1, sel_append, List.append_assoc]
      have HLE : Hid ((F ++ selS s (lvs R (q + 1) (r.take j))).length + (lvs R q (R r[j].d)).length ≤ 1000000) := by
        have h2 := lvs_le (R := R) (q := q) h1
        have h3 := HFL.out
        have h4 : (selS s (lvs R (q + 1) (r.take j))).length ≤ (lvs R (q + 1) (r.take j)).length := List.length_filter_le ..
        show _ ≤ _
        rw [List.length_append]; omega
      have A1 : Hid (∀ w1 F1, GS w1 h R m fr root dep cnt bt bs bv bf fb s F1 → Calls Try.prog 82 #[.slice (some ⟨g, n * 90, none⟩) r.length 5, .int .i64 j] w1 fun e w' => e = .returned (belowS r j).val ∧ Below w1.heap.size w1 w') := fun w1 F1 G1 => HBE.out w1 F1 G1 j h1
      have A2 : Hid (∀ w1, Calls Try.prog 81 #[s.val, (belowS r j).val] w1 fun e w' => e = .returned (SV (meetS s (belowS r j)).no (meetS s (belowS r j)).hl (meetS s (belowS r j)).ol (meetS s (belowS r j)).lo.t (meetS s (belowS r j)).lo.n (meetS s (belowS r j)).lo.s (meetS s (belowS r j)).hh (meetS s (belowS r j)).oh (meetS s (belowS r j)).hi.t (meetS s (belowS r j)).hi.n (meetS s (belowS r j)).hi.s) ∧ Below w1.heap.size w1 w') := fun w1 => HME.out j w1
      have A3 : Hid ((meetS s (belowS r j)).no = true → selS s (lvs R q (R r[j].d)) = []) := HNO.out j h1
      have A4 : Hid (∀ w1 F1, GS w1 h R m fr root dep cnt bt bs bv bf fb s F1 → F1.length + (lvs R q (R r[j].d)).length ≤ 1000000 → Calls Try.prog 80 #[.int .i64 r[j].d, .int .i64 ((dp : Int) - 1), .pointer (some ⟨bt, 0, none⟩), .pointer (some ⟨bs, 0, none⟩), .pointer (some ⟨bv, 0, none⟩), .pointer (some ⟨bf, 0, none⟩)] w1 fun e w' => e = .returned (.tuple #[]) ∧ GS w' h R m fr root dep cnt bt bs bv bf fb s (F1 ++ selS s (lvs R q (R r[j].d))) ∧ FrV bf fb w1 w') := fun w1 F1 G1 hl => HCH.out w1 F1 j h1 G1 hl
      clear HBE HME HNO HCH HI
      generalize r[j] = x at *
      generalize meetS s (belowS r j) = M at *
      generalize F ++ selS s (lvs R (q + 1) (r.take j)) = F1 at *
      generalize selS s (lvs R q (R x.d)) = Fx at *
      generalize (belowS r j).val = bv' at *
      have hfl := field_no M
      have j0 : (0 : Int) ≤ (j : Int) := by omega
      have j1 : (j : Int) < (r.length : Int) := by omega
      have j5 : j ≤ 5 := by omega
      have HJ : Hid (j < r.length) := h1
      clear h1 hj
      have HZ : Hid ((wr.alloc (.cells It.zero.cells.toArray TI)).there wr.heap.size 0 18) := new_there It.zero.cells TI rfl rfl
      go_wp2_with (first | (refine step_iload rfl _ rfl g (n * 90 + j * 18) rfl x HIT.out ?_) | (refine step_istore rfl _ _ rfl wr.heap.size 0 x rfl rfl HZ.out ?_; intro wx hrx hsx) | fail)
      have HA : Hid (GS wx.drew h R m fr root dep cnt bt bs bv bf fb s F1 ∧ FrV bf fb w wx.drew ∧ wx.drew.rangeAt wr.heap.size 0 x.cells) := by
        have hb : Below wr.heap.size wr wx.drew := ((alloc1 _ _).trans (hsx.below (by simp) fun k hk e => by omega)).drew
        exact ⟨HGr.out.1.below hb, HGr.out.2.trans (FrV.of hb), range_below hrx (Below.refl _ _).drew⟩
      clear hrx hsx HZ HIT HGr
      refine wp_region_held_drew (S := fun w' => w'.cell? ⟨bs, 0, none⟩ = some (.bool s.no) ∧ w'.cell? ⟨bs, 1, none⟩ = some (.bool s.hl) ∧ w'.cell? ⟨bs, 2, none⟩ = some (.bool s.ol) ∧ w'.cell? ⟨bs, 3, none⟩ = some (.bool s.lo.t) ∧ w'.cell? ⟨bs, 4, none⟩ = some (.int .i64 s.lo.n) ∧ w'.cell? ⟨bs, 5, none⟩ = some (.string s.lo.s) ∧ w'.cell? ⟨bs, 6, none⟩ = some (.bool s.hh) ∧ w'.cell? ⟨bs, 7, none⟩ = some (.bool s.oh) ∧ w'.cell? ⟨bs, 8, none⟩ = some (.bool s.hi.t) ∧ w'.cell? ⟨bs, 9, none⟩ = some (.int .i64 s.hi.n) ∧ w'.cell? ⟨bs, 10, none⟩ = some (.string s.hi.s)) (by kernel_rfl) ?_ (fun hHeld => ?_)
      · exact HA.out.1.sb.conj
      (try clear hK K)
      refine wpAnyH_take (i := 0) (v := ?_) rfl (by kernel_rfl) (by kernel_rfl) (by kernel_rfl) (fun _ _ _ h => h) (Or.inl ⟨by rfl, ?_⟩) (by assumption) ?_
      rotate_left
      · intro w hSw; (try dsimp only at hSw); go_simp; (try with_reducible rfl)
      (try simp only [Act.put, List.getElem_toArray, List.getElem_cons_zero, List.setIfInBounds_toArray, List.set_cons_zero, List.set_cons_succ])
      refine wpAnyH_take (i := 1) (v := ?_) rfl (by kernel_rfl) (by kernel_rfl) (by kernel_rfl) (fun _ _ _ h => h) (Or.inl ⟨by rfl, ?_⟩) (by assumption) ?_
      rotate_left
      · intro w hSw; (try dsimp only at hSw); go_simp; (try with_reducible rfl)
      (try simp only [Act.put, List.getElem_toArray, List.getElem_cons_succ, List.getElem_cons_zero, List.setIfInBounds_toArray, List.set_cons_zero, List.set_cons_succ])
      refine wpAnyH_take (i := 2) (v := ?_) rfl (by kernel_rfl) (by kernel_rfl) (by kernel_rfl) (fun _ _ _ h => h) (Or.inl ⟨by rfl, ?_⟩) (by assumption) ?_
      rotate_left
      · intro w hSw; (try dsimp only at hSw); go_simp; (try with_reducible rfl)
      (try simp only [Act.put, List.getElem_toArray, List.getElem_cons_succ, List.getElem_cons_zero, List.setIfInBounds_toArray, List.set_cons_zero, List.set_cons_succ])
      refine wpAnyH_take (i := 3) (v := ?_) rfl (by kernel_rfl) (by kernel_rfl) (by kernel_rfl) (fun _ _ _ h => h) (Or.inl ⟨by rfl, ?_⟩) (by assumption) ?_
      rotate_left
      · intro w hSw; (try dsimp only at hSw); go_simp; (try with_reducible rfl)
      (try simp only [Act.put, List.getElem_toArray, List.getElem_cons_succ, List.getElem_cons_zero, List.setIfInBounds_toArray, List.set_cons_zero, List.set_cons_succ])
      refine wpAnyH_take (i := 4) (v := ?_) rfl (by kernel_rfl) (by kernel_rfl) (by kernel_rfl) (fun _ _ _ h => h) (Or.inl ⟨by rfl, ?_⟩) (by assumption) ?_
      rotate_left
      · intro w hSw; (try dsimp only at hSw); go_simp; (try with_reducible rfl)
      (try simp only [Act.put, List.getElem_toArray, List.getElem_cons_succ, List.getElem_cons_zero, List.setIfInBounds_toArray, List.set_cons_zero, List.set_cons_succ])
      refine wpAnyH_take (i := 5) (v := ?_) rfl (by kernel_rfl) (by kernel_rfl) (by kernel_rfl) (fun _ _ _ h => h) (Or.inl ⟨by rfl, ?_⟩) (by assumption) ?_
      rotate_left
      · intro w hSw; (try dsimp only at hSw); go_simp; (try with_reducible rfl)
      (try simp only [Act.put, List.getElem_toArray, List.getElem_cons_succ, List.getElem_cons_zero, List.setIfInBounds_toArray, List.set_cons_zero, List.set_cons_succ])
      (try clear hK K)
      refine wpAnyH_ready (rs := [6]) (by kernel_rfl) (by simp) ?_
      refine AllReadyH.cons rfl (fun K hK => ?_) AllReadyH.nil
      go_simp
      (refine Calls.mono (A1.out _ _ HA.out.1) ?_; rintro e w2 ⟨rfl, hb⟩)
      refine hK.out _ _ ?_ (fun hHeld => ?_)
      · exact (HA.out.1.sb.below hb).conj
      have HA2 : Hid (GS w2 h R m fr root dep cnt bt bs bv bf fb s F1 ∧ FrV bf fb w w2 ∧ w2.rangeAt wr.heap.size 0 x.cells) := ⟨HA.out.1.below hb, HA.out.2.1.trans (FrV.of hb), range_below HA.out.2.2 hb⟩
      clear hb HA A1
      (try clear hK K)
      refine wpAnyH_ready (rs := [7]) (by kernel_rfl) (by simp) ?_
      refine AllReadyH.cons rfl (fun K hK => ?_) AllReadyH.nil
      go_simp
      (refine Calls.mono (A2.out _) ?_; rintro e w3 ⟨rfl, hb⟩)
      refine hK.out _ _ ?_ (fun hHeld => ?_)
      · exact (HA2.out.1.sb.below hb).conj
      have HA3 : Hid (GS w3 h R m fr root dep cnt bt bs bv bf fb s F1 ∧ FrV bf fb w w3 ∧ w3.rangeAt wr.heap.size 0 x.cells) := ⟨HA2.out.1.below hb, HA2.out.2.1.trans (FrV.of hb), range_below HA2.out.2.2 hb⟩
      clear hb HA2 A2
      (try clear hK K)
      refine wpAnyH_take (i := 8) (v := ?_) rfl (by kernel_rfl) (by kernel_rfl) (by kernel_rfl) (fun _ _ _ h => h) (Or.inl ⟨by rfl, ?_⟩) (by assumption) ?_
      rotate_left
      · intro w hSw; (try dsimp only at hSw); go_simp; (try with_reducible rfl)
      (try simp only [Act.put, List.getElem_toArray, List.getElem_cons_succ, List.getElem_cons_zero, List.setIfInBounds_toArray, List.set_cons_zero, List.set_cons_succ])
      refine wpAnyH_take (i := 9) (v := ?_) rfl (by kernel_rfl) (by kernel_rfl) (by kernel_rfl) (fun _ _ _ h => h) (Or.inl ⟨by rfl, ?_⟩) (by assumption) ?_
      rotate_left
      · intro w hSw; (try dsimp only at hSw); go_simp; (try with_reducible rfl)
      (try simp only [Act.put, List.getElem_toArray, List.getElem_cons_succ, List.getElem_cons_zero, List.setIfInBounds_toArray, List.set_cons_zero, List.set_cons_succ])
      refine wpAnyH_take (i := 10) (v := ?_) rfl (by kernel_rfl) (by kernel_rfl) (by kernel_rfl) (fun _ _ _ h => h) (Or.inl ⟨by rfl, ?_⟩) (by assumption) ?_
      rotate_left
      · intro w hSw; (try dsimp only at hSw); go_simp; (try with_reducible rfl)
      (try simp only [Act.put, List.getElem_toArray, List.getElem_cons_succ, List.getElem_cons_zero, List.setIfInBounds_toArray, List.set_cons_zero, List.set_cons_succ])
      refine wpAnyH_take (i := 11) (v := ?_) rfl (by kernel_rfl) (by kernel_rfl) (by kernel_rfl) (fun _ _ _ h => h) (Or.inl ⟨by rfl, ?_⟩) (by assumption) ?_
      rotate_left
      · intro w hSw; (try dsimp only at hSw); go_simp; (try with_reducible rfl)
      (try simp only [Act.put, List.getElem_toArray, List.getElem_cons_succ, List.getElem_cons_zero, List.setIfInBounds_toArray, List.set_cons_zero, List.set_cons_succ])
      (try clear hK K)
      refine wpAnyH_done (by kernel_rfl) ?_ _
      clear hfl
      cases hno : M.no
      · clear A3 hno
        have cv := HA3.out.1.cv
        have cd := range_down HA3.out.2.2
        go_wp2_with fail
        refine Calls.mono (A4.out _ _ HA3.out.1 HLE.out) ?_
        rintro e w4 ⟨rfl, G4, V4⟩
        have HA4 : Hid (GS w4 h R m fr root dep cnt bt bs bv bf fb s (F1 ++ Fx) ∧ FrV bf fb w w4) := ⟨G4, HA3.out.2.1.trans V4⟩
        clear G4 V4 A4 HA3 cv cd
        go_wp2_with fail
        go_roundw
        case rel => exact ⟨j + 1, HJ.out, by go_num, by rw [HST.out]; exact HA4.out⟩
        case measure => have := HJ.out; simp [intOf]; omega
      · have HE : Hid (Fx = []) := A3.out hno
        clear A3 A4 hno
        go_wp2_with fail
        go_roundw
        case rel => exact ⟨j + 1, HJ.out, by go_num, by rw [HST.out, HE.out, List.append_nil]; exact ⟨HA3.out.1, HA3.out.2.1⟩⟩
        case measure => have := HJ.out; simp [intOf]; omega
    · obtain rfl : j = r.length := by omega
      have j1 : decide ((r.length : Int) < (r.length : Int)) = false := by simp
      have HGe : Hid (GS wr h R m fr root dep cnt bt bs bv bf fb s (F ++ selS s (lvs R (q + 1) r)) ∧ FrV bf fb w wr) := by
        have := HGr.out
        rwa [List.take_length] at this
      clear HGr HG1
      go_wp2_with fail
      go_end0
      exact ⟨rfl, HGe.out⟩
theorem visit_all : ∀ hh, ViOk h R m fr root dep cnt bt bs bv bf fb s hh
  | 0 => fun n G D hF _ => visit_leaf n G D hF
  | hh + 1 => visit_up (visit_all hh)
end
end Go.Proofs.Ytafkpfhhmmnpeaa.Val
/- What the tree's gather answers: the leaves' items within a span. -/
namespace Go.Proofs.Ytafkpfhhmmnpeaa.Val
open Go Go.RowKit
set_option maxRecDepth 100000

section
variable {w : World} {h : Hd} {l : List Pr} {m u d : Nat}
set_option maxHeartbeats 2000000 in
theorem gather_nil (s : Sp) : Calls Try.prog 73 #[.pointer none, s.val] w fun e w' => e = .returned (.slice none 0 0) ∧ Below w.heap.size w w' := by
  have H0 : Hid (∀ w1, Calls Try.prog 42 #[.pointer none] w1 fun e w' => e = .returned (.int .i64 0) ∧ Below w1.heap.size w1 w') := len_nil
  unfold Sp.val
  go_enter Try.func73, Try.ntmps73
  go_wp2_with fail
  refine Calls.mono (H0.out _) ?_
  rintro e w1 ⟨rfl, hb⟩
  have HB : Hid (Below w.heap.size w w1) := back2 hb
  clear hb H0
  go_wp2_with fail
  go_ret
  exact ⟨rfl, HB.out⟩
set_option maxHeartbeats 2000000 in
theorem gather_empty (t : TR w h [] m u d) (s : Sp) : Calls Try.prog 73 #[.pointer (some ⟨h.p, 0, none⟩), s.val] w fun e w' => e = .returned (.slice none 0 0) ∧ Below w.heap.size w w' := by
  have H0 : Hid (∀ w1, Below w.heap.size w w1 → Calls Try.prog 42 #[.pointer (some ⟨h.p, 0, none⟩)] w1 fun e w' => e = .returned (.int .i64 0) ∧ Below w1.heap.size w1 w') := fun w1 hb => len_any (t.below hb)
  clear t
  unfold Sp.val
  go_enter Try.func73, Try.ntmps73
  go_wp2_with fail
  refine Calls.mono (H0.out _ (back2 (Below.refl _ _))) ?_
  rintro e w1 ⟨rfl, hb⟩
  have HB : Hid (Below w.heap.size w w1) := back2 hb
  clear hb H0
  go_wp2_with fail
  go_ret
  exact ⟨rfl, HB.out⟩
theorem owns_base {w : World} {e : TypeId} {size n b b' : Nat} {v : Value} {xs : List Value} (h : w.ownsRow b e size v n xs) (hb : b' ≤ b) : w.ownsRow b' e size v n xs := by
  refine ⟨h.1, ?_⟩
  rcases h.2 with hn | ⟨g, cap, cur, e, h1, rest⟩
  · exact .inl hn
  · exact .inr ⟨g, cap, cur, e, by omega, rest⟩
abbrev fobj (v : Value) : Obj := .cells #[v] 98 (0, 0)
abbrev gcap (a b c d : Nat) : Array Value := #[.pointer (some ⟨a, 0, none⟩), .pointer (some ⟨b, 0, none⟩), .pointer (some ⟨c, 0, none⟩), .pointer (some ⟨d, 0, none⟩)]
set_option maxHeartbeats 8000000 in
theorem gather_deep (t : TR w h l m u d) (hl : l.length ≤ 100000) (hne : l ≠ []) (s : Sp) :
    Calls Try.prog 73 #[.pointer (some ⟨h.p, 0, none⟩), s.val] w fun e w' => ∃ v I, e = .returned v ∧ w'.ownsRow w.heap.size TI 18 v I.length (icells I) ∧ I.map toP = rangeP s l ∧ Below w.heap.size w w' := by
  have hsh := t.shape
  have hlt := t.lt
  have hlp : 0 < l.length := List.length_pos_iff.2 hne
  have hrs := t.rises.1
  have H0 : Hid (∀ w1, Below w.heap.size w w1 → Calls Try.prog 42 #[.pointer (some ⟨h.p, 0, none⟩)] w1 fun e w' => e = .returned (.int .i64 l.length) ∧ Below w1.heap.size w1 w') := fun w1 hb => len_any (t.below hb)
  obtain ⟨R, fr, root, T, ⟨_, _, ⟨e1, _⟩ | ⟨hh, e1, N, e2, l1, l4, l2⟩⟩, hu⟩ := t
  · omega
  have D : Vis R m hh root := ⟨N.ok, by rw [e2]; exact hrs, N.once.lt (by simp), fun z hz => N.once.lt (by simp [hz])⟩
  have hlv : (lvs R hh (R root)).length = l.length := by rw [← e2, prs_lvs, List.length_map]
  have HVI : Hid (∀ w1 bt bs bv bf fb, GS w1 h R m fr root d l.length bt bs bv bf fb s [] → Calls Try.prog 80 #[.int .i64 root, .int .i64 d, .pointer (some ⟨bt, 0, none⟩), .pointer (some ⟨bs, 0, none⟩), .pointer (some ⟨bv, 0, none⟩), .pointer (some ⟨bf, 0, none⟩)] w1 fun e w' => e = .returned (.tuple #[]) ∧ GS w' h R m fr root d l.length bt bs bv bf fb s (selS s (lvs R hh (R root))) ∧ FrV bf fb w1 w') := fun w1 bt bs bv bf fb G => by
    have := visit_all hh (w := w1) (F := []) root G D (by simp; omega) (by omega)
    rw [List.nil_append, ← e1] at this
    exact this
  have HPR : Hid ((selS s (lvs R hh (R root))).map toP = rangeP s l) := by
    show _ = _
    rw [sel_prs, ← prs_lvs, e2]
  have HT : Hid (∀ w1, Below w.heap.size w w1 → TL w1 h R m fr root d l.length) := fun w1 hb => T.below hb
  have HLT : Hid (∀ b, h.has b → b < w.heap.size) := hlt
  have hE : ∀ args w, (callFunc 80 args).run Try.prog w = .ok (.enter 80 args) w := gather_enters
  clear T N D e2 l1 l4 l2 hu hrs hlt hne hlv e1
  generalize selS s (lvs R hh (R root)) = I at *
  have i1 : ((l.length : Int) == 0) = false := by rw [beq_eq_false_iff_ne]; omega
  clear hsh hlp hl
  unfold Sp.val
  go_enter Try.func73, Try.ntmps73
  go_wp2_with fail
  refine Calls.mono (H0.out _ (back2 (Below.refl _ _))) ?_
  rintro e w1 ⟨rfl, hb⟩
  have HB : Hid (Below w.heap.size w w1) := back2 hb
  have a1 : w1.cell? ⟨w.heap.size, 0, none⟩ = some (.pointer (some ⟨h.p, 0, none⟩)) := by rw [hb.cell (by simp; omega)]; simp [go_sem]
  have a2 : SBox w1 (w.heap.size + 1) s := SBox.below (w := (w.alloc (tobj h.p)).alloc (sobj s 36)) (by constructor <;> simp [go_sem]) hb
  have a3 : w.heap.size + 1 < w1.heap.size := by
    have := hb.size
    simp at this; omega
  have HGS : Hid (GS ((w1.alloc (fobj (.slice none 0 0))).alloc (.cells #[FV 80 #[] (gcap w.heap.size (w.heap.size + 1) (w1.heap.size + 1) w1.heap.size)] 124 (0, 0))) h R m fr root d l.length w.heap.size (w.heap.size + 1) (w1.heap.size + 1) w1.heap.size (w1.heap.size + 1 + 1) s []) := by
    have hb2 : Below w1.heap.size w1 ((w1.alloc (fobj (.slice none 0 0))).alloc (.cells #[FV 80 #[] (gcap w.heap.size (w.heap.size + 1) (w1.heap.size + 1) w1.heap.size)] 124 (0, 0))) := back2 (Below.refl _ _)
    refine ⟨HT.out _ (HB.out.trans (hb2.mono HB.out.size)), by rw [hb2.cell (show w.heap.size < w1.heap.size by omega)]; exact a1, a2.below hb2, by simp [go_sem], ⟨.slice none 0 0, ?_, World.ownsRow_nil _ _ _ _⟩, fun b hb => ?_, by omega, by omega, by simp⟩
    · rw [heap_alloc_old _ _ (by simp)]; exact heap_alloc_new _ _
    · have := HLT.out b hb; omega
  clear hb H0 a1 a2 a3 HLT HT
  go_wp2_with fail
  refine wp_region_held_drew (S := fun w' => w'.cell? ⟨w1.heap.size + 1, 0, none⟩ = some (FV 80 #[] (gcap w.heap.size (w.heap.size + 1) (w1.heap.size + 1) w1.heap.size)) ∧ w'.cell? ⟨w.heap.size, 0, none⟩ = some (.pointer (some ⟨h.p, 0, none⟩)) ∧ w'.cell? ⟨h.p, 3, none⟩ = some (.int .i64 root) ∧ w'.cell? ⟨h.p, 4, none⟩ = some (.int .i64 d)) (by kernel_rfl) ?_ (fun hHeld => ?_)
  · exact ⟨HGS.out.cv, HGS.out.ct, HGS.out.tl.c.2.2.2.1, HGS.out.tl.c.2.2.2.2.1⟩
  (try clear hK K)
  refine wpAnyH_take (i := 0) (v := ?_) rfl (by kernel_rfl) (by kernel_rfl) (by kernel_rfl) (fun _ _ _ h => h) (Or.inl ⟨by rfl, ?_⟩) (by assumption) ?_
  rotate_left
  · intro w hSw; (try dsimp only at hSw); go_simp; (try with_reducible rfl)
  (try simp only [Act.put, List.getElem_toArray, List.getElem_cons_zero, List.setIfInBounds_toArray, List.set_cons_zero, List.set_cons_succ])
  refine wpAnyH_take (i := 1) (v := ?_) rfl (by kernel_rfl) (by kernel_rfl) (by kernel_rfl) (fun _ _ _ h => h) (Or.inl ⟨by rfl, ?_⟩) (by assumption) ?_
  rotate_left
  · intro w hSw; (try dsimp only at hSw); go_simp; (try with_reducible rfl)
  (try simp only [Act.put, List.getElem_toArray, List.getElem_cons_succ, List.getElem_cons_zero, List.setIfInBounds_toArray, List.set_cons_zero, List.set_cons_succ])
  refine wpAnyH_take (i := 2) (v := ?_) rfl (by kernel_rfl) (by kernel_rfl) (by kernel_rfl) (fun _ _ _ h => h) (Or.inl ⟨by rfl, ?_⟩) (by assumption) ?_
  rotate_left
  · intro w hSw; (try dsimp only at hSw); go_simp; (try with_reducible rfl)
  (try simp only [Act.put, List.getElem_toArray, List.getElem_cons_succ, List.getElem_cons_zero, List.setIfInBounds_toArray, List.set_cons_zero, List.set_cons_succ])
  refine wpAnyH_take (i := 3) (v := ?_) rfl (by kernel_rfl) (by kernel_rfl) (by kernel_rfl) (fun _ _ _ h => h) (Or.inl ⟨by rfl, ?_⟩) (by assumption) ?_
  rotate_left
  · intro w hSw; (try dsimp only at hSw); go_simp; (try with_reducible rfl)
  (try simp only [Act.put, List.getElem_toArray, List.getElem_cons_succ, List.getElem_cons_zero, List.setIfInBounds_toArray, List.set_cons_zero, List.set_cons_succ])
  refine wpAnyH_take (i := 4) (v := ?_) rfl (by kernel_rfl) (by kernel_rfl) (by kernel_rfl) (fun _ _ _ h => h) (Or.inl ⟨by rfl, ?_⟩) (by assumption) ?_
  rotate_left
  · intro w hSw; (try dsimp only at hSw); go_simp; (try with_reducible rfl)
  (try simp only [Act.put, List.getElem_toArray, List.getElem_cons_succ, List.getElem_cons_zero, List.setIfInBounds_toArray, List.set_cons_zero, List.set_cons_succ])
  refine wpAnyH_take (i := 5) (v := ?_) rfl (by kernel_rfl) (by kernel_rfl) (by kernel_rfl) (fun _ _ _ h => h) (Or.inl ⟨by rfl, ?_⟩) (by assumption) ?_
  rotate_left
  · intro w hSw; (try dsimp only at hSw); go_simp; (try with_reducible rfl)
  (try simp only [Act.put, List.getElem_toArray, List.getElem_cons_succ, List.getElem_cons_zero, List.setIfInBounds_toArray, List.set_cons_zero, List.set_cons_succ])
  refine wpAnyH_take (i := 6) (v := ?_) rfl (by kernel_rfl) (by kernel_rfl) (by kernel_rfl) (fun _ _ _ h => h) (Or.inl ⟨by rfl, ?_⟩) (by assumption) ?_
  rotate_left
  · intro w hSw; (try dsimp only at hSw); go_simp; (try with_reducible rfl)
  (try simp only [Act.put, List.getElem_toArray, List.getElem_cons_succ, List.getElem_cons_zero, List.setIfInBounds_toArray, List.set_cons_zero, List.set_cons_succ])
  refine wpAnyH_take (i := 7) (v := ?_) rfl (by kernel_rfl) (by kernel_rfl) (by kernel_rfl) (fun _ _ _ h => h) (Or.inl ⟨by rfl, ?_⟩) (by assumption) ?_
  rotate_left
  · intro w hSw; (try dsimp only at hSw); go_simp; (try with_reducible rfl)
  (try simp only [Act.put, List.getElem_toArray, List.getElem_cons_succ, List.getElem_cons_zero, List.setIfInBounds_toArray, List.set_cons_zero, List.set_cons_succ])
  refine wpAnyH_take (i := 8) (v := ?_) rfl (by kernel_rfl) (by kernel_rfl) (by kernel_rfl) (fun _ _ _ h => h) (Or.inl ⟨by rfl, ?_⟩) (by assumption) ?_
  rotate_left
  · intro w hSw; (try dsimp only at hSw); go_simp; (try with_reducible rfl)
  (try simp only [Act.put, List.getElem_toArray, List.getElem_cons_succ, List.getElem_cons_zero, List.setIfInBounds_toArray, List.set_cons_zero, List.set_cons_succ])
  (try clear hK K)
  refine wpAnyH_ready (rs := [9]) (by kernel_rfl) (by simp) ?_
  refine AllReadyH.cons rfl (fun K hK => ?_) AllReadyH.nil
  go_simp
  (refine Calls.mono (HVI.out _ _ _ _ _ _ (HGS.out.below (Below.refl _ _).drew)) ?_; rintro e w3 ⟨rfl, G3, V3⟩)
  refine hK.out _ _ ?_ (fun hHeld => ?_)
  · exact ⟨G3.cv, G3.ct, G3.tl.c.2.2.2.1, G3.tl.c.2.2.2.2.1⟩
  have HG3 : Hid (GS w3 h R m fr root d l.length w.heap.size (w.heap.size + 1) (w1.heap.size + 1) w1.heap.size (w1.heap.size + 1 + 1) s I ∧ Below w.heap.size w w3) := by
    refine ⟨G3, ?_⟩
    have h1 : Below w1.heap.size w1 ((w1.alloc (fobj (.slice none 0 0))).alloc (.cells #[FV 80 #[] (gcap w.heap.size (w.heap.size + 1) (w1.heap.size + 1) w1.heap.size)] 124 (0, 0))).drew := (back2 (Below.refl _ _)).drew
    have h2 : Below w1.heap.size ((w1.alloc (fobj (.slice none 0 0))).alloc (.cells #[FV 80 #[] (gcap w.heap.size (w.heap.size + 1) (w1.heap.size + 1) w1.heap.size)] 124 (0, 0))).drew w3 := Sv.below V3 (by simp; omega) fun k hk hx => by rcases hx with hx | hx <;> omega
    exact HB.out.trans ((h1.trans h2).mono HB.out.size)
  clear G3 V3 HVI HGS HB
  (try clear hK K)
  refine wpAnyH_done (by kernel_rfl) ?_ _
  obtain ⟨v, hv1, hv2⟩ := HG3.out.1.fnd
  obtain ⟨va, vc, ev⟩ := owns_slice hv2
  subst ev
  have f0 : w3.cell? ⟨w1.heap.size, 0, none⟩ = some (.slice va I.length vc) := by simp [World.cell?, hv1]
  have HV : Hid (w3.ownsRow w.heap.size TI 18 (.slice va I.length vc) I.length (icells I)) := owns_base hv2 (by have := HG3.out.1.lt; omega)
  clear hv1 hv2
  go_wp2_with fail
  go_ret
  exact ⟨_, I, rfl, HV.out, HPR.out, HG3.out.2⟩
/-- In whatever tree. -/
theorem gather_any (t : TR w h l m u d) (hl : l.length ≤ 100000) (s : Sp) :
    Calls Try.prog 73 #[.pointer (some ⟨h.p, 0, none⟩), s.val] w fun e w' => ∃ v I, e = .returned v ∧ w'.ownsRow w.heap.size TI 18 v I.length (icells I) ∧ I.map toP = rangeP s l ∧ Below w.heap.size w w' := by
  by_cases hne : l = []
  · subst hne
    refine Calls.mono (gather_empty t s) ?_
    rintro e w' ⟨rfl, hb⟩
    exact ⟨_, [], rfl, World.ownsRow_nil _ _ _ _, rfl, hb⟩
  · exact gather_deep t hl hne s
end
end Go.Proofs.Ytafkpfhhmmnpeaa.Val
