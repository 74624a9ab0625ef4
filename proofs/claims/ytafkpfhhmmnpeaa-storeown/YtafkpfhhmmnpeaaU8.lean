/- Plain: what is done in a leaf, seen from above: a key put, a key deleted. No program. -/
import Derived.Test.YtafkpfhhmmnpeaaU7
namespace Go.Proofs.Ytafkpfhhmmnpeaa.Val
open Go Go.RowKit
set_option maxRecDepth 100000

abbrev toP (x : It) : Pr := ⟨x.k, x.v⟩
def RightsI (r : List It) : Prop := ∀ x ∈ r, rightX x.k = true
theorem prs_zero (R : Nat → List It) (l : List It) : prs R 0 l = l.map toP := rfl
/-- Below the place all keys are less, from it on none is. -/
theorem place_lt {k : Val} {r : List It} : ∀ x ∈ r.take (place k r), cmpX x.k k < 0 := fun x hx => by
  obtain ⟨i, hi, rfl⟩ := List.getElem_of_mem hx
  rw [List.length_take] at hi
  rw [List.getElem_take]
  have := List.not_of_lt_findIdx (p := fun x : It => decide (0 ≤ cmpX x.k k)) (xs := r) (i := i) (by unfold place at hi; omega)
  simp at this
  omega
theorem place_ge {k : Val} {r : List It} (h : place k r < r.length) : 0 ≤ cmpX r[place k r].k k := by
  have := List.findIdx_getElem (p := fun x : It => decide (0 ≤ cmpX x.k k)) (xs := r) (w := h)
  exact of_decide_eq_true this
theorem rises_drop {r : List It} (h : RisesI r) {p : Nat} (hp : p < r.length) : ∀ x ∈ r.drop (p + 1), cmpX r[p].k x.k < 0 := fun x hx => by
  obtain ⟨i, hi, rfl⟩ := List.getElem_of_mem hx
  rw [List.getElem_drop]
  rw [List.length_drop] at hi
  exact rises_lt h (by omega) (by omega)
theorem there_true {k : Val} {r : List It} (h : there k r = true) : ∃ hp : place k r < r.length, cmpX r[place k r].k k = 0 := by
  rcases Nat.lt_or_ge (place k r) r.length with hp | hp
  · rw [there_at rfl hp] at h
    exact ⟨hp, by simpa using h⟩
  · rw [there_end (by have := place_le k r; omega)] at h; cases h
theorem there_false {k : Val} {r : List It} (h : there k r = false) (hp : place k r < r.length) : 0 < cmpX r[place k r].k k := by
  rw [there_at rfl hp] at h
  have h1 : cmpX r[place k r].k k ≠ 0 := by simpa using h
  have h2 := place_ge hp
  omega
theorem drop_gt {k : Val} {r : List It} (hr : RisesI r) (h : there k r = false) : ∀ x ∈ r.drop (place k r), 0 < cmpX x.k k := fun x hx => by
  rcases Nat.lt_or_ge (place k r) r.length with hp | hp
  · have h0 := there_false h hp
    rw [List.drop_eq_getElem_cons hp] at hx
    rcases List.mem_cons.1 hx with rfl | hx
    · exact h0
    · have h1 := rises_drop hr hp x hx
      have h2 := turnX r[place k r].k k
      have h3 := turnX k x.k
      have h4 := ltX_trans (a := k) (b := r[place k r].k) (c := x.k) (by omega) h1
      omega
  · rw [List.drop_eq_nil_of_le hp] at hx; cases hx
theorem drop_gt' {k : Val} {r : List It} (hr : RisesI r) (h : there k r = true) : ∀ x ∈ r.drop (place k r + 1), 0 < cmpX x.k k := fun x hx => by
  obtain ⟨hp, h0⟩ := there_true h
  have h1 := rises_drop hr hp x hx
  have h2 := ltX_eq (c := x.k) h0
  have h3 := turnX k x.k
  omega
theorem there_has {k : Val} {r : List It} (hk : rightX k = true) (hr : RisesI r) (h : RightsI r) : there k r = hasP k (r.map toP) := by
  rw [← has_cmp hk (fun y hy => by obtain ⟨x, hx, rfl⟩ := List.mem_map.1 hy; exact h x hx)]
  cases ht : there k r
  · symm
    rw [List.any_eq_false]
    intro y hy
    obtain ⟨x, hx, rfl⟩ := List.mem_map.1 hy
    rw [← List.take_append_drop (place k r) r] at hx
    rcases List.mem_append.1 hx with hx | hx
    · have := place_lt x hx; simp; omega
    · have := drop_gt hr ht x hx; simp; omega
  · symm
    obtain ⟨hp, h0⟩ := there_true ht
    rw [List.any_eq_true]
    exact ⟨toP r[place k r], List.mem_map.2 ⟨_, List.getElem_mem hp, rfl⟩, by simpa using h0⟩

/-- A key is put into a leaf. -/
def putR (k : Val) (v : Pl) (r : List It) : List It := if there k r then r.set (place k r) ⟨k, v, (r.getD (place k r) It.zero).d⟩ else insR r (place k r) [⟨k, v, 0⟩]
def remR (k : Val) (r : List It) : List It := if there k r then delR r (place k r) (place k r + 1) else r
theorem ins_cons (k : Val) (v : Pl) (x : Pr) (l : List Pr) : insP k v (x :: l) = if cmpX x.k k < 0 then x :: insP k v l else if cmpX x.k k = 0 then ⟨k, v⟩ :: l else ⟨k, v⟩ :: x :: l := rfl
theorem ins_pass {k : Val} {v : Pl} : ∀ {a : List Pr}, (∀ x ∈ a, cmpX x.k k < 0) → ∀ l, insP k v (a ++ l) = a ++ insP k v l := by
  intro a
  induction a with
  | nil => intro _ l; rfl
  | cons x a ih =>
    intro h l
    show insP k v (x :: (a ++ l)) = _
    rw [ins_cons, if_pos (h x (by simp)), ih (fun y hy => h y (by simp [hy]))]
    rfl
theorem ins_stop {k : Val} {v : Pl} {c : List Pr} (h : ∀ x ∈ c, 0 < cmpX x.k k) : insP k v c = ⟨k, v⟩ :: c := by
  cases c with
  | nil => rfl
  | cons x c =>
    have := h x (by simp)
    rw [ins_cons, if_neg (by omega), if_neg (by omega)]
theorem ins_app {k : Val} {v : Pl} {c : List Pr} (h : ∀ x ∈ c, 0 < cmpX x.k k) : ∀ b, insP k v (b ++ c) = insP k v b ++ c := by
  intro b
  induction b with
  | nil => exact ins_stop h
  | cons x b ih =>
    show insP k v (x :: (b ++ c)) = insP k v (x :: b) ++ c
    rw [ins_cons, ins_cons]
    split
    · rw [ih]; rfl
    · split <;> rfl
theorem not_has {k : Val} {l : List Pr} (h : ∀ x ∈ l, cmpX x.k k ≠ 0) : hasP k l = false := by
  unfold hasP
  rw [List.any_eq_false]
  intro x hx e
  have e' := eqV_iff.1 e
  exact h x hx (by rw [e']; exact selfX k)
theorem has_app (k : Val) (a b : List Pr) : hasP k (a ++ b) = (hasP k a || hasP k b) := List.any_append
theorem del_app (k : Val) (a b : List Pr) : delP k (a ++ b) = delP k a ++ delP k b := List.filter_append ..
/-- What is done at a key: in a leaf, to all pairs, and what is answered. -/
structure Deed (k : Val) (grow : Bool) (aR : List It → List It) (aP : List Pr → List Pr) (ans : List Pr → Bool) : Prop where
  leaf : ∀ r, RisesI r → RightsI r → (aR r).map toP = aP (r.map toP)
  mid : ∀ a b c, (∀ x ∈ a, cmpX x.k k < 0) → (∀ x ∈ c, 0 < cmpX x.k k) → aP (a ++ (b ++ c)) = a ++ (aP b ++ c) ∧ ans (a ++ (b ++ c)) = ans b
  more : grow = true → ∀ r, r.length ≤ (aR r).length ∧ (aR r).length ≤ r.length + 1
  less : grow = false → ∀ r, (aR r).length ≤ r.length ∧ r.length ≤ (aR r).length + 1
theorem put_deed (k : Val) (v : Pl) : Deed k true (putR k v) (insP k v) (fun l => !hasP k l) := by
  refine ⟨fun r hr hrt => ?_, fun a b c ha hc => ⟨?_, ?_⟩, fun _ r => ?_, fun h => by cases h⟩
  · unfold putR
    cases ht : there k r
    · rw [if_neg (by simp)]
      unfold insR
      rw [List.map_append, List.map_append]
      have e : r.map toP = (r.take (place k r)).map toP ++ (r.drop (place k r)).map toP := by rw [← List.map_append, List.take_append_drop]
      rw [e, ins_pass, ins_stop]
      · rfl
      · intro x hx; obtain ⟨y, hy, rfl⟩ := List.mem_map.1 hx; exact drop_gt hr ht y hy
      · intro x hx; obtain ⟨y, hy, rfl⟩ := List.mem_map.1 hx; exact place_lt y hy
    · rw [if_pos rfl]
      obtain ⟨hp, h0⟩ := there_true ht
      have e : r.map toP = (r.take (place k r)).map toP ++ (toP r[place k r] :: (r.drop (place k r + 1)).map toP) := by
        rw [← List.map_cons, ← List.map_append, ← List.drop_eq_getElem_cons hp, List.take_append_drop]
      rw [e, ins_pass, set_parts _ _ _ hp, List.map_append]
      · rw [ins_cons, if_neg (by show ¬ cmpX r[place k r].k k < 0; omega), if_pos h0]
        rfl
      · intro x hx; obtain ⟨y, hy, rfl⟩ := List.mem_map.1 hx; exact place_lt y hy
  · rw [ins_pass ha, ins_app hc]
  · rw [has_app, has_app, not_has fun x hx => by have := ha x hx; omega, not_has (l := c) fun x hx => by have := hc x hx; omega]
    simp
  · unfold putR
    split
    · rw [List.length_set]; omega
    · rw [insR_length _ _ _ (place_le k r)]
      show _ ≤ _ + 1 ∧ _ + 1 ≤ _
      omega
theorem rem_deed {k : Val} (hk : rightX k = true) : Deed k false (remR k) (delP k) (fun l => hasP k l) := by
  refine ⟨fun r hr hrt => ?_, fun a b c ha hc => ⟨?_, ?_⟩, fun h => by (cases h), fun _ r => ?_⟩
  · unfold remR
    cases ht : there k r
    · rw [if_neg (by simp), del_no (by rw [← there_has hk hr hrt]; exact ht)]
    · rw [if_pos rfl]
      obtain ⟨hp, h0⟩ := there_true ht
      have e : r.map toP = (r.take (place k r)).map toP ++ ([toP r[place k r]] ++ (r.drop (place k r + 1)).map toP) := by
        show _ = _ ++ (toP r[place k r] :: (r.drop (place k r + 1)).map toP)
        rw [← List.map_cons, ← List.map_append, ← List.drop_eq_getElem_cons hp, List.take_append_drop]
      have ek : r[place k r].k = k := cmp_eq (hrt _ (List.getElem_mem hp)) hk h0
      rw [e, del_app, del_app, del_no (l := (r.take (place k r)).map toP), del_no (l := (r.drop (place k r + 1)).map toP)]
      · unfold delR delP
        rw [List.map_append]
        have : eqV (toP r[place k r]).k k = true := eqV_iff.2 ek
        simp [this]
      · refine not_has fun x hx => ?_
        obtain ⟨y, hy, rfl⟩ := List.mem_map.1 hx
        have := drop_gt' hr ht y hy
        show cmpX y.k k ≠ 0
        omega
      · refine not_has fun x hx => ?_
        obtain ⟨y, hy, rfl⟩ := List.mem_map.1 hx
        have := place_lt y hy
        show cmpX y.k k ≠ 0
        omega
  · rw [del_app, del_app, del_no (l := a) (not_has fun x hx => by have := ha x hx; omega), del_no (l := c) (not_has fun x hx => by have := hc x hx; omega)]
  · rw [has_app, has_app, not_has fun x hx => by have := ha x hx; omega, not_has (l := c) fun x hx => by have := hc x hx; omega]
    simp
  · unfold remR
    split
    · rename_i ht
      obtain ⟨hp, _⟩ := there_true ht
      rw [delR_length _ _ _ (by omega) (by omega)]; omega
    · omega
/-- The way down parts the row: keys ahead are less, keys behind are greater. -/
theorem way_parts {R : Nat → List It} {hh : Nat} {k : Val} {r : List It} (hne : r ≠ []) (hok : okL R hh r) (hr : Rises (prs R hh r)) :
    ∃ A x B, r = A ++ x :: B ∧ wayP k r = A.length ∧ (∀ y ∈ prs R hh A, cmpX y.k k < 0) ∧ (∀ y ∈ prs R hh B, 0 < cmpX y.k k) := by
  have hri := rises_items hok hr
  have hl : 0 < r.length := List.length_pos_iff.2 hne
  have hw : wayP k r < r.length := by
    unfold wayP
    split
    · rename_i h; obtain ⟨hp, _⟩ := there_true h; exact hp
    · have := place_le k r; omega
  obtain ⟨p, hp⟩ : ∃ p, wayP k r = p := ⟨_, rfl⟩
  rw [hp] at hw
  have hparts : r = r.take p ++ r[p] :: r.drop (p + 1) := row_parts r p hw
  have hok' := hok
  rw [hparts, okL_append, okL_cons] at hok'
  have hr' := hr
  rw [hparts, prs_append, prs_cons] at hr'
  have h1 := List.pairwise_append.1 hr'
  have h2 := List.pairwise_append.1 h1.2.1
  obtain ⟨v, hv⟩ := key_mem (R := R) (h := hh) (l := [r[p]]) (okL_one.2 hok'.2.1) (List.mem_singleton.2 rfl)
  refine ⟨r.take p, r[p], r.drop (p + 1), hparts, by rw [hp]; simp; omega, fun y hy => ?_, fun y hy => ?_⟩
  · -- ahead
    rcases Nat.eq_zero_or_pos p with rfl | hp0
    · rw [List.take_zero, prs_nil] at hy; cases hy
    · have hx : cmpX r[p].k k ≤ 0 := by
        unfold wayP at hp
        split at hp
        · rename_i h; obtain ⟨hp', h0⟩ := there_true h
          subst hp; omega
        · have : p < place k r := by omega
          have := place_lt (k := k) (r := r) r[p] (by
            rw [List.mem_take_iff_getElem]
            exact ⟨p, by have := place_le k r; omega, rfl⟩)
          omega
      have h3 := h1.2.2 y hy _ (List.mem_append.2 (.inl hv))
      have h4 : cmpX y.k r[p].k < 0 := h3
      rcases Int.lt_or_eq_of_le hx with h5 | h5
      · exact ltX_trans h4 h5
      · have h6 := ltX_eq (c := y.k) h5
        have h7 := turnX y.k r[p].k
        have h8 := turnX k y.k
        omega
  · -- behind
    cases hB : r.drop (p + 1) with
    | nil => rw [hB, prs_nil] at hy; cases hy
    | cons z zs =>
      have hzl : p + 1 < r.length := by
        have := congrArg List.length hB
        simp at this; omega
      have hz : z = r[p + 1] := by
        have := List.drop_eq_getElem_cons hzl
        rw [hB] at this
        injection this
      have hzk : 0 < cmpX z.k k := by
        rw [hz]
        unfold wayP at hp
        split at hp
        · rename_i h
          obtain ⟨hp', h0⟩ := there_true h
          subst hp
          have h3 := rises_lt hri (i := place k r) (j := place k r + 1) (by omega) hzl
          have h4 := ltX_eq (c := r[place k r + 1].k) h0
          have h5 := turnX k r[place k r + 1].k
          omega
        · rename_i h
          have hf : there k r = false := by simpa using h
          have := drop_gt hri hf r[p + 1] (by
            rw [List.mem_drop_iff_getElem]
            exact ⟨p + 1 - place k r, by omega, by congr 1; omega⟩)
          exact this
      rw [hB] at hy hok'
      obtain ⟨u, rest, hu⟩ := head_prs hh z zs hok'.2.2
      rw [hu] at hy
      rw [hB, hu] at h2
      rcases List.mem_cons.1 hy with rfl | hy
      · exact hzk
      · have h3 := (List.pairwise_cons.1 h2.2.1).1 y hy
        have h4 : cmpX z.k y.k < 0 := h3
        have h5 := turnX z.k k
        have h6 := turnX k y.k
        have h7 := ltX_trans (a := k) (b := z.k) (c := y.k) (by omega) h4
        omega
end Go.Proofs.Ytafkpfhhmmnpeaa.Val
/- What the functions that Put and Delete hand down do in a leaf. -/
namespace Go.Proofs.Ytafkpfhhmmnpeaa.Val
open Go Go.RowKit
set_option maxRecDepth 100000

theorem isize_V : (Try.prog.info? 74).map (·.size) = some 14 := by kernel_rfl
theorem vcells_one (v : Pl) : ∀ u ∈ vcells v, u.oneCell' = true := fun u hu => It.cells_one ⟨Val.zero, v, 0⟩ u (by
  show u ∈ kcells Val.zero ++ (vcells v ++ [.int .i64 0])
  simp [hu])
theorem _root_.Go.World.rangeAt.isSome3 {w : World} {b o : Nat} {x : It} (h : w.rangeAt b o x.cells) (j : Nat) (hj : j < 14) : (w.cell? ⟨b, o + 3 + j, none⟩).isSome = true := by
  have := h.isSome (3 + j) (by show 3 + j < 18; omega)
  rwa [← Nat.add_assoc] at this
theorem step_store_mid {P : Program} {ops : Array Oper} {op : Oper} {a : Act} {w : World} {K : Act → World → Prop} {Q : Exit → Act → World → Prop} {E : Prop} (hg : op.guard = none) (ty : TypeId) (x y : Operand) (ho : op.op = .store ty x y)
    (b o : Nat) (cells : Array Value) (hx : a.eval x = .pointer (some ⟨b, o, none⟩)) (hy : a.eval y = .agg cells) (ht : w.there b o cells.size) (hi : (P.info? ty).map (·.size) = some cells.size) (h1 : cells.all (·.oneCell') = true)
    (h : K (a.put op.dst undef) (w.setCells b o cells.toList)) : if Region.wanted op (yielded ops a.tmps) = true then Oper.wp P op a w K Q else E := by
  have hw : Region.wanted op (yielded ops a.tmps) = true := by simp [Region.wanted, hg]
  rw [if_pos hw]
  exact wp_store_mid ty x y ho b o cells hx hy ht hi h1 h
theorem Mv.not {w w' : World} {h h' : Hd} (v : Mv w h w' h') {b : Nat} (hb : ¬ h.has b) (hl : b < w.heap.size) : ¬ h'.has b := fun k => (v.own b k).elim hb (by omega)
/-- The boxes of a call of Put's: the tree, what is put, the key. -/
structure PB (w : World) (h : Hd) (bt bv bk : Nat) (k : Val) (v : Pl) : Prop where
  ct : w.cell? ⟨bt, 0, none⟩ = some (.pointer (some ⟨h.p, 0, none⟩))
  cv : w.rangeAt bv 0 (vcells v)
  c0 : w.cell? ⟨bk, 0, none⟩ = some (.bool k.t)
  c1 : w.cell? ⟨bk, 1, none⟩ = some (.int .i64 k.n)
  c2 : w.cell? ⟨bk, 2, none⟩ = some (.string k.s)
  nt : ¬ h.has bt
  nv : ¬ h.has bv
  nk : ¬ h.has bk
theorem PB.mv {w w' : World} {h h' : Hd} {bt bv bk : Nat} {k : Val} {v : Pl} (b : PB w h bt bv bk k v) (a : Mv w h w' h') : PB w' h' bt bv bk k v := by
  have l1 := World.block_lt_of_cell? w _ b.ct
  have l2 := World.block_lt_of_cell? w _ (b.cv 0 _ rfl)
  have l3 := World.block_lt_of_cell? w _ b.c0
  have l4 := World.block_lt_of_cell? w _ b.c1
  have l5 := World.block_lt_of_cell? w _ b.c2
  exact ⟨by rw [a.sv.cell l1 b.nt, a.p]; exact b.ct, fun j u hj => by rw [a.sv.cell (p := ⟨bv, 0 + j, none⟩) l2 b.nv]; exact b.cv j u hj, by rw [a.sv.cell l3 b.nk]; exact b.c0, by rw [a.sv.cell l4 b.nk]; exact b.c1, by rw [a.sv.cell l5 b.nk]; exact b.c2, a.not b.nt l1, a.not b.nv l2, a.not b.nk l3⟩
section
variable {w : World} {h : Hd} {R : Nat → List It} {m : Nat} {fr : List Nat} {root dep cnt : Nat}
set_option maxHeartbeats 4000000 in
theorem put1_any (bt bv bk : Nat) (k : Val) (v : Pl) (t : TL w h R m fr root dep cnt) (b : PB w h bt bv bk k v) (n : Nat) (hn : n < m) (hl : (R n).length ≤ 4) (hrt : RightsI (R n)) (hk : rightX k = true) :
    Calls Try.prog 62 #[.int .i64 n, .int .i64 (place k (R n)), .bool (there k (R n)), .pointer (some ⟨bv, 0, none⟩), .pointer (some ⟨bt, 0, none⟩), .pointer (some ⟨bk, 0, none⟩)] w fun e w' =>
      e = .returned (.bool (!there k (R n))) ∧ TL w' h (upd R n (putR k v (R n))) m fr root dep cnt ∧ Mv w h w' h := by
  have hpl := place_le k (R n)
  cases ht : there k (R n)
  · have H1 : Hid (∀ w2, Below w.heap.size w w2 → Calls Try.prog 63 #[.pointer (some ⟨h.p, 0, none⟩), .int .i64 n, .int .i64 (place k (R n)), .slice (some ⟨w2.heap.size, 0, none⟩) 1 1] (w2.alloc (.cells #[.bool k.t, .int .i64 k.n, .string k.s, .bool v.a.t, .int .i64 v.a.n, .string v.a.s, .bool v.b.t, .int .i64 v.b.n, .string v.b.s, .bool v.c.t, .int .i64 v.c.n, .string v.c.s, .bool v.d.t, .int .i64 v.d.n, .string v.d.s, .int .i64 v.w, .int .i64 v.m, .int .i64 0] TI (0, 0))) fun e w' => e = .returned (.tuple #[]) ∧ TL w' h (upd R n (putR k v (R n))) m fr root dep cnt ∧ Mv w h w' h) := fun w2 hb => by
      have T5 := (t.below hb).below (alloc1 w2 (.cells #[.bool k.t, .int .i64 k.n, .string k.s, .bool v.a.t, .int .i64 v.a.n, .string v.a.s, .bool v.b.t, .int .i64 v.b.n, .string v.b.s, .bool v.c.t, .int .i64 v.c.n, .string v.c.s, .bool v.d.t, .int .i64 v.d.n, .string v.d.s, .int .i64 v.w, .int .i64 v.m, .int .i64 0] TI (0, 0)))
      refine Calls.mono (insert_any T5 n (place k (R n)) hn hpl [⟨k, v, 0⟩] (by simp) (by simp; omega) w2.heap.size 0 1 (item_new w2 ⟨k, v, 0⟩ TI) (.inl fun hh => by have := (t.below hb).lt _ hh; omega)) ?_
      rintro e w' ⟨h1, h2, h3⟩
      refine ⟨h1, ?_, (Mv.of hb).trans ((Mv.of (alloc1 w2 _)).trans h3)⟩
      unfold putR
      rw [ht, if_neg (by simp)]; exact h2
    obtain ⟨c1, c2, c3, c4, c5, _, _, _⟩ := b
    have d0 : w.cell? ⟨bv, 0, none⟩ = some (.bool v.a.t) := c2 0 _ rfl
    have d1 : w.cell? ⟨bv, 1, none⟩ = some (.int .i64 v.a.n) := c2 1 _ rfl
    have d2 : w.cell? ⟨bv, 2, none⟩ = some (.string v.a.s) := c2 2 _ rfl
    have d3 : w.cell? ⟨bv, 3, none⟩ = some (.bool v.b.t) := c2 3 _ rfl
    have d4 : w.cell? ⟨bv, 4, none⟩ = some (.int .i64 v.b.n) := c2 4 _ rfl
    have d5 : w.cell? ⟨bv, 5, none⟩ = some (.string v.b.s) := c2 5 _ rfl
    have d6 : w.cell? ⟨bv, 6, none⟩ = some (.bool v.c.t) := c2 6 _ rfl
    have d7 : w.cell? ⟨bv, 7, none⟩ = some (.int .i64 v.c.n) := c2 7 _ rfl
    have d8 : w.cell? ⟨bv, 8, none⟩ = some (.string v.c.s) := c2 8 _ rfl
    have d9 : w.cell? ⟨bv, 9, none⟩ = some (.bool v.d.t) := c2 9 _ rfl
    have d10 : w.cell? ⟨bv, 10, none⟩ = some (.int .i64 v.d.n) := c2 10 _ rfl
    have d11 : w.cell? ⟨bv, 11, none⟩ = some (.string v.d.s) := c2 11 _ rfl
    have d12 : w.cell? ⟨bv, 12, none⟩ = some (.int .i64 v.w) := c2 12 _ rfl
    have d13 : w.cell? ⟨bv, 13, none⟩ = some (.int .i64 v.m) := c2 13 _ rfl
    clear c2
    clear t hpl hl hrt hk ht
    generalize putR k v (R n) = r5 at *
    generalize place k (R n) = pl at *
    go_enter Try.func62, Try.ntmps62
    go_wp2_with fail
    refine Calls.mono (H1.out _ (Below.refl _ _)) ?_
    rintro e w1 ⟨rfl, hT, hM⟩
    have HT : Hid (TL w1 h (upd R n r5) m fr root dep cnt ∧ Mv w h w1 h) := ⟨hT, hM⟩
    clear hT hM H1
    go_wp2_with fail
    go_ret
    exact ⟨rfl, HT.out⟩
  · obtain ⟨hp, h0⟩ := there_true ht
    obtain ⟨g, cap, cur, hav, hg, _⟩ := t.arenaAt (by omega)
    have H1 : Hid (∀ w2, Below w.heap.size w w2 → Calls Try.prog 53 #[.pointer (some ⟨h.p, 0, none⟩), .int .i64 n] w2 fun e w' => e = .returned (.slice (some ⟨g, n * 90, none⟩) (R n).length 5) ∧ Below w2.heap.size w2 w') := fun w2 hb => row_any (t.below hb) n hn (t.len5 n hn) g cap hav
    have ek : (R n)[place k (R n)].k = k := cmp_eq (hrt _ (List.getElem_mem hp)) hk h0
    have W : Hid (∀ w2, Below w.heap.size w w2 → w2.there g (n * 90 + place k (R n) * 18 + 3) 14 ∧ TL (w2.setCells g (n * 90 + place k (R n) * 18 + 3) (vcells v)) h (upd R n (putR k v (R n))) m fr root dep cnt ∧ Mv w h (w2.setCells g (n * 90 + place k (R n) * 18 + 3) (vcells v)) h) := fun w2 hb => by
      have hg2 : w2.heap[g]? = some (.cells cur.toArray TI (0, 0)) := by rw [hb.block g (Array.getElem?_eq_some_iff.1 hg).1]; exact hg
      obtain ⟨k1, k2⟩ := (t.below hb).putVal g cap hav n (place k (R n)) hn hp v
      refine ⟨fun j hj => ⟨(((t.rowAt g _ cap hav n hn).below hb).range _ hp).isSome3 j hj, by simp [World.frozen?, hg2]⟩, ?_, (Mv.of hb).trans k2⟩
      have e1 : putR k v (R n) = (R n).set (place k (R n)) ⟨(R n)[place k (R n)].k, v, (R n)[place k (R n)].d⟩ := by
        unfold putR
        rw [ht, if_pos rfl, ek]
        congr 2
        simp [List.getElem?_eq_getElem hp]
      rw [e1]
      have e2 : (fun x => (upd R n ((R n).set (place k (R n)) ⟨(R n)[place k (R n)].k, v, (R n)[place k (R n)].d⟩) x).length) = fun x => (R x).length := by
        funext z
        unfold upd
        split
        · rename_i e; rw [e, List.length_set]
        · rfl
      show TMx _ _ _ (fun x => (upd R n ((R n).set (place k (R n)) ⟨(R n)[place k (R n)].k, v, (R n)[place k (R n)].d⟩) x).length) _ _ _ _ _ _
      rw [e2]; exact k1
    have B : Hid (PB w h bt bv bk k v) := b
    clear t hrt hk ht h0 ek hg b hpl hav
    generalize putR k v (R n) = r5 at *
    generalize place k (R n) = pl at *
    obtain ⟨cv, hcv⟩ : ∃ cv, vcells v = cv := ⟨_, rfl⟩
    have hcl : cv.length = 14 := by rw [← hcv]; rfl
    have HOC : Hid (∀ u ∈ cv, u.oneCell' = true) := by rw [← hcv]; exact vcells_one v
    have HCV : Hid (vcells v = cv) := hcv
    rw [hcv] at W
    have BC : Hid (∀ w2 h2, PB w2 h2 bt bv bk k v → w2.rangeAt bv 0 cv) := fun w2 h2 b2 => by rw [← hcv]; exact b2.cv
    clear hcv
    obtain ⟨L, hL⟩ : ∃ L, (R n).length = L := ⟨_, rfl⟩
    rw [hL] at hl hp H1
    clear hL
    have p0 : (0 : Int) ≤ (pl : Int) := by omega
    have p1 : (pl : Int) < (L : Int) := by omega
    go_enter Try.func62, Try.ntmps62
    go_wp2_with fail
    refine wp_region_held_drew (S := fun w' => w'.cell? ⟨bt, 0, none⟩ = some (.pointer (some ⟨h.p, 0, none⟩)) ∧ w'.rangeAt bv 0 cv) (by kernel_rfl) ?_ (fun hHeld => ?_)
    · exact ⟨B.out.ct, BC.out _ _ (B.out.mv (Mv.of (Below.refl _ _).drew))⟩
    (try clear hK K)
    refine wpAnyH_take (i := 0) (v := ?_) rfl (by kernel_rfl) (by kernel_rfl) (by kernel_rfl) (fun _ _ _ h => h) (Or.inl ⟨by rfl, ?_⟩) (by assumption) ?_
    rotate_left
    · intro w hSw; (try dsimp only at hSw); go_simp; (try with_reducible rfl)
    (try simp only [Act.put, List.getElem_toArray, List.getElem_cons_zero, List.setIfInBounds_toArray, List.set_cons_zero, List.set_cons_succ])
    refine wpAnyH_take (i := 1) (v := ?_) rfl (by kernel_rfl) (by kernel_rfl) (by kernel_rfl) (fun _ _ _ h => h) (Or.inl ⟨by rfl, ?_⟩) (by assumption) ?_
    rotate_left
    · intro w hSw; (try dsimp only at hSw); go_simp; (try with_reducible rfl)
    (try simp only [Act.put, List.getElem_toArray, List.getElem_cons_succ, List.getElem_cons_zero, List.setIfInBounds_toArray, List.set_cons_zero, List.set_cons_succ])
    refine wpAnyH_take (i := 3) (v := ?_) rfl (by kernel_rfl) (by kernel_rfl) (by kernel_rfl) (fun _ _ _ h => h) (Or.inl ⟨by rfl, ?_⟩) (by assumption) ?_
    rotate_left
    · intro w hSw; (try dsimp only at hSw); go_simp; (try with_reducible rfl)
    (try simp only [Act.put, List.getElem_toArray, List.getElem_cons_succ, List.getElem_cons_zero, List.setIfInBounds_toArray, List.set_cons_zero, List.set_cons_succ])
    (try clear hK K)
    refine wpAnyH_take (i := 4) (v := .agg (cv).toArray) rfl (by kernel_rfl) (by kernel_rfl) (by kernel_rfl) (fun _ _ _ h => h) (yieldsIf_load_mid (by rfl) 74 _ rfl bv (0) rfl (cv) _ (fun _ h => h.2) Try.underlying74 rfl (by rw [hcl]; exact isize_V)) (by assumption) ?_
    (try simp only [Act.put, List.getElem_toArray, List.getElem_cons_succ, List.getElem_cons_zero, List.setIfInBounds_toArray, List.set_cons_zero, List.set_cons_succ])
    (try clear hK K)
    refine wpAnyH_ready (rs := [2]) (by kernel_rfl) (by simp) ?_
    refine AllReadyH.cons rfl (fun K hK => ?_) AllReadyH.nil
    go_simp
    (refine Calls.mono (H1.out _ (Below.refl _ _).drew) ?_; rintro e w1 ⟨rfl, hb⟩)
    refine hK.out _ _ ?_ (fun hHeld => ?_)
    · have := B.out.mv (Mv.of ((Below.refl _ _).drew.trans hb))
      exact ⟨this.ct, BC.out _ _ this⟩
    have HB : Hid (Below w.heap.size w w1) := (Below.refl _ _).drew.trans hb
    clear hb H1
    (try clear hK K)
    refine wpAnyH_take (i := 5) (v := ?_) rfl (by kernel_rfl) (by kernel_rfl) (by kernel_rfl) (fun _ _ _ h => h) (Or.inl ⟨by rfl, ?_⟩) (by assumption) ?_
    rotate_left
    · intro w hSw; (try dsimp only at hSw); go_simp; (try with_reducible rfl)
    (try simp only [Act.put, List.getElem_toArray, List.getElem_cons_succ, List.getElem_cons_zero, List.setIfInBounds_toArray, List.set_cons_zero, List.set_cons_succ])
    refine wpAnyH_take (i := 6) (v := ?_) rfl (by kernel_rfl) (by kernel_rfl) (by kernel_rfl) (fun _ _ _ h => h) (Or.inl ⟨by rfl, ?_⟩) (by assumption) ?_
    rotate_left
    · intro w hSw; (try dsimp only at hSw); go_simp; (try with_reducible rfl)
    (try simp only [Act.put, List.getElem_toArray, List.getElem_cons_succ, List.getElem_cons_zero, List.setIfInBounds_toArray, List.set_cons_zero, List.set_cons_succ])
    obtain ⟨y1, y3, y4⟩ := W.out _ HB.out
    have HY : Hid _ := And.intro y3 y4
    clear y3 y4 W
    (try clear hK K)
    refine wpAnyH_ready (rs := [7]) (by kernel_rfl) (by simp) ?_
    refine AllReadyH.cons rfl (fun K hK => ?_) AllReadyH.nil
    (refine step_store_mid rfl 74 _ _ rfl g (n * 90 + pl * 18 + 3) cv.toArray rfl rfl (by rw [List.size_toArray, hcl]; exact y1) (by rw [List.size_toArray, hcl]; exact isize_V) (all_oneCell_toArray HOC.out) ?_; refine hK.out _ _ ?_ (fun hHeld => ?_))
    · have := B.out.mv HY.out.2
      exact ⟨this.ct, BC.out _ _ this⟩
    (try clear hK K)
    refine wpAnyH_done (by kernel_rfl) ?_ _
    go_wp2_with fail
    go_ret
    exact ⟨rfl, HY.out⟩
set_option maxHeartbeats 4000000 in
theorem del1_any (bt : Nat) (k : Val) (t : TL w h R m fr root dep cnt) (ct : w.cell? ⟨bt, 0, none⟩ = some (.pointer (some ⟨h.p, 0, none⟩))) (n : Nat) (hn : n < m) (hl : (R n).length ≤ 4) :
    Calls Try.prog 66 #[.int .i64 n, .int .i64 (place k (R n)), .bool (there k (R n)), .pointer (some ⟨bt, 0, none⟩)] w fun e w' =>
      e = .returned (.bool (there k (R n))) ∧ TL w' h (upd R n (remR k (R n))) m fr root dep cnt ∧ Mv w h w' h := by
  have hpl := place_le k (R n)
  cases ht : there k (R n)
  · have T : Hid (TL w h (upd R n (remR k (R n))) m fr root dep cnt) := by
      unfold remR
      rw [ht, if_neg (by simp), upd_self]; exact t
    clear t hpl hl ht
    generalize remR k (R n) = r5 at *
    generalize place k (R n) = pl at *
    go_enter Try.func66, Try.ntmps66
    go_wp2_with fail
    go_ret
    exact ⟨rfl, T.out, Mv.refl _ _⟩
  · obtain ⟨hp, _⟩ := there_true ht
    have H1 : Hid (Calls Try.prog 67 #[.pointer (some ⟨h.p, 0, none⟩), .int .i64 n, .int .i64 (place k (R n)), .int .i64 ((place k (R n) : Int) + 1)] w fun e w' => e = .returned (.tuple #[]) ∧ TL w' h (upd R n (remR k (R n))) m fr root dep cnt ∧ Mv w h w' h) := by
      have := remove_any t n (place k (R n)) (place k (R n) + 1) hn (by omega) hp
      unfold remR
      rw [ht, if_pos rfl]
      rwa [show ((place k (R n) + 1 : Nat) : Int) = (place k (R n) : Int) + 1 by omega] at this
    clear t ht
    generalize remR k (R n) = r5 at *
    generalize place k (R n) = pl at *
    obtain ⟨L, hL⟩ : ∃ L, (R n).length = L := ⟨_, rfl⟩
    rw [hL] at hl hpl
    clear hL
    have hp5 : pl ≤ 5 := by omega
    go_enter Try.func66, Try.ntmps66
    go_wp2_with fail
    refine Calls.mono H1.out ?_
    rintro e w1 ⟨rfl, hT, hM⟩
    have HT : Hid (TL w1 h (upd R n r5) m fr root dep cnt ∧ Mv w h w1 h) := ⟨hT, hM⟩
    clear hT hM H1
    go_wp2_with fail
    go_ret
    exact ⟨rfl, HT.out⟩
end
end Go.Proofs.Ytafkpfhhmmnpeaa.Val
