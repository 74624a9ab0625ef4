/- What pred.Clone, And and Above answer: the same, in memory of its own. -/
import Derived.Test.YtnfageikacfdoaaPredNew
import Derived.Test.YtnfageikacfdoaaBare
import Derived.OwnWalk
namespace Go.Proofs.Ytnfageikacfdoaa.Val
open Go.RowKit

abbrev TP : TypeId := 26
theorem info_P : (Try.prog.info? 26).map (fun i => (i.zero, i.size, i.bytes)) = some (some (PV 0 0 false 0 ⟨#[]⟩ false 0 ⟨#[]⟩ (.slice none 0 0)), 9, 104) := by kernel_rfl
/-- What Clone answers of one. -/
def CloneOk (f : FuncId) (p : PT) : Prop := ∀ w, In w p → p.size ≤ 1000000 → Calls Try.prog f #[p.val] w fun e w' => ∃ q : PT, e = .returned q.val ∧ q.bare = p.bare ∧ New w' TP (fun b => w.heap.size ≤ b) q ∧ Below w.heap.size w w'
theorem sizeL_mem {l : List PT} {q : PT} (h : q ∈ l) : q.size ≤ sizeL l := by
  induction l with
  | nil => simp at h
  | cons x l ih =>
    rw [sizeL_cons]
    rcases List.mem_cons.1 h with rfl | h
    · omega
    · have := ih h; omega
theorem length_sizeL (l : List PT) : l.length ≤ sizeL l := by
  induction l with
  | nil => simp
  | cons x l ih => rw [sizeL_cons, List.length_cons]; have := size_pos x; omega
theorem one_cells (q : PT) (ao : Option Addr) (n c : Nat) (h : q.lv = .slice ao n c) : ∀ u ∈ q.cells, u.oneCell' = true := by
  intro u hu
  simp only [PT.cells, h, List.mem_cons, List.not_mem_nil, or_false] at hu
  rcases hu with rfl | rfl | rfl | rfl | rfl | rfl | rfl | rfl | rfl <;> rfl
theorem new_cells (w : World) (q : PT) (T : TypeId) : ∀ j u, q.cells[j]? = some u → (w.alloc (pobj q T)).cell? ((⟨w.heap.size, 0, none⟩ : Addr).add j) = some u := by
  intro j u hj
  rw [Addr.add_lit, Nat.zero_add, cell_of_row (w.alloc _) w.heap.size j _ T (0, 0) (heap_alloc_new w _)]
  simpa [PT.cells] using hj
set_option maxHeartbeats 2000000 in
theorem cloned_any (lv : Value) (l : List PT) (w : World) (hl : InL w lv l) (hs : sizeL l ≤ 1000000) (ih : ∀ q ∈ l, CloneOk 20 q) :
    Calls Try.prog 39 #[lv] w fun e w' => ∃ v' m, e = .returned v' ∧ m.map PT.bare = l.map PT.bare ∧ NewL w' TP (fun b => w.heap.size ≤ b) v' m ∧ Below w.heap.size w w' := by
  obtain ⟨i0, hi, hz0, hz1, hz2⟩ := info_parts info_P
  have I0 : Hid (Try.prog.info? 26 = some i0 ∧ i0.zero = some (PV 0 0 false 0 ⟨#[]⟩ false 0 ⟨#[]⟩ (.slice none 0 0)) ∧ i0.size = 9 ∧ i0.bytes = 104) := ⟨hi, hz0, hz1, hz2⟩
  clear hi hz0 hz1 hz2
  obtain ⟨ao, c, rfl, hn⟩ := hl.1.slice
  have hlen : l.length ≤ 1000000 := Nat.le_trans (length_sizeL l) hs
  have HL : Hid (InL w (.slice ao l.length c) l ∧ sizeL l ≤ 1000000 ∧ ∀ q ∈ l, CloneOk 20 q) := ⟨hl, hs, ih⟩
  clear hl hs ih
  go_enter Try.func39, Try.ntmps39
  go_wp2_with fail
  go_loopw [3, 8] (fun own i wr => ∃ k : Nat, k ≤ l.length ∧ i = .int .i64 k ∧ Hid (CL w wr TP l k own))
    (fun _ i _ => l.length - (intOf i).toNat)
  case atStart => exact ⟨0, Nat.zero_le _, rfl, CL.start w TP l⟩
  case round =>
    obtain ⟨k, hk, rfl, HK⟩ := hrel
    by_cases h1 : k < l.length
    · have i0' : (0 : Int) ≤ (k : Int) := by omega
      have i1 : (k : Int) < (l.length : Int) := by omega
      have hbw : Below w.heap.size w wr := by obtain ⟨_, _, _, _, h⟩ := HK.out; exact h
      obtain ⟨b, o, rfl, hat⟩ := lies_at (HL.out.1.1.below hbw) k h1
      have hmem : l[k] ∈ l := List.getElem_mem h1
      have hink : In wr l[k] := (HL.out.1.2 _ hmem).keep hbw
      have HQ : Hid (∀ w1, Below wr.heap.size wr w1 → Calls Try.prog 20 #[l[k].val] w1 fun e w' => ∃ q : PT, e = .returned q.val ∧ q.bare = l[k].bare ∧ New w' TP (fun b => w1.heap.size ≤ b) q ∧ Below w1.heap.size w1 w') :=
        fun w1 hb => HL.out.2.2 _ hmem w1 (hink.keep hb) (Nat.le_trans (sizeL_mem hmem) HL.out.2.1)
      obtain ⟨ak, ck, hlk, _⟩ := hink.lies.slice
      obtain ⟨c0, c1, c2, c3, c4, c5, c6, c7, c8⟩ := hat
      unfold PT.val at HQ
      rw [hlk] at c8 HQ
      have HLK : Hid (l[k].lv = .slice ak l[k].l.length ck) := hlk
      have hbl : b < wr.heap.size := World.block_lt_of_cell? _ _ c0
      clear hlk hmem hink hbw
      go_wp2_with fail
      refine Calls.mono (HQ.out _ (alloc1 _ _)) ?_
      rintro e w1 ⟨q, rfl, hqb, hqn, hb1⟩
      obtain ⟨aq, cq, hlq⟩ := hqn.row.slice
      have hb1' : Below wr.heap.size wr w1 := back1 hb1
      obtain ⟨m, hown, hsz, hnext⟩ := CL.owns HK.out (wb := w1.alloc (pobj q 26)) (on hb1' (alloc1 _ _))
      have HN : Hid _ := hnext
      have HA : Hid (q.bare = l[k].bare ∧ New w1 TP (fun b => (wr.alloc (pobj l[k] 26)).heap.size ≤ b) q ∧ Below (wr.alloc (pobj l[k] 26)).heap.size (wr.alloc (pobj l[k] 26)) w1) := by
        rw [← HLK.out] at hqn hb1; exact ⟨hqb, hqn, hb1⟩
      have HW : Hid ((w1.alloc (pobj q 26)).ownsRow w.heap.size TP 9 u3 k (m.flatMap PT.cells) ∧ w.heap.size ≤ (w1.alloc (pobj q 26)).heap.size) := ⟨hown, hsz⟩
      have HQL : Hid (q.lv = .slice aq q.l.length cq) := hlq
      clear hqb hqn hb1 hb1' hnext hown hsz c0 c1 c2 c3 c4 c5 c6 c7 c8 hlq HQ
      go_wp2_with (at_builtin; refine wpList_append_own_at _ rfl _ _ _ rfl w.heap.size TP i0 _ 9 104 Try.underlying24 I0.out.1 I0.out.2.1 I0.out.2.2.1 I0.out.2.2.2 rfl (by decide) u3 k (m.flatMap PT.cells) rfl HW.out.1 ⟨w1.heap.size, 0, none⟩ 1 1 q.cells rfl rfl (new_cells w1 q _) (one_cells q _ _ _ HQL.out) ?_ ?_ HW.out.2 ?_)
      · unfold maxLen; omega
      · omega
      · intro v' w2 hown' hgrow _ hat
        have HC : Hid (CL w w2 TP l (k + 1) v') := by
          obtain ⟨a1, a2, a3⟩ := HA.out
          exact HN.out q (wr.alloc (pobj l[k] 26)) w2 v' h1 (alloc1 _ _) (on a3 (alloc1 _ _)) a1 (a2.keep (alloc1 _ _)) hown' hgrow (by simpa using hat)
        clear hown' hgrow hat HA HN HW HQL HLK HK
        go_wp2_with fail
        go_roundw
        case rel => exact ⟨k + 1, by omega, by go_num, HC⟩
        case measure => simp [intOf]; omega
    · have i1 : decide ((k : Int) < (l.length : Int)) = false := by simp; omega
      obtain rfl : k = l.length := by omega
      obtain ⟨m, hm1, hm2, hm3⟩ := CL.done HK.out
      have HM : Hid (m.map PT.bare = l.map PT.bare ∧ NewL wr TP (fun b => w.heap.size ≤ b) u3 m ∧ Below w.heap.size w wr) := ⟨hm1, hm2, hm3⟩
      clear hm1 hm2 hm3 HK HL
      go_wp2_with fail
      go_ret
      exact ⟨_, m, rfl, HM.out⟩
theorem bare_of {p : PT} {lv : Value} {m : List PT} (h : m.map PT.bare = p.l.map PT.bare) : (PT.mk p.op p.col p.v p.w lv m).bare = p.bare := by
  cases p with | mk o c v u lv' l => rw [bare_mk, bare_mk]; exact congrArg _ h
set_option maxHeartbeats 1000000 in
theorem clone_step (p : PT) (ih : ∀ q ∈ p.l, CloneOk 20 q) : CloneOk 20 p := by
  intro w hi hs
  have hsz := size_l p
  have H : Hid (∀ w1, Below w.heap.size w w1 → Calls Try.prog 39 #[p.lv] w1 fun e w' => ∃ v' m, e = .returned v' ∧ m.map PT.bare = p.l.map PT.bare ∧ NewL w' TP (fun b => w1.heap.size ≤ b) v' m ∧ Below w1.heap.size w1 w') :=
    fun w1 hb => cloned_any p.lv p.l w1 (hi.list.below hb) (by omega) ih
  have HV : Hid (p.v.s.size ≤ maxLen ∧ p.w.s.size ≤ maxLen) := ⟨hi.sv, hi.sw⟩
  obtain ⟨ap, cp, hlp, _⟩ := hi.lies.slice
  clear hi hs hsz ih
  unfold PT.val
  rw [hlp] at H ⊢
  clear hlp
  go_enter Try.func20, Try.ntmps20
  go_wp2_with fail
  refine Calls.mono (H.out _ (back1 (alloc1 _ _))) ?_
  rintro e w1 ⟨v', m, rfl, hm, hn, hb⟩
  obtain ⟨av, cv, rfl⟩ := hn.slice
  have HM : Hid (m.map PT.bare = p.l.map PT.bare) := hm
  have b0 : w1.cell? ⟨w.heap.size, 0, none⟩ = some (.int .i64 p.op) := by rw [hb.cell (by simp; omega)]; simp [go_sem]
  have b1 : w1.cell? ⟨w.heap.size, 1, none⟩ = some (.int .i64 p.col) := by rw [hb.cell (by simp; omega)]; simp [go_sem]
  have b2 : w1.cell? ⟨w.heap.size, 2, none⟩ = some (.bool p.v.t) := by rw [hb.cell (by simp; omega)]; simp [go_sem]
  have b3 : w1.cell? ⟨w.heap.size, 3, none⟩ = some (.int .i64 p.v.n) := by rw [hb.cell (by simp; omega)]; simp [go_sem]
  have b4 : w1.cell? ⟨w.heap.size, 4, none⟩ = some (.string p.v.s) := by rw [hb.cell (by simp; omega)]; simp [go_sem]
  have b5 : w1.cell? ⟨w.heap.size, 5, none⟩ = some (.bool p.w.t) := by rw [hb.cell (by simp; omega)]; simp [go_sem]
  have b6 : w1.cell? ⟨w.heap.size, 6, none⟩ = some (.int .i64 p.w.n) := by rw [hb.cell (by simp; omega)]; simp [go_sem]
  have b7 : w1.cell? ⟨w.heap.size, 7, none⟩ = some (.string p.w.s) := by rw [hb.cell (by simp; omega)]; simp [go_sem]
  have b8 : w1.cell? ⟨w.heap.size, 8, none⟩ = some (.slice ap p.l.length cp) := by rw [hb.cell (by simp; omega)]; simp [go_sem]
  have f0 : ∀ j, w1.frozen? ⟨w.heap.size, j, none⟩ = false := fun j => by rw [hb.frozen (by simp; omega)]; simp [go_sem]
  have z0 : w1.cell? ⟨w.heap.size + 1, 0, none⟩ = some (.int .i64 0) := by rw [hb.cell (by simp)]; simp [go_sem]
  have z1 : w1.cell? ⟨w.heap.size + 1, 1, none⟩ = some (.int .i64 0) := by rw [hb.cell (by simp)]; simp [go_sem]
  have z2 : w1.cell? ⟨w.heap.size + 1, 2, none⟩ = some (.bool false) := by rw [hb.cell (by simp)]; simp [go_sem]
  have z3 : w1.cell? ⟨w.heap.size + 1, 3, none⟩ = some (.int .i64 0) := by rw [hb.cell (by simp)]; simp [go_sem]
  have z4 : w1.cell? ⟨w.heap.size + 1, 4, none⟩ = some (.string ⟨#[]⟩) := by rw [hb.cell (by simp)]; simp [go_sem]
  have z5 : w1.cell? ⟨w.heap.size + 1, 5, none⟩ = some (.bool false) := by rw [hb.cell (by simp)]; simp [go_sem]
  have z6 : w1.cell? ⟨w.heap.size + 1, 6, none⟩ = some (.int .i64 0) := by rw [hb.cell (by simp)]; simp [go_sem]
  have z7 : w1.cell? ⟨w.heap.size + 1, 7, none⟩ = some (.string ⟨#[]⟩) := by rw [hb.cell (by simp)]; simp [go_sem]
  have z8 : w1.cell? ⟨w.heap.size + 1, 8, none⟩ = some (.slice none 0 0) := by rw [hb.cell (by simp)]; simp [go_sem]
  have f1 : ∀ j, w1.frozen? ⟨w.heap.size + 1, j, none⟩ = false := fun j => by rw [hb.frozen (by simp)]; simp [go_sem]
  have HB : Hid (NewL w1 TP (fun b => w.heap.size + 1 < b) (.slice av m.length cv) m ∧ Below w.heap.size w w1) := ⟨hn.imp fun b h _ => by simp at h; omega, back2 hb⟩
  clear hb hn hm H
  go_wp2_with fail
  refine bodyPost_ret (v := (PT.mk p.op p.col p.v p.w (.slice av m.length cv) m).val) (by simp [results, Try.results20, go_sem, PT.val, z0, z1, z2, z3, z4, z5, z6, z7, z8]) rfl ⟨_, rfl, bare_of HM.out, ?_, ?_⟩
  · obtain ⟨⟨h1, h2, h3⟩, h4⟩ := HB.out
    refine .mk HV.out.1 HV.out.2 (owns_sv (X := fun b => b ≤ w.heap.size + 1) h1 ?_ fun g hg => by have := h2 g hg; omega) (fun g hg => by have := h2 g hg; omega) fun q hq => ((h3 q hq).sv (X := fun b => b ≤ w.heap.size + 1) ?_ fun b hb => by omega).imp fun b hb _ => by omega
    all_goals
      repeat (refine Sv.set ?_ (by simp) _)
      exact Sv.refl _ _
  · repeat (refine Below.setCell ?_ (by simp) _)
    exact HB.out.2
theorem clone_ok (p : PT) : CloneOk 20 p := by
  induction p using PT.ind with
  | h p ih => exact clone_step p ih
theorem pclone_any (p : PT) (w : World) (hi : In w p) (hs : p.size ≤ 1000000) :
    Calls Try.prog 20 #[p.val] w fun e w' => ∃ q : PT, e = .returned q.val ∧ q.bare = p.bare ∧ New w' TP (fun b => w.heap.size ≤ b) q ∧ Below w.heap.size w w' := clone_ok p w hi hs
set_option maxHeartbeats 1000000 in
theorem and_any (lv : Value) (l : List PT) (w : World) (hl : InL w lv l) (hs : sizeL l ≤ 1000000) :
    Calls Try.prog 25 #[lv] w fun e w' => ∃ q : PT, e = .returned q.val ∧ q.bare = (PT.mk 11 0 Val.zero Val.zero lv l).bare ∧ New w' TP (fun b => w.heap.size ≤ b) q ∧ Below w.heap.size w w' := by
  have H : Hid (∀ w1, Below w.heap.size w w1 → Calls Try.prog 39 #[lv] w1 fun e w' => ∃ v' m, e = .returned v' ∧ m.map PT.bare = l.map PT.bare ∧ NewL w' TP (fun b => w1.heap.size ≤ b) v' m ∧ Below w1.heap.size w1 w') :=
    fun w1 hb => cloned_any lv l w1 (hl.below hb) hs fun q _ => clone_ok q
  clear hl hs
  go_enter Try.func25, Try.ntmps25
  go_wp2_with fail
  refine Calls.mono (H.out _ (alloc1 _ _)) ?_
  rintro e w1 ⟨v', m, rfl, hm, hn, hb⟩
  obtain ⟨av, cv, rfl⟩ := hn.slice
  have HM : Hid (m.map PT.bare = l.map PT.bare) := hm
  have z0 : w1.cell? ⟨w.heap.size, 0, none⟩ = some (.int .i64 0) := by rw [hb.cell (by simp)]; simp [go_sem]
  have z1 : w1.cell? ⟨w.heap.size, 1, none⟩ = some (.int .i64 0) := by rw [hb.cell (by simp)]; simp [go_sem]
  have z2 : w1.cell? ⟨w.heap.size, 2, none⟩ = some (.bool false) := by rw [hb.cell (by simp)]; simp [go_sem]
  have z3 : w1.cell? ⟨w.heap.size, 3, none⟩ = some (.int .i64 0) := by rw [hb.cell (by simp)]; simp [go_sem]
  have z4 : w1.cell? ⟨w.heap.size, 4, none⟩ = some (.string ⟨#[]⟩) := by rw [hb.cell (by simp)]; simp [go_sem]
  have z5 : w1.cell? ⟨w.heap.size, 5, none⟩ = some (.bool false) := by rw [hb.cell (by simp)]; simp [go_sem]
  have z6 : w1.cell? ⟨w.heap.size, 6, none⟩ = some (.int .i64 0) := by rw [hb.cell (by simp)]; simp [go_sem]
  have z7 : w1.cell? ⟨w.heap.size, 7, none⟩ = some (.string ⟨#[]⟩) := by rw [hb.cell (by simp)]; simp [go_sem]
  have z8 : w1.cell? ⟨w.heap.size, 8, none⟩ = some (.slice none 0 0) := by rw [hb.cell (by simp)]; simp [go_sem]
  have f1 : ∀ j, w1.frozen? ⟨w.heap.size, j, none⟩ = false := fun j => by rw [hb.frozen (by simp)]; simp [go_sem]
  have HB : Hid (NewL w1 TP (fun b => w.heap.size < b) (.slice av m.length cv) m ∧ Below w.heap.size w w1) := ⟨hn.imp fun b h _ => by simp at h; omega, back1 hb⟩
  clear hb hn hm H
  go_wp2_with fail
  refine bodyPost_ret (v := (PT.mk 11 0 Val.zero Val.zero (.slice av m.length cv) m).val) (by simp [results, Try.results25, go_sem, PT.val, Val.zero, z0, z1, z2, z3, z4, z5, z6, z7, z8]) rfl ⟨_, rfl, bare_of (p := PT.mk 11 0 Val.zero Val.zero lv l) HM.out, ?_, ?_⟩
  · obtain ⟨⟨h1, h2, h3⟩, h4⟩ := HB.out
    refine .mk (by decide) (by decide) (owns_sv (X := fun b => b ≤ w.heap.size) h1 ?_ fun g hg => by have := h2 g hg; omega) (fun g hg => by have := h2 g hg; omega) fun q hq => ((h3 q hq).sv (X := fun b => b ≤ w.heap.size) ?_ fun b hb => by omega).imp fun b hb _ => by omega
    all_goals
      repeat (refine Sv.set ?_ (by simp) _)
      exact Sv.refl _ _
  · repeat (refine Below.setCell ?_ (by simp) _)
    exact HB.out.2
set_option maxHeartbeats 1000000 in
theorem above_any (x : Val) (w : World) :
    Calls Try.prog 27 #[V x.t x.n x.s] w fun e w' => e = .returned (PT.mk 7 0 x Val.zero (.slice none 0 0) []).val ∧ Below w.heap.size w w' := by
  go_enter Try.func27, Try.ntmps27
  go_wp2_with fail
  refine bodyPost_ret (v := (PT.mk 7 0 x Val.zero (.slice none 0 0) []).val) (by simp [results, Try.results27, go_sem, PT.val, Val.zero]) rfl ⟨rfl, ?_⟩
  exact back1 (alloc1 _ _)
end Go.Proofs.Ytnfageikacfdoaa.Val
