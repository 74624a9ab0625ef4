/- What the tree's Range hands back: the pairs within a span, one behind the other, as long as they are wanted. -/
import Derived.RangeFuncNested
import Derived.RangeFuncBound
import Derived.RangeFuncCalls
import Derived.RangeFuncLeaves
import Derived.Shelf.Abstract
import Derived.Shelf.RegionOpen
import Derived.WalkKit
import Derived.OwnWalkIn
import Derived.TacticsInMore
import Derived.LoopNIn
import Derived.LoopIn
import Derived.Test.YtooblmldmbbejaaU17
import Derived.Maps.AppendAt
namespace Go.Proofs.Ytooblmldmbbejaa.Val
open Go Go.RowKit Go.Shelf
attribute [local go_sem] Oper.semAt_some

/-- The block in which the slice of a box lies. -/
def ownB (W : World) (bo : Nat) : Option Nat := (W.cell? ⟨bo, 0, none⟩).bind Value.ownBlock
/-- A round turns no cells but those of its own box and slice. -/
structure KpO (bo : Nat) (W W' : World) : Prop where
  size : W.heap.size ≤ W'.heap.size
  same : ∀ k c t f, W.heap[k]? = some (.cells c t f) → k ≠ bo → ownB W bo ≠ some k → W'.heap[k]? = some (.cells c t f)
  own : ownB W' bo = ownB W bo ∨ ∃ k, ownB W' bo = some k ∧ W.heap.size ≤ k
theorem KpO.trans {bo : Nat} {A B C : World} (h : KpO bo A B) (k : KpO bo B C) : KpO bo A C := by
  refine ⟨Nat.le_trans h.size k.size, fun j c t f hj hne ho => k.same j c t f (h.same j c t f hj hne ho) hne fun e => ?_, ?_⟩
  · have hl := (Array.getElem?_eq_some_iff.1 hj).1
    rcases h.own with e1 | ⟨q, e1, hq⟩
    · rw [e1] at e; exact ho e
    · rw [e1] at e; injection e with e; omega
  · rcases k.own with e1 | ⟨q, e1, hq⟩
    · rcases h.own with e2 | ⟨q, e2, hq⟩
      · exact .inl (e1.trans e2)
      · exact .inr ⟨q, e1.trans e2, hq⟩
    · exact .inr ⟨q, e1, Nat.le_trans h.size hq⟩
theorem KpO.put {bo : Nat} {w : World} (hbo : bo < w.heap.size) (W : World) (l : Nat) (o o' : Obj) (hl : w.heap.size ≤ l) (h : W.heap[l]? = some o) (hc : o.isCells = false) (_ : o.isWalk = false) : KpO bo W (W.putObj l o') := by
  have hg := grownBy_putObj' W l o'
  have hne : ∀ k c t f, W.heap[k]? = some (.cells c t f) → k ≠ l := fun k c t f hk e => by
    subst e; rw [hk] at h; injection h with h; subst h; simp [Obj.isCells] at hc
  refine ⟨hg.size, fun k c t f hk _ _ => ?_, .inl ?_⟩
  · rw [hg.block k (Array.getElem?_eq_some_iff.1 hk).1 fun e => hne k c t f hk (by injection e)]; exact hk
  · unfold ownB
    rw [World.cell?_of_block (w := W) (w' := W.putObj l o') (a := ⟨bo, 0, none⟩) (World.putObj_heap_other (show bo ≠ l by omega))]
theorem KpO.below {bo : Nat} {W W' : World} (h : Below W.heap.size W W') (hb : bo < W.heap.size) : KpO bo W W' := by
  refine ⟨h.size, fun k c t f hk _ _ => by rw [h.block k (Array.getElem?_eq_some_iff.1 hk).1]; exact hk, .inl ?_⟩
  unfold ownB
  rw [h.cell (p := ⟨bo, 0, none⟩) hb]
theorem grown_below {W W' : World} (h : Below W.heap.size W W') : W.grownBy W' none := ⟨h.os, h.tape, h.output, h.size, fun k hk _ => h.block k hk⟩
abbrev encP (x : Pr) : Array Value := #[V x.k.t x.k.n x.k.s, .int .i64 x.v]
/-- The gathered items lie there, and nobody else's slice does. -/
structure Gi (W : World) (bo : Nat) (v : Value) (I : List It) : Prop where
  row : ∃ b, W.ownsRow b TI 5 v I.length (icells I)
  ne : ∀ k, v.ownBlock = some k → k ≠ bo ∧ ownB W bo ≠ some k
theorem Gi.keep {W W' : World} {bo : Nat} {v : Value} {I : List It} (g : Gi W bo v I) (k : KpO bo W W') : Gi W' bo v I := by
  obtain ⟨b, hr⟩ := g.row
  refine ⟨⟨b, hr.1, ?_⟩, fun j hj => ⟨(g.ne j hj).1, fun e => ?_⟩⟩
  · rcases hr.2 with hn | ⟨q, cap, cur, e, h1, h2, rest⟩
    · exact .inl hn
    · have hq : v.ownBlock = some q := by rw [e]; rfl
      exact .inr ⟨q, cap, cur, e, h1, k.same q _ _ _ h2 (g.ne q hq).1 (g.ne q hq).2, rest⟩
  · have hlt := (hr.lt j hj).2
    rcases k.own with e1 | ⟨q, e1, hq⟩
    · rw [e1] at e; exact (g.ne j hj).2 e
    · rw [e1] at e; injection e with e; omega
theorem Gi.at {W : World} {bo : Nat} {v : Value} {I : List It} (g : Gi W bo v I) (j : Nat) (hj : j < I.length) : ∃ b c, v = .slice (some ⟨b, 0, none⟩) I.length c ∧ ItAt W b (j * 5) I[j] := by
  obtain ⟨bb, hr⟩ := g.row
  rcases hr.2 with ⟨_, h0⟩ | ⟨q, cap, cur, e, h1, h2, h3, h4, h5, h6⟩
  · omega
  · refine ⟨q, cap, e, ?_⟩
    have hrow : RowAt W q 0 I := fun s u hs => by
      have := hr.cells (g := q) (by rw [e]; rfl) s u hs
      have hadd : (⟨q, 0, none⟩ : Addr).add s = ⟨q, s, none⟩ := by unfold Addr.add; split <;> simp_all
      rw [hadd] at this
      rwa [Nat.zero_add]
    have := hrow.at j hj
    rwa [Nat.zero_add] at this
section
variable {p : Option Addr} {L : List Pr}
set_option maxRecDepth 100000 in
set_option maxHeartbeats 4000000 in
theorem rng1_in (n : Nat) (hn : 1 ≤ n) (lp bt bs bo : Nat) (s : Sp) (J Jx : List Pr → World → Prop) (W : World) (hJ : AbidesFrom W.heap.size J)
    (hY : ∀ pre x W1, J pre W1 → pre.length < L.length → YieldAt Fence.wide (n - 1) Try.prog lp (encP x) W1 fun e W' => (e = .returned (.bool true) ∧ J (pre ++ [x]) W' ∧ KpO bo W1 W') ∨ (e = .returned (.bool false) ∧ Jx (pre ++ [x]) W'))
    (HG : Calls Try.prog 35 #[.pointer p, s.val] W fun e w' => ∃ v I, e = .returned v ∧ w'.ownsRow W.heap.size TI 5 v I.length (icells I) ∧ I.map toP = L ∧ Below W.heap.size W w') (hl : L.length ≤ 100000) (ct : W.cell? ⟨bt, 0, none⟩ = some (.pointer p)) (sb : SBox W bs s) (hbo : bo < W.heap.size) (hown : ∀ k, ownB W bo = some k → k < W.heap.size) (h0 : J [] W) :
    CallsIn Fence.wide n Try.prog 34 #[.func (.yield lp) #[] #[], .pointer (some ⟨bt, 0, none⟩), .pointer (some ⟨bs, 0, none⟩)] W fun e W' => (∃ v, e = .returned v) ∧ ((∃ xs, xs = L ∧ J xs W') ∨ (∃ pre, pre <+: L ∧ Jx pre W')) := by
  have HGA : Hid (Calls Try.prog 35 #[.pointer p, s.val] W fun e w' => ∃ v I, e = .returned v ∧ w'.ownsRow W.heap.size TI 5 v I.length (icells I) ∧ I.map toP = L ∧ Below W.heap.size W w') := HG
  obtain ⟨s0, s1, s2, s3, s4, s5, s6, s7, s8, s9, s10⟩ := sb
  clear HG
  refine callsIn_of_wp Try.func34 rfl trivial ?_ rfl
  simp only [Try.ntmps34, List.size_toArray, List.length_cons, List.length_nil, Nat.reduceAdd, Nat.reduceSub, Array.replicate_succ, Array.replicate_zero, List.push_toArray, List.append_toArray, List.nil_append, List.cons_append]
  gi_wp2_with fail
  refine ⟨trivial, (callsIn_wide.2 HGA.out).mono ?_⟩
  rintro e w1 ⟨v, I, rfl, hv1, hv2, hb⟩
  clear s0 s1 s2 s3 s4 s5 s6 s7 s8 s9 s10 ct HGA
  have HJ1 : J [] w1 := hJ _ _ _ none h0 (grown_below hb) fun r e => by cases e
  have HGi : Gi w1 bo v I := by
    refine ⟨⟨_, hv1⟩, fun k hk => ?_⟩
    have h1 := (hv1.lt k hk).1
    have h2 : ownB w1 bo = ownB W bo := by unfold ownB; rw [hb.cell (p := ⟨bo, 0, none⟩) hbo]
    exact ⟨by omega, fun e => by have := hown k (by rw [← h2]; exact e); omega⟩
  obtain ⟨va, vc, ev⟩ := owns_slice hv1
  subst ev
  have hIl : I.length = L.length := by rw [← hv2, List.length_map]
  have HIl : Hid (I.length = L.length) := hIl
  have hI5 : I.length ≤ 100000 := by omega
  clear hv1 hIl
  gi_wp2_with fail
  gi_loopw [10] (fun i wr => ∃ k : Nat, k ≤ I.length ∧ i = .int .i64 k ∧ J ((I.take k).map toP) wr ∧ Gi wr bo (.slice va I.length vc) I ∧ W.heap.size ≤ wr.heap.size) (fun i _ => I.length - (intOf i).toNat)
  case atStart => exact ⟨0, Nat.zero_le _, rfl, HJ1, HGi, hb.size⟩
  case round =>
    obtain ⟨k, hk, rfl, hJs, hGi, hsz⟩ := hrel
    by_cases hlt : k < I.length
    · obtain ⟨b, c, ev, hat⟩ := hGi.at k hlt
      obtain ⟨rfl, rfl⟩ : va = some ⟨b, 0, none⟩ ∧ vc = c := by injection ev with e1 e2 e3; exact ⟨e1, e3⟩
      have hbA : Below wr.heap.size wr (wr.alloc (itobj I[k])) := alloc1 _ _
      have hJA : J ((I.take k).map toP) (wr.alloc (itobj I[k])) := hJ _ _ _ none hJs (grown_below hbA) fun r e => by cases e
      have hGA : Gi (wr.alloc (itobj I[k])) bo (.slice (some ⟨b, 0, none⟩) I.length vc) I := hGi.keep (KpO.below hbA (by omega))
      have hIA := ItAt.new wr I[k]
      obtain ⟨fn, tmps, assign, body, hy, hR⟩ := hY _ (toP I[k]) (wr.alloc (itobj I[k])) hJA (by rw [List.length_map, List.length_take, ← HIl.out]; omega)
      have hst : (I.take (k + 1)).map toP = (I.take k).map toP ++ [toP I[k]] := by rw [List.take_succ_eq_append_getElem hlt, List.map_append]; rfl
      have k0 : (0 : Int) ≤ (k : Int) := by omega
      have k1 : (k : Int) < (I.length : Int) := by omega
      have k2 : k ≤ 100000 := by omega
      dsimp only [encP] at hy
      generalize I[k] = x at *
      obtain ⟨c0, c1, c2, c3, c4⟩ := hat
      have HST : Hid ((I.take (k + 1)).map toP = (I.take k).map toP ++ [toP x]) := hst
      have HP : Hid ((I.take k).map toP ++ [toP x] <+: L) := by
        rw [← hst, ← hv2]
        exact (List.take_prefix (k + 1) I).map toP
      have HK : Hid (k < I.length ∧ W.heap.size ≤ wr.heap.size) := ⟨hlt, hsz⟩
      have HGA2 : Hid (Gi (wr.alloc (itobj x)) bo (.slice (some ⟨b, 0, none⟩) I.length vc) I) := hGA
      clear hJs hGi hJA hbA hIA hst hGA hlt hsz ev HJ1 HGi h0 hb
      gi_wp2_with fail
      refine hR.mono ?_
      rintro e W3 (⟨rfl, hJ3, hk3⟩ | ⟨rfl, hJx3⟩)
      · have HR3 : Hid (J ((I.take k).map toP ++ [toP x]) W3 ∧ Gi W3 bo (.slice (some ⟨b, 0, none⟩) I.length vc) I ∧ W.heap.size ≤ W3.heap.size) := ⟨hJ3, HGA2.out.keep hk3, by have := hk3.size; have := HK.out.2; simp at *; omega⟩
        clear hJ3 hk3 hR hy c0 c1 c2 c3 c4
        gi_wp2_with fail
        go_roundw
        case rel => exact ⟨k + 1, HK.out.1, by go_num, by rw [HST.out]; exact HR3.out.1, HR3.out.2.1, HR3.out.2.2⟩
        case measure => have := HK.out.1; simp [intOf]; omega
      · have HJx : Hid (Jx ((I.take k).map toP ++ [toP x]) W3) := hJx3
        clear hJx3 hR hy c0 c1 c2 c3 c4
        gi_wp2_with fail
        refine bodyPost_ret (results_none rfl _ _ _) rfl ?_
        exact ⟨⟨_, rfl⟩, .inr ⟨_, HP.out, HJx.out⟩⟩
    · obtain rfl : k = I.length := by omega
      rw [List.take_length, hv2] at hJs
      gi_wp2
      go_end0
      exact ⟨⟨_, rfl⟩, .inl ⟨_, rfl, hJs⟩⟩
/-- What Range hands back: each pair within the span, in order; or the first ones of them, where no more is wanted. -/
theorem rng_stops (n : Nat) (hn : 1 ≤ n) (bt bs bo : Nat) (s : Sp) (w : World) (HG : ∀ W, Below w.heap.size w W → Calls Try.prog 35 #[.pointer p, s.val] W fun e w' => ∃ v I, e = .returned v ∧ w'.ownsRow W.heap.size TI 5 v I.length (icells I) ∧ I.map toP = L ∧ Below W.heap.size W w') (hl : L.length ≤ 100000) (ct : w.cell? ⟨bt, 0, none⟩ = some (.pointer p)) (sb : SBox w bs s) (hbo : bo < w.heap.size) (hown : ∀ k, ownB w bo = some k → k < w.heap.size) :
    SeqStopsK Fence.wide n Try.prog 34 #[.pointer (some ⟨bt, 0, none⟩), .pointer (some ⟨bs, 0, none⟩)] encP (KpO bo) (fun xs => xs = L) (fun pre => pre <+: L) L.length w := fun lp J Jx W hW hJ _ hY h0 => by
  have h1 : ownB W bo = ownB w bo := by unfold ownB; rw [hW.cell (p := ⟨bo, 0, none⟩) hbo]
  exact rng1_in n hn lp bt bs bo s J Jx W hJ hY (HG W hW) hl (by rw [hW.cell (p := ⟨bt, 0, none⟩) (World.block_lt_of_cell? w _ ct)]; exact ct) (sb.below hW) (by have := hW.size; omega) (fun k hk => by have := hown k (by rw [← h1]; exact hk); have := hW.size; omega) h0
end
end Go.Proofs.Ytooblmldmbbejaa.Val
/- What the law's pairs answers: what a tree tells of a span. -/
namespace Go.Proofs.Ytooblmldmbbejaa.Val
open Go Go.RowKit Go.Shelf
attribute [local go_sem] Oper.semAt_some

theorem wpListIn_append_own_at {F : Fence} {n : Nat} {P : Program} (w : World) {ops : Array Oper} {rest : List Oper} {o : Oper} {a : Act} {Q : Exit → Act → World → Prop}
    (hg : o.guard = none) (s x : Operand) (t : TypeId) (hop : o.op = Op.call { callee := Callee.builtin Builtin.append, args := #[s, x], argTypes := #[t, t] })
    (base : Nat) (e : TypeId) (i : TypeInfo) (z : Value) (size bytes : Nat) (h1 : P.underlying t = some (.slice e)) (h2 : P.info? e = some i) (h3 : i.zero = some z) (h4 : i.size = size) (h5 : i.bytes = bytes) (h6 : z.cells.size = size) (h7 : 0 < size)
    (v : Value) (k : Nat) (xs : List Value) (hs : a.eval s = v) (hown : w.ownsRow base e size v k xs) (ad : Addr) (m c : Nat) (news : List Value) (hx : a.eval x = .slice (some ad) m c) (hn : news.length = m * size)
    (hc : ∀ j u, news[j]? = some u → w.cell? (ad.add j) = some u) (h1c : ∀ u ∈ news, u.oneCell' = true) (b1 : k + m ≤ maxLen) (b2 : (k + m) * bytes ≤ 140737488355328) (b3 : base ≤ w.heap.size)
    (hK : ∀ v' w', w'.ownsRow base e size v' (k + m) (xs ++ news) → w.grownBy w' v.ownBlock → (v'.ownBlock = v.ownBlock ∨ v'.ownBlock = some w.heap.size) → wpListIn F n P ops Q rest (a.put o.dst v') w') :
    wpListIn F n P ops Q (o :: rest) a w := by
  refine wpListIn_plain hg fun K hK' => ?_
  obtain ⟨v', w', hrun, r1, r2, _, r3⟩ := run_append_own_at (P := P) w base t o.type e i z size bytes h1 h2 h3 h4 h5 h6 h7 v k xs hown ad m c news hn hc h1c b1 b2 b3
  unfold Oper.wpIn
  refine ⟨?_, ?_⟩
  · simp [Oper.about, hop, resolve, Target.leads, Sem.run_pure]
  · rw [Oper.semAt_plain F _ _ (by rw [hop]; intro c hc'; cases hc')]
    simp [execOp, hop, resolve, invoke, builtin, hs, hx, hrun, Result.andThen]
    exact hK' _ _ (hK v' w' r1 r2 r3)
/-- The cells of a pair. -/
def Pr.cells (x : Pr) : List Value := [.bool x.k.t, .int .i64 x.k.n, .string x.k.s, .int .i64 x.v]
abbrev pcells (l : List Pr) : List Value := l.flatMap Pr.cells
abbrev TPr : TypeId := 49
theorem info_Pr : ∃ i, Try.prog.info? TPr = some i ∧ i.zero = some (.agg #[.bool false, .int .i64 0, .string ⟨#[]⟩, .int .i64 0]) ∧ i.size = 4 ∧ i.bytes = 40 := ⟨_, rfl, rfl, rfl, rfl⟩
theorem pcells_more (l : List Pr) (x : Pr) : pcells (l ++ [x]) = pcells l ++ x.cells := by simp [pcells]
theorem Pr.cells_one (x : Pr) : ∀ u ∈ x.cells, u.oneCell' = true := fun u hu => by
  simp only [Pr.cells, List.mem_cons, List.not_mem_nil, or_false] at hu
  rcases hu with rfl | rfl | rfl | rfl <;> rfl
theorem pr_new (w : World) (x : Pr) : ∀ j u, x.cells[j]? = some u → (w.alloc (.cells #[.bool x.k.t, .int .i64 x.k.n, .string x.k.s, .int .i64 x.v] TPr (0, 0))).cell? ((⟨w.heap.size, 0, none⟩ : Addr).add j) = some u := fun j u hj => by
  have hadd : (⟨w.heap.size, 0, none⟩ : Addr).add j = ⟨w.heap.size, j, none⟩ := by unfold Addr.add; split <;> simp_all
  rw [hadd]
  have hj4 : j < 4 := (List.getElem?_eq_some_iff.1 hj).1
  match j, hj4, hj with
  | 0, _, hj => simp [Pr.cells] at hj; subst hj; simp [go_sem]
  | 1, _, hj => simp [Pr.cells] at hj; subst hj; simp [go_sem]
  | 2, _, hj => simp [Pr.cells] at hj; subst hj; simp [go_sem]
  | 3, _, hj => simp [Pr.cells] at hj; subst hj; simp [go_sem]
theorem KpO.appended {W w1 : World} {bo : Nat} {t : TypeId} {v v' : Value} {tmp : Obj} (hv : Boxed W bo t v) (hg : (W.alloc tmp).grownBy w1 v.ownBlock) (hv2 : Boxed (w1.setCell ⟨bo, 0, none⟩ v') bo t v') (hat : v'.ownBlock = v.ownBlock ∨ v'.ownBlock = some (W.alloc tmp).heap.size) : KpO bo W (w1.setCell ⟨bo, 0, none⟩ v') := by
  have o1 : ownB W bo = v.ownBlock := by unfold ownB; rw [hv.cell]; rfl
  have o2 : ownB (w1.setCell ⟨bo, 0, none⟩ v') bo = v'.ownBlock := by unfold ownB; rw [hv2.cell]; rfl
  have hs := hg.size
  refine ⟨by simp at *; omega, fun k c t f hk hne ho => ?_, ?_⟩
  · have hl := (Array.getElem?_eq_some_iff.1 hk).1
    rw [heap_setCell_other w1 ⟨bo, 0, none⟩ k v' hne, hg.block k (by simp; omega) (fun e => ho (by rw [o1, ← e])), (alloc1 W tmp).block k hl]
    exact hk
  · rw [o1, o2]
    rcases hat with e | e
    · exact .inl e
    · exact .inr ⟨_, e, by simp⟩
abbrev pobj2 (p : Option Addr) : Obj := .cells #[.pointer p] 24 (0, 0)
set_option maxHeartbeats 1000000 in
theorem rng_any (p : Option Addr) (s : Sp) (w : World) : Calls Try.prog 17 #[.pointer p, s.val] w fun e w' => e = .returned (FV 34 #[] #[.pointer (some ⟨w.heap.size, 0, none⟩), .pointer (some ⟨w.heap.size + 1, 0, none⟩)]) ∧ w' = (w.alloc (pobj2 p)).alloc (sobj s 40) := by
  unfold Sp.val
  go_enter Try.func17, Try.ntmps17
  go_wp2_with fail
  go_ret
  exact ⟨rfl, rfl⟩
theorem eq_nilF (f : FuncId) (a b : Array Value) (w : World) : (binOp BinOp.eql 46 (FV f a b) Value.nilFunc).run Try.prog w = .ok (.bool false) w := by
  have hd : Op.maxDepth = 9999 + 1 := rfl
  have he : (Op.equal 46 (FV f a b) Value.nilFunc).run Try.prog w = .ok false w := by
    unfold Op.equal
    rw [hd]
    unfold Op.equalIn
    simp [run_underlying Try.underlying46]
  simp [binOp, he, go_sem]
section
variable {p : Option Addr} {L : List Pr}
set_option maxRecDepth 100000 in
set_option maxHeartbeats 4000000 in
theorem pairs_gen (w : World) (s : Sp) (HG : ∀ W, Below w.heap.size w W → Calls Try.prog 35 #[.pointer p, s.val] W fun e w' => ∃ v I, e = .returned v ∧ w'.ownsRow W.heap.size TI 5 v I.length (icells I) ∧ I.map toP = L ∧ Below W.heap.size W w') (hN : L.length ≤ 100000) :
    Calls Try.prog 14 #[.pointer p, s.val] w fun e w' => ∃ v, e = .returned v ∧ w'.ownsRow w.heap.size TPr 4 v L.length (pcells L) ∧ Below w.heap.size w w' := by
  have HR : Hid (∀ w1, Calls Try.prog 17 #[.pointer p, s.val] w1 fun e w' => e = .returned (FV 34 #[] #[.pointer (some ⟨w1.heap.size, 0, none⟩), .pointer (some ⟨w1.heap.size + 1, 0, none⟩)]) ∧ w' = (w1.alloc (pobj2 p)).alloc (sobj s 40)) := fun w1 => rng_any _ s w1
  have hef := eq_nilF 34
  refine (callsIn_wide (n := 5)).1 ?_
  unfold Sp.val
  refine callsIn_of_wp_marks Try.func14 rfl trivial ?_ rfl
  simp only [Try.ntmps14, List.size_toArray, List.length_cons, List.length_nil, Nat.reduceAdd, Nat.reduceSub, Array.replicate_succ, Array.replicate_zero, List.push_toArray, List.append_toArray, List.nil_append, List.cons_append]
  gi_wp2_with fail
  refine ⟨trivial, (callsIn_wide.2 (HR.out _)).mono ?_⟩
  rintro e w1 ⟨rfl, rfl⟩
  gi_wp2_with fail
  refine ⟨trivial, (callsIn_wide.2 (HR.out _)).mono ?_⟩
  rintro e w1 ⟨rfl, rfl⟩
  gi_wp2_with fail
  have B0 : Below w.heap.size w ((((((w.alloc (sobj s 40)).alloc (.cells #[.slice none 0 0] 26 (0, 0))).alloc (pobj2 p)).alloc (sobj s 40)).alloc (pobj2 p)).alloc (sobj s 40)) := by
    repeat (first | exact Below.refl _ _ | refine Below.alloc ?_ (by simp <;> omega) _)
  have ct : ((((((w.alloc (sobj s 40)).alloc (.cells #[.slice none 0 0] 26 (0, 0))).alloc (pobj2 p)).alloc (sobj s 40)).alloc (pobj2 p)).alloc (sobj s 40)).cell? ⟨w.heap.size + 1 + 1 + 1 + 1, 0, none⟩ = some (.pointer p) := by simp [go_sem]
  have sb : SBox ((((((w.alloc (sobj s 40)).alloc (.cells #[.slice none 0 0] 26 (0, 0))).alloc (pobj2 p)).alloc (sobj s 40)).alloc (pobj2 p)).alloc (sobj s 40)) (w.heap.size + 1 + 1 + 1 + 1 + 1) s := by constructor <;> simp [go_sem]
  have bx : Boxed ((((((w.alloc (sobj s 40)).alloc (.cells #[.slice none 0 0] 26 (0, 0))).alloc (pobj2 p)).alloc (sobj s 40)).alloc (pobj2 p)).alloc (sobj s 40)) (w.heap.size + 1) 26 (.slice none 0 0) := by
    have := Boxed.new (w.alloc (sobj s 40)) 26 (.slice none 0 0)
    rw [World.size_alloc] at this
    exact (((this.alloc _).alloc _).alloc _).alloc _
  have sz : ((((((w.alloc (sobj s 40)).alloc (.cells #[.slice none 0 0] 26 (0, 0))).alloc (pobj2 p)).alloc (sobj s 40)).alloc (pobj2 p)).alloc (sobj s 40)).heap.size = w.heap.size + 6 := by simp
  generalize ((((((w.alloc (sobj s 40)).alloc (.cells #[.slice none 0 0] 26 (0, 0))).alloc (pobj2 p)).alloc (sobj s 40)).alloc (pobj2 p)).alloc (sobj s 40)) = W0 at *
  have own0 : ownB W0 (w.heap.size + 1) = none := by unfold ownB; rw [bx.cell]; rfl
  have hseq := rng_stops 4 (by omega) (w.heap.size + 1 + 1 + 1 + 1) (w.heap.size + 1 + 1 + 1 + 1 + 1) (w.heap.size + 1) s W0 (fun W hW => HG W (B0.trans (hW.mono B0.size))) hN ct sb (by omega) (fun k hk => by rw [own0] at hk; cases hk)
  obtain ⟨inf, hi1, hi2, hi3, hi4⟩ := info_Pr
  have IN : Hid (Try.prog.info? TPr = some inf ∧ inf.zero = some (.agg #[.bool false, .int .i64 0, .string ⟨#[]⟩, .int .i64 0]) ∧ inf.size = 4 ∧ inf.bytes = 40) := ⟨hi1, hi2, hi3, hi4⟩
  clear HG ct sb HR hef own0 hi1 hi2 hi3 hi4
  refine wpIn_rangeFunc_ownH rfl (by omega) (gf := 34) (lb := #[.pointer (some ⟨w.heap.size + 1 + 1 + 1 + 1, 0, none⟩), .pointer (some ⟨w.heap.size + 1 + 1 + 1 + 1 + 1, 0, none⟩)]) rfl trivial (enters_of Try.func34 rfl rfl)
    hseq (fun a b => KpO.trans a b) (KpO.put (by omega)) (Below.refl _ _) (fun _ => rfl)
    (fun pre W => (∃ v, Boxed W (w.heap.size + 1) 26 v ∧ W.ownsRow w.heap.size TPr 4 v pre.length (pcells pre) ∧ True) ∧ Below w.heap.size w W)
    (fun _ _ _ => False)
    (OwnFrom.and (Own.from (holdsRow_own w.heap.size (w.heap.size + 1) 26 TPr 4 (fun pre => pre.length) (fun pre => pcells pre) (fun _ _ => True)) _) (ownFrom_below (Nat.le_refl _) (by omega)))
    (fun _ _ _ _ _ hs _ _ => hs)
    ⟨⟨_, bx, World.ownsRow_nil _ _ _ _, trivial⟩, B0⟩
    (fun x a' W => ∃ Bx, VBox W Bx x.k ∧ a' = { tmps := #[.pointer p, SV s.no s.hl s.ol s.lo.t s.lo.n s.lo.s s.hh s.oh s.hi.t s.hi.n s.hi.s, undef, .pointer (some ⟨w.heap.size, 0, none⟩), .slice none 0 0, .pointer (some ⟨w.heap.size + 1, 0, none⟩), .pointer (some ⟨Bx, 0, none⟩), .int .i64 x.v, .pointer p, .agg #[.bool s.no, .bool s.hl, .bool s.ol, .bool s.lo.t, .int .i64 s.lo.n, .string s.lo.s, .bool s.hh, .bool s.oh, .bool s.hi.t, .int .i64 s.hi.n, .string s.hi.s], FV 34 #[] #[.pointer (some ⟨w.heap.size + 1 + 1, 0, none⟩), .pointer (some ⟨w.heap.size + 1 + 1 + 1, 0, none⟩)], .bool false, undef, .pointer p, .agg #[.bool s.no, .bool s.hl, .bool s.ol, .bool s.lo.t, .int .i64 s.lo.n, .string s.lo.s, .bool s.hh, .bool s.oh, .bool s.hi.t, .int .i64 s.hi.n, .string s.hi.s], FV 34 #[] #[.pointer (some ⟨w.heap.size + 1 + 1 + 1 + 1, 0, none⟩), .pointer (some ⟨w.heap.size + 1 + 1 + 1 + 1 + 1, 0, none⟩)], V x.k.t x.k.n x.k.s, .int .i64 x.v, undef, undef, undef, undef, undef, undef, undef], defers := [] })
    (fun x a' _ W W' row hs hg hr => by
      obtain ⟨Bx, ⟨c0, c1, c2⟩, e⟩ := hs
      exact ⟨Bx, ⟨cell_kept c0 hg fun r e => (hr r e).2, cell_kept c1 hg fun r e => (hr r e).2, cell_kept c2 hg fun r e => (hr r e).2⟩, e⟩)
    ?assign ?body ?done ?stop
  case assign =>
    rintro lp pre x W K ⟨⟨v, hv, hrow, _⟩, hB⟩ hK
    have hlt := hv.lt
    gi_wp2_with fail
    refine hK _ _ ((KeepsOthers.alloc _ _).from _) (KpO.below (alloc1 _ _) hlt) ⟨⟨v, hv.alloc _, hrow.alloc _, trivial⟩, hB.trans ((alloc1 _ _).mono hB.size)⟩ ⟨W.heap.size, VBox.new W x.k 30, rfl⟩
  case body =>
    rintro lp pre x a' W hl' ⟨r, hr⟩ ⟨⟨v, hv, hrow, _⟩, hB⟩ ⟨Bx, ⟨c0, c1, c2⟩, rfl⟩ hlt
    obtain ⟨va, vc, ev⟩ := owns_slice hrow
    subst ev
    have hc := hv.cell
    have hpl : pre.length < 100000 := by omega
    gi_wp2_with (gi_at_builtin; refine wpListIn_append_own_at _ rfl _ _ _ rfl w.heap.size TPr inf _ 4 40 Try.underlying26 IN.out.1 IN.out.2.1 IN.out.2.2.1 IN.out.2.2.2 rfl (by decide) (.slice va pre.length vc) pre.length (pcells pre) rfl (hrow.alloc _) ⟨W.heap.size, 0, none⟩ 1 1 x.cells rfl rfl (pr_new W x) (Pr.cells_one x) (by unfold maxLen; omega) (by omega) (by have := hB.size; simp; omega) ?_)
    intro v' w1 hown' hgrow hat
    obtain ⟨g', cap', ev'⟩ := ownsRow_succ hown'
    obtain ⟨hv1, hv2, hr2, hk2, hb2⟩ := hv.appended (by decide) hrow hB.size (by omega) hown' hgrow
    have hkp := KpO.appended hv hgrow hv2 (by simpa using hat)
    have hc1 := hv1.cell
    have hf1 := hv1.frozen
    have HZ : Hid (KeepsFrom W0.heap.size W (w1.setCell ⟨w.heap.size + 1, 0, none⟩ v') ∧ KpO (w.heap.size + 1) W (w1.setCell ⟨w.heap.size + 1, 0, none⟩ v') ∧ (∃ v, Boxed (w1.setCell ⟨w.heap.size + 1, 0, none⟩ v') (w.heap.size + 1) 26 v ∧ (w1.setCell ⟨w.heap.size + 1, 0, none⟩ v').ownsRow w.heap.size TPr 4 v (pre ++ [x]).length (pcells (pre ++ [x])) ∧ True) ∧ Below w.heap.size w (w1.setCell ⟨w.heap.size + 1, 0, none⟩ v')) :=
      ⟨hk2.from _, hkp, ⟨v', hv2, by rw [List.length_append, pcells_more]; exact hr2, trivial⟩, hB.trans hb2⟩
    clear hkp hv1 hv2 hr2 hk2 hb2 hown' hgrow hat hv hrow hc
    subst ev'
    gi_wp2_with fail
    exact ⟨HZ.out.1, HZ.out.2.1, HZ.out.2.2.1, HZ.out.2.2.2⟩
  case done =>
    rintro D xs W hD rfl ⟨⟨v, hv, hrow, _⟩, hB⟩ hK
    obtain ⟨va, vc, ev⟩ := owns_slice hrow
    subst ev
    have hc := hv.cell
    have HZ : Hid (W.ownsRow w.heap.size TPr 4 (.slice va xs.length vc) xs.length (pcells xs) ∧ Below w.heap.size w W ∧ W.heap[D]? = some (.deferred (some [])) ∧ w.heap.size ≤ D) := ⟨hrow, hB, hK, by omega⟩
    clear hrow hB hv
    gi_wp2_with fail
    refine ⟨by simp, .inl ⟨_, _, rfl, run_takeDeferred HZ.out.2.2.1, ?_⟩⟩
    exact ⟨_, results_tmp rfl _ _ _, _, rfl, ownsRow_putObj HZ.out.1 _ HZ.out.2.2.1 rfl, HZ.out.2.1.trans (belowK_b (w := w) (Nat.le_refl _) W D _ _ HZ.out.2.2.2 HZ.out.2.2.1 rfl rfl)⟩
  case stop =>
    rintro D c pre W _ _ h _
    exact h.elim
end
/-- Of a tree. -/
theorem pairs_any {h : Hd} {l : List Pr} {m u d : Nat} (w : World) (t : TR w h l m u d) (hl : l.length ≤ 100000) (s : Sp) :
    Calls Try.prog 14 #[.pointer (some ⟨h.p, 0, none⟩), s.val] w fun e w' => ∃ v, e = .returned v ∧ w'.ownsRow w.heap.size TPr 4 v (rangeP s l).length (pcells (rangeP s l)) ∧ Below w.heap.size w w' :=
  pairs_gen w s (fun _ hW => gather_any (t.below hW) hl s) (Nat.le_trans (List.length_filter_le ..) hl)
/-- Of a tree that is none. -/
theorem pairs_nil (w : World) (s : Sp) : Calls Try.prog 14 #[.pointer none, s.val] w fun e w' => ∃ v, e = .returned v ∧ w'.ownsRow w.heap.size TPr 4 v 0 [] ∧ Below w.heap.size w w' :=
  pairs_gen (L := []) w s (fun _ _ => Calls.mono (gather_nil s) fun e w' ⟨he, hb⟩ => ⟨_, [], he, World.ownsRow_nil _ _ _ _, rfl, hb⟩) (by simp)
end Go.Proofs.Ytooblmldmbbejaa.Val
