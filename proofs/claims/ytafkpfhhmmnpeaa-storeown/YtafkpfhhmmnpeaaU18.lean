/- What Range of a tree of places hands back: the pairs within a span, one behind the other, as long as they are wanted. -/
import Derived.RangeFuncNested
import Derived.RangeFuncBound
import Derived.RangeFuncCalls
import Derived.RangeFuncLeaves
import Derived.Shelf.Abstract
import Derived.Shelf.RegionOpen
import Derived.WalkKit
import Derived.OwnWalkIn
import Derived.TacticsInMore
import Derived.LoopNIn
import Derived.LoopIn
import Derived.Test.YtafkpfhhmmnpeaaU17
namespace Go.Proofs.Ytafkpfhhmmnpeaa.Val
open Go Go.RowKit Go.Shelf
set_option maxRecDepth 100000
attribute [local go_sem] Oper.semAt_some

/-- The block in which the slice of a box lies. -/
def ownB (W : World) (bo : Nat) : Option Nat := (W.cell? ⟨bo, 0, none⟩).bind Value.ownBlock
/-- A round turns no cells but those of its own box and slice. -/
structure KpO (bo : Nat) (W W' : World) : Prop where
  size : W.heap.size ≤ W'.heap.size
  same : ∀ k c t f, W.heap[k]? = some (.cells c t f) → k ≠ bo → ownB W bo ≠ some k → W'.heap[k]? = some (.cells c t f)
  own : ownB W' bo = ownB W bo ∨ ∃ k, ownB W' bo = some k ∧ W.heap.size ≤ k
theorem KpO.trans {bo : Nat} {A B C : World} (h : KpO bo A B) (k : KpO bo B C) : KpO bo A C := by
  refine ⟨Nat.le_trans h.size k.size, fun j c t f hj hne ho => k.same j c t f (h.same j c t f hj hne ho) hne fun e => ?_, ?_⟩
  · have hl := (Array.getElem?_eq_some_iff.1 hj).1
    rcases h.own with e1 | ⟨q, e1, hq⟩
    · rw [e1] at e; exact ho e
    · rw [e1] at e; injection e with e; omega
  · rcases k.own with e1 | ⟨q, e1, hq⟩
    · rcases h.own with e2 | ⟨q, e2, hq⟩
      · exact .inl (e1.trans e2)
      · exact .inr ⟨q, e1.trans e2, hq⟩
    · exact .inr ⟨q, e1, Nat.le_trans h.size hq⟩
theorem KpO.put {bo : Nat} {w : World} (hbo : bo < w.heap.size) (W : World) (l : Nat) (o o' : Obj) (hl : w.heap.size ≤ l) (h : W.heap[l]? = some o) (hc : o.isCells = false) (_ : o.isWalk = false) : KpO bo W (W.putObj l o') := by
  have hg := grownBy_putObj' W l o'
  have hne : ∀ k c t f, W.heap[k]? = some (.cells c t f) → k ≠ l := fun k c t f hk e => by
    subst e; rw [hk] at h; injection h with h; subst h; simp [Obj.isCells] at hc
  refine ⟨hg.size, fun k c t f hk _ _ => ?_, .inl ?_⟩
  · rw [hg.block k (Array.getElem?_eq_some_iff.1 hk).1 fun e => hne k c t f hk (by injection e)]; exact hk
  · unfold ownB
    rw [World.cell?_of_block (w := W) (w' := W.putObj l o') (a := ⟨bo, 0, none⟩) (World.putObj_heap_other (show bo ≠ l by omega))]
theorem KpO.below {bo : Nat} {W W' : World} (h : Below W.heap.size W W') (hb : bo < W.heap.size) : KpO bo W W' := by
  refine ⟨h.size, fun k c t f hk _ _ => by rw [h.block k (Array.getElem?_eq_some_iff.1 hk).1]; exact hk, .inl ?_⟩
  unfold ownB
  rw [h.cell (p := ⟨bo, 0, none⟩) hb]
theorem grown_below {W W' : World} (h : Below W.heap.size W W') : W.grownBy W' none := ⟨h.os, h.tape, h.output, h.size, fun k hk _ => h.block k hk⟩
abbrev encP (x : Pr) : Array Value := #[V x.k.t x.k.n x.k.s, .agg (vcells x.v).toArray]
/-- A whole struct loaded, stored, within a fence. -/
theorem wpListIn_load_mid {F : Fence} {n : Nat} {P : Program} {ops : Array Oper} {rest : List Oper} {op : Oper} {a : Act} {w : World} {Q : Exit → Act → World → Prop} (hgd : op.guard = none) (ty : TypeId) (x : Operand) (ho : op.op = .load ty x)
    (b o : Nat) (hx : a.eval x = .pointer (some ⟨b, o, none⟩)) (cs : List Value) (d : TypeDesc) (hc : w.rangeAt b o cs)
    (hu : P.underlying ty = some d) (hd : d.isRow = true) (hi : (P.info? ty).map (·.size) = some cs.length)
    (h : wpListIn F n P ops Q rest (a.put op.dst (.agg cs.toArray)) w) : wpListIn F n P ops Q (op :: rest) a w := by
  refine wpListIn_plain hgd fun K hK' => ?_
  unfold Oper.wpIn
  refine ⟨?_, ?_⟩
  · simp [Oper.about, ho]
  · rw [Oper.semAt_plain F _ _ (by rw [ho]; intro c hc'; cases hc')]
    unfold execOp
    simp only [ho, hx, Instr.loadAt, Instr.sureAddr, Sem.run_bind, Sem.run_pure, Result.andThen_ok, run_loadVar_mid w b o ty cs d hc hu hd hi]
    exact hK' _ _ h
theorem wpListIn_store_mid {F : Fence} {n : Nat} {P : Program} {ops : Array Oper} {rest : List Oper} {op : Oper} {a : Act} {w : World} {Q : Exit → Act → World → Prop} (hgd : op.guard = none) (ty : TypeId) (x y : Operand) (ho : op.op = .store ty x y)
    (b o : Nat) (cells : Array Value) (hx : a.eval x = .pointer (some ⟨b, o, none⟩)) (hy : a.eval y = .agg cells)
    (ht : w.there b o cells.size) (hi : (P.info? ty).map (·.size) = some cells.size) (h1 : cells.all (·.oneCell') = true)
    (h : wpListIn F n P ops Q rest (a.put op.dst undef) (w.setCells b o cells.toList)) : wpListIn F n P ops Q (op :: rest) a w := by
  refine wpListIn_plain hgd fun K hK' => ?_
  unfold Oper.wpIn
  refine ⟨?_, ?_⟩
  · simp [Oper.about, ho]
  · rw [Oper.semAt_plain F _ _ (by rw [ho]; intro c hc'; cases hc')]
    unfold execOp
    simp only [ho, hx, hy, Instr.storeAt, Instr.sureAddr, Sem.run_bind, Sem.run_pure, Result.andThen_ok, run_storeVar_mid w b o ty cells ht hi h1]
    exact hK' _ _ h
section
variable {F : Fence} {n : Nat} {ops : Array Oper} {rest : List Oper} {op : Oper} {a : Act} {w : World} {Q : Exit → Act → World → Prop}
theorem stepIn_iload (hgd : op.guard = none) (x : Operand) (ho : op.op = .load TI x) (b o : Nat) (hx : a.eval x = .pointer (some ⟨b, o, none⟩)) (y : It) (hc : w.rangeAt b o y.cells)
    (h : wpListIn F n Try.prog ops Q rest (a.put op.dst y.val) w) : wpListIn F n Try.prog ops Q (op :: rest) a w :=
  wpListIn_load_mid hgd TI x ho b o hx y.cells _ hc Try.underlying105 rfl isize_I h
theorem stepIn_istore (hgd : op.guard = none) (x y : Operand) (ho : op.op = .store TI x y) (b o : Nat) (i : It) (hx : a.eval x = .pointer (some ⟨b, o, none⟩)) (hy : a.eval y = i.val) (ht : w.there b o 18)
    (h : ∀ w', w'.rangeAt b o i.cells → Sv (fun k => k = b) w w' → wpListIn F n Try.prog ops Q rest (a.put op.dst undef) w') : wpListIn F n Try.prog ops Q (op :: rest) a w :=
  wpListIn_store_mid hgd TI x y ho b o i.cells.toArray hx hy ht isize_I (all_oneCell_toArray (It.cells_one i)) (h _ (World.rangeAt_setCells_same w b o i.cells ht) (sv_sets b i.cells o w))
theorem stepIn_pload (hgd : op.guard = none) (x : Operand) (ho : op.op = .load 74 x) (b o : Nat) (hx : a.eval x = .pointer (some ⟨b, o, none⟩)) (cs : List Value) (hc : w.rangeAt b o cs) (hp : PC cs)
    (h : wpListIn F n Try.prog ops Q rest (a.put op.dst (.agg cs.toArray)) w) : wpListIn F n Try.prog ops Q (op :: rest) a w :=
  wpListIn_load_mid hgd 74 x ho b o hx cs _ hc Try.underlying74 rfl (by rw [hp.1]; exact isize_V) h
theorem stepIn_pstore (hgd : op.guard = none) (x y : Operand) (ho : op.op = .store 74 x y) (b o : Nat) (cs : List Value) (hx : a.eval x = .pointer (some ⟨b, o, none⟩)) (hy : a.eval y = .agg cs.toArray) (ht : w.there b o 14) (hp : PC cs)
    (h : ∀ w', w'.rangeAt b o cs → Sv (fun k => k = b) w w' → wpListIn F n Try.prog ops Q rest (a.put op.dst undef) w') : wpListIn F n Try.prog ops Q (op :: rest) a w :=
  wpListIn_store_mid hgd 74 x y ho b o cs.toArray hx hy (by have := hp.1; simpa [this] using ht) (by have := hp.1; simp only [List.size_toArray, this]; exact isize_V) (all_oneCell_toArray hp.2) (by have := h _ (World.rangeAt_setCells_same w b o cs (by rw [hp.1]; exact ht)) (sv_sets b cs o w); simpa using this)
end
theorem range_valR {w : World} {b o : Nat} {x : It} (h : w.rangeAt b o x.cells) : w.rangeAt b (o + 3) (vcells x.v) := fun j u hj => by
  have hj5 : j < 14 := (List.getElem?_eq_some_iff.1 hj).1
  rw [Nat.add_assoc]
  refine h (3 + j) u ?_
  rw [← hj]
  show ((kcells x.k ++ vcells x.v) ++ [Value.int .i64 x.d])[3 + j]? = _
  rw [List.getElem?_append_left (by show 3 + j < 17; omega), List.getElem?_append_right (by show 3 ≤ 3 + j; omega)]
  congr 1
  show 3 + j - 3 = j
  omega
/-- The gathered items lie there, and nobody else's slice does. -/
structure Gi (W : World) (bo : Nat) (v : Value) (I : List It) : Prop where
  row : ∃ b, W.ownsRow b TI 18 v I.length (icells I)
  ne : ∀ k, v.ownBlock = some k → k ≠ bo ∧ ownB W bo ≠ some k
theorem Gi.keep {W W' : World} {bo : Nat} {v : Value} {I : List It} (g : Gi W bo v I) (k : KpO bo W W') : Gi W' bo v I := by
  obtain ⟨b, hr⟩ := g.row
  refine ⟨⟨b, hr.1, ?_⟩, fun j hj => ⟨(g.ne j hj).1, fun e => ?_⟩⟩
  · rcases hr.2 with hn | ⟨q, cap, cur, e, h1, h2, rest⟩
    · exact .inl hn
    · have hq : v.ownBlock = some q := by rw [e]; rfl
      exact .inr ⟨q, cap, cur, e, h1, k.same q _ _ _ h2 (g.ne q hq).1 (g.ne q hq).2, rest⟩
  · have hlt := (hr.lt j hj).2
    rcases k.own with e1 | ⟨q, e1, hq⟩
    · rw [e1] at e; exact (g.ne j hj).2 e
    · rw [e1] at e; injection e with e; omega
theorem Gi.at {W : World} {bo : Nat} {v : Value} {I : List It} (g : Gi W bo v I) (j : Nat) (hj : j < I.length) : ∃ b c, v = .slice (some ⟨b, 0, none⟩) I.length c ∧ W.rangeAt b (j * 18) I[j].cells := by
  obtain ⟨bb, hr⟩ := g.row
  rcases hr.2 with ⟨_, h0⟩ | ⟨q, cap, cur, e, h1, h2, h3, h4, h5, h6⟩
  · omega
  · refine ⟨q, cap, e, ?_⟩
    have hrow : RowAt W q 0 I := fun s u hs => by
      have := hr.cells (g := q) (by rw [e]; rfl) s u hs
      have hadd : (⟨q, 0, none⟩ : Addr).add s = ⟨q, s, none⟩ := by unfold Addr.add; split <;> simp_all
      rw [hadd] at this
      rwa [Nat.zero_add]
    have := hrow.range j hj
    rwa [Nat.zero_add] at this
section
variable {p : Option Addr} {L : List Pr}
set_option maxRecDepth 100000 in
set_option maxHeartbeats 4000000 in
theorem rng1_in (n : Nat) (hn : 1 ≤ n) (lp bt bs bo : Nat) (s : Sp) (J Jx : List Pr → World → Prop) (W : World) (hJ : AbidesFrom W.heap.size J)
    (hY : ∀ pre x W1, J pre W1 → x ∈ L → pre.length < L.length → YieldAt Fence.wide (n - 1) Try.prog lp (encP x) W1 fun e W' => (e = .returned (.bool true) ∧ J (pre ++ [x]) W' ∧ KpO bo W1 W') ∨ (e = .returned (.bool false) ∧ Jx (pre ++ [x]) W'))
    (HG : Calls Try.prog 73 #[.pointer p, s.val] W fun e w' => ∃ v I, e = .returned v ∧ w'.ownsRow W.heap.size TI 18 v I.length (icells I) ∧ I.map toP = L ∧ Below W.heap.size W w') (hl : L.length ≤ 100000) (ct : W.cell? ⟨bt, 0, none⟩ = some (.pointer p)) (sb : SBox W bs s) (hbo : bo < W.heap.size) (hown : ∀ k, ownB W bo = some k → k < W.heap.size) (h0 : J [] W) :
    CallsIn Fence.wide n Try.prog 72 #[.func (.yield lp) #[] #[], .pointer (some ⟨bt, 0, none⟩), .pointer (some ⟨bs, 0, none⟩)] W fun e W' => (∃ v, e = .returned v) ∧ ((∃ xs, xs = L ∧ J xs W') ∨ (∃ pre, pre <+: L ∧ Jx pre W')) := by
  have HGA : Hid (Calls Try.prog 73 #[.pointer p, s.val] W fun e w' => ∃ v I, e = .returned v ∧ w'.ownsRow W.heap.size TI 18 v I.length (icells I) ∧ I.map toP = L ∧ Below W.heap.size W w') := HG
  obtain ⟨s0, s1, s2, s3, s4, s5, s6, s7, s8, s9, s10⟩ := sb
  clear HG
  refine callsIn_of_wp Try.func72 rfl trivial ?_ rfl
  simp only [Try.ntmps72, List.size_toArray, List.length_cons, List.length_nil, Nat.reduceAdd, Nat.reduceSub, Array.replicate_succ, Array.replicate_zero, List.push_toArray, List.append_toArray, List.nil_append, List.cons_append]
  gi_wp2_with fail
  refine ⟨trivial, (callsIn_wide.2 HGA.out).mono ?_⟩
  rintro e w1 ⟨v, I, rfl, hv1, hv2, hb⟩
  clear s0 s1 s2 s3 s4 s5 s6 s7 s8 s9 s10 ct HGA
  have HJ1 : J [] w1 := hJ _ _ _ none h0 (grown_below hb) fun r e => by cases e
  have HGi : Gi w1 bo v I := by
    refine ⟨⟨_, hv1⟩, fun k hk => ?_⟩
    have h1 := (hv1.lt k hk).1
    have h2 : ownB w1 bo = ownB W bo := by unfold ownB; rw [hb.cell (p := ⟨bo, 0, none⟩) hbo]
    exact ⟨by omega, fun e => by have := hown k (by rw [← h2]; exact e); omega⟩
  obtain ⟨va, vc, ev⟩ := owns_slice hv1
  subst ev
  have hIl : I.length = L.length := by rw [← hv2, List.length_map]
  have HIl : Hid (I.length = L.length) := hIl
  have hI5 : I.length ≤ 100000 := by omega
  clear hv1 hIl
  gi_wp2_with fail
  gi_loopw [10] (fun i wr => ∃ k : Nat, k ≤ I.length ∧ i = .int .i64 k ∧ J ((I.take k).map toP) wr ∧ Gi wr bo (.slice va I.length vc) I ∧ W.heap.size ≤ wr.heap.size) (fun i _ => I.length - (intOf i).toNat)
  case atStart => exact ⟨0, Nat.zero_le _, rfl, HJ1, HGi, hb.size⟩
  case round =>
    obtain ⟨k, hk, rfl, hJs, hGi, hsz⟩ := hrel
    by_cases hlt : k < I.length
    · obtain ⟨b, c, ev, hat⟩ := hGi.at k hlt
      obtain ⟨rfl, rfl⟩ : va = some ⟨b, 0, none⟩ ∧ vc = c := by injection ev with e1 e2 e3; exact ⟨e1, e3⟩
      have hkl : ((I.take k).map toP).length < L.length := by rw [List.length_map, List.length_take, ← HIl.out]; omega
      have hst : (I.take (k + 1)).map toP = (I.take k).map toP ++ [toP I[k]] := by rw [List.take_succ_eq_append_getElem hlt, List.map_append]; rfl
      have k0 : (0 : Int) ≤ (k : Int) := by omega
      have k1 : (k : Int) < (I.length : Int) := by omega
      have k2 : k ≤ 100000 := by omega
      have hmem : toP I[k] ∈ L := by rw [← hv2]; exact List.mem_map.2 ⟨_, List.getElem_mem hlt, rfl⟩
      generalize I[k] = x at *
      have HST : Hid ((I.take (k + 1)).map toP = (I.take k).map toP ++ [toP x]) := hst
      have HP : Hid ((I.take k).map toP ++ [toP x] <+: L) := by
        rw [← hst, ← hv2]
        exact (List.take_prefix (k + 1) I).map toP
      have HK : Hid (k < I.length ∧ W.heap.size ≤ wr.heap.size) := ⟨hlt, hsz⟩
      have HAT : Hid _ := hat
      have HZ : Hid ((wr.alloc (.cells It.zero.cells.toArray TI)).there wr.heap.size 0 18) := new_there It.zero.cells TI rfl rfl
      have HPC : Hid _ := PC.of x.v
      have HY : Hid (∀ W1, Below wr.heap.size wr W1 → Gi W1 bo (.slice (some ⟨b, 0, none⟩) I.length vc) I ∧ YieldAt Fence.wide (n - 1) Try.prog lp (encP (toP x)) W1 fun e W' => (e = .returned (.bool true) ∧ J ((I.take k).map toP ++ [toP x]) W' ∧ KpO bo W1 W') ∨ (e = .returned (.bool false) ∧ Jx ((I.take k).map toP ++ [toP x]) W')) := fun W1 hb1 =>
        ⟨hGi.keep (KpO.below hb1 (by omega)), hY _ (toP x) W1 (hJ _ _ _ none hJs (grown_below hb1) fun r e => by cases e) hmem hkl⟩
      clear hmem hJs hGi hst hlt hsz ev HJ1 HGi h0 hb hat hkl
      gi_wp2_with (first | (refine stepIn_iload rfl _ rfl b (k * 18) rfl x HAT.out ?_) | (refine stepIn_istore rfl _ _ rfl wr.heap.size 0 x rfl rfl HZ.out ?_; intro wx hrx hsx; have HSX : Hid (Below wr.heap.size wr wx) := (alloc1 _ _).trans (hsx.below (by simp) fun k hk e => by omega); obtain ⟨hG2, fn, tmps, assign, body, hy, hR⟩ := HY.out wx HSX.out; have HGA2 : Hid (Gi wx bo (.slice (some ⟨b, 0, none⟩) I.length vc) I ∧ wr.heap.size ≤ wx.heap.size) := ⟨hG2, HSX.out.size⟩; have HRV : Hid (wx.rangeAt wr.heap.size (0 + 3) (vcells x.v)) := range_valR hrx; obtain ⟨c0, c1, c2⟩ := range_key hrx; dsimp only [encP, toP] at hy; clear hrx hsx HZ HAT HY hG2 HSX) | (refine stepIn_pload rfl _ rfl wr.heap.size 3 rfl (vcells x.v) HRV.out HPC.out ?_) | fail)
      refine hR.mono ?_
      rintro e W3 (⟨rfl, hJ3, hk3⟩ | ⟨rfl, hJx3⟩)
      · have HR3 : Hid (J ((I.take k).map toP ++ [toP x]) W3 ∧ Gi W3 bo (.slice (some ⟨b, 0, none⟩) I.length vc) I ∧ W.heap.size ≤ W3.heap.size) := ⟨hJ3, HGA2.out.1.keep hk3, by have := hk3.size; have := HK.out.2; have := HGA2.out.2; omega⟩
        clear hJ3 hk3 hR hy c0 c1 c2
        gi_wp2_with fail
        go_roundw
        case rel => exact ⟨k + 1, HK.out.1, by go_num, by rw [HST.out]; exact HR3.out.1, HR3.out.2.1, HR3.out.2.2⟩
        case measure => have := HK.out.1; simp [intOf]; omega
      · have HJx : Hid (Jx ((I.take k).map toP ++ [toP x]) W3) := hJx3
        clear hJx3 hR hy c0 c1 c2
        gi_wp2_with fail
        refine bodyPost_ret (results_none rfl _ _ _) rfl ?_
        exact ⟨⟨_, rfl⟩, .inr ⟨_, HP.out, HJx.out⟩⟩
    · obtain rfl : k = I.length := by omega
      rw [List.take_length, hv2] at hJs
      gi_wp2
      go_end0
      exact ⟨⟨_, rfl⟩, .inl ⟨_, rfl, hJs⟩⟩
/-- What Range hands back: each pair within the span, in order; or the first ones of them, where no more is wanted. -/
theorem rng_stops (n : Nat) (hn : 1 ≤ n) (bt bs bo : Nat) (s : Sp) (w : World) (HG : ∀ W, Below w.heap.size w W → Calls Try.prog 73 #[.pointer p, s.val] W fun e w' => ∃ v I, e = .returned v ∧ w'.ownsRow W.heap.size TI 18 v I.length (icells I) ∧ I.map toP = L ∧ Below W.heap.size W w') (hl : L.length ≤ 100000) (ct : w.cell? ⟨bt, 0, none⟩ = some (.pointer p)) (sb : SBox w bs s) (hbo : bo < w.heap.size) (hown : ∀ k, ownB w bo = some k → k < w.heap.size) :
    SeqStopsK Fence.wide n Try.prog 72 #[.pointer (some ⟨bt, 0, none⟩), .pointer (some ⟨bs, 0, none⟩)] encP (KpO bo) (fun xs => xs = L) (fun pre => pre <+: L) L.length w := fun lp J Jx W hW hJ _ hY h0 => by
  have h1 : ownB W bo = ownB w bo := by unfold ownB; rw [hW.cell (p := ⟨bo, 0, none⟩) hbo]
  exact rng1_in n hn lp bt bs bo s J Jx W hJ (fun pre x W1 hj _ hlen => hY pre x W1 hj hlen) (HG W hW) hl (by rw [hW.cell (p := ⟨bt, 0, none⟩) (World.block_lt_of_cell? w _ ct)]; exact ct) (sb.below hW) (by have := hW.size; omega) (fun k hk => by have := hown k (by rw [← h1]; exact hk); have := hW.size; omega) h0
/-- The same, each told to be one of them. -/
theorem rng_stops_in (n : Nat) (hn : 1 ≤ n) (bt bs bo : Nat) (s : Sp) (w : World) (HG : ∀ W, Below w.heap.size w W → Calls Try.prog 73 #[.pointer p, s.val] W fun e w' => ∃ v I, e = .returned v ∧ w'.ownsRow W.heap.size TI 18 v I.length (icells I) ∧ I.map toP = L ∧ Below W.heap.size W w') (hl : L.length ≤ 100000) (ct : w.cell? ⟨bt, 0, none⟩ = some (.pointer p)) (sb : SBox w bs s) (hbo : bo < w.heap.size) (hown : ∀ k, ownB w bo = some k → k < w.heap.size) :
    SeqStopsK (α := { x : Pr // x ∈ L }) Fence.wide n Try.prog 72 #[.pointer (some ⟨bt, 0, none⟩), .pointer (some ⟨bs, 0, none⟩)] (fun x => encP x.1) (KpO bo) (fun xs => xs.map Subtype.val = L) (fun pre => pre.map Subtype.val <+: L) L.length w := fun lp J Jx W hW hJ _ hY h0 => by
  have h1 : ownB W bo = ownB w bo := by unfold ownB; rw [hW.cell (p := ⟨bo, 0, none⟩) hbo]
  refine (rng1_in n hn lp bt bs bo s (fun pre X => ∃ q : List { x : Pr // x ∈ L }, q.map Subtype.val = pre ∧ J q X) (fun pre X => ∃ q : List { x : Pr // x ∈ L }, q.map Subtype.val = pre ∧ Jx q X) W
    (fun pre X X' row hs hg hr => by obtain ⟨q, e, hj⟩ := hs; exact ⟨q, e, hJ q X X' row hj hg hr⟩) ?_ (HG W hW) hl (by rw [hW.cell (p := ⟨bt, 0, none⟩) (World.block_lt_of_cell? w _ ct)]; exact ct) (sb.below hW) (by have := hW.size; omega) (fun k hk => by have := hown k (by rw [← h1]; exact hk); have := hW.size; omega) ⟨[], rfl, h0⟩).mono ?_
  · rintro pre x W1 ⟨q, rfl, hj⟩ hx hlen
    obtain ⟨fn, tmps, assign, body, hy, hR⟩ := hY q ⟨x, hx⟩ W1 hj (by simpa using hlen)
    refine ⟨fn, tmps, assign, body, hy, hR.mono ?_⟩
    rintro e W' (⟨he, hj', hk⟩ | ⟨he, hj'⟩)
    · exact .inl ⟨he, ⟨_, by rw [List.map_append]; rfl, hj'⟩, hk⟩
    · exact .inr ⟨he, _, by rw [List.map_append]; rfl, hj'⟩
  · rintro e W' ⟨hv, (⟨xs, rfl, q, hq, hj⟩ | ⟨pre, hp, q, hq, hj⟩)⟩
    · exact ⟨hv, .inl ⟨q, hq, hj⟩⟩
    · exact ⟨hv, .inr ⟨q, by show List.map Subtype.val q <+: L; rw [hq]; exact hp, hj⟩⟩
end
end Go.Proofs.Ytafkpfhhmmnpeaa.Val

