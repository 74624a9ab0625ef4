/- What a store's Scan hands back: the rows of a table within a span, one behind the other, in new memory. -/
import Derived.Test.YtafkpfhhmmnpeaaUA
import Derived.Test.YtafkpfhhmmnpeaaU21
import Derived.Test.YtafkpfhhmmnpeaaU18
import Derived.Maps.AppendAt
namespace Go.Proofs.Ytafkpfhhmmnpeaa.Val
open Go Go.RowKit Go.Shelf
attribute [local go_sem] Oper.semAt_some
set_option maxRecDepth 100000

theorem room_wide {F : Fence} (hd : F.depth = none) (k : Nat) : F.room k := fun d h => by rw [hd] at h; cases h
theorem yield_any {F : Fence} (hd : F.depth = none) {m : Nat} (m' : Nat) {P : Program} {l : Nat} {args : Array Value} {W : World} {R : Ending → World → Prop} (h : YieldAt F m P l args W R) : YieldAt F m' P l args W R := by
  obtain ⟨fn, tmps, assign, body, hy, hR⟩ := h
  exact ⟨fn, tmps, assign, body, hy, hR.1, fun c cs _ => hR.2 c cs (room_wide hd _)⟩
theorem yield_round {F : Fence} (l0 : Nat) {m : Nat} {P : Program} {l : Nat} {args : Array Value} {W : World} {R : Ending → World → Prop} (h : YieldAt F m P l args W R) : YieldAt (F.inRound l0) m P l args W R := h
theorem keeps_below {B : Nat} {W W' : World} (h : Below W.heap.size W W') : KeepsFrom B W W' := ⟨h.size, fun k _ _ hk _ => (h.block k (Array.getElem?_eq_some_iff.1 hk).1).trans hk⟩
/-- The rows that stand at some pairs. -/
def rowsOf (L : List Pr) : List (List Val) := (L.filter fun x => hasR x.v).map fun x => rowP x.v
theorem rowsOf_more (L : List Pr) (x : Pr) : rowsOf (L ++ [x]) = rowsOf L ++ (if hasR x.v then [rowP x.v] else []) := by
  unfold rowsOf
  rw [List.filter_append, List.map_append]
  cases h : hasR x.v <;> simp [h]
theorem rowsOf_len (L : List Pr) : (rowsOf L).length ≤ L.length := by unfold rowsOf; rw [List.length_map]; exact List.length_filter_le _ _
abbrev stobj (po : Option Addr) : Obj := .cells #[.pointer po] 25 (0, 0)
abbrev intobj (n : Int) : Obj := .cells #[.int .i64 n] 3 (0, 0)
abbrev treeobj (p : Option Addr) : Obj := .cells #[.pointer p] 70 (0, 0)
set_option maxHeartbeats 1000000 in
theorem scan_any (po : Option Addr) (n : Int) (s : Sp) (w : World) : Calls Try.prog 43 #[.pointer po, .int .i64 n, s.val] w fun e w' => e = .returned (FV 57 #[] #[.pointer (some ⟨w.heap.size, 0, none⟩), .pointer (some ⟨w.heap.size + 1, 0, none⟩), .pointer (some ⟨w.heap.size + 2, 0, none⟩)]) ∧ w' = ((w.alloc (stobj po)).alloc (intobj n)).alloc (sobj s 36) := by
  unfold Sp.val
  go_enter Try.func43, Try.ntmps43
  go_wp2_with fail
  go_ret
  exact ⟨rfl, rfl⟩
set_option maxHeartbeats 1000000 in
theorem rngp_any (p : Option Addr) (s : Sp) (w : World) : Calls Try.prog 58 #[.pointer p, s.val] w fun e w' => e = .returned (FV 72 #[] #[.pointer (some ⟨w.heap.size, 0, none⟩), .pointer (some ⟨w.heap.size + 1, 0, none⟩)]) ∧ w' = (w.alloc (treeobj p)).alloc (sobj s 36) := by
  unfold Sp.val
  go_enter Try.func58, Try.ntmps58
  go_wp2_with fail
  go_ret
  exact ⟨rfl, rfl⟩
end Go.Proofs.Ytafkpfhhmmnpeaa.Val
/- What a store's Scan hands back: the rows of a table within a span, one behind the other, in new memory: its walk. -/
namespace Go.Proofs.Ytafkpfhhmmnpeaa.Val
open Go Go.RowKit Go.Shelf
attribute [local go_sem] Oper.semAt_some
set_option maxRecDepth 100000
theorem sbox_range {w : World} {b : Nat} {s : Sp} (h : SBox w b s) : w.rangeAt b 0 [.bool s.no, .bool s.hl, .bool s.ol, .bool s.lo.t, .int .i64 s.lo.n, .string s.lo.s, .bool s.hh, .bool s.oh, .bool s.hi.t, .int .i64 s.hi.n, .string s.hi.s] := fun j u hj => by
  obtain ⟨c0, c1, c2, c3, c4, c5, c6, c7, c8, c9, c10⟩ := h
  have hj2 : j < 11 := (List.getElem?_eq_some_iff.1 hj).1
  rw [Nat.zero_add]
  match j, hj2, hj with
  | 0, _, hj => rw [c0, ← hj]; rfl
  | 1, _, hj => rw [c1, ← hj]; rfl
  | 2, _, hj => rw [c2, ← hj]; rfl
  | 3, _, hj => rw [c3, ← hj]; rfl
  | 4, _, hj => rw [c4, ← hj]; rfl
  | 5, _, hj => rw [c5, ← hj]; rfl
  | 6, _, hj => rw [c6, ← hj]; rfl
  | 7, _, hj => rw [c7, ← hj]; rfl
  | 8, _, hj => rw [c8, ← hj]; rfl
  | 9, _, hj => rw [c9, ← hj]; rfl
  | 10, _, hj => rw [c10, ← hj]; rfl
theorem isize_Sp : (Try.prog.info? 36).map (·.size) = some 11 := by kernel_rfl
/-- What the iterator keeps of its own while the rows go by: the box of what it was handed. -/
structure Sc (X : World) (N bo lp : Nat) : Prop where
  box : X.heap[N]? = some (.cells #[.func (.yield lp) #[] #[]] 110 (0, 0))
  ne : N ≠ bo ∧ ownB X bo ≠ some N
theorem Sc.keep {X X' : World} {N bo lp : Nat} (h : Sc X N bo lp) (k : KpO bo X X') : Sc X' N bo lp := by
  refine ⟨k.same N _ _ _ h.box h.ne.1 h.ne.2, h.ne.1, fun e => ?_⟩
  have hl := (Array.getElem?_eq_some_iff.1 h.box).1
  rcases k.own with e1 | ⟨q, e1, hq⟩
  · rw [e1] at e; exact h.ne.2 e
  · rw [e1] at e; injection e with e; omega
theorem Sc.cell {X : World} {N bo lp : Nat} (h : Sc X N bo lp) : X.cell? ⟨N, 0, none⟩ = some (.func (.yield lp) #[] #[]) := by
  simp [World.cell?, h.box]
/-- An ending without panic. -/
def npS (Q : Exit → Act → World → Prop) : Exit → Act → World → Prop
  | .panic _, _, _ => False
  | e, a, w => Q e a w
theorem np_wp {P : Program} {c : Code} {Q : Exit → Act → World → Prop} {a : Act} {w : World} (h : c.wp P (npS Q) a w) : c.wp P Q a w := Code.wp_mono (fun e a w h => by cases e <;> first | exact h | exact h.elim) h
theorem act_genS {F : Fence} {n : Nat} {P : Program} {c : Code} {Q : Exit → Act → World → Prop} {a : Act} {w : World} (h : ∀ a0, a0 = a → c.wpIn F n P Q a0 w) : c.wpIn F n P Q a w := h a rfl
theorem Sc.grown {X X' : World} {N bo lp B : Nat} {row : Option Nat} (h : Sc X N bo lp) (hg : X.grownBy X' row) (hr : ∀ r, row = some r → B ≤ r) (hN : N < B) (hb : bo < B) (hl : bo < X.heap.size) : Sc X' N bo lp := by
  refine ⟨(hg.block N (Array.getElem?_eq_some_iff.1 h.box).1 fun e => by have := hr N e.symm; omega).trans h.box, h.ne.1, fun e => h.ne.2 ?_⟩
  rw [← e]
  unfold ownB
  rw [World.cell?_of_block (w := X) (w' := X') (a := ⟨bo, 0, none⟩) (hg.block bo hl fun e => by have := hr bo e.symm; omega)]
theorem any_loadI {F : Fence} {n : Nat} {P : Program} {ops : Array Oper} {o : Oper} {a : Act} {w : World} {K : Act → World → Prop} {Q : Exit → Act → World → Prop} {E : Prop} (hw : Region.wanted o (yielded ops a.tmps) = true) (ty : TypeId) (x : Operand) (ho : o.op = .load ty x) (b off : Nat) (hx : a.eval x = .pointer (some ⟨b, off, none⟩)) (cs : List Value) (d : TypeDesc) (hc : w.rangeAt b off cs) (hu : P.underlying ty = some d) (hd : d.isRow = true) (hi : (P.info? ty).map (·.size) = some cs.length) (h : K (a.put o.dst (.agg cs.toArray)) w) : if Region.wanted o (yielded ops a.tmps) = true then Oper.wpIn F n P o a w K Q else E := by
  rw [if_pos hw]
  unfold Oper.wpIn
  refine ⟨by simp [Oper.about, ho], ?_⟩
  rw [Oper.semAt_plain F _ _ (by rw [ho]; intro c hc'; cases hc')]
  unfold execOp
  simp only [ho, hx, Instr.loadAt, Instr.sureAddr, Sem.run_bind, Sem.run_pure, Result.andThen_ok, run_loadVar_mid w b off ty cs d hc hu hd hi]
  exact h
section
variable {tp : Option Addr} {L : List Pr} {po : Option Addr} {n : Int} {fv : Value}
set_option maxHeartbeats 8000000 in
theorem scan1_in (lp bs bt bsp bo B : Nat) (s : Sp) (J : List Im → World → Prop) (W : World) (hJ : OwnFrom W.heap.size J)
    (hY : ∀ pre x W1, J pre W1 → OwnRow W1 B TVa x.v x.r → pre.length < L.length → YieldAt Fence.wide 3 Try.prog lp #[x.v] W1 fun e W' => e = .returned (.bool true) ∧ J (pre ++ [x]) W' ∧ KpO bo W1 W' ∧ KeepsFrom W.heap.size W1 W')
    (HAT : ∀ W', Below W.heap.size W W' → Calls Try.prog 37 #[.pointer po, .int .i64 n] W' fun e w' => e = atAns fv tp ∧ Below W'.heap.size W' w')
    (HG : ∀ W', Below W.heap.size W W' → Calls Try.prog 73 #[.pointer tp, s.val] W' fun e w' => ∃ v I, e = .returned v ∧ w'.ownsRow W'.heap.size TI 18 v I.length (icells I) ∧ I.map toP = L ∧ Below W'.heap.size W' w')
    (hl : L.length ≤ 100000) (hwd : ∀ x ∈ L, hasR x.v = true → 0 ≤ x.v.w ∧ x.v.w ≤ 4) (c0 : W.cell? ⟨bs, 0, none⟩ = some (.pointer po)) (c1 : W.cell? ⟨bt, 0, none⟩ = some (.int .i64 n)) (sb : SBox W bsp s) (hB : B ≤ W.heap.size)
    (hbo : bo < W.heap.size) (hown : ∀ k, ownB W bo = some k → k < W.heap.size) (h0 : J [] W) :
    CallsIn Fence.wide 4 Try.prog 57 #[.func (.yield lp) #[] #[], .pointer (some ⟨bs, 0, none⟩), .pointer (some ⟨bt, 0, none⟩), .pointer (some ⟨bsp, 0, none⟩)] W fun e W' => (∃ v, e = .returned v) ∧ ∃ xs : List Im, xs.map Im.r = rowsOf L ∧ J xs W' := by
  have HAT : Hid _ := HAT
  have HGG : Hid _ := HG
  have HR : Hid (∀ w1, Calls Try.prog 58 #[.pointer tp, s.val] w1 fun e w' => e = .returned (FV 72 #[] #[.pointer (some ⟨w1.heap.size, 0, none⟩), .pointer (some ⟨w1.heap.size + 1, 0, none⟩)]) ∧ w' = (w1.alloc (treeobj tp)).alloc (sobj s 36)) := fun w1 => rngp_any _ s w1
  have hfld := fun w1 => field_tab fv tp w1
  have HD : Hid (∀ X, Below W.heap.size W X → X.cell? ⟨bs, 0, none⟩ = some (.pointer po) ∧ X.cell? ⟨bt, 0, none⟩ = some (.int .i64 n) ∧ X.rangeAt bsp 0 [.bool s.no, .bool s.hl, .bool s.ol, .bool s.lo.t, .int .i64 s.lo.n, .string s.lo.s, .bool s.hh, .bool s.oh, .bool s.hi.t, .int .i64 s.hi.n, .string s.hi.s]) := fun X hX => ⟨cell_below c0 hX, cell_below c1 hX, sbox_range (sb.below hX)⟩
  have HBX : Hid (Below W.heap.size W (W.alloc (.cells #[.func (.yield lp) #[] #[]] 110 (0, 0))).drew) := (alloc1 W _).drew
  clear HG c0 c1 sb
  unfold Sp.val at HR
  refine callsIn_of_wp_marks Try.func57 rfl trivial ?_ rfl
  simp only [Try.ntmps57, List.size_toArray, List.length_cons, List.length_nil, Nat.reduceAdd, Nat.reduceSub, Array.replicate_succ, Array.replicate_zero, List.push_toArray, List.append_toArray, List.nil_append, List.cons_append]
  refine wpIn_wide.2 ?_
  go_wp2_with fail
  refine np_wp ?_
  refine wp_region_held_drew (S := fun w' => w'.cell? ⟨bs, 0, none⟩ = some (.pointer po) ∧ w'.cell? ⟨bt, 0, none⟩ = some (.int .i64 n) ∧ w'.rangeAt bsp 0 [.bool s.no, .bool s.hl, .bool s.ol, .bool s.lo.t, .int .i64 s.lo.n, .string s.lo.s, .bool s.hh, .bool s.oh, .bool s.hi.t, .int .i64 s.hi.n, .string s.hi.s]) (by kernel_rfl) ?_ (fun hHeld => ?_)
  · exact HD.out _ HBX.out
  (try clear hK K)
  refine wpAnyH_take (i := 0) (v := ?_) rfl (by kernel_rfl) (by kernel_rfl) (by kernel_rfl) (fun _ _ _ h => h) (Or.inl ⟨by rfl, ?_⟩) (by assumption) ?_
  rotate_left
  · intro w hSw; (try dsimp only at hSw); go_simp; (try with_reducible rfl)
  (try simp only [Act.put, List.getElem_toArray, List.getElem_cons_zero, List.setIfInBounds_toArray, List.set_cons_zero, List.set_cons_succ])
  refine wpAnyH_take (i := 1) (v := ?_) rfl (by kernel_rfl) (by kernel_rfl) (by kernel_rfl) (fun _ _ _ h => h) (Or.inl ⟨by rfl, ?_⟩) (by assumption) ?_
  rotate_left
  · intro w hSw; (try dsimp only at hSw); go_simp; (try with_reducible rfl)
  (try simp only [Act.put, List.getElem_toArray, List.getElem_cons_succ, List.getElem_cons_zero, List.setIfInBounds_toArray, List.set_cons_zero, List.set_cons_succ])
  (try clear hK K)
  refine wpAnyH_take (i := 4) (v := s.val) rfl (by kernel_rfl) (by kernel_rfl) (by kernel_rfl) (fun _ _ _ h => h) (yieldsIf_load_mid (by rfl) 36 _ rfl bsp 0 rfl [.bool s.no, .bool s.hl, .bool s.ol, .bool s.lo.t, .int .i64 s.lo.n, .string s.lo.s, .bool s.hh, .bool s.oh, .bool s.hi.t, .int .i64 s.hi.n, .string s.hi.s] _ (fun _ h => h.2.2) Try.underlying36 rfl isize_Sp) (by assumption) ?_
  (try simp only [Act.put, List.getElem_toArray, List.getElem_cons_succ, List.getElem_cons_zero, List.setIfInBounds_toArray, List.set_cons_zero, List.set_cons_succ])
  (try clear hK K)
  refine wpAnyH_ready (rs := [2]) (by kernel_rfl) (by simp) ?_
  refine AllReadyH.cons rfl (fun K hK => ?_) AllReadyH.nil
  go_simp
  (refine Calls.mono (HAT.out _ HBX.out) ?_; rintro e w1 ⟨rfl, hb⟩)
  refine hK.out _ _ ?_ (fun hHeld => ?_)
  · exact HD.out _ (on HBX.out hb)
  have HB1 : Hid (Below W.heap.size W w1) := on HBX.out hb
  (try clear hK K)
  refine wpAnyH_take (i := 3) (v := ?_) rfl (by kernel_rfl) (by kernel_rfl) (by kernel_rfl) (fun _ _ _ h => h) (Or.inl ⟨by rfl, ?_⟩) (by assumption) ?_
  rotate_left
  · intro w hSw; (try dsimp only at hSw); go_simp; (try with_reducible rfl)
  (try simp only [Act.put, List.getElem_toArray, List.getElem_cons_succ, List.getElem_cons_zero, List.setIfInBounds_toArray, List.set_cons_zero, List.set_cons_succ])
  unfold Sp.val
  (try clear hK K)
  refine wpAnyH_ready (rs := [5]) (by kernel_rfl) (by simp) ?_
  refine AllReadyH.cons rfl (fun K hK => ?_) AllReadyH.nil
  go_simp
  (refine Calls.mono (HR.out _) ?_; rintro e w2 ⟨rfl, rfl⟩)
  refine hK.out _ _ ?_ (fun hHeld => ?_)
  · exact HD.out _ (on HB1.out (back2 (Below.refl _ _)))
  (try clear hK K)
  refine wpAnyH_done (by kernel_rfl) ?_ _
  simp only [npS]
  have HB2 : Hid (Below W.heap.size W ((w1.alloc (treeobj tp)).alloc (sobj s 36)) ∧ Below (W.heap.size + 1) (W.alloc (.cells #[.func (.yield lp) #[] #[]] 110 (0, 0))) ((w1.alloc (treeobj tp)).alloc (sobj s 36))) := by
    refine ⟨on HB1.out (back2 (Below.refl _ _)), ?_⟩
    have h1 : Below (W.heap.size + 1) (W.alloc (.cells #[.func (.yield lp) #[] #[]] 110 (0, 0))) w1 := ((Below.refl _ _).drew).trans (hb.mono (show W.heap.size + 1 ≤ (W.alloc (.cells #[.func (.yield lp) #[] #[]] 110 (0, 0))).heap.size by simp))
    exact h1.trans ((back2 (Below.refl _ _)).mono (by have := h1.size; simpa using this))
  go_wp2_with fail
  refine (wpIn_wide (n := 4)).1 ?_
  have ct : ((w1.alloc (treeobj tp)).alloc (sobj s 36)).cell? ⟨w1.heap.size, 0, none⟩ = some (.pointer tp) := by simp [go_sem]
  have sb2 : SBox ((w1.alloc (treeobj tp)).alloc (sobj s 36)) (w1.heap.size + 1) s := by constructor <;> simp [go_sem]
  have sz : ((w1.alloc (treeobj tp)).alloc (sobj s 36)).heap.size = w1.heap.size + 2 := by simp
  generalize ((w1.alloc (treeobj tp)).alloc (sobj s 36)) = w2 at *
  have hsz2 : W.heap.size + 1 ≤ w2.heap.size := by have := HB2.out.2.size; simpa using this
  have ob2 : ownB w2 bo = ownB W bo := by unfold ownB; rw [HB2.out.1.cell (p := ⟨bo, 0, none⟩) hbo]
  have sc2 : Sc w2 W.heap.size bo lp := ⟨by rw [HB2.out.2.block _ (Nat.lt_succ_self _)]; exact World.alloc_heap_new W _, by omega, fun e => by rw [ob2] at e; have := hown _ e; omega⟩
  have hseq := rng_stops_in (L := L) 3 (by omega) w1.heap.size (w1.heap.size + 1) bo s w2 (fun X hX => HGG.out X (on HB2.out.1 hX)) hl ct sb2 (by omega) (fun k hk => by rw [ob2] at hk; have := hown k hk; omega)
  have hJ2 : ∀ xs X X', J xs X → Below X.heap.size X X' → J xs X' := fun xs X X' hj hb => hJ xs X X' none hj (grown_below hb) fun r e => by cases e
  have HOJ : Hid (OwnFrom W.heap.size J) := hJ
  have HJ2 : Hid (∀ xs X X', J xs X → Below X.heap.size X X' → J xs X') := hJ2
  have HYY : Hid (∀ pre x W1, J pre W1 → OwnRow W1 B TVa x.v x.r → pre.length < L.length → YieldAt Fence.wide 3 Try.prog lp #[x.v] W1 fun e W' => e = .returned (.bool true) ∧ J (pre ++ [x]) W' ∧ KpO bo W1 W' ∧ KeepsFrom W.heap.size W1 W') := hY
  have HJ0 : J [] w2 := hJ2 _ _ _ h0 HB2.out.1
  clear ct sb2 hJ hJ2 hY h0 HD HBX HAT HGG HR hfld HB1 hb hHeld
  refine act_genS ?_
  intro a0 ha0
  refine wpIn_rangeFunc_ownH rfl (by omega) (gf := 72) (lb := #[.pointer (some ⟨w1.heap.size, 0, none⟩), .pointer (some ⟨w1.heap.size + 1, 0, none⟩)]) (by rw [ha0]; rfl) trivial (enters_of Try.func72 rfl rfl)
    hseq (fun a b => KpO.trans a b) (KpO.put (by omega)) (Below.refl _ _) (fun _ => rfl)
    (fun pre X => (∃ xs : List Im, xs.map Im.r = rowsOf (pre.map Subtype.val) ∧ J xs X) ∧ Sc X W.heap.size bo lp ∧ W.heap.size < X.heap.size)
    (fun _ _ _ => False)
    (fun pre X X' row hs hg hr => by
      obtain ⟨⟨xs, e, hj⟩, sc, hz⟩ := hs
      exact ⟨⟨xs, e, HOJ.out xs X X' row hj hg fun r e => ⟨by have := (hr r e).1; omega, (hr r e).2⟩⟩, sc.grown hg (fun r e => (hr r e).1) (by omega) (by omega) (by omega), Nat.lt_of_lt_of_le hz hg.size⟩)
    (fun _ _ _ _ _ hs _ _ => hs)
    ⟨⟨[], rfl, HJ0⟩, sc2, by omega⟩
    (fun x a' X => ∃ Bx, X.rangeAt Bx 0 (vcells x.1.v) ∧ a' = { tmps := ((a0.tmps.setIfInBounds 13 (V x.1.k.t x.1.k.n x.1.k.s)).setIfInBounds 14 (.agg (vcells x.1.v).toArray)).setIfInBounds 6 (.pointer (some ⟨Bx, 0, none⟩)), defers := [] })
    (fun x a' _ X X' row hs hg hr => by
      obtain ⟨Bx, h, e⟩ := hs
      exact ⟨Bx, fun j u hj => cell_kept (h j u hj) hg fun r e => (hr r e).2, e⟩)
    ?assign ?body ?done ?stop
  case assign =>
    rintro lq pre ⟨x, hxm⟩ X K ⟨⟨xs, hx1, hj⟩, sc, hz⟩ hK
    have HZ : Hid ((X.alloc (.cells (vcells Pl.zero).toArray 74)).there X.heap.size 0 14) := new_there (vcells Pl.zero) 74 rfl rfl
    have HPC : Hid _ := PC.of x.v
    have hbo3 : bo < X.heap.size := by omega
    subst ha0
    gi_wp2_with (first | (refine stepIn_pstore rfl _ _ rfl X.heap.size 0 (vcells x.v) rfl rfl HZ.out HPC.out ?_; intro wx hrx hsx) | fail)
    have hbx : Below X.heap.size X wx := (alloc1 _ _).trans (hsx.below (by simp) fun k hk e => by omega)
    refine hK _ _ (keeps_below hbx) (KpO.below hbx hbo3) ⟨⟨xs, hx1, HJ2.out _ _ _ hj hbx⟩, sc.keep (KpO.below hbx hbo3), Nat.lt_of_lt_of_le hz hbx.size⟩ ⟨X.heap.size, hrx, by simp only [List.setIfInBounds_toArray, List.set_cons_succ, List.set_cons_zero]⟩
  case body =>
    rintro lq pre ⟨x, hxm⟩ a' X hl' ⟨r, hr⟩ ⟨⟨xs, hx1, hj⟩, sc, hz⟩ ⟨Bx, hrg, rfl⟩ hlt
    subst ha0
    simp only [List.setIfInBounds_toArray, List.set_cons_succ, List.set_cons_zero]
    have HPC : Hid _ := PC.of x.v
    have HRG : Hid (∀ X', Below X.heap.size X X' → X'.rangeAt Bx 0 (vcells x.v)) := fun X' hb j u hj => by
      rw [hb.cell (p := ⟨Bx, 0 + j, none⟩) (World.block_lt_of_cell? _ _ (hrg j u hj))]; exact hrg j u hj
    have HSC : Hid (∀ X', Below X.heap.size X X' → Sc X' W.heap.size bo lp) := fun X' hb => sc.keep (KpO.below hb (by omega))
    have HWD : Hid (hasR x.v = true → 0 ≤ x.v.w ∧ x.v.w ≤ 4) := hwd x hxm
    have HNB : Hid (B ≤ X.heap.size) := by show _ ≤ _; omega
    have HMORE : Hid (rowsOf ((pre ++ [(⟨x, hxm⟩ : { x : Pr // x ∈ L })]).map Subtype.val) = rowsOf (pre.map Subtype.val) ++ (if hasR x.v then [rowP x.v] else [])) := by rw [List.map_append]; exact rowsOf_more _ x
    have hxl : xs.length < L.length := by
      have h1 := congrArg List.length hx1
      rw [List.length_map] at h1
      have := rowsOf_len (pre.map Subtype.val)
      rw [List.length_map] at this
      omega
    have HYR : Hid (∀ v' X2, Below X.heap.size X X2 → OwnRow X2 B TVa v' (rowP x.v) → YieldAt (Fence.wide.inRound lq) 1 Try.prog lp #[v'] X2 fun e W' => e = .returned (.bool true) ∧ J (xs ++ [⟨v', rowP x.v⟩]) W' ∧ KpO bo X2 W' ∧ KeepsFrom W.heap.size X2 W') := fun v' X2 hb ho => yield_any rfl 1 (yield_round lq (HYY.out xs ⟨v', rowP x.v⟩ X2 (HJ2.out _ _ _ hj hb) ho hxl))
    have HNO : Hid (∀ X1, Below X.heap.size X X1 → rowsOf ((pre ++ [(⟨x, hxm⟩ : { x : Pr // x ∈ L })]).map Subtype.val) = rowsOf (pre.map Subtype.val) ++ [] → KeepsFrom w2.heap.size X X1 ∧ KpO bo X X1 ∧ (∃ xs : List Im, xs.map Im.r = rowsOf ((pre ++ [(⟨x, hxm⟩ : { x : Pr // x ∈ L })]).map Subtype.val) ∧ J xs X1) ∧ Sc X1 W.heap.size bo lp ∧ W.heap.size < X1.heap.size) := fun X1 hb he =>
      ⟨keeps_below hb, KpO.below hb (by omega), ⟨xs, by rw [he, List.append_nil]; exact hx1, HJ2.out _ _ _ hj hb⟩, HSC.out _ hb, Nat.lt_of_lt_of_le hz hb.size⟩
    have HYES : Hid (∀ v' X2 X3, Below X.heap.size X X2 → J (xs ++ [⟨v', rowP x.v⟩]) X3 → KpO bo X2 X3 → KeepsFrom W.heap.size X2 X3 → rowsOf ((pre ++ [(⟨x, hxm⟩ : { x : Pr // x ∈ L })]).map Subtype.val) = rowsOf (pre.map Subtype.val) ++ [rowP x.v] → KeepsFrom w2.heap.size X X3 ∧ KpO bo X X3 ∧ (∃ xs : List Im, xs.map Im.r = rowsOf ((pre ++ [(⟨x, hxm⟩ : { x : Pr // x ∈ L })]).map Subtype.val) ∧ J xs X3) ∧ Sc X3 W.heap.size bo lp ∧ W.heap.size < X3.heap.size) := fun v' X2 X3 hb hj3 hk3 hf3 he =>
      ⟨(keeps_below hb).trans ⟨hf3.size, fun k o hk => hf3.same k o (by omega)⟩, (KpO.below hb (by omega)).trans hk3, ⟨_, by rw [he, List.map_append, hx1]; rfl, hj3⟩, (HSC.out _ hb).keep hk3, Nat.lt_of_lt_of_le hz (Nat.le_trans hb.size hk3.size)⟩
    clear hrg sc hxl hj hx1 hz HJ2 HYY HOJ hwd hseq HB2 sc2 HJ0 ob2
    gi_wp2_with fail
    refine wpIn_region_any (by kernel_rfl) ?_
    refine wpAnyIn_ready (rs := [0]) (by kernel_rfl) (by simp) ?_
    refine AllReadyIn.cons rfl (fun K hK => ?_) (AllReadyIn.nil)
    refine any_loadI rfl 74 _ rfl Bx 0 rfl (vcells x.v) _ (HRG.out _ (Below.refl _ _).drew) Try.underlying74 rfl (by rw [HPC.out.1]; exact isize_V) ?_
    refine hK _ _ ?_
    clear hK K
    refine wpAnyIn_ready (rs := [1]) (by kernel_rfl) (by simp) ?_
    refine AllReadyIn.cons rfl (fun K hK => ?_) (AllReadyIn.nil)
    go_simp
    refine ⟨trivial, (CallsIn.inRound lq (callsIn_wide.2 (hasRow_any x.v X.drew))).mono ?_⟩
    rintro e X1 ⟨rfl, hb⟩
    have HB1 : Hid (Below X.heap.size X X1) := on (Below.refl _ _).drew hb
    clear hb
    obtain ⟨q, hq⟩ : ∃ q, hasR x.v = q := ⟨_, rfl⟩
    rw [hq] at HMORE HWD ⊢
    clear hq
    refine hK _ _ ?_
    clear hK K
    refine wpAnyIn_ready (rs := [2]) (by kernel_rfl) (by simp) ?_
    refine AllReadyIn.cons rfl (fun K hK => ?_) AllReadyIn.nil
    go_simp
    refine hK _ _ ?_
    clear hK K
    cases q
    · refine wpAnyIn_ready (rs := [3, 4]) (by kernel_rfl) (by simp) ?_
      refine AllReadyIn.cons rfl (fun K hK => ?_) (AllReadyIn.cons rfl (fun K hK => ?_) (AllReadyIn.nil))
      · go_simp
        refine hK _ _ ?_
        clear hK K
        refine wpAnyIn_ready (rs := [4]) (by kernel_rfl) (by simp) ?_
        refine AllReadyIn.cons rfl (fun K hK => ?_) (AllReadyIn.nil)
        go_simp
        refine hK _ _ ?_
        clear hK K
        refine wpAnyIn_ready (rs := [5]) (by kernel_rfl) (by simp) ?_
        refine AllReadyIn.cons rfl (fun K hK => ?_) (AllReadyIn.nil)
        go_simp
        refine ⟨trivial, hK _ _ ?_⟩
        clear hK K
        refine wpAnyIn_ready (rs := [6]) (by kernel_rfl) (by simp) ?_
        refine AllReadyIn.cons rfl (fun K hK => ?_) (AllReadyIn.nil)
        go_simp
        refine ⟨fun _ _ => trivial, hK _ _ ?_⟩
        clear hK K
        refine wpAnyIn_ready (rs := [7]) (by kernel_rfl) (by simp) ?_
        refine AllReadyIn.cons rfl (fun K hK => ?_) (AllReadyIn.nil)
        go_simp
        refine hK _ _ ?_
        clear hK K
        refine wpAnyIn_ready (rs := [8]) (by kernel_rfl) (by simp) ?_
        refine AllReadyIn.cons rfl (fun K hK => ?_) (AllReadyIn.nil)
        go_simp
        refine hK _ _ ?_
        clear hK K
        refine wpAnyIn_done (by kernel_rfl) ?_ _
        have HZ : Hid _ := HNO.out X1 HB1.out HMORE.out
        clear HNO HYES HYR HB1 HRG HSC HWD
        gi_wp2_with fail
        exact HZ.out
      · go_simp
        refine hK _ _ ?_
        clear hK K
        refine wpAnyIn_ready (rs := [3, 5]) (by kernel_rfl) (by simp) ?_
        refine AllReadyIn.cons rfl (fun K hK => ?_) (AllReadyIn.cons rfl (fun K hK => ?_) (AllReadyIn.nil))
        · go_simp
          refine hK _ _ ?_
          clear hK K
          refine wpAnyIn_ready (rs := [5]) (by kernel_rfl) (by simp) ?_
          refine AllReadyIn.cons rfl (fun K hK => ?_) (AllReadyIn.nil)
          go_simp
          refine ⟨trivial, hK _ _ ?_⟩
          clear hK K
          refine wpAnyIn_ready (rs := [6]) (by kernel_rfl) (by simp) ?_
          refine AllReadyIn.cons rfl (fun K hK => ?_) (AllReadyIn.nil)
          go_simp
          refine ⟨fun _ _ => trivial, hK _ _ ?_⟩
          clear hK K
          refine wpAnyIn_ready (rs := [7]) (by kernel_rfl) (by simp) ?_
          refine AllReadyIn.cons rfl (fun K hK => ?_) (AllReadyIn.nil)
          go_simp
          refine hK _ _ ?_
          clear hK K
          refine wpAnyIn_ready (rs := [8]) (by kernel_rfl) (by simp) ?_
          refine AllReadyIn.cons rfl (fun K hK => ?_) (AllReadyIn.nil)
          go_simp
          refine hK _ _ ?_
          clear hK K
          refine wpAnyIn_done (by kernel_rfl) ?_ _
          have HZ : Hid _ := HNO.out X1 HB1.out HMORE.out
          clear HNO HYES HYR HB1 HRG HSC HWD
          gi_wp2_with fail
          exact HZ.out
        · go_simp
          refine ⟨trivial, hK _ _ ?_⟩
          clear hK K
          refine wpAnyIn_ready (rs := [3]) (by kernel_rfl) (by simp) ?_
          refine AllReadyIn.cons rfl (fun K hK => ?_) (AllReadyIn.nil)
          go_simp
          refine hK _ _ ?_
          clear hK K
          refine wpAnyIn_ready (rs := [6]) (by kernel_rfl) (by simp) ?_
          refine AllReadyIn.cons rfl (fun K hK => ?_) (AllReadyIn.nil)
          go_simp
          refine ⟨fun _ _ => trivial, hK _ _ ?_⟩
          clear hK K
          refine wpAnyIn_ready (rs := [7]) (by kernel_rfl) (by simp) ?_
          refine AllReadyIn.cons rfl (fun K hK => ?_) (AllReadyIn.nil)
          go_simp
          refine hK _ _ ?_
          clear hK K
          refine wpAnyIn_ready (rs := [8]) (by kernel_rfl) (by simp) ?_
          refine AllReadyIn.cons rfl (fun K hK => ?_) (AllReadyIn.nil)
          go_simp
          refine hK _ _ ?_
          clear hK K
          refine wpAnyIn_done (by kernel_rfl) ?_ _
          have HZ : Hid _ := HNO.out X1 HB1.out HMORE.out
          clear HNO HYES HYR HB1 HRG HSC HWD
          gi_wp2_with fail
          exact HZ.out
    · have hw := HWD.out rfl
      refine wpAnyIn_ready (rs := [3, 4]) (by kernel_rfl) (by simp) ?_
      refine AllReadyIn.cons rfl (fun K hK => ?_) (AllReadyIn.cons rfl (fun K hK => ?_) (AllReadyIn.nil))
      · have c4 : X1.cell? ⟨W.heap.size, 0, none⟩ = some (.func (.yield lp) #[] #[]) := (HSC.out _ HB1.out).cell
        go_simp
        refine hK _ _ ?_
        clear c4
        clear hK K
        refine wpAnyIn_ready (rs := [4]) (by kernel_rfl) (by simp) ?_
        refine AllReadyIn.cons rfl (fun K hK => ?_) (AllReadyIn.nil)
        refine any_loadI rfl 74 _ rfl Bx 0 rfl (vcells x.v) _ (HRG.out _ HB1.out) Try.underlying74 rfl (by rw [HPC.out.1]; exact isize_V) ?_
        refine hK _ _ ?_
        clear hK K
        refine wpAnyIn_ready (rs := [5]) (by kernel_rfl) (by simp) ?_
        refine AllReadyIn.cons rfl (fun K hK => ?_) (AllReadyIn.nil)
        go_simp
        refine ⟨trivial, (CallsIn.inRound lq (callsIn_wide.2 (prow_any x.v X1 hw.1 hw.2))).mono ?_⟩
        rintro e X2 ⟨v', rfl, hown, hb⟩
        have HB2r : Hid (Below X.heap.size X X2) := on HB1.out hb
        have HOW : Hid (OwnRow X2 B TVa v' (rowP x.v)) := hown.mono (by have := HB1.out.size; have := HNB.out; omega)
        clear hown hb
        refine hK _ _ ?_
        clear hK K
        refine wpAnyIn_ready (rs := [6]) (by kernel_rfl) (by simp) ?_
        refine AllReadyIn.cons rfl (fun K hK => ?_) (AllReadyIn.nil)
        obtain ⟨fn, tmps, assign, body, hy, hR⟩ := HYR.out v' X2 HB2r.out HOW.out
        go_simp
        refine hR.mono ?_
        rintro e X3 ⟨rfl, hj3, hk3, hf3⟩
        have H3 : Hid (J (xs ++ [⟨v', rowP x.v⟩]) X3 ∧ KpO bo X2 X3 ∧ KeepsFrom W.heap.size X2 X3) := ⟨hj3, hk3, hf3⟩
        clear hj3 hk3 hf3 hy hR
        refine hK _ _ ?_
        clear hK K
        refine wpAnyIn_ready (rs := [7]) (by kernel_rfl) (by simp) ?_
        refine AllReadyIn.cons rfl (fun K hK => ?_) (AllReadyIn.nil)
        go_simp
        refine hK _ _ ?_
        clear hK K
        refine wpAnyIn_ready (rs := [8]) (by kernel_rfl) (by simp) ?_
        refine AllReadyIn.cons rfl (fun K hK => ?_) (AllReadyIn.nil)
        go_simp
        refine hK _ _ ?_
        clear hK K
        refine wpAnyIn_done (by kernel_rfl) ?_ _
        have HZ : Hid _ := HYES.out v' X2 X3 HB2r.out H3.out.1 H3.out.2.1 H3.out.2.2 HMORE.out
        clear HYES HYR HOW H3 HB1 HB2r HRG HSC HWD
        gi_wp2_with fail
        rw [← sz]
        exact HZ.out
      · refine any_loadI rfl 74 _ rfl Bx 0 rfl (vcells x.v) _ (HRG.out _ HB1.out) Try.underlying74 rfl (by rw [HPC.out.1]; exact isize_V) ?_
        refine hK _ _ ?_
        clear hK K
        refine wpAnyIn_ready (rs := [3, 5]) (by kernel_rfl) (by simp) ?_
        refine AllReadyIn.cons rfl (fun K hK => ?_) (AllReadyIn.cons rfl (fun K hK => ?_) (AllReadyIn.nil))
        · have c4 : X1.cell? ⟨W.heap.size, 0, none⟩ = some (.func (.yield lp) #[] #[]) := (HSC.out _ HB1.out).cell
          go_simp
          refine hK _ _ ?_
          clear c4
          clear hK K
          refine wpAnyIn_ready (rs := [5]) (by kernel_rfl) (by simp) ?_
          refine AllReadyIn.cons rfl (fun K hK => ?_) (AllReadyIn.nil)
          go_simp
          refine ⟨trivial, (CallsIn.inRound lq (callsIn_wide.2 (prow_any x.v X1 hw.1 hw.2))).mono ?_⟩
          rintro e X2 ⟨v', rfl, hown, hb⟩
          have HB2r : Hid (Below X.heap.size X X2) := on HB1.out hb
          have HOW : Hid (OwnRow X2 B TVa v' (rowP x.v)) := hown.mono (by have := HB1.out.size; have := HNB.out; omega)
          clear hown hb
          refine hK _ _ ?_
          clear hK K
          refine wpAnyIn_ready (rs := [6]) (by kernel_rfl) (by simp) ?_
          refine AllReadyIn.cons rfl (fun K hK => ?_) (AllReadyIn.nil)
          obtain ⟨fn, tmps, assign, body, hy, hR⟩ := HYR.out v' X2 HB2r.out HOW.out
          go_simp
          refine hR.mono ?_
          rintro e X3 ⟨rfl, hj3, hk3, hf3⟩
          have H3 : Hid (J (xs ++ [⟨v', rowP x.v⟩]) X3 ∧ KpO bo X2 X3 ∧ KeepsFrom W.heap.size X2 X3) := ⟨hj3, hk3, hf3⟩
          clear hj3 hk3 hf3 hy hR
          refine hK _ _ ?_
          clear hK K
          refine wpAnyIn_ready (rs := [7]) (by kernel_rfl) (by simp) ?_
          refine AllReadyIn.cons rfl (fun K hK => ?_) (AllReadyIn.nil)
          go_simp
          refine hK _ _ ?_
          clear hK K
          refine wpAnyIn_ready (rs := [8]) (by kernel_rfl) (by simp) ?_
          refine AllReadyIn.cons rfl (fun K hK => ?_) (AllReadyIn.nil)
          go_simp
          refine hK _ _ ?_
          clear hK K
          refine wpAnyIn_done (by kernel_rfl) ?_ _
          have HZ : Hid _ := HYES.out v' X2 X3 HB2r.out H3.out.1 H3.out.2.1 H3.out.2.2 HMORE.out
          clear HYES HYR HOW H3 HB1 HB2r HRG HSC HWD
          gi_wp2_with fail
          rw [← sz]
          exact HZ.out
        · go_simp
          refine ⟨trivial, (CallsIn.inRound lq (callsIn_wide.2 (prow_any x.v X1 hw.1 hw.2))).mono ?_⟩
          rintro e X2 ⟨v', rfl, hown, hb⟩
          have HB2r : Hid (Below X.heap.size X X2) := on HB1.out hb
          have HOW : Hid (OwnRow X2 B TVa v' (rowP x.v)) := hown.mono (by have := HB1.out.size; have := HNB.out; omega)
          clear hown hb
          refine hK _ _ ?_
          clear hK K
          refine wpAnyIn_ready (rs := [3]) (by kernel_rfl) (by simp) ?_
          refine AllReadyIn.cons rfl (fun K hK => ?_) (AllReadyIn.nil)
          have c4 : X2.cell? ⟨W.heap.size, 0, none⟩ = some (.func (.yield lp) #[] #[]) := (HSC.out _ HB2r.out).cell
          go_simp
          refine hK _ _ ?_
          clear c4
          clear hK K
          refine wpAnyIn_ready (rs := [6]) (by kernel_rfl) (by simp) ?_
          refine AllReadyIn.cons rfl (fun K hK => ?_) (AllReadyIn.nil)
          obtain ⟨fn, tmps, assign, body, hy, hR⟩ := HYR.out v' X2 HB2r.out HOW.out
          go_simp
          refine hR.mono ?_
          rintro e X3 ⟨rfl, hj3, hk3, hf3⟩
          have H3 : Hid (J (xs ++ [⟨v', rowP x.v⟩]) X3 ∧ KpO bo X2 X3 ∧ KeepsFrom W.heap.size X2 X3) := ⟨hj3, hk3, hf3⟩
          clear hj3 hk3 hf3 hy hR
          refine hK _ _ ?_
          clear hK K
          refine wpAnyIn_ready (rs := [7]) (by kernel_rfl) (by simp) ?_
          refine AllReadyIn.cons rfl (fun K hK => ?_) (AllReadyIn.nil)
          go_simp
          refine hK _ _ ?_
          clear hK K
          refine wpAnyIn_ready (rs := [8]) (by kernel_rfl) (by simp) ?_
          refine AllReadyIn.cons rfl (fun K hK => ?_) (AllReadyIn.nil)
          go_simp
          refine hK _ _ ?_
          clear hK K
          refine wpAnyIn_done (by kernel_rfl) ?_ _
          have HZ : Hid _ := HYES.out v' X2 X3 HB2r.out H3.out.1 H3.out.2.1 H3.out.2.2 HMORE.out
          clear HYES HYR HOW H3 HB1 HB2r HRG HSC HWD
          gi_wp2_with fail
          rw [← sz]
          exact HZ.out
  case done =>
    rintro D ys X hD hys ⟨⟨xs, hx1, hj⟩, sc, hz⟩ hK
    rw [hys] at hx1
    subst ha0
    gi_wp2_with fail
    refine ⟨by simp, .inl ⟨_, _, rfl, run_takeDeferred hK, ?_⟩⟩
    exact ⟨_, results_none rfl _ _ _, ⟨_, rfl⟩, xs, hx1, HOJ.out.putObj _ hj (by omega) hK rfl⟩
  case stop =>
    rintro D c pre X _ _ h _
    exact h.elim
/-- What Scan hands back, as a contract whose rounds are told of the row's memory. -/
theorem scan_cond (bs bt bsp bo B : Nat) (s : Sp) (w : World)
    (HAT : ∀ W', Below w.heap.size w W' → Calls Try.prog 37 #[.pointer po, .int .i64 n] W' fun e w' => e = atAns fv tp ∧ Below W'.heap.size W' w')
    (HG : ∀ W', Below w.heap.size w W' → Calls Try.prog 73 #[.pointer tp, s.val] W' fun e w' => ∃ v I, e = .returned v ∧ w'.ownsRow W'.heap.size TI 18 v I.length (icells I) ∧ I.map toP = L ∧ Below W'.heap.size W' w')
    (hl : L.length ≤ 100000) (hwd : ∀ x ∈ L, hasR x.v = true → 0 ≤ x.v.w ∧ x.v.w ≤ 4) (c0 : w.cell? ⟨bs, 0, none⟩ = some (.pointer po)) (c1 : w.cell? ⟨bt, 0, none⟩ = some (.int .i64 n)) (sb : SBox w bsp s) (hB : B ≤ w.heap.size)
    (hbo : bo < w.heap.size) (hown : ∀ k, ownB w bo = some k → k < w.heap.size) :
    SeqCond Fence.wide 4 Try.prog 57 #[.pointer (some ⟨bs, 0, none⟩), .pointer (some ⟨bt, 0, none⟩), .pointer (some ⟨bsp, 0, none⟩)] Im.v (fun i X => OwnRow X B TVa i.v i.r) (KpO bo) (fun xs => xs.map Im.r = rowsOf L) L.length w := fun lp J W hW hJ hY h0 => by
  have h1 : ownB W bo = ownB w bo := by unfold ownB; rw [hW.cell (p := ⟨bo, 0, none⟩) hbo]
  exact scan1_in lp bs bt bsp bo B s J W hJ hY (fun W' h => HAT W' (on hW h)) (fun W' h => HG W' (on hW h)) hl hwd (cell_below c0 hW) (cell_below c1 hW) (sb.below hW) (Nat.le_trans hB hW.size) (Nat.lt_of_lt_of_le hbo hW.size) (fun k hk => by have := hown k (by rw [← h1]; exact hk); have := hW.size; omega) h0
end
end Go.Proofs.Ytafkpfhhmmnpeaa.Val
/- What the law's rows answers: what a store tells of a span, in new memory. -/
namespace Go.Proofs.Ytafkpfhhmmnpeaa.Val
open Go Go.RowKit Go.Shelf
attribute [local go_sem] Oper.semAt_some
set_option maxRecDepth 100000

abbrev TRs : TypeId := 46
theorem appendI_own_at {F : Fence} {n : Nat} {P : Program} (w : World) {ops : Array Oper} {rest : List Oper} {o : Oper} {a : Act} {Q : Exit → Act → World → Prop}
    (hg : o.guard = none) (s x : Operand) (t : TypeId) (hop : o.op = Op.call { callee := Callee.builtin Builtin.append, args := #[s, x], argTypes := #[t, t] })
    (base : Nat) (e : TypeId) (i : TypeInfo) (z : Value) (size bytes : Nat) (h1 : P.underlying t = some (.slice e)) (h2 : P.info? e = some i) (h3 : i.zero = some z) (h4 : i.size = size) (h5 : i.bytes = bytes) (h6 : z.cells.size = size) (h7 : 0 < size)
    (v : Value) (k : Nat) (xs : List Value) (hs : a.eval s = v) (hown : w.ownsRow base e size v k xs) (ad : Addr) (m c : Nat) (news : List Value) (hx : a.eval x = .slice (some ad) m c) (hn : news.length = m * size)
    (hc : ∀ j u, news[j]? = some u → w.cell? (ad.add j) = some u) (h1c : ∀ u ∈ news, u.oneCell' = true) (b1 : k + m ≤ maxLen) (b2 : (k + m) * bytes ≤ 140737488355328) (b3 : base ≤ w.heap.size)
    (hK : ∀ v' w', w'.ownsRow base e size v' (k + m) (xs ++ news) → w.grownBy w' v.ownBlock → (v'.ownBlock = v.ownBlock ∨ v'.ownBlock = some w.heap.size) → wpListIn F n P ops Q rest (a.put o.dst v') w') :
    wpListIn F n P ops Q (o :: rest) a w := by
  refine wpListIn_plain hg fun K hK' => ?_
  obtain ⟨v', w', hrun, r1, r2, _, r3⟩ := run_append_own_at (P := P) w base t o.type e i z size bytes h1 h2 h3 h4 h5 h6 h7 v k xs hown ad m c news hn hc h1c b1 b2 b3
  unfold Oper.wpIn
  refine ⟨?_, ?_⟩
  · simp [Oper.about, hop, resolve, Target.leads, Sem.run_pure]
  · rw [Oper.semAt_plain F _ _ (by rw [hop]; intro c hc'; cases hc')]
    simp [execOp, hop, resolve, invoke, builtin, hs, hx, hrun, Result.andThen]
    exact hK' _ _ (hK v' w' r1 r2 r3)
theorem kpO_appended {W w1 : World} {bo : Nat} {t : TypeId} {v v' : Value} {tmp : Obj} (hv : Boxed W bo t v) (hg : (W.alloc tmp).grownBy w1 v.ownBlock) (hv2 : Boxed (w1.setCell ⟨bo, 0, none⟩ v') bo t v') (hat : v'.ownBlock = v.ownBlock ∨ v'.ownBlock = some (W.alloc tmp).heap.size) : KpO bo W (w1.setCell ⟨bo, 0, none⟩ v') := by
  have o1 : ownB W bo = v.ownBlock := by unfold ownB; rw [hv.cell]; rfl
  have o2 : ownB (w1.setCell ⟨bo, 0, none⟩ v') bo = v'.ownBlock := by unfold ownB; rw [hv2.cell]; rfl
  have hs := hg.size
  refine ⟨by simp at *; omega, fun k c t f hk hne ho => ?_, ?_⟩
  · have hl := (Array.getElem?_eq_some_iff.1 hk).1
    rw [heap_setCell_other w1 ⟨bo, 0, none⟩ k v' hne, hg.block k (by simp; omega) (fun e => ho (by rw [o1, ← e])), (alloc1 W tmp).block k hl]
    exact hk
  · rw [o1, o2]
    rcases hat with e | e
    · exact .inl e
    · exact .inr ⟨_, e, by simp⟩
theorem own_block {w : World} {B s n : Nat} {T : TypeId} {v : Value} {xs : List Value} (h : w.ownsRow B T s v n xs) (g : Nat) (hg : v.ownBlock = some g) : ∃ cur, w.heap[g]? = some (.cells cur T (0, 0)) := by
  rcases h.2 with ⟨rfl, _⟩ | ⟨k, cap, cur, rfl, _, hk, _⟩
  · cases hg
  · have e1 : k = g := by simpa [Value.ownBlock] using hg
    subst e1
    exact ⟨cur, hk⟩
/-- A row stays where what is no cells is turned. -/
theorem own_kept {w w' : World} {B : Nat} {T : TypeId} {v : Value} {xs : List Val} {row : Option Nat} (h : OwnRow w B T v xs) (hg : w.grownBy w' row) (hr : ∀ r, row = some r → ∃ o : Obj, w.heap[r]? = some o ∧ o.isCells = false) : OwnRow w' B T v xs := by
  refine ims_sv (X := fun k => row = some k) h ⟨hg.os, hg.tape, hg.output, hg.size, fun b hb hx => hg.block b hb fun e => hx e.symm⟩ fun g hgb e => ?_
  obtain ⟨cur, hc⟩ := own_block h g hgb
  obtain ⟨o, ho, hn⟩ := hr g e
  rw [hc] at ho
  cases ho
  cases hn
theorem rows_own (B B' : Nat) : OwnFrom B' (fun (pre : List Im) W => ∀ i ∈ pre, OwnRow W B TVa i.v i.r) := fun _ _ _ _ hs hg hr i hi => own_kept (hs i hi) hg fun r e => (hr r e).2
/-- Rows stay where a slice of rows grows and is stored into its box. -/
theorem rows_appended {W w1 : World} {bo B : Nat} {v v' : Value} {m : List Im} {tmp : Obj} (hv : Boxed W bo TRs v) (hrow : W.ownsRow B TRo 1 v m.length (m.map Im.v)) (hg : (W.alloc tmp).grownBy w1 v.ownBlock) {i : Im} (hi : OwnRow W B TVa i.v i.r) : OwnRow (w1.setCell ⟨bo, 0, none⟩ v') B TVa i.v i.r := by
  have h1 : OwnRow (W.alloc tmp) B TVa i.v i.r := hi.below (alloc1 _ _)
  have hrow1 : (W.alloc tmp).ownsRow B TRo 1 v m.length (m.map Im.v) := ims_sv (X := Nothing) hrow (Sv.of (alloc1 _ _)) fun _ _ h => h
  have hsv : Sv (fun b => v.ownBlock = some b) (W.alloc tmp) w1 := ⟨hg.os, hg.tape, hg.output, hg.size, fun b hb hx => hg.block b hb fun e => hx e.symm⟩
  have h2 : OwnRow w1 B TVa i.v i.r := ims_sv h1 hsv fun g hg' => own_types h1 hrow1 (by decide) g hg'
  refine ims_sv h2 (Sv.set (X := (· = bo)) (Sv.refl _ w1) (a := ⟨bo, 0, none⟩) rfl _) fun g hgb e => ?_
  subst e
  obtain ⟨cur, hc⟩ := own_block hi g hgb
  have hb : W.heap[g]? = _ := hv
  rw [hb] at hc
  cases hc
theorem eq_nilR (f : FuncId) (a b : Array Value) (w : World) : (binOp BinOp.eql 92 (FV f a b) Value.nilFunc).run Try.prog w = .ok (.bool false) w := by
  have hd : Op.maxDepth = 9999 + 1 := rfl
  have he : (Op.equal 92 (FV f a b) Value.nilFunc).run Try.prog w = .ok false w := by
    unfold Op.equal
    rw [hd]
    unfold Op.equalIn
    simp [run_underlying Try.underlying92]
  simp [binOp, he, go_sem]
section
variable {tp : Option Addr} {L : List Pr} {po : Option Addr} {n : Int} {fv : Value}
set_option maxHeartbeats 8000000 in
theorem rows_gen (w : World) (s : Sp)
    (HAT : ∀ W', Below w.heap.size w W' → Calls Try.prog 37 #[.pointer po, .int .i64 n] W' fun e w' => e = atAns fv tp ∧ Below W'.heap.size W' w')
    (HG : ∀ W', Below w.heap.size w W' → Calls Try.prog 73 #[.pointer tp, s.val] W' fun e w' => ∃ v I, e = .returned v ∧ w'.ownsRow W'.heap.size TI 18 v I.length (icells I) ∧ I.map toP = L ∧ Below W'.heap.size W' w')
    (hl : L.length ≤ 100000) (hwd : ∀ x ∈ L, hasR x.v = true → 0 ≤ x.v.w ∧ x.v.w ≤ 4) :
    Calls Try.prog 18 #[.pointer po, .int .i64 n, s.val] w fun e w' => ∃ v m, e = .returned v ∧ OwnIms w' w.heap.size v m ∧ m.map Im.r = rowsOf L ∧ Below w.heap.size w w' := by
  have HR : Hid (∀ w1, Calls Try.prog 43 #[.pointer po, .int .i64 n, s.val] w1 fun e w' => e = .returned (FV 57 #[] #[.pointer (some ⟨w1.heap.size, 0, none⟩), .pointer (some ⟨w1.heap.size + 1, 0, none⟩), .pointer (some ⟨w1.heap.size + 2, 0, none⟩)]) ∧ w' = ((w1.alloc (stobj po)).alloc (intobj n)).alloc (sobj s 36)) := fun w1 => scan_any _ _ s w1
  have hef := eq_nilR 57
  refine (callsIn_wide (n := 5)).1 ?_
  unfold Sp.val
  refine callsIn_of_wp_marks Try.func18 rfl trivial ?_ rfl
  simp only [Try.ntmps18, List.size_toArray, List.length_cons, List.length_nil, Nat.reduceAdd, Nat.reduceSub, Array.replicate_succ, Array.replicate_zero, List.push_toArray, List.append_toArray, List.nil_append, List.cons_append]
  gi_wp2_with fail
  refine ⟨trivial, (callsIn_wide.2 (HR.out _)).mono ?_⟩
  rintro e w1 ⟨rfl, rfl⟩
  gi_wp2_with fail
  refine ⟨trivial, (callsIn_wide.2 (HR.out _)).mono ?_⟩
  rintro e w1 ⟨rfl, rfl⟩
  gi_wp2_with fail
  have B0 : Below w.heap.size w ((((((((w.alloc (sobj s 36)).alloc (.cells #[.slice none 0 0] TRs (0, 0))).alloc (stobj po)).alloc (intobj n)).alloc (sobj s 36)).alloc (stobj po)).alloc (intobj n)).alloc (sobj s 36)) := by
    repeat (first | exact Below.refl _ _ | refine Below.alloc ?_ (by simp <;> omega) _)
  have c0 : ((((((((w.alloc (sobj s 36)).alloc (.cells #[.slice none 0 0] TRs (0, 0))).alloc (stobj po)).alloc (intobj n)).alloc (sobj s 36)).alloc (stobj po)).alloc (intobj n)).alloc (sobj s 36)).cell? ⟨w.heap.size + 1 + 1 + 1 + 1 + 1, 0, none⟩ = some (.pointer po) := by simp [go_sem]
  have c1 : ((((((((w.alloc (sobj s 36)).alloc (.cells #[.slice none 0 0] TRs (0, 0))).alloc (stobj po)).alloc (intobj n)).alloc (sobj s 36)).alloc (stobj po)).alloc (intobj n)).alloc (sobj s 36)).cell? ⟨w.heap.size + 1 + 1 + 1 + 1 + 1 + 1, 0, none⟩ = some (.int .i64 n) := by simp [go_sem]
  have sb : SBox ((((((((w.alloc (sobj s 36)).alloc (.cells #[.slice none 0 0] TRs (0, 0))).alloc (stobj po)).alloc (intobj n)).alloc (sobj s 36)).alloc (stobj po)).alloc (intobj n)).alloc (sobj s 36)) (w.heap.size + 1 + 1 + 1 + 1 + 1 + 2) s := by constructor <;> simp [go_sem]
  have bx : Boxed ((((((((w.alloc (sobj s 36)).alloc (.cells #[.slice none 0 0] TRs (0, 0))).alloc (stobj po)).alloc (intobj n)).alloc (sobj s 36)).alloc (stobj po)).alloc (intobj n)).alloc (sobj s 36)) (w.heap.size + 1) TRs (.slice none 0 0) := by
    have := Boxed.new (w.alloc (sobj s 36)) TRs (.slice none 0 0)
    rw [World.size_alloc] at this
    exact (((((this.alloc _).alloc _).alloc _).alloc _).alloc _).alloc _
  have sz : ((((((((w.alloc (sobj s 36)).alloc (.cells #[.slice none 0 0] TRs (0, 0))).alloc (stobj po)).alloc (intobj n)).alloc (sobj s 36)).alloc (stobj po)).alloc (intobj n)).alloc (sobj s 36)).heap.size = w.heap.size + 8 := by simp
  generalize ((((((((w.alloc (sobj s 36)).alloc (.cells #[.slice none 0 0] TRs (0, 0))).alloc (stobj po)).alloc (intobj n)).alloc (sobj s 36)).alloc (stobj po)).alloc (intobj n)).alloc (sobj s 36)) = W0 at *
  have own0 : ownB W0 (w.heap.size + 1) = none := by unfold ownB; rw [bx.cell]; rfl
  have hseq := scan_cond (w.heap.size + 1 + 1 + 1 + 1 + 1) (w.heap.size + 1 + 1 + 1 + 1 + 1 + 1) (w.heap.size + 1 + 1 + 1 + 1 + 1 + 2) (w.heap.size + 1) w.heap.size s W0 (fun X hX => HAT X (B0.trans (hX.mono B0.size))) (fun X hX => HG X (B0.trans (hX.mono B0.size))) hl hwd c0 c1 sb B0.size (by omega) (fun k hk => by rw [own0] at hk; cases hk)
  obtain ⟨i0, hi1, hi2, hi3, hi4⟩ := info_parts info_R
  have IN : Hid (Try.prog.info? 34 = some i0 ∧ i0.zero = some (.slice none 0 0) ∧ i0.size = 1 ∧ i0.bytes = 24) := ⟨hi1, hi2, hi3, hi4⟩
  clear HG HAT c0 c1 sb HR hef own0 hi1 hi2 hi3 hi4
  refine act_genS ?_
  intro a0 ha0
  refine wpIn_rangeFunc_cond rfl (by omega) (gf := 57) (lb := #[.pointer (some ⟨w.heap.size + 1 + 1 + 1 + 1 + 1, 0, none⟩), .pointer (some ⟨w.heap.size + 1 + 1 + 1 + 1 + 1 + 1, 0, none⟩), .pointer (some ⟨w.heap.size + 1 + 1 + 1 + 1 + 1 + 2, 0, none⟩)]) (by rw [ha0]; rfl) trivial (enters_of Try.func57 rfl rfl)
    hseq (fun a b => KpO.trans a b) (KpO.put (by omega)) (Below.refl _ _) rfl
    (fun pre W => ((∃ v, Boxed W (w.heap.size + 1) TRs v ∧ W.ownsRow w.heap.size TRo 1 v pre.length (pre.map Im.v) ∧ True) ∧ Below w.heap.size w W) ∧ ∀ i ∈ pre, OwnRow W w.heap.size TVa i.v i.r)
    (OwnFrom.and (OwnFrom.and (Own.from (holdsRow_own w.heap.size (w.heap.size + 1) TRs TRo 1 (fun pre : List Im => pre.length) (fun pre => pre.map Im.v) (fun _ _ => True)) _) (ownFrom_below (Nat.le_refl _) (by omega))) (rows_own w.heap.size _))
    (fun x _ _ _ row hs hg hr => own_kept hs hg fun r e => (hr r e).2)
    ⟨⟨⟨_, bx, World.ownsRow_nil _ _ _ _, trivial⟩, B0⟩, by simp⟩
    (fun x => { tmps := (a0.tmps.setIfInBounds 19 x.v).setIfInBounds 8 x.v, defers := [] })
    ?assign ?body ?done
  case assign =>
    intro lp x X K hK
    subst ha0
    gi_wp2_with fail
    simp only [List.setIfInBounds_toArray, List.set_cons_succ, List.set_cons_zero] at hK
    exact hK
  case body =>
    rintro lp pre ⟨xv, xr⟩ X ⟨⟨⟨v, hv, hrow, _⟩, hB⟩, hrs⟩ had hlt
    subst ha0
    obtain ⟨va, vc, ev⟩ := owns_slice hrow
    subst ev
    obtain ⟨ax, cx, ex, _⟩ := had.isIn.slice
    dsimp only at ex
    subst ex
    have hc := hv.cell
    have hpl : pre.length < 100000 := by omega
    simp only [List.setIfInBounds_toArray, List.set_cons_succ, List.set_cons_zero]
    gi_wp2_with (gi_at_builtin; refine appendI_own_at _ rfl _ _ _ rfl w.heap.size TRo i0 _ 1 24 Try.underlying46 IN.out.1 IN.out.2.1 IN.out.2.2.1 IN.out.2.2.2 rfl (by decide) (.slice va pre.length vc) pre.length (pre.map Im.v) rfl (hrow.alloc _) ⟨X.heap.size, 0, none⟩ 1 1 [.slice ax xr.length cx] rfl rfl (cell_one_new _ _ _) (by simp [Value.oneCell']) (by unfold maxLen; omega) (by omega) (by have := hB.size; simp; omega) ?_)
    intro v' w1 hown' hgrow hat
    obtain ⟨g', cap', ev'⟩ := ownsRow_succ hown'
    obtain ⟨hv1, hv2, hr2, hk2, hb2⟩ := hv.appended (by decide) hrow hB.size (by omega) hown' hgrow
    have hkp := kpO_appended hv hgrow hv2 (by simpa using hat)
    have hc1 := hv1.cell
    have hf1 := hv1.frozen
    have HZ : Hid (KeepsFrom W0.heap.size X (w1.setCell ⟨w.heap.size + 1, 0, none⟩ v') ∧ KpO (w.heap.size + 1) X (w1.setCell ⟨w.heap.size + 1, 0, none⟩ v') ∧ ((∃ v, Boxed (w1.setCell ⟨w.heap.size + 1, 0, none⟩ v') (w.heap.size + 1) TRs v ∧ (w1.setCell ⟨w.heap.size + 1, 0, none⟩ v').ownsRow w.heap.size TRo 1 v (pre ++ [(⟨.slice ax xr.length cx, xr⟩ : Im)]).length ((pre ++ [(⟨.slice ax xr.length cx, xr⟩ : Im)]).map Im.v) ∧ True) ∧ Below w.heap.size w (w1.setCell ⟨w.heap.size + 1, 0, none⟩ v')) ∧ ∀ i ∈ pre ++ [(⟨.slice ax xr.length cx, xr⟩ : Im)], OwnRow (w1.setCell ⟨w.heap.size + 1, 0, none⟩ v') w.heap.size TVa i.v i.r) :=
      ⟨hk2.from _, hkp, ⟨⟨v', hv2, by rw [List.length_append, List.map_append]; exact hr2, trivial⟩, hB.trans hb2⟩, fun i hi => rows_appended hv hrow hgrow (by
        rcases List.mem_append.1 hi with h | h
        · exact hrs i h
        · rw [List.mem_singleton] at h; rw [h]; exact had)⟩
    clear hkp hv1 hv2 hr2 hk2 hb2 hown' hgrow hat hv hrow hc hrs had
    subst ev'
    gi_wp2_with fail
    exact HZ.out
  case done =>
    rintro D xs X hD hS ⟨⟨⟨v, hv, hrow, _⟩, hB⟩, hrs⟩ hK
    subst ha0
    obtain ⟨va, vc, ev⟩ := owns_slice hrow
    subst ev
    have hc := hv.cell
    have HZ : Hid (OwnIms X w.heap.size (.slice va xs.length vc) xs ∧ Below w.heap.size w X ∧ X.heap[D]? = some (.deferred (some [])) ∧ w.heap.size ≤ D) := ⟨⟨hrow, hrs⟩, hB, hK, by omega⟩
    clear hrow hB hv hrs
    gi_wp2_with fail
    refine ⟨by simp, .inl ⟨_, _, rfl, run_takeDeferred HZ.out.2.2.1, ?_⟩⟩
    refine ⟨_, results_tmp rfl _ _ _, _, xs, rfl, ⟨ownsRow_putObj HZ.out.1.1 _ HZ.out.2.2.1 rfl, fun i hi => ownsRow_putObj (HZ.out.1.2 i hi) _ HZ.out.2.2.1 rfl⟩, hS, HZ.out.2.1.trans (belowK_b (w := w) (Nat.le_refl _) X D _ _ HZ.out.2.2.2 HZ.out.2.2.1 rfl rfl)⟩
end
end Go.Proofs.Ytafkpfhhmmnpeaa.Val
