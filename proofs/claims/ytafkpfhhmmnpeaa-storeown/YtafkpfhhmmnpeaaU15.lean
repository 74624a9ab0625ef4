/- What row.Clone answers: the same values, in a row of its own. -/
import Derived.Test.YtafkpfhhmmnpeaaUA
import Derived.Test.YtafkpfhhmmnpeaaU1
import Derived.Laws.AppendOwnNone
import Derived.Test.YtafkpfhhmmnpeaaU14
import Derived.Test.YtafkpfhhmmnpeaaU2
namespace Go.Proofs.Ytafkpfhhmmnpeaa.Val
open Go.RowKit

theorem info_V : (Try.prog.info? 32).map (fun i => (i.zero, i.size, i.bytes)) = some (some (V false 0 ⟨#[]⟩), 3, 32) := by kernel_rfl
set_option maxHeartbeats 400000 in
theorem clone_big (vr : Value) (xs : List Val) (w : World) (hr : RowIn w vr xs) (hl : xs.length * 32 ≤ 140737488355328) :
    Calls Try.prog 56 #[vr] w fun e w' => ∃ v', e = .returned v' ∧ OwnRow w' w.heap.size 32 v' xs ∧ Below w.heap.size w w' := by
  obtain ⟨i0, hi, hz0, hz1, hz2⟩ := info_parts info_V
  obtain ⟨ao, c, rfl, h1, h2, h0, h3⟩ := hr
  cases ao with
  | none =>
    obtain ⟨hn, rfl⟩ := h0 rfl
    have hx : xs = [] := List.eq_nil_of_length_eq_zero hn
    subst hx
    go_enter Try.func56, Try.ntmps56
    go_wp2_with (at_builtin; refine wpList_append_own_none rfl _ _ _ rfl w.heap.size 32 i0 3 Try.underlying34 hi _ 0 [] rfl (World.ownsRow_nil w w.heap.size _ 3) rfl ?_)
    go_ret
    exact ⟨_, rfl, OwnRow.nil _ _ _, Below.refl _ _⟩
  | some a =>
    have hcell : ∀ j u, (xs.flatMap Val.cells)[j]? = some u → w.cell? (a.add j) = some u := by
      rcases h3 with h3 | ⟨b, o, e, h3⟩
      · rw [h3]; intro j u hj; simp at hj
      · cases e; intro j u hj; rw [Addr.add_lit]; exact h3 j u hj
    have hlen : (xs.flatMap Val.cells).length = xs.length * 3 := flat_length Val.cells 3 (fun _ => rfl) xs
    have hone := cells_one xs
    clear h3
    go_enter Try.func56, Try.ntmps56
    go_wp2_with (at_builtin; refine wpList_append_own _ rfl _ _ _ rfl w.heap.size 32 i0 _ 3 32 Try.underlying34 hi hz0 hz1 hz2 rfl (by decide) _ 0 [] rfl (World.ownsRow_nil w w.heap.size _ 3) a xs.length c (xs.flatMap Val.cells) rfl hlen hcell hone ?_ ?_ (Nat.le_refl _) ?_)
    · unfold maxLen; omega
    · omega
    · intro v' w' hown hgrow _
      go_wp2
      go_ret
      exact ⟨_, rfl, hown, (Below.refl _ _).grown hgrow (Nat.le_refl _) (fun k hk => by cases hk)⟩
theorem clone_any (vr : Value) (xs : List Val) (w : World) (hr : RowIn w vr xs) (hl : xs.length ≤ 1000) :
    Calls Try.prog 56 #[vr] w fun e w' => ∃ v', e = .returned v' ∧ OwnRow w' w.heap.size 32 v' xs ∧ Below w.heap.size w w' := clone_big vr xs w hr (by omega)
end Go.Proofs.Ytafkpfhhmmnpeaa.Val
/- Places: held against one another, whether they have a row, the row, and a row's place. -/
namespace Go.Proofs.Ytafkpfhhmmnpeaa.Val
open Go Go.RowKit
set_option maxRecDepth 100000

def eqP (p q : Pl) : Bool := eqV p.a q.a && (eqV p.b q.b && (eqV p.c q.c && (eqV p.d q.d && (p.w == q.w && p.m == q.m))))
theorem eqP_iff {p q : Pl} : eqP p q = true ↔ p = q := by
  cases p; cases q
  simp [eqP, eqV_iff]
theorem eqi_V (d : Nat) (x y : Val) (w : World) : (Op.equalIn (d + 3) 32 (.agg #[.bool x.t, .int .i64 x.n, .string x.s]) (.agg #[.bool y.t, .int .i64 y.n, .string y.s])).run Try.prog w = .ok (eqV x y) w := by
  unfold eqV
  cases h : (x.t == y.t) <;> cases h2 : (x.n == y.n) <;> cases h3 : (x.s.toList == y.s.toList) <;> simp_all [go_sem]
theorem eql_P (p q : Pl) (w : World) : (binOp .eql 74 (.agg (vcells p).toArray) (.agg (vcells q).toArray)).run Try.prog w = .ok (.bool (eqP p q)) w := by
  unfold eqP vcells
  simp [go_sem]
  rw [show (9999 : Nat) = 9998 + 1 from rfl, run_equalIn_array w 9998 _ _ Try.underlying72 rfl]
  have hcV : Try.prog.cellsOf 32 = 3 := by kernel_rfl
  simp [Op.eqItems, go_sem, hcV, List.range, List.range.loop]
  unfold eqV
  by_cases h0 : p.a.t = q.a.t
  case neg => simp [h0]
  simp only [h0, if_true, beq_self_eq_true, Bool.true_and]
  by_cases h1 : p.a.n = q.a.n
  case neg => simp [h1]
  simp only [h1, if_true, beq_self_eq_true, Bool.true_and]
  by_cases h2 : p.a.s.toList = q.a.s.toList
  case neg => simp [h2]
  simp only [h2, if_true, beq_self_eq_true, Bool.true_and]
  by_cases h3 : p.b.t = q.b.t
  case neg => simp [h3]
  simp only [h3, if_true, beq_self_eq_true, Bool.true_and]
  by_cases h4 : p.b.n = q.b.n
  case neg => simp [h4]
  simp only [h4, if_true, beq_self_eq_true, Bool.true_and]
  by_cases h5 : p.b.s.toList = q.b.s.toList
  case neg => simp [h5]
  simp only [h5, if_true, beq_self_eq_true, Bool.true_and]
  by_cases h6 : p.c.t = q.c.t
  case neg => simp [h6]
  simp only [h6, if_true, beq_self_eq_true, Bool.true_and]
  by_cases h7 : p.c.n = q.c.n
  case neg => simp [h7]
  simp only [h7, if_true, beq_self_eq_true, Bool.true_and]
  by_cases h8 : p.c.s.toList = q.c.s.toList
  case neg => simp [h8]
  simp only [h8, if_true, beq_self_eq_true, Bool.true_and]
  by_cases h9 : p.d.t = q.d.t
  case neg => simp [h9]
  simp only [h9, if_true, beq_self_eq_true, Bool.true_and]
  by_cases h10 : p.d.n = q.d.n
  case neg => simp [h10]
  simp only [h10, if_true, beq_self_eq_true, Bool.true_and]
  by_cases h11 : p.d.s.toList = q.d.s.toList
  case neg => simp [h11]
  simp only [h11, if_true, beq_self_eq_true, Bool.true_and]
  by_cases h12 : p.w = q.w
  case neg => simp [h12]
  simp only [h12, if_true, beq_self_eq_true, Bool.true_and]
  by_cases h13 : p.m = q.m
  case neg => simp [h13]
  simp only [h13, if_true, beq_self_eq_true]
theorem neq_P (p q : Pl) (w : World) : (binOp .neq 74 (.agg (vcells p).toArray) (.agg (vcells q).toArray)).run Try.prog w = .ok (.bool (!eqP p q)) w := by
  rw [run_neq_struct]
  have := eql_P p q w
  rw [run_eql_struct] at this
  revert this
  generalize (Op.equalIn 10000 74 (.agg (vcells p).toArray) (.agg (vcells q).toArray)).run Try.prog w = r
  intro h
  cases r with
  | ok b w' => simp at h ⊢; exact ⟨by rw [h.1], h.2⟩
  | halt x w' => simp [Result.andThen] at h
end Go.Proofs.Ytafkpfhhmmnpeaa.Val
/- What the store's places answer: whether they have a row, the row; and what a row's place is. -/
namespace Go.Proofs.Ytafkpfhhmmnpeaa.Val
open Go Go.RowKit
set_option maxRecDepth 100000

/-- Has a place a row? -/
def hasR (p : Pl) : Bool := !eqP p Pl.zero
/-- A place's row. -/
def rowP (p : Pl) : List Val := [p.a, p.b, p.c, p.d].take p.w.toNat
/-- The place of a row. -/
def plOf (r : List Val) (n : Int) : Pl := ⟨r.getD 0 Val.zero, r.getD 1 Val.zero, r.getD 2 Val.zero, r.getD 3 Val.zero, r.length, n⟩
theorem has_of {r : List Val} (h : 0 < r.length) (n : Int) : hasR (plOf r n) = true := by
  have : eqP (plOf r n) Pl.zero = false := by
    rw [Bool.eq_false_iff, Ne, eqP_iff]
    intro e
    have h2 : (r.length : Int) = 0 := congrArg Pl.w e
    omega
  rw [hasR, this]; rfl
theorem has_zero : hasR Pl.zero = false := by
  have : eqP Pl.zero Pl.zero = true := eqP_iff.2 rfl
  rw [hasR, this]; rfl
theorem row_of {r : List Val} (h : r.length ≤ 4) (n : Int) : rowP (plOf r n) = r := by
  match r, h with
  | [], _ => rfl
  | [_], _ => rfl
  | [_, _], _ => rfl
  | [_, _, _], _ => rfl
  | [_, _, _, _], _ => rfl
  | _ :: _ :: _ :: _ :: _ :: _, h => simp at h
set_option maxHeartbeats 2000000 in
theorem hasRow_any (p : Pl) (w : World) : Calls Try.prog 39 #[.agg (vcells p).toArray] w fun e w' => e = .returned (.bool (hasR p)) ∧ Below w.heap.size w w' := by
  have hne : ∀ w1, (binOp .neq 74 (.agg (vcells p).toArray) (.agg #[.bool false, .int .i64 0, .string ⟨#[]⟩, .bool false, .int .i64 0, .string ⟨#[]⟩, .bool false, .int .i64 0, .string ⟨#[]⟩, .bool false, .int .i64 0, .string ⟨#[]⟩, .int .i64 0, .int .i64 0])).run Try.prog w1 = .ok (.bool (!eqP p Pl.zero)) w1 := fun w1 => neq_P p Pl.zero w1
  have HP : Hid _ := PC.of p
  have HR : Hid _ := new_range (w := w) (b := w.heap.size) (vcells p) 74 rfl
  unfold hasR
  generalize eqP p Pl.zero = b at *
  generalize vcells p = cs at *
  go_enter Try.func39, Try.ntmps39
  go_wp2_with (first | (refine step_pload rfl _ rfl w.heap.size 0 rfl cs HR.out HP.out ?_) | fail)
  go_ret
  exact ⟨rfl, back1 (Below.refl _ _)⟩
set_option maxHeartbeats 4000000 in
theorem prow_any (p : Pl) (w : World) (h0 : 0 ≤ p.w) (h4 : p.w ≤ 4) : Calls Try.prog 40 #[.agg (vcells p).toArray] w fun e w' => ∃ v', e = .returned v' ∧ OwnRow w' w.heap.size 32 v' (rowP p) ∧ Below w.heap.size w w' := by
  obtain ⟨n, hn⟩ : ∃ n : Nat, p.w = (n : Int) := ⟨p.w.toNat, by omega⟩
  have HR : w.alloc (.cells (vcells p).toArray 74) |>.rangeAt w.heap.size 0 (vcells p) := new_range (vcells p) _ rfl
  have c12 : (w.alloc (.cells (vcells p).toArray 74)).cell? ⟨w.heap.size, 12, none⟩ = some (.int .i64 n) := by rw [← hn]; exact HR 12 _ rfl
  have hrow : rowP p = [p.a, p.b, p.c, p.d].take n := by rw [rowP, hn]; rfl
  have hl : (rowP p).length = n := by rw [hrow]; simp; omega
  have hin : RowIn (w.alloc (.cells (vcells p).toArray 74)) (.slice (some ⟨w.heap.size, 0, none⟩) n 4) (rowP p) := by
    refine ⟨_, 4, by rw [hl], by rw [hl]; omega, by decide, fun h => (by cases h), .inr ⟨w.heap.size, 0, rfl, fun j u hj => HR j u ?_⟩⟩
    have hpre : (rowP p).flatMap Val.cells <+: vcells p := by
      rw [hrow]
      refine List.IsPrefix.trans ?_ (show [p.a, p.b, p.c, p.d].flatMap Val.cells <+: vcells p from ⟨[.int .i64 p.w, .int .i64 p.m], rfl⟩)
      obtain ⟨t, ht⟩ := List.take_prefix n [p.a, p.b, p.c, p.d]
      exact ⟨t.flatMap Val.cells, by rw [← List.flatMap_append, ht]⟩
    obtain ⟨t, ht⟩ := hpre
    rw [← ht, List.getElem?_append_left (List.getElem?_eq_some_iff.1 hj).1]; exact hj
  have HC0 : Calls Try.prog 56 #[.slice (some ⟨w.heap.size, 0, none⟩) n 4] (w.alloc (.cells (vcells p).toArray 74)) fun e w' => ∃ v', e = .returned v' ∧ OwnRow w' (w.heap.size + 1) 32 v' (rowP p) ∧ Below (w.heap.size + 1) (w.alloc (.cells (vcells p).toArray 74)) w' := by
    have := clone_any _ (rowP p) _ hin (by omega)
    simpa using this
  have HC : Hid _ := HC0
  clear HC0
  have n0 : (0 : Int) ≤ (n : Int) := by omega
  have n4 : (n : Int) ≤ 4 := by omega
  clear hn hin hrow hl h0 h4 HR
  generalize rowP p = r at *
  generalize vcells p = cs at *
  go_enter Try.func40, Try.ntmps40
  go_wp2_with fail
  refine Calls.mono HC.out ?_
  rintro e w1 ⟨v', rfl, ho, hb⟩
  have HO : Hid (OwnRow w1 w.heap.size 32 v' r ∧ Below w.heap.size w w1) := ⟨ho.mono (by omega), (alloc1 _ _).trans (hb.mono (by omega))⟩
  clear HC c12 ho hb
  go_wp2_with fail
  go_ret
  exact ⟨_, rfl, HO.out⟩
theorem row_sets (b : Nat) (T : TypeId) : ∀ (cs pre old : List Value) (w : World), w.heap[b]? = some (.cells (pre ++ old).toArray T (0, 0)) → old.length = cs.length → (w.setCells b pre.length cs).heap[b]? = some (.cells (pre ++ cs).toArray T (0, 0))
  | [], pre, old, w, h, hl => by
    obtain rfl : old = [] := List.eq_nil_of_length_eq_zero hl
    exact h
  | c :: cs, pre, [], w, h, hl => by simp at hl
  | c :: cs, pre, u :: old, w, h, hl => by
    have h1 := heap_setCell_same w b pre.length _ _ c h
    have e : ((pre ++ u :: old).toArray).setIfInBounds pre.length c = ((pre ++ [c]) ++ old).toArray := by simp
    rw [e] at h1
    have := row_sets b T cs (pre ++ [c]) old _ h1 (by simpa using hl)
    rw [World.setCells]
    simpa using this
/-- A place is stored as a box's whole, in whatever world comes of it. -/
theorem step_pwhole {ops : Array Oper} {rest : List Oper} {op : Oper} {a : Act} {w : World} {Q : Exit → Act → World → Prop} (hgd : op.guard = none) (x y : Operand) (ho : op.op = .store 74 x y) (b : Nat) (cs old : List Value) (hx : a.eval x = .pointer (some ⟨b, 0, none⟩)) (hy : a.eval y = .agg cs.toArray) (hp : PC cs) (ho2 : old.length = 14) (hold : w.heap[b]? = some (.cells old.toArray 74 (0, 0)))
    (h : ∀ w', w'.heap[b]? = some (.cells cs.toArray 74 (0, 0)) → w'.rangeAt b 0 cs → Sv (fun k => k = b) w w' → wpList Try.prog ops Q rest (a.put op.dst undef) w') : wpList Try.prog ops Q (op :: rest) a w := by
  have ht : w.there b 0 14 := fun j hj => by
    have hc := cell_of_row w b j old.toArray 74 (0, 0) hold
    rw [Nat.zero_add]
    refine ⟨by rw [hc]; simp; omega, ?_⟩
    simp [World.frozen?, hold]
  have hl : old.length = cs.length := by rw [ho2, hp.1]
  refine step_pstore hgd x y ho b 0 cs hx hy ht hp (h _ ?_ (World.rangeAt_setCells_same w b 0 cs (by rw [hp.1]; exact ht)) (sv_sets b cs 0 w))
  have := row_sets b 74 cs [] old w hold hl
  simpa using this
theorem range_heap {w : World} {b : Nat} {cs : List Value} {T : TypeId} (h : w.heap[b]? = some (.cells cs.toArray T (0, 0))) : w.rangeAt b 0 cs := fun j u hj => by
  rw [Nat.zero_add, cell_of_row w b j cs.toArray T (0, 0) h]; simpa using hj
theorem there_heap {w : World} {b : Nat} {cs : List Value} {T : TypeId} (h : w.heap[b]? = some (.cells cs.toArray T (0, 0))) (n : Nat) (hn : cs.length = n) : w.there b 0 n := fun j hj => by
  rw [Nat.zero_add]
  refine ⟨by rw [cell_of_row w b j cs.toArray T (0, 0) h]; simp; omega, ?_⟩
  simp [World.frozen?, h]
def wcells (n m : Int) : List Value := vcells ⟨Val.zero, Val.zero, Val.zero, Val.zero, n, m⟩
theorem taken_cells (xs : List Val) (m : Int) (h : xs.length ≤ 4) : splice (wcells xs.length m) 0 (xs.flatMap Val.cells) = vcells (plOf xs m) := by
  match xs, h with
  | [], _ => rfl
  | [_], _ => rfl
  | [_, _], _ => rfl
  | [_, _, _], _ => rfl
  | [_, _, _, _], _ => rfl
  | _ :: _ :: _ :: _ :: _ :: _, h => simp at h
set_option maxHeartbeats 4000000 in
theorem taken_any (vr : Value) (xs : List Val) (m : Int) (w : World) (hr : RowIn w vr xs) (hl : xs.length ≤ 4) :
    Calls Try.prog 47 #[vr, .int .i64 m] w fun e w' => e = .returned (.agg (vcells (plOf xs m)).toArray) ∧ Below w.heap.size w w' := by
  obtain ⟨i0, hi, hz0, hz1, hz2⟩ := info_parts info_V
  obtain ⟨ao, c, rfl, h1, h2, h0, h3⟩ := hr
  have hx := taken_cells xs m hl
  have PW : Hid _ := PC.of ⟨Val.zero, Val.zero, Val.zero, Val.zero, (xs.length : Int), m⟩
  have PX : Hid _ := PC.of (plOf xs m)
  have hfl : (xs.flatMap Val.cells).length = xs.length * 3 := flat_length Val.cells 3 (fun _ => rfl) xs
  have HCP : Hid (∀ w2, w2.heap[w.heap.size + 1]? = some (.cells (wcells xs.length m).toArray 74 (0, 0)) → Below w.heap.size w w2 → ∃ v' w3, (Builtin.copy_ #[33, 34] 3 #[.slice (some ⟨w.heap.size + 1, 0, none⟩) 4 4, .slice ao xs.length c]).run Try.prog w2 = .ok v' w3 ∧ w3.heap[w.heap.size + 1]? = some (.cells (vcells (plOf xs m)).toArray 74 (0, 0)) ∧ Sv (fun k => k = w.heap.size + 1) w2 w3) := fun w2 hg hb => by
    by_cases hn : xs.length = 0
    · have hxs := List.eq_nil_of_length_eq_zero hn
      subst hxs
      exact ⟨_, w2, run_copy_no w2 _ _ _ _ i0 Try.underlying33 hi _ _ _ _ _ _ (by simp), hg, Sv.refl _ _⟩
    · have hao : ∃ b o, ao = some ⟨b, o, none⟩ ∧ ∀ j u, (xs.flatMap Val.cells)[j]? = some u → w.cell? ⟨b, o + j, none⟩ = some u := by
        rcases h3 with h3 | h3
        · rw [h3] at hfl; simp at hfl; omega
        · exact h3
      obtain ⟨b, o, rfl, hc⟩ := hao
      have hmin : Nat.min xs.length 4 = xs.length := Nat.min_eq_left hl
      have := run_copy_in w2 33 34 3 _ i0 Try.underlying33 hi (w.heap.size + 1) 0 4 4 ⟨b, o, none⟩ xs.length c (wcells xs.length m) 74 (xs.flatMap Val.cells) hg (by rw [hmin, hfl, hz1])
        (fun j u hj => by rw [Addr.add_mid]; have h5 := hc j u hj; rw [hb.cell (World.block_lt_of_cell? w _ h5)]; exact h5) (by rw [hfl]; show 0 + xs.length * 3 ≤ 14; omega) (cells_one xs)
      rw [hx] at this
      refine ⟨_, _, this, setRow_heap w2 _ _ _ _ _ hg, ?_⟩
      exact sv_setRow _ _ _ _ rfl
  have HZ : Hid (((w.alloc (.cells (vcells Pl.zero).toArray 74)).alloc (.cells (vcells Pl.zero).toArray 74)).heap[w.heap.size + 1]? = some (.cells (vcells Pl.zero).toArray 74 (0, 0))) := by
    show _ = _
    have := heap_alloc_new (w.alloc (.cells (vcells Pl.zero).toArray 74)) (.cells (vcells Pl.zero).toArray 74)
    simpa only [World.size_alloc] using this
  have HZ0 : Hid (((w.alloc (.cells (vcells Pl.zero).toArray 74)).alloc (.cells (vcells Pl.zero).toArray 74)).there w.heap.size 0 14) := World.there_alloc (new_there (vcells Pl.zero) _ rfl rfl) _
  have HB0 : Hid (∀ w2, Sv (fun k => k = w.heap.size + 1) ((w.alloc (.cells (vcells Pl.zero).toArray 74)).alloc (.cells (vcells Pl.zero).toArray 74)) w2 → Below w.heap.size w w2 ∧ w2.there w.heap.size 0 14) := fun w2 hs => by
    refine ⟨(back2 (Below.refl _ _)).trans (hs.below (by simp; omega) fun k hk e => by omega), fun j hj => ?_⟩
    obtain ⟨h1, h2⟩ := HZ0.out j hj
    have hlt : w.heap.size < ((w.alloc (.cells (vcells Pl.zero).toArray 74)).alloc (.cells (vcells Pl.zero).toArray 74)).heap.size := by simp; omega
    exact ⟨by rw [hs.cell (p := ⟨w.heap.size, 0 + j, none⟩) hlt (by show ¬ w.heap.size = w.heap.size + 1; omega)]; exact h1, by rw [hs.frozen (p := ⟨w.heap.size, 0 + j, none⟩) hlt (by show ¬ w.heap.size = w.heap.size + 1; omega)]; exact h2⟩
  clear hx hfl hi hz0 hz1 hz2 h0 h3 h1 h2
  go_enter Try.func47, Try.ntmps47
  go_wp2_with (first | (refine step_pwhole rfl _ _ rfl (w.heap.size + 1) (wcells xs.length m) (vcells Pl.zero) rfl rfl PW.out rfl HZ.out ?_; intro w2 hg2 hr2 hs2; obtain ⟨cv, w3, hcr, hc1, hc2⟩ := HCP.out w2 hg2 (HB0.out w2 hs2).1; clear HCP HZ) | (refine wpList_copy_known rfl _ _ _ _ rfl _ _ rfl rfl cv w3 hcr ?_) | (refine step_pload rfl _ rfl (w.heap.size + 1) 0 rfl (vcells (plOf xs m)) (range_heap hc1) PX.out ?_) | (refine step_pstore rfl _ _ rfl w.heap.size 0 (vcells (plOf xs m)) rfl rfl (HB0.out w3 (hs2.trans hc2)).2 PX.out ?_) | fail)
  refine bodyPost_ret (results_cell_mid Try.results47 _ _ w.heap.size 0 (vcells (plOf xs m)) _ rfl (World.rangeAt_setCells_same _ _ _ _ (HB0.out w3 (hs2.trans hc2)).2) Try.underlying74 rfl isize_V) rfl ⟨rfl, ?_⟩
  exact back_sets (HB0.out w3 (hs2.trans hc2)).1 (Nat.le_refl _)
end Go.Proofs.Ytafkpfhhmmnpeaa.Val
