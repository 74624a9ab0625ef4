/- Plain: claims as data, in memory, in a box; what is told of them. No program. -/
import Derived.Test.YtkkbbpldeeajaaaDoorUP
import Derived.Test.YtkkbbpldeeajaaaDoorUR
import Derived.Test.YtkkbbpldeeajaaaDoorUM
import Derived.Test.YtkkbbpldeeajaaaDoorU1
import Derived.Deep.MidRow
import Derived.Test.YtkkbbpldeeajaaaDoorUQ
namespace Go.Proofs.YtkkbbpldeeajaaaDoor.Val
open Go Go.RowKit

/-- An image, with the slice in which it lies. -/
structure Im where
  v : Value
  r : List Val
/-- A claim as plain data, with the slices in which its images and its predicate's parts lie. -/
structure CP where
  kind : Int
  table : Int
  mode : Int
  key : Val
  iv : Value
  ims : List Im
  p : PT
def CP.rows (c : CP) : List (List Val) := c.ims.map Im.r
def CP.val (c : CP) : Value := .agg #[.int .i64 c.kind, .int .i64 c.table, .int .i64 c.mode, .bool c.key.t, .int .i64 c.key.n, .string c.key.s, c.iv, .int .i64 c.p.op, .int .i64 c.p.col, .bool c.p.v.t, .int .i64 c.p.v.n, .string c.p.v.s, .bool c.p.w.t, .int .i64 c.p.w.n, .string c.p.w.s, c.p.lv]
abbrev cobj (c : CP) (T : TypeId) : Obj := .cells #[.int .i64 c.kind, .int .i64 c.table, .int .i64 c.mode, .bool c.key.t, .int .i64 c.key.n, .string c.key.s, c.iv, .int .i64 c.p.op, .int .i64 c.p.col, .bool c.p.v.t, .int .i64 c.p.v.n, .string c.p.v.s, .bool c.p.w.t, .int .i64 c.p.w.n, .string c.p.w.s, c.p.lv] T
/-- Images lie in memory. -/
def ImsIn (w : World) (iv : Value) (l : List Im) : Prop := Lies w iv l.length (l.map Im.v) ∧ ∀ i ∈ l, RowIn w i.v i.r
theorem ImsIn.below {w w' : World} {iv : Value} {l : List Im} (h : ImsIn w iv l) (hb : Below w.heap.size w w') : ImsIn w' iv l := ⟨h.1.below hb, fun i hi => (h.2 i hi).below hb⟩
theorem ImsIn.at {w : World} {ao : Option Addr} {c n : Nat} {l : List Im} (h : ImsIn w (.slice ao n c) l) (k : Nat) (hk : k < l.length) :
    ∃ b o, ao = some ⟨b, o, none⟩ ∧ w.cell? ⟨b, o + k, none⟩ = some l[k].v := by
  obtain ⟨ao', c', e, h1, h2, h0, h3⟩ := h.1
  cases e
  rcases h3 with h3 | ⟨b, o, rfl, h3⟩
  · have : l = [] := by simpa using h3
    subst this; simp at hk
  · exact ⟨b, o, rfl, h3 k _ (by simp [hk])⟩
theorem ImsIn.slice {w : World} {iv : Value} {l : List Im} (h : ImsIn w iv l) : ∃ ao c, iv = .slice ao l.length c ∧ l.length ≤ 9223372036854775807 := h.1.slice
structure CIn (w : World) (c : CP) : Prop where
  key : c.key.s.size ≤ maxLen
  ims : ImsIn w c.iv c.ims
  p : In w c.p
theorem CIn.below {w w' : World} {c : CP} (h : CIn w c) (hb : Below w.heap.size w w') : CIn w' c := ⟨h.key, h.ims.below hb, h.p.keep hb⟩
/-- A claim in a block of its own. -/
structure CBox (w : World) (b : Nat) (c : CP) : Prop where
  c0 : w.cell? ⟨b, 0, none⟩ = some (.int .i64 c.kind)
  c1 : w.cell? ⟨b, 1, none⟩ = some (.int .i64 c.table)
  c2 : w.cell? ⟨b, 2, none⟩ = some (.int .i64 c.mode)
  c3 : w.cell? ⟨b, 3, none⟩ = some (.bool c.key.t)
  c4 : w.cell? ⟨b, 4, none⟩ = some (.int .i64 c.key.n)
  c5 : w.cell? ⟨b, 5, none⟩ = some (.string c.key.s)
  c6 : w.cell? ⟨b, 6, none⟩ = some (c.iv)
  c7 : w.cell? ⟨b, 7, none⟩ = some (.int .i64 c.p.op)
  c8 : w.cell? ⟨b, 8, none⟩ = some (.int .i64 c.p.col)
  c9 : w.cell? ⟨b, 9, none⟩ = some (.bool c.p.v.t)
  c10 : w.cell? ⟨b, 10, none⟩ = some (.int .i64 c.p.v.n)
  c11 : w.cell? ⟨b, 11, none⟩ = some (.string c.p.v.s)
  c12 : w.cell? ⟨b, 12, none⟩ = some (.bool c.p.w.t)
  c13 : w.cell? ⟨b, 13, none⟩ = some (.int .i64 c.p.w.n)
  c14 : w.cell? ⟨b, 14, none⟩ = some (.string c.p.w.s)
  c15 : w.cell? ⟨b, 15, none⟩ = some (c.p.lv)
theorem CBox.lt {w : World} {b : Nat} {c : CP} (h : CBox w b c) : b < w.heap.size := World.block_lt_of_cell? w _ h.c0
theorem CBox.below {w w' : World} {b : Nat} {c : CP} (h : CBox w b c) (hb : Below w.heap.size w w') : CBox w' b c := by
  have hlt := h.lt
  obtain ⟨c0, c1, c2, c3, c4, c5, c6, c7, c8, c9, c10, c11, c12, c13, c14, c15⟩ := h
  constructor <;> rw [hb.cell hlt] <;> assumption
theorem CBox.sv {X : Nat → Prop} {w w' : World} {b : Nat} {c : CP} (h : CBox w b c) (hb : Sv X w w') (hx : ¬ X b) : CBox w' b c := by
  have hlt := h.lt
  obtain ⟨c0, c1, c2, c3, c4, c5, c6, c7, c8, c9, c10, c11, c12, c13, c14, c15⟩ := h
  constructor <;> rw [hb.cell hlt hx] <;> assumption
theorem CBox.new (w : World) (c : CP) (T : TypeId) : CBox (w.alloc (cobj c T)) w.heap.size c := by constructor <;> simp [go_sem]
theorem CBox.alloc {w : World} {b : Nat} {c : CP} (h : CBox w b c) (o : Obj) : CBox (w.alloc o) b c := h.below ((Below.refl _ _).alloc (Nat.le_refl _) _)

/-- Are they about one thing? s: are their predicates the same? -/
def sameC (s : Bool) (a b : CP) : Bool := a.table == b.table && (a.kind == b.kind && (a.kind == 1 || a.kind == 2 && eqV a.key b.key || a.kind == 3 && s))
/-- Does a predicate hold of one of the images that aren't empty? -/
def catchC (p : PT) (c : CP) : Bool := c.mode == 6 && c.rows.any fun r => !r.isEmpty && holdsP r p
def conflictC (a b : CP) : Bool :=
  a.table == b.table && (if a.kind = 1 ∧ b.kind = 1 then !fitsM a.mode b.mode else if a.kind = 2 ∧ b.kind = 2 then eqV a.key b.key && !fitsM a.mode b.mode
    else if a.kind = 3 ∧ b.kind = 2 then catchC a.p b else if a.kind = 2 ∧ b.kind = 3 then catchC b.p a else false)
def hasI (l : List (List Val)) (r : List Val) : Bool := l.any fun x => eqRow x r
def coversC (s : Bool) (a b : CP) : Bool := sameC s a b && (coversM a.mode b.mode && b.rows.all (hasI a.rows))
def addI (own : List (List Val)) (r : List Val) : List (List Val) := if hasI own r then own else own ++ [r]
def joinI (l m : List (List Val)) : List (List Val) := m.foldl addI l
theorem hasI_iff {l : List (List Val)} {r : List Val} : hasI l r = true ↔ r ∈ l := by
  simp only [hasI, List.any_eq_true, eqRow_iff]
  exact ⟨fun ⟨x, hx, e⟩ => e ▸ hx, fun h => ⟨r, h, rfl⟩⟩
theorem mem_addI {own : List (List Val)} {r x : List Val} : x ∈ addI own r ↔ x ∈ own ∨ x = r := by
  unfold addI
  cases h : hasI own r
  · simp
  · simp only [if_true]
    exact ⟨.inl, fun h' => h'.elim id fun e => e ▸ hasI_iff.1 h⟩
theorem mem_joinI {l m : List (List Val)} {x : List Val} : x ∈ joinI l m ↔ x ∈ l ∨ x ∈ m := by
  induction m generalizing l with
  | nil => simp [joinI]
  | cons r m ih => rw [joinI, List.foldl_cons, ← joinI, ih, mem_addI, List.mem_cons, or_assoc]
theorem addI_len (own : List (List Val)) (r : List Val) : (addI own r).length ≤ own.length + 1 := by unfold addI; split <;> simp
theorem joinI_len (l m : List (List Val)) : (joinI l m).length ≤ l.length + m.length := by
  induction m generalizing l with
  | nil => simp [joinI]
  | cons r m ih =>
    rw [joinI, List.foldl_cons, ← joinI, List.length_cons]
    have := ih (l := addI l r)
    have := addI_len l r
    omega
/-- Small: few images, each short; a predicate with few parts. -/
structure FewC (c : CP) : Prop where
  n : c.ims.length ≤ 20
  r : ∀ i ∈ c.ims, i.r.length ≤ 20
  p : c.p.size ≤ 100
end Go.Proofs.YtkkbbpldeeajaaaDoor.Val
/- What claim.through answers, whatever function it is handed. -/
namespace Go.Proofs.YtkkbbpldeeajaaaDoor.Val
open Go.RowKit

set_option maxHeartbeats 1000000 in
theorem throughB_any (iv a0 : Value) (l : List Im) (f : FuncId) (first cap : Array Value) (w : World) (J : Nat → Value → World → Prop) (hJ : J 0 a0 w) (hE : Enters f)
    (hl : ∀ k a w1, J k a w1 → ImsIn w1 iv l)
    (hc : ∀ (k : Nat) (hk : k < l.length) (a : Value) (w1 : World), J k a w1 → Calls Tryd.prog f (first ++ (#[a, l[k].v] ++ cap)) w1 fun e w2 => ∃ a', e = .returned a' ∧ J (k + 1) a' w2) :
    Calls Tryd.prog 40 #[iv, a0, FV f first cap] w fun e w' => ∃ a, e = .returned a ∧ J l.length a w' := by
  obtain ⟨ao, c, rfl, hn⟩ := (hl 0 a0 w hJ).slice
  have HL : Hid _ := hl
  have HC : Hid _ := hc
  clear hl hc
  go_enter Tryd.func40, Tryd.ntmps40
  go_wp2_with fail
  go_loopw [1, 8, 11] (fun a _ i wr => ∃ k : Nat, k ≤ l.length ∧ i = .int .i64 k ∧ Hid (J k a wr))
    (fun _ _ i _ => l.length - (intOf i).toNat)
  case atStart => exact ⟨0, Nat.zero_le _, rfl, hJ⟩
  case round =>
    clear hJ
    obtain ⟨k, hk, rfl, HJ⟩ := hrel
    by_cases h1 : k < l.length
    · have i0 : (0 : Int) ≤ (k : Int) := by omega
      have i1 : (k : Int) < (l.length : Int) := by omega
      obtain ⟨b, o, rfl, hat⟩ := (HL.out k _ wr HJ.out).at k h1
      have HC1 : Hid _ := HC.out k h1 _ wr HJ.out
      have hE' : ∀ args w, (callFunc f args).run Tryd.prog w = .ok (.enter f args) w := hE
      clear HC HL hE
      go_wp2_with fail
      refine Calls.mono HC1.out ?_
      rintro e w1 ⟨a', rfl, hJ1⟩
      have HJ1 : Hid (J (k + 1) a' w1) := hJ1
      clear hJ1 HC1 HJ hE' hat
      go_wp2_with fail
      go_roundw
      case rel => exact ⟨k + 1, by omega, by go_num, HJ1⟩
      case measure => simp [intOf]; omega
    · have i1 : decide ((k : Int) < (l.length : Int)) = false := by simp; omega
      obtain rfl : k = l.length := by omega
      clear HC HL hE
      go_wp2_with fail
      go_ret
      exact ⟨_, rfl, HJ.out⟩
set_option maxHeartbeats 1000000 in
theorem throughR_any (iv a0 : Value) (l : List Im) (f : FuncId) (first cap : Array Value) (w : World) (J : Nat → Value → World → Prop) (hJ : J 0 a0 w) (hE : Enters f)
    (hl : ∀ k a w1, J k a w1 → ImsIn w1 iv l)
    (hc : ∀ (k : Nat) (hk : k < l.length) (a : Value) (w1 : World), J k a w1 → Calls Tryd.prog f (first ++ (#[a, l[k].v] ++ cap)) w1 fun e w2 => ∃ a', e = .returned a' ∧ J (k + 1) a' w2) :
    Calls Tryd.prog 47 #[iv, a0, FV f first cap] w fun e w' => ∃ a, e = .returned a ∧ J l.length a w' := by
  obtain ⟨ao, c, rfl, hn⟩ := (hl 0 a0 w hJ).slice
  have HL : Hid _ := hl
  have HC : Hid _ := hc
  clear hl hc
  go_enter Tryd.func47, Tryd.ntmps47
  go_wp2_with fail
  go_loopw [1, 8, 11] (fun a _ i wr => ∃ k : Nat, k ≤ l.length ∧ i = .int .i64 k ∧ Hid (J k a wr))
    (fun _ _ i _ => l.length - (intOf i).toNat)
  case atStart => exact ⟨0, Nat.zero_le _, rfl, hJ⟩
  case round =>
    clear hJ
    obtain ⟨k, hk, rfl, HJ⟩ := hrel
    by_cases h1 : k < l.length
    · have i0 : (0 : Int) ≤ (k : Int) := by omega
      have i1 : (k : Int) < (l.length : Int) := by omega
      obtain ⟨b, o, rfl, hat⟩ := (HL.out k _ wr HJ.out).at k h1
      have HC1 : Hid _ := HC.out k h1 _ wr HJ.out
      have hE' : ∀ args w, (callFunc f args).run Tryd.prog w = .ok (.enter f args) w := hE
      clear HC HL hE
      go_wp2_with fail
      refine Calls.mono HC1.out ?_
      rintro e w1 ⟨a', rfl, hJ1⟩
      have HJ1 : Hid (J (k + 1) a' w1) := hJ1
      clear hJ1 HC1 HJ hE' hat
      go_wp2_with fail
      go_roundw
      case rel => exact ⟨k + 1, by omega, by go_num, HJ1⟩
      case measure => simp [intOf]; omega
    · have i1 : decide ((k : Int) < (l.length : Int)) = false := by simp; omega
      obtain rfl : k = l.length := by omega
      clear HC HL hE
      go_wp2_with fail
      go_ret
      exact ⟨_, rfl, HJ.out⟩
end Go.Proofs.YtkkbbpldeeajaaaDoor.Val
/- A claim's box as a whole: stored and loaded as steps of a walk, in whatever world comes of it. -/
namespace Go.Proofs.YtkkbbpldeeajaaaDoor.Val
open Go Go.RowKit
set_option maxRecDepth 100000

abbrev TC : TypeId := 31
def ccells (c : CP) : List Value := [.int .i64 c.kind, .int .i64 c.table, .int .i64 c.mode, .bool c.key.t, .int .i64 c.key.n, .string c.key.s, c.iv] ++ c.p.cells
theorem ccells_len (c : CP) : (ccells c).length = 16 := rfl
theorem cval_cells (c : CP) : c.val = .agg (ccells c).toArray := rfl
theorem cobj_cells (c : CP) (T : TypeId) : cobj c T = .cells (ccells c).toArray T := rfl
/-- Both slices of a claim are slices. -/
def OneC (c : CP) : Prop := (∃ ao n k, c.iv = .slice ao n k) ∧ ∃ ao n k, c.p.lv = .slice ao n k
theorem CIn.one {w : World} {c : CP} (h : CIn w c) : OneC c := by
  obtain ⟨a1, c1, h1, _⟩ := h.ims.slice
  obtain ⟨a2, c2, h2, _⟩ := h.p.lies.slice
  exact ⟨⟨_, _, _, h1⟩, _, _, _, h2⟩
theorem OneC.cells {c : CP} (h : OneC c) : ∀ u ∈ ccells c, u.oneCell' = true := by
  obtain ⟨⟨a1, n1, k1, h1⟩, a2, n2, k2, h2⟩ := h
  simp [ccells, PT.cells, h1, h2, Value.oneCell']
theorem OneC.pcells {c : CP} (h : OneC c) : ∀ u ∈ c.p.cells, u.oneCell' = true := fun u hu => h.cells u (List.mem_append_right _ hu)
theorem isize_C : (Tryd.prog.info? 31).map (·.size) = some 16 := by kernel_rfl
theorem isize_P : (Tryd.prog.info? 29).map (·.size) = some 9 := by kernel_rfl
/-- A block that is a claim's box, and may be written. -/
def CB (w : World) (b : Nat) (c : CP) : Prop := w.heap[b]? = some (.cells (ccells c).toArray TC (0, 0))
theorem heap_alloc_new (w : World) (o : Obj) : (w.alloc o).heap[w.heap.size]? = some o := Array.getElem?_push_size
theorem CB.new (w : World) (c : CP) : CB (w.alloc (cobj c TC)) w.heap.size c := heap_alloc_new _ _
theorem CB.lt {w : World} {b : Nat} {c : CP} (h : CB w b c) : b < w.heap.size := (Array.getElem?_eq_some_iff.1 h).1
theorem CB.sv {X : Nat → Prop} {w w' : World} {b : Nat} {c : CP} (h : CB w b c) (hs : Sv X w w') (hx : ¬ X b) : CB w' b c := (hs.block b h.lt hx).trans h
theorem CB.below {w w' : World} {b : Nat} {c : CP} (h : CB w b c) (hb : Below w.heap.size w w') : CB w' b c := (hb.block b h.lt).trans h
theorem CB.cell {w : World} {b : Nat} {c : CP} (h : CB w b c) (j : Nat) : w.cell? ⟨b, j, none⟩ = (ccells c)[j]? := by
  rw [cell_of_row w b j _ _ _ h, List.getElem?_toArray]
theorem CB.free {w : World} {b : Nat} {c : CP} (h : CB w b c) (j : Nat) : w.frozen? ⟨b, j, none⟩ = false := by
  simp [World.frozen?, show w.heap[b]? = _ from h]
theorem CB.range {w : World} {b : Nat} {c : CP} (h : CB w b c) : w.rangeAt b 0 (ccells c) := fun j u hj => by rw [Nat.zero_add, h.cell]; exact hj
theorem CB.prange {w : World} {b : Nat} {c : CP} (h : CB w b c) : w.rangeAt b 7 c.p.cells := fun j u hj => by
  rw [h.cell, ccells, List.getElem?_append_right (by simp)]; simpa using hj
theorem CB.box {w : World} {b : Nat} {c : CP} (h : CB w b c) : CBox w b c := by constructor <;> (rw [h.cell]; rfl)
theorem part_sets (b : Nat) (T : TypeId) (post : List Value) : ∀ (ys pre old : List Value) (w : World), w.heap[b]? = some (.cells (pre ++ (old ++ post)).toArray T (0, 0)) → old.length = ys.length → (w.setCells b pre.length ys).heap[b]? = some (.cells (pre ++ (ys ++ post)).toArray T (0, 0))
  | [], pre, old, w, h, hl => by
    obtain rfl : old = [] := List.eq_nil_of_length_eq_zero hl
    exact h
  | c :: cs, pre, [], w, h, hl => by simp at hl
  | c :: cs, pre, u :: old, w, h, hl => by
    have h1 := heap_setCell_same w b pre.length _ _ c h
    have e : ((pre ++ (u :: old ++ post)).toArray).setIfInBounds pre.length c = ((pre ++ [c]) ++ (old ++ post)).toArray := by simp
    rw [e] at h1
    have := part_sets b T post cs (pre ++ [c]) old _ h1 (by simpa using hl)
    rw [World.setCells]
    simpa using this
theorem sv_setsC (b : Nat) : ∀ (cs : List Value) (o : Nat) (w : World), Sv (fun k => k = b) w (w.setCells b o cs)
  | [], _, w => Sv.refl _ w
  | c :: cs, o, w => (Sv.set (X := fun k => k = b) (Sv.refl _ w) (a := ⟨b, o, none⟩) rfl c).trans (sv_setsC b cs (o + 1) _)
/-- Its images, and its mode, are stored. -/
theorem CB.set_iv {w : World} {b : Nat} {c : CP} (h : CB w b c) (v : Value) (m : List Im) : CB (w.setCell ⟨b, 6, none⟩ v) b { c with iv := v, ims := m } :=
  part_sets b TC c.p.cells [v] [.int .i64 c.kind, .int .i64 c.table, .int .i64 c.mode, .bool c.key.t, .int .i64 c.key.n, .string c.key.s] [c.iv] w h rfl
theorem CB.set_mode {w : World} {b : Nat} {c : CP} (h : CB w b c) (n : Int) : CB (w.setCell ⟨b, 2, none⟩ (.int .i64 n)) b { c with mode := n } :=
  part_sets b TC ([.bool c.key.t, .int .i64 c.key.n, .string c.key.s, c.iv] ++ c.p.cells) [.int .i64 n] [.int .i64 c.kind, .int .i64 c.table] [.int .i64 c.mode] w h rfl
theorem CB.set_table {w : World} {b : Nat} {c : CP} (h : CB w b c) (n : Int) : CB (w.setCell ⟨b, 1, none⟩ (.int .i64 n)) b { c with table := n } :=
  part_sets b TC ([.int .i64 c.mode, .bool c.key.t, .int .i64 c.key.n, .string c.key.s, c.iv] ++ c.p.cells) [.int .i64 n] [.int .i64 c.kind] [.int .i64 c.table] w h rfl
section
variable {ops : Array Oper} {rest : List Oper} {op : Oper} {a : Act} {w : World} {Q : Exit → Act → World → Prop}
/-- A claim is loaded out of its box. -/
theorem step_cload (hgd : op.guard = none) (x : Operand) (ho : op.op = .load 31 x) (b : Nat) (c : CP) (hx : a.eval x = .pointer (some ⟨b, 0, none⟩)) (hc : CB w b c)
    (h : wpList Tryd.prog ops Q rest (a.put op.dst c.val) w) : wpList Tryd.prog ops Q (op :: rest) a w :=
  wpList_load_mid hgd 31 x ho b 0 hx (ccells c) _ hc.range Tryd.underlying31 rfl isize_C h
/-- The same, where a guard says yes. -/
theorem step_cloadG (x : Operand) (ho : op.op = .load 31 x) (b : Nat) (c : CP) (hx : a.eval x = .pointer (some ⟨b, 0, none⟩)) (hc : CB w b c) (hw : Region.wanted op (yielded ops a.tmps) = true)
    (h : wpList Tryd.prog ops Q rest (a.put op.dst c.val) w) : wpList Tryd.prog ops Q (op :: rest) a w :=
  wpList_step fun K hK => by
    rw [if_pos hw]
    exact wp_load_mid 31 x ho b 0 hx (ccells c) _ hc.range Tryd.underlying31 rfl isize_C (hK _ _ h)
/-- Its predicate. -/
theorem step_cloadP (hgd : op.guard = none) (x : Operand) (ho : op.op = .load 29 x) (b : Nat) (c : CP) (hx : a.eval x = .pointer (some ⟨b, 7, none⟩)) (hc : CB w b c)
    (h : wpList Tryd.prog ops Q rest (a.put op.dst c.p.val) w) : wpList Tryd.prog ops Q (op :: rest) a w :=
  wpList_load_mid hgd 29 x ho b 7 hx c.p.cells _ hc.prange Tryd.underlying29 rfl isize_P h
/-- A claim is stored into a box. -/
theorem step_cstore (hgd : op.guard = none) (x y : Operand) (ho : op.op = .store 31 x y) (b : Nat) (c old : CP) (hx : a.eval x = .pointer (some ⟨b, 0, none⟩)) (hy : a.eval y = c.val) (h1 : OneC c) (hold : CB w b old)
    (h : ∀ w', CB w' b c → Sv (fun k => k = b) w w' → wpList Tryd.prog ops Q rest (a.put op.dst undef) w') : wpList Tryd.prog ops Q (op :: rest) a w := by
  have ht : w.there b 0 16 := fun j hj => by
    rw [Nat.zero_add]
    refine ⟨by rw [hold.cell, List.getElem?_eq_getElem (by rw [ccells_len]; exact hj)]; rfl, hold.free j⟩
  refine wpList_store_mid hgd 31 x y ho b 0 (ccells c).toArray hx hy (by simpa [ccells_len] using ht) (by rw [List.size_toArray, ccells_len]; exact isize_C) (all_oneCell_toArray h1.cells) (h _ ?_ (sv_setsC b _ 0 w))
  have := part_sets b TC [] (ccells c) [] (ccells old) w (by rw [List.append_nil, List.nil_append]; exact hold) rfl
  rw [List.append_nil, List.nil_append] at this
  exact this
/-- A predicate is stored into it. -/
theorem step_cstoreP (hgd : op.guard = none) (x y : Operand) (ho : op.op = .store 29 x y) (b : Nat) (q : PT) (old : CP) (hx : a.eval x = .pointer (some ⟨b, 7, none⟩)) (hy : a.eval y = q.val) (h1 : ∃ ao n k, q.lv = .slice ao n k) (hold : CB w b old)
    (h : ∀ w', CB w' b { old with p := q } → Sv (fun k => k = b) w w' → wpList Tryd.prog ops Q rest (a.put op.dst undef) w') : wpList Tryd.prog ops Q (op :: rest) a w := by
  have ht : w.there b 7 9 := fun j hj => by
    refine ⟨by rw [hold.cell, List.getElem?_eq_getElem (by rw [ccells_len]; omega)]; rfl, hold.free _⟩
  obtain ⟨ao, n, k, hq⟩ := h1
  refine wpList_store_mid hgd 29 x y ho b 7 q.cells.toArray hx hy ht isize_P (all_oneCell_toArray (by simp [PT.cells, hq, Value.oneCell'])) (h _ ?_ (sv_setsC b _ 7 w))
  exact part_sets b TC [] q.cells [.int .i64 old.kind, .int .i64 old.table, .int .i64 old.mode, .bool old.key.t, .int .i64 old.key.n, .string old.key.s, old.iv] old.p.cells w hold rfl
end
/-- A claim in a box is handed back. -/
theorem ret_c {fn : Func} {x : Nat} {tmps : Array Value} {w : World} (h : fn.results = #[.cell x 31]) (b : Nat) (c : CP) (hx : tmps.getD x undef = .pointer (some ⟨b, 0, none⟩)) (hc : CB w b c) :
    (results fn tmps).run Tryd.prog w = .ok c.val w := by
  have := run_loadVar_mid (P := Tryd.prog) w b 0 31 (ccells c) _ hc.range Tryd.underlying31 rfl isize_C
  rw [Array.getD_eq_getD_getElem?] at hx
  simp [results, h, hx, asAddr, this, cval_cells]
end Go.Proofs.YtkkbbpldeeajaaaDoor.Val
/- What claim.has answers: is a row one of some? -/
namespace Go.Proofs.YtkkbbpldeeajaaaDoor.Val
open Go.RowKit

set_option maxHeartbeats 1000000 in
theorem indexI_any (f : FuncId) (first cap : Array Value) (lv : Value) (l : List Im) (w : World) (g : Im → Bool) (hE : Enters f) (hl : ImsIn w lv l)
    (hc : ∀ q ∈ l, ∀ w1, Below w.heap.size w w1 → Calls Tryd.prog f (first.push q.v ++ cap) w1 fun e w2 => e = .returned (.bool (g q)) ∧ Below w1.heap.size w1 w2) :
    Calls Tryd.prog 82 #[lv, FV f first cap] w fun e w' => Below w.heap.size w w' ∧
      ((∃ k : Nat, k < l.length ∧ l.any g = true ∧ e = .returned (.int .i64 k)) ∨ (l.any g = false ∧ e = .returned (.int .i64 (-1)))) := by
  obtain ⟨ao, c, rfl, hn⟩ := hl.slice
  have HL : Hid (ImsIn w (.slice ao l.length c) l) := hl
  have HC : Hid _ := hc
  clear hl hc
  go_enter Tryd.func82, Tryd.ntmps82
  go_wp2_with fail
  go_loopw [8] (fun i wr => ∃ k : Nat, k ≤ l.length ∧ i = .int .i64 k ∧ Hid (∀ (j : Nat) (hj : j < l.length), j < k → g l[j] = false) ∧ Hid (Below w.heap.size w wr))
    (fun i _ => l.length - (intOf i).toNat)
  case atStart => exact ⟨0, Nat.zero_le _, rfl, fun j _ hj => by omega, Below.refl _ _⟩
  case round =>
    obtain ⟨k, hk, rfl, HG, HB⟩ := hrel
    by_cases h1 : k < l.length
    · have i0 : (0 : Int) ≤ (k : Int) := by omega
      have i1 : (k : Int) < (l.length : Int) := by omega
      obtain ⟨b, o, rfl, hat⟩ := (HL.out.below HB.out).at k h1
      have HC1 : Hid _ := HC.out l[k] (List.getElem_mem h1) wr HB.out
      have hE' : ∀ args w, (callFunc f args).run Tryd.prog w = .ok (.enter f args) w := hE
      clear HC HL hE
      cases hg : g l[k]
      · rw [hg] at HC1
        go_wp2_with fail
        refine Calls.mono HC1.out ?_
        rintro e w1 ⟨rfl, hb1⟩
        have HB1 : Hid (Below w.heap.size w w1) := HB.out.trans (hb1.mono HB.out.size)
        have HG1 : Hid (∀ (j : Nat) (hj : j < l.length), j < k + 1 → g l[j] = false) := fun j hj hk => by
          rcases Nat.lt_succ_iff_lt_or_eq.1 hk with h | rfl
          · exact HG.out j hj h
          · exact hg
        clear hb1 HC1 HG HB hg hE' hat
        go_wp2_with fail
        go_roundw
        case rel => exact ⟨k + 1, by omega, by go_num, HG1, HB1⟩
        case measure => simp [intOf]; omega
      · rw [hg] at HC1
        go_wp2_with fail
        refine Calls.mono HC1.out ?_
        rintro e w1 ⟨rfl, hb1⟩
        have HB1 : Hid (Below w.heap.size w w1) := HB.out.trans (hb1.mono HB.out.size)
        clear hb1 HC1 HB hE' hat
        go_wp2_with fail
        go_ret
        exact ⟨HB1.out, .inl ⟨k, h1, List.any_eq_true.2 ⟨_, List.getElem_mem h1, hg⟩, rfl⟩⟩
    · have i1 : decide ((k : Int) < (l.length : Int)) = false := by simp; omega
      obtain rfl : k = l.length := by omega
      clear HC HL hE
      go_wp2_with fail
      go_ret
      refine ⟨HB.out, .inr ⟨?_, rfl⟩⟩
      rw [← Bool.not_eq_true, List.any_eq_true]
      rintro ⟨x, hx, h⟩
      obtain ⟨j, hj, rfl⟩ := List.mem_iff_getElem.1 hx
      rw [HG.out j hj hj] at h
      cases h
set_option maxHeartbeats 1000000 in
theorem containsI_any (f : FuncId) (first cap : Array Value) (lv : Value) (l : List Im) (w : World) (g : Im → Bool) (hE : Enters f) (hl : ImsIn w lv l)
    (hc : ∀ q ∈ l, ∀ w1, Below w.heap.size w w1 → Calls Tryd.prog f (first.push q.v ++ cap) w1 fun e w2 => e = .returned (.bool (g q)) ∧ Below w1.heap.size w1 w2) :
    Calls Tryd.prog 66 #[lv, FV f first cap] w fun e w' => e = .returned (.bool (l.any g)) ∧ Below w.heap.size w w' := by
  have H : Hid _ := indexI_any f first cap lv l w g hE hl hc
  clear hl hc hE
  go_enter Tryd.func66, Tryd.ntmps66
  go_wp2_with fail
  refine Calls.mono H.out ?_
  rintro e w1 ⟨hs, ⟨k, hk, hg, rfl⟩ | ⟨hg, rfl⟩⟩
  · have HA : Hid (Below w.heap.size w w1 ∧ l.any g = true) := ⟨hs, hg⟩
    clear hs hg H
    have k0 : (0 : Int) ≤ (k : Int) := by omega
    go_wp2_with fail
    go_ret
    exact ⟨ret_bool HA.out.2.symm, HA.out.1⟩
  · have HA : Hid (Below w.heap.size w w1 ∧ l.any g = false) := ⟨hs, hg⟩
    clear hs hg H
    go_wp2_with fail
    go_ret
    exact ⟨ret_bool HA.out.2.symm, HA.out.1⟩
theorem enters_has1 : Enters 67 := enters_of Tryd.func67 (by decide +kernel) rfl
set_option maxHeartbeats 1000000 in
theorem has1_any (rb : Nat) (vr : Value) (r : List Val) (q : Im) (w : World) (hq : RowIn w q.v q.r) (hr : RowIn w vr r) (hb : w.cell? ⟨rb, 0, none⟩ = some vr) :
    Calls Tryd.prog 67 #[q.v, .pointer (some ⟨rb, 0, none⟩)] w fun e w2 => e = .returned (.bool (eqRow q.r r)) ∧ Below w.heap.size w w2 := by
  have H : Hid (∀ w1, Below w.heap.size w w1 → Calls Tryd.prog 68 #[q.v, vr] w1 fun e w' => e = .returned (.bool (eqRow q.r r)) ∧ Below w1.heap.size w1 w') := fun w1 h => (same_any _ _ _ _ w1 (hq.below h) (hr.below h)).mono (by rintro e w' h; exact h)
  obtain ⟨aq, cq, hv, _⟩ := hq.slice
  obtain ⟨ar, cr, rfl, _⟩ := hr.slice
  rw [hv] at H ⊢
  have hlt : rb < w.heap.size := World.block_lt_of_cell? w _ hb
  clear hq hr hv
  go_enter Tryd.func67, Tryd.ntmps67
  go_wp2_with fail
  refine Calls.mono (H.out _ (Below.refl _ _)) ?_
  rintro e w1 ⟨rfl, hb1⟩
  go_wp2_with fail
  go_ret
  exact ⟨rfl, hb1⟩
set_option maxHeartbeats 1000000 in
theorem has_any (lv vr : Value) (l : List Im) (r : List Val) (w : World) (hl : ImsIn w lv l) (hr : RowIn w vr r) :
    Calls Tryd.prog 42 #[lv, vr] w fun e w' => e = .returned (.bool (hasI (l.map Im.r) r)) ∧ Below w.heap.size w w' := by
  have e1 : hasI (l.map Im.r) r = l.any fun q => eqRow q.r r := by simp [hasI, List.any_map, Function.comp_def]
  have H : Hid (Calls Tryd.prog 66 #[lv, FV 67 #[] #[.pointer (some ⟨w.heap.size, 0, none⟩)]] (w.alloc (.cells #[vr] 43)) fun e w' => e = .returned (.bool (hasI (l.map Im.r) r)) ∧ Below w.heap.size w w') := by
    rw [e1]
    have ba := alloc1 w (.cells #[vr] 43)
    refine Calls.mono (containsI_any _ #[] _ lv l _ (fun q => eqRow q.r r) enters_has1 (hl.below ba) fun q hq w1 hb => ?_) ?_
    · exact has1_any _ vr r q w1 ((hl.2 q hq).below (on ba hb)) (hr.below (on ba hb)) (cell_below (by simp [go_sem]) hb)
    · rintro e w' ⟨h1, h2⟩; exact ⟨h1, back1 h2⟩
  obtain ⟨ar, cr, rfl, _⟩ := hr.slice
  clear hl hr e1
  go_enter Tryd.func42, Tryd.ntmps42
  go_wp2_with fail
  refine Calls.mono H.out ?_
  rintro e w1 ⟨rfl, hb⟩
  have HB : Hid (Below w.heap.size w w1) := hb
  clear hb H
  go_wp2_with fail
  go_ret
  exact ⟨rfl, HB.out⟩
end Go.Proofs.YtkkbbpldeeajaaaDoor.Val
/- What claim.Same answers. -/
namespace Go.Proofs.YtkkbbpldeeajaaaDoor.Val
open Go.RowKit

theorem eql_K (a b c d : Int) (w : World) : (binOp .eql 57 (.agg #[.int .i64 a, .int .i64 b]) (.agg #[.int .i64 c, .int .i64 d])).run Tryd.prog w = .ok (.bool (a == c && b == d)) w := by
  simp [go_sem]
  cases h : (a == c) <;> cases h2 : (b == d) <;> simp_all [go_sem]
theorem same_t {s : Bool} {a b : CP} (h : (a.table != b.table) = true) : sameC s a b = false := by
  have : (a.table == b.table) = false := by simpa using h
  simp [sameC, this]
theorem tab_eq {a b : CP} (h : (a.table != b.table) = false) : a.table = b.table := by simpa using h
theorem kk {a b c d : Int} (h : (a == c && b == d) = true) : a = c ∧ b = d := by simpa using h
theorem kk_no {a b c d : Int} (h : (a == c && b == d) = false) : ¬ (a = c ∧ b = d) := by simpa using h
theorem same_1 {s : Bool} {a b : CP} (h0 : (a.table != b.table) = false) (h : (a.kind == 1 && b.kind == 1) = true) : sameC s a b = true := by
  simp [sameC, tab_eq h0, (kk h).1, (kk h).2]
theorem same_2 {s : Bool} {a b : CP} (h0 : (a.table != b.table) = false) (h : (a.kind == 2 && b.kind == 2) = true) : sameC s a b = eqV a.key b.key := by
  simp [sameC, tab_eq h0, (kk h).1, (kk h).2]
theorem same_3 {s : Bool} {a b : CP} (h0 : (a.table != b.table) = false) (h : (a.kind == 3 && b.kind == 3) = true) : sameC s a b = s := by
  simp [sameC, tab_eq h0, (kk h).1, (kk h).2]
theorem same_0 {s : Bool} {a b : CP} (h1 : (a.kind == 1 && b.kind == 1) = false) (h2 : (a.kind == 2 && b.kind == 2) = false) (h3 : (a.kind == 3 && b.kind == 3) = false) : sameC s a b = false := by
  have k1 := kk_no h1; have k2 := kk_no h2; have k3 := kk_no h3
  unfold sameC
  by_cases e : a.kind = b.kind
  · have q1 : ¬ b.kind = 1 := fun h => k1 ⟨e.trans h, h⟩
    have q2 : ¬ b.kind = 2 := fun h => k2 ⟨e.trans h, h⟩
    have q3 : ¬ b.kind = 3 := fun h => k3 ⟨e.trans h, h⟩
    simp [e, q1, q2, q3]
  · simp [e]
set_option maxHeartbeats 2000000 in
theorem csame_any (a b : CP) (s : Bool) (hs : s = true ↔ a.p.bare = b.p.bare) (w : World) (ha : CIn w a) (hb : CIn w b) : Tells 15 #[a.val, b.val] w (.bool (sameC s a b)) := by
  have HP : Hid (∀ w1, Below w.heap.size w w1 → Tells 33 #[a.p.val, b.p.val] w1 (.bool s)) := fun w1 h => (psame_any a.p b.p w1 (ha.p.keep h) (hb.p.keep h)).mono (by
    rintro e w' ⟨b1, rfl, h1, h2⟩
    refine ⟨?_, h2⟩
    rw [Bool.eq_iff_iff.2 (h1.trans hs.symm)])
  have ek1 := fun w => eql_K a.kind b.kind 1 1 w
  have ek2 := fun w => eql_K a.kind b.kind 2 2 w
  have ek3 := fun w => eql_K a.kind b.kind 3 3 w
  have ev := fun w => eql_V a.key b.key w
  clear hs ha hb
  unfold PT.val at HP
  unfold CP.val
  cases h0 : (a.table != b.table)
  case true =>
    have HR : Hid _ := same_t (s := s) h0
    go_enter Tryd.func15, Tryd.ntmps15
    go_wp2_with fail
    go_ret
    exact ⟨ret_bool HR.out.symm, back1 (alloc1 _ _)⟩
  cases h1 : (a.kind == 1 && b.kind == 1)
  case true =>
    have HR : Hid _ := same_1 (s := s) h0 h1
    go_enter Tryd.func15, Tryd.ntmps15
    go_wp2_with fail
    go_ret
    exact ⟨ret_bool HR.out.symm, (by repeat (first | exact Below.refl _ _ | refine Below.setCell ?_ (by (simp; try omega)) _ | refine Below.alloc ?_ (by (simp; try omega)) _))⟩
  cases h2 : (a.kind == 2 && b.kind == 2)
  case true =>
    have HR : Hid _ := same_2 (s := s) h0 h2
    go_enter Tryd.func15, Tryd.ntmps15
    go_wp2_with fail
    go_ret
    exact ⟨ret_bool HR.out.symm, (by repeat (first | exact Below.refl _ _ | refine Below.setCell ?_ (by (simp; try omega)) _ | refine Below.alloc ?_ (by (simp; try omega)) _))⟩
  cases h3 : (a.kind == 3 && b.kind == 3)
  case true =>
    have HR : Hid _ := same_3 (s := s) h0 h3
    go_enter Tryd.func15, Tryd.ntmps15
    go_wp2_with fail
    refine Calls.mono (HP.out _ ?_) ?_
    · repeat (first | exact Below.refl _ _ | refine Below.setCell ?_ (by (simp; try omega)) _ | refine Below.alloc ?_ (by (simp; try omega)) _)
    rintro e w1 ⟨rfl, hb⟩
    have HB : Hid (Below w.heap.size w w1) := by
      refine Below.trans ?_ (hb.mono ?_)
      · repeat (first | exact Below.refl _ _ | refine Below.setCell ?_ (by (simp; try omega)) _ | refine Below.alloc ?_ (by (simp; try omega)) _)
      · (simp; try omega)
    clear hb HP
    go_wp2_with fail
    go_ret
    exact ⟨ret_bool HR.out.symm, HB.out⟩
  have HR : Hid _ := same_0 (s := s) h1 h2 h3
  go_enter Tryd.func15, Tryd.ntmps15
  go_wp2_with fail
  go_ret
  exact ⟨ret_bool HR.out.symm, (by repeat (first | exact Below.refl _ _ | refine Below.setCell ?_ (by (simp; try omega)) _ | refine Below.alloc ?_ (by (simp; try omega)) _))⟩
end Go.Proofs.YtkkbbpldeeajaaaDoor.Val
/- What claim.catches answers: does a predicate hold of what a writer may make of a row? -/
namespace Go.Proofs.YtkkbbpldeeajaaaDoor.Val
open Go.RowKit

theorem enters_catches1 : Enters 63 := enters_of Tryd.func63 (by decide +kernel) rfl
def caughtI (p : PT) (r : List Val) : Bool := !r.isEmpty && holdsP r p
set_option maxHeartbeats 2000000 in
theorem catches1_any (pb : Nat) (p : PT) (one : Bool) (q : Im) (w : World) (hp : In w p) (hb : Box w pb p) (hq : RowIn w q.v q.r) :
    Tells 63 #[.bool one, q.v, .pointer (some ⟨pb, 0, none⟩)] w (.bool (one || caughtI p q.r)) := by
  have H : Hid (∀ w1, Below w.heap.size w w1 → Tells 64 #[p.val, q.v] w1 (.bool (holdsP q.r p))) := fun w1 h => holds_any p q.v q.r w1 (hp.keep h) (hq.below h)
  obtain ⟨aq, cq, hv, hn⟩ := hq.slice
  obtain ⟨alv, clv, hlv, _⟩ := hp.lies.slice
  obtain ⟨c0, c1, c2, c3, c4, c5, c6, c7, c8⟩ := hb
  have hlt : pb < w.heap.size := World.block_lt_of_cell? w _ c0
  unfold PT.val at H
  rw [hv] at H ⊢
  rw [hlv] at H c8
  have HV : Hid (q.v = _) := hv
  clear hv hp hq hlv
  cases one
  case true =>
    clear H
    go_enter Tryd.func63, Tryd.ntmps63
    go_wp2_with fail
    go_ret
    exact ⟨rfl, Below.refl _ _⟩
  cases hr : q.r with
  | nil =>
    clear H HV
    simp only [List.length_nil]
    go_enter Tryd.func63, Tryd.ntmps63
    go_wp2_with fail
    go_ret
    exact ⟨rfl, Below.refl _ _⟩
  | cons x l =>
    have i1 : (0 : Int) < ((x :: l).length : Int) := by rw [List.length_cons]; omega
    rw [hr] at H hn
    have e1 : caughtI p (x :: l) = holdsP (x :: l) p := rfl
    rw [e1]
    clear HV hr e1
    generalize holdsP (x :: l) p = v at *
    generalize (x :: l).length = n at *
    go_enter Tryd.func63, Tryd.ntmps63
    go_wp2_with fail
    refine Calls.mono (H.out _ (Below.refl _ _)) ?_
    rintro e w1 ⟨rfl, hb⟩
    go_wp2_with fail
    go_ret
    exact ⟨rfl, hb⟩
theorem catch_mode {p : PT} {c : CP} (h : (c.mode == 6) = false) : catchC p c = false := by simp [catchC, h]
theorem catch_any {p : PT} {c : CP} (h : (c.mode == 6) = true) : catchC p c = c.rows.any (caughtI p) := by
  simp only [catchC, h, Bool.true_and]; rfl
theorem any_take {α : Type} (g : α → Bool) (l : List α) (k : Nat) (hk : k < l.length) : (l.take (k + 1)).any g = ((l.take k).any g || g l[k]) := by
  rw [List.take_add_one, List.getElem?_eq_getElem hk, List.any_append, Option.toList, List.any_cons, List.any_nil, Bool.or_false]
theorem all_take {α : Type} (g : α → Bool) (l : List α) (k : Nat) (hk : k < l.length) : (l.take (k + 1)).all g = ((l.take k).all g && g l[k]) := by
  rw [List.take_add_one, List.getElem?_eq_getElem hk, List.all_append, Option.toList, List.all_cons, List.all_nil, Bool.and_true]
set_option maxHeartbeats 2000000 in
theorem catches_any (p : PT) (c : CP) (w : World) (hp : In w p) (hc : CIn w c) : Tells 36 #[p.val, c.val] w (.bool (catchC p c)) := by
  have H : Hid (∀ w1, Below w.heap.size w w1 → Box w1 w.heap.size p → Tells 40 #[c.iv, .bool false, FV 63 #[] #[.pointer (some ⟨w.heap.size, 0, none⟩)]] w1 (.bool (c.rows.any (caughtI p)))) := fun w1 h hbx => by
    refine Calls.mono (throughB_any c.iv (.bool false) c.ims _ #[] _ w1 (fun k a w2 => a = .bool ((c.ims.take k).any fun q => caughtI p q.r) ∧ Below w1.heap.size w1 w2) ⟨rfl, Below.refl _ _⟩ enters_catches1 (fun k a w2 h2 => hc.ims.below (on h h2.2)) fun k hk a w2 h2 => ?_) ?_
    · obtain ⟨rfl, h2⟩ := h2
      refine Calls.mono (catches1_any w.heap.size p _ c.ims[k] w2 (hp.keep (on h h2)) (hbx.below h2) (((hc.ims.2 _ (List.getElem_mem hk))).below (on h h2))) ?_
      rintro e w3 ⟨rfl, hb⟩
      exact ⟨_, rfl, by rw [any_take _ _ _ hk], on h2 hb⟩
    · rintro e w2 ⟨a, rfl, rfl, hb⟩
      refine ⟨ret_b ?_, hb⟩
      rw [List.take_length, CP.rows, List.any_map]; rfl
  obtain ⟨alv, clv, hlv, _⟩ := hp.lies.slice
  obtain ⟨ai, ci, hiv, _⟩ := hc.ims.slice
  obtain ⟨alc, clc, hlc, _⟩ := hc.p.lies.slice
  have HX : Hid (Box ((w.alloc (pobj p 29)).alloc (cobj c 31)) w.heap.size p) := (Box.new w p 29).alloc _
  unfold PT.val CP.val
  unfold pobj cobj at HX
  rw [hiv] at H HX ⊢
  rw [hlv, hlc] at HX ⊢
  clear hp hc hiv hlc
  cases h6 : (c.mode == 6)
  · have HR : Hid (catchC p c = false) := catch_mode h6
    rw [HR.out]
    clear H HR
    go_enter Tryd.func36, Tryd.ntmps36
    go_wp2_with fail
    go_ret
    exact ⟨rfl, back1 (alloc1 _ _)⟩
  · rw [catch_any h6]
    generalize c.rows.any (caughtI p) = v at *
    go_enter Tryd.func36, Tryd.ntmps36
    go_wp2_with fail
    refine Calls.mono (H.out _ (back1 (alloc1 _ _)) ?_) ?_
    · exact HX.out
    rintro e w1 ⟨rfl, hb⟩
    go_wp2_with fail
    go_ret
    exact ⟨rfl, back2 hb⟩
end Go.Proofs.YtkkbbpldeeajaaaDoor.Val
