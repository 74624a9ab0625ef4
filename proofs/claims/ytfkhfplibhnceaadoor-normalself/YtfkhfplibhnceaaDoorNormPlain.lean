/- Plain: spans of values and their ends. No program. -/
import Derived.Test.YtfkhfplibhnceaaDoorPredPlain
namespace Go.Proofs.YtfkhfplibhnceaaDoor.Val
open Go Go.RowKit

/-- One end of a span. -/
structure En where
  has : Bool
  op : Bool
  x : Val
/-- A span. -/
structure Sp where
  no : Bool
  hl : Bool
  ol : Bool
  lo : Val
  hh : Bool
  oh : Bool
  hi : Val
def En.zero : En := ⟨false, false, Val.zero⟩
def Sp.all : Sp := ⟨false, false, false, Val.zero, false, false, Val.zero⟩
def Sp.none : Sp := ⟨true, false, false, Val.zero, false, false, Val.zero⟩
abbrev EV (h o t : Bool) (n : Int) (s : ByteArray) : Value := .agg #[.bool h, .bool o, .bool t, .int .i64 n, .string s]
abbrev SV (o h l t : Bool) (n : Int) (s : ByteArray) (h' l' t' : Bool) (n' : Int) (s' : ByteArray) : Value := .agg #[.bool o, .bool h, .bool l, .bool t, .int .i64 n, .string s, .bool h', .bool l', .bool t', .int .i64 n', .string s']
def En.val (e : En) : Value := EV e.has e.op e.x.t e.x.n e.x.s
def Sp.val (s : Sp) : Value := SV s.no s.hl s.ol s.lo.t s.lo.n s.lo.s s.hh s.oh s.hi.t s.hi.n s.hi.s
def eqE (a b : En) : Bool := a.has == b.has && (a.op == b.op && eqV a.x b.x)
theorem eqE_iff {a b : En} : eqE a b = true ↔ a = b := by
  cases a; cases b
  simp [eqE, eqV_iff]
def eqS (a b : Sp) : Bool := a.no == b.no && (a.hl == b.hl && (a.ol == b.ol && (eqV a.lo b.lo && (a.hh == b.hh && (a.oh == b.oh && eqV a.hi b.hi)))))
theorem eqS_iff {a b : Sp} : eqS a b = true ↔ a = b := by
  cases a; cases b
  simp [eqS, eqV_iff]
/-- There is no end. -/
def isZ (e : En) : Bool := eqE e En.zero
theorem isZ_iff {e : En} : isZ e = true ↔ e = En.zero := eqE_iff
def lowE (s : Sp) : En := if s.hl then ⟨true, s.ol, s.lo⟩ else En.zero
def uppE (s : Sp) : En := if s.hh then ⟨true, s.oh, s.hi⟩ else En.zero
def closedE (v : Val) : En := ⟨true, false, v⟩
def openE (v : Val) : En := ⟨true, true, v⟩
def sideB (c : Int) (o : Bool) : Bool := decide (0 < c) || (c == 0 && o)
def apartE (lo hi : En) : Bool := !(isZ lo || isZ hi) && sideB (cmpX lo.x hi.x) (lo.op || hi.op)
def btw (lo hi : En) : Sp := if apartE lo hi then Sp.none else ⟨false, lo.has, lo.op, lo.x, hi.has, hi.op, hi.x⟩
def cleanS (s : Sp) : Sp := if s.no then Sp.none else btw (lowE s) (uppE s)
def withinS (s : Sp) (v : Val) : Bool := !s.no && (!apartE (lowE s) (closedE v) && !apartE (closedE v) (uppE s))
def chosenE (a b : En) (side : Int) (o : Bool) : En := if cmpX a.x b.x = side then a else if cmpX a.x b.x = -side then b else ⟨a.has, o, a.x⟩
def innerE (a b : En) (side : Int) : En := if isZ a then b else if isZ b then a else chosenE a b side (a.op || b.op)
def outerE (a b : En) (side : Int) : En := if isZ a || isZ b then En.zero else chosenE a b side (a.op && b.op)
def meetC (a b : Sp) : Sp := if a.no || b.no then Sp.none else btw (innerE (lowE a) (lowE b) 1) (innerE (uppE a) (uppE b) (-1))
def hullC (a b : Sp) : Sp := if a.no then b else if b.no then a else btw (outerE (lowE a) (lowE b) (-1)) (outerE (uppE a) (uppE b) 1)
def meetS (a b : Sp) : Sp := meetC (cleanS a) (cleanS b)
def hullS (a b : Sp) : Sp := hullC (cleanS a) (cleanS b)
/-- Its texts are as long as texts can be. -/
def En.ok (e : En) : Prop := e.x.s.size ≤ maxLen
def Sp.ok (s : Sp) : Prop := s.lo.s.size ≤ maxLen ∧ s.hi.s.size ≤ maxLen

/-- An end in a block of its own. -/
structure EBox (w : World) (b : Nat) (e : En) : Prop where
  c0 : w.cell? ⟨b, 0, none⟩ = some (.bool e.has)
  c1 : w.cell? ⟨b, 1, none⟩ = some (.bool e.op)
  c2 : w.cell? ⟨b, 2, none⟩ = some (.bool e.x.t)
  c3 : w.cell? ⟨b, 3, none⟩ = some (.int .i64 e.x.n)
  c4 : w.cell? ⟨b, 4, none⟩ = some (.string e.x.s)
abbrev eobj (e : En) (T : TypeId) : Obj := .cells #[.bool e.has, .bool e.op, .bool e.x.t, .int .i64 e.x.n, .string e.x.s] T
theorem EBox.lt {w : World} {b : Nat} {e : En} (h : EBox w b e) : b < w.heap.size := World.block_lt_of_cell? w _ h.c0
theorem EBox.below {w w' : World} {b : Nat} {e : En} (h : EBox w b e) (hb : Below w.heap.size w w') : EBox w' b e := by
  have hlt := h.lt
  obtain ⟨c0, c1, c2, c3, c4⟩ := h
  constructor <;> rw [hb.cell hlt] <;> assumption
theorem EBox.new (w : World) (e : En) (T : TypeId) : EBox (w.alloc (eobj e T)) w.heap.size e := by constructor <;> simp [go_sem]
theorem EBox.alloc {w : World} {b : Nat} {e : En} (h : EBox w b e) (o : Obj) : EBox (w.alloc o) b e := h.below ((Below.refl _ _).alloc (Nat.le_refl _) _)
/-- A span in a block of its own. -/
structure SBox (w : World) (b : Nat) (s : Sp) : Prop where
  c0 : w.cell? ⟨b, 0, none⟩ = some (.bool s.no)
  c1 : w.cell? ⟨b, 1, none⟩ = some (.bool s.hl)
  c2 : w.cell? ⟨b, 2, none⟩ = some (.bool s.ol)
  c3 : w.cell? ⟨b, 3, none⟩ = some (.bool s.lo.t)
  c4 : w.cell? ⟨b, 4, none⟩ = some (.int .i64 s.lo.n)
  c5 : w.cell? ⟨b, 5, none⟩ = some (.string s.lo.s)
  c6 : w.cell? ⟨b, 6, none⟩ = some (.bool s.hh)
  c7 : w.cell? ⟨b, 7, none⟩ = some (.bool s.oh)
  c8 : w.cell? ⟨b, 8, none⟩ = some (.bool s.hi.t)
  c9 : w.cell? ⟨b, 9, none⟩ = some (.int .i64 s.hi.n)
  c10 : w.cell? ⟨b, 10, none⟩ = some (.string s.hi.s)
abbrev sobj (s : Sp) (T : TypeId) : Obj := .cells #[.bool s.no, .bool s.hl, .bool s.ol, .bool s.lo.t, .int .i64 s.lo.n, .string s.lo.s, .bool s.hh, .bool s.oh, .bool s.hi.t, .int .i64 s.hi.n, .string s.hi.s] T
theorem SBox.lt {w : World} {b : Nat} {s : Sp} (h : SBox w b s) : b < w.heap.size := World.block_lt_of_cell? w _ h.c0
theorem SBox.below {w w' : World} {b : Nat} {s : Sp} (h : SBox w b s) (hb : Below w.heap.size w w') : SBox w' b s := by
  have hlt := h.lt
  obtain ⟨c0, c1, c2, c3, c4, c5, c6, c7, c8, c9, c10⟩ := h
  constructor <;> rw [hb.cell hlt] <;> assumption
theorem SBox.new (w : World) (s : Sp) (T : TypeId) : SBox (w.alloc (sobj s T)) w.heap.size s := by constructor <;> simp [go_sem]
theorem SBox.alloc {w : World} {b : Nat} {s : Sp} (h : SBox w b s) (o : Obj) : SBox (w.alloc o) b s := h.below ((Below.refl _ _).alloc (Nat.le_refl _) _)
/-- A block that may be written. -/
def Fr (w : World) (b : Nat) : Prop := b < w.heap.size ∧ ∀ j, w.frozen? ⟨b, j, none⟩ = false
theorem Fr.below {w w' : World} {b : Nat} (h : Fr w b) (hb : Below w.heap.size w w') : Fr w' b := ⟨Nat.lt_of_lt_of_le h.1 hb.size, fun j => by rw [hb.frozen h.1]; exact h.2 j⟩
theorem Fr.new (w : World) (cs : Array Value) (T : TypeId) : Fr (w.alloc (.cells cs T)) w.heap.size := ⟨by simp, fun j => by simp [go_sem]⟩
theorem Fr.alloc {w : World} {b : Nat} (h : Fr w b) (o : Obj) : Fr (w.alloc o) b := h.below ((Below.refl _ _).alloc (Nat.le_refl _) _)
end Go.Proofs.YtfkhfplibhnceaaDoor.Val
