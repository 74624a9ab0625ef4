/- An append to a row of the call's own, as a step of a region that draws its order. -/
import Derived.Test.YtkkbbpldeeajaaaDoorUP
import Derived.Deep.RegionLaw
import Derived.Test.YtkkbbpldeeajaaaDoorUC5
import Derived.Test.YtkkbbpldeeajaaaDoorUC4
namespace Go.Proofs.YtkkbbpldeeajaaaDoor.Val
open Go Go.RowKit

theorem step_append_own_at {P : Program} {ops : Array Oper} {o : Oper} {a : Act} {w : World} {K : Act → World → Prop} {Q : Exit → Act → World → Prop} {E : Prop}
    (hg : o.guard = none) (s x : Operand) (t : TypeId) (hop : o.op = Op.call { callee := Callee.builtin Builtin.append, args := #[s, x], argTypes := #[t, t] })
    (base : Nat) (e : TypeId) (i : TypeInfo) (z : Value) (size bytes : Nat) (h1 : P.underlying t = some (.slice e)) (h2 : P.info? e = some i) (h3 : i.zero = some z) (h4 : i.size = size) (h5 : i.bytes = bytes) (h6 : z.cells.size = size) (h7 : 0 < size)
    (v : Value) (n : Nat) (xs : List Value) (hs : a.eval s = v) (hown : w.ownsRow base e size v n xs)
    (ad : Addr) (m c : Nat) (news : List Value) (hx : a.eval x = .slice (some ad) m c) (hn : news.length = m * size) (hc : ∀ j u, news[j]? = some u → w.cell? (ad.add j) = some u) (h1c : ∀ u ∈ news, u.oneCell' = true)
    (b1 : n + m ≤ maxLen) (b2 : (n + m) * bytes ≤ 140737488355328) (hbase : base ≤ w.heap.size)
    (hK : ∀ v' w', w'.ownsRow base e size v' (n + m) (xs ++ news) → w.grownBy w' v.ownBlock → (v'.ownBlock = v.ownBlock ∨ v'.ownBlock = some w.heap.size) → K (a.put o.dst v') w') :
    if Region.wanted o (yielded ops a.tmps) = true then Oper.wp P o a w K Q else E := by
  have hw : Region.wanted o (yielded ops a.tmps) = true := by simp [Region.wanted, hg]
  rw [if_pos hw]
  obtain ⟨v', w', hrun, r1, r2, _, r3⟩ := run_append_own_at (P := P) w base t o.type e i z size bytes h1 h2 h3 h4 h5 h6 h7 v n xs hown ad m c news hn hc h1c b1 b2 hbase
  unfold Oper.wp
  simp [execOp, hop, resolve, invoke, builtin, hs, hx, hrun, Result.andThen]
  exact hK v' w' r1 r2 r3
end Go.Proofs.YtkkbbpldeeajaaaDoor.Val
/- Plain: images turned about and doubled; the boxes of the law ClaimImages. -/
namespace Go.Proofs.YtkkbbpldeeajaaaDoor.Val
open Go Go.RowKit
set_option maxRecDepth 100000

/-- A claim with its images turned about, and behind these the images once more. -/
def turnedC (a : CP) (v : Value) : CP := { a with iv := v, ims := a.ims.reverse ++ a.ims }
theorem turned_any (a : CP) (v : Value) (f : List Val → Bool) : (turnedC a v).rows.any f = a.rows.any f := by
  simp [turnedC, CP.rows]
theorem turned_all (a : CP) (v : Value) (f : List Val → Bool) : (turnedC a v).rows.all f = a.rows.all f := by
  simp [turnedC, CP.rows]
theorem turned_catch (a : CP) (v : Value) (p : PT) : catchC p (turnedC a v) = catchC p a := by
  unfold catchC
  rw [turned_any]
  rfl
theorem turned_conflict (a b : CP) (v : Value) : conflictC (turnedC a v) b = conflictC a b := by
  unfold conflictC
  rw [turned_catch]
  have : ∀ c, catchC (turnedC a v).p c = catchC a.p c := fun _ => rfl
  rw [this]
  rfl
theorem turned_covers (s : Bool) (a b : CP) (v : Value) : coversC s (turnedC a v) b = coversC s a b := by
  unfold coversC
  have : hasI (turnedC a v).rows = hasI a.rows := funext fun r => turned_any a v _
  rw [this]
  rfl
theorem turned_covered (s : Bool) (a b : CP) (v : Value) : coversC s b (turnedC a v) = coversC s b a := by
  unfold coversC
  rw [turned_all]
  rfl
/-- The law's boxes: the two claims', and that of the claim whose images are being laid. -/
structure IX (w0 w : World) (a b : CP) (C : Nat) (own : Value) (m : List Im) : Prop where
  ab : AB w0 w a b
  cc : CB w C { a with iv := own, ims := m }
  own : w.ownsRow (w0.heap.size + 2) TRo 1 own m.length (m.map Im.v)
  lo : w0.heap.size + 2 ≤ C
theorem IX.below {w0 w w' : World} {a b : CP} {C : Nat} {own : Value} {m : List Im} (h : IX w0 w a b C own m) (hb : Below w.heap.size w w') : IX w0 w' a b C own m :=
  ⟨h.ab.below hb, h.cc.below hb, owns_sv (X := Nothing) h.own (Sv.of hb) (fun _ _ h => h), h.lo⟩
theorem IX.size {w0 w : World} {a b : CP} {C : Nat} {own : Value} {m : List Im} (h : IX w0 w a b C own m) : w0.heap.size + 2 ≤ w.heap.size := by have := h.cc.lt; have := h.lo; omega
theorem AB.sv {X : Nat → Prop} {w0 w w' : World} {a b : CP} (h : AB w0 w a b) (hs : Sv X w w') (hx : ∀ k, k < w0.heap.size + 2 → ¬ X k) : AB w0 w' a b :=
  ⟨h.ca.sv hs (hx _ (by omega)), h.cb.sv hs (hx _ (by omega)), h.bel.trans (hs.below h.bel.size fun k hk => hx k (by omega))⟩
/-- One more image is appended. -/
theorem IX.grown {w0 w w' : World} {a b : CP} {C : Nat} {own : Value} {m : List Im} (h : IX w0 w a b C own m) (hg : w.grownBy w' own.ownBlock) : AB w0 w' a b ∧ CB w' C { a with iv := own, ims := m } ∧ Below (w0.heap.size + 2) w w' := by
  have hsv : Sv (fun b => own.ownBlock = some b) w w' := ⟨hg.os, hg.tape, hg.output, hg.size, fun b hb hx => hg.block b hb fun e => hx e.symm⟩
  have hlo : ∀ k, k < w0.heap.size + 2 → ¬ own.ownBlock = some k := fun k hk e => by
    have := (World.ownsRow.lt h.own k e).1
    omega
  exact ⟨h.ab.sv hsv hlo, h.cc.sv hsv (h.cc.notOwn h.own), hsv.below h.size hlo⟩
/-- And stored. -/
theorem IX.put {w0 w : World} {a b : CP} {C : Nat} {own v : Value} {m m' : List Im} (hab : AB w0 w a b) (hc : CB w C { a with iv := own, ims := m }) (hl : w0.heap.size + 2 ≤ C) (ho : w.ownsRow (w0.heap.size + 2) TRo 1 v m'.length (m'.map Im.v)) : IX w0 (w.setCell ⟨C, 6, none⟩ v) a b C v m' := by
  have hs : Sv (· = C) w (w.setCell ⟨C, 6, none⟩ v) := Sv.set (X := (· = C)) (Sv.refl _ w) (a := ⟨C, 6, none⟩) rfl _
  refine ⟨hab.sv hs fun k hk e => by omega, hc.set_iv v m', ?_, hl⟩
  exact owns_sv ho hs fun _ hg e => hc.notOwn ho (e ▸ hg)
theorem IX.isIn {w0 w : World} {a b : CP} {C : Nat} {own : Value} (h : IX w0 w a b C own (a.ims.reverse ++ a.ims)) (ha : CIn w a) : CIn w (turnedC a own) :=
  ⟨ha.key, ⟨owns_lies h.own, fun i hi => ha.ims.2 i (by simpa [turnedC] using hi)⟩, ha.p⟩
theorem own_snoc {w : World} {B : Nat} {v : Value} {m : List Im} {i : Im} (h : w.ownsRow B TRo 1 v (m.length + 1) (m.map Im.v ++ [i.v])) : w.ownsRow B TRo 1 v (m ++ [i]).length ((m ++ [i]).map Im.v) := by simpa using h
theorem rev_take (l : List Im) (j : Nat) (h : j < l.length) : l.reverse.take (l.length - j) = l.reverse.take (l.length - (j + 1)) ++ [l[j]] := by
  rw [show l.length - j = (l.length - (j + 1)) + 1 by omega, List.take_add_one, List.getElem?_eq_getElem (by rw [List.length_reverse]; omega), List.getElem_reverse]
  congr 1
  simp only [Option.toList_some, List.cons.injEq, and_true]
  congr 1
  omega
theorem for_take (l : List Im) (j : Nat) (h : j < l.length) : l.reverse ++ l.take (j + 1) = (l.reverse ++ l.take j) ++ [l[j]] := by
  rw [List.take_add_one, List.getElem?_eq_getElem h, List.append_assoc]
  rfl
end Go.Proofs.YtkkbbpldeeajaaaDoor.Val
