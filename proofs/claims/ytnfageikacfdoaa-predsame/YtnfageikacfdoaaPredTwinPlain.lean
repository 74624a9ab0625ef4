/- Plain: copies so far, from a number on. No program. -/
import Derived.Test.YtnfageikacfdoaaPredClone
import Derived.Deep.RegionLaw
namespace Go.Proofs.Ytnfageikacfdoaa.Val
open Go Go.RowKit

theorem step_append_own_at {P : Program} {ops : Array Oper} {o : Oper} {a : Act} {w : World} {K : Act → World → Prop} {Q : Exit → Act → World → Prop} {E : Prop}
    (hg : o.guard = none) (s x : Operand) (t : TypeId) (hop : o.op = Op.call { callee := Callee.builtin Builtin.append, args := #[s, x], argTypes := #[t, t] })
    (base : Nat) (e : TypeId) (i : TypeInfo) (z : Value) (size bytes : Nat) (h1 : P.underlying t = some (.slice e)) (h2 : P.info? e = some i) (h3 : i.zero = some z) (h4 : i.size = size) (h5 : i.bytes = bytes) (h6 : z.cells.size = size) (h7 : 0 < size)
    (v : Value) (n : Nat) (xs : List Value) (hs : a.eval s = v) (hown : w.ownsRow base e size v n xs)
    (ad : Addr) (m c : Nat) (news : List Value) (hx : a.eval x = .slice (some ad) m c) (hn : news.length = m * size) (hc : ∀ j u, news[j]? = some u → w.cell? (ad.add j) = some u) (h1c : ∀ u ∈ news, u.oneCell' = true)
    (b1 : n + m ≤ maxLen) (b2 : (n + m) * bytes ≤ 140737488355328) (hbase : base ≤ w.heap.size)
    (hK : ∀ v' w', w'.ownsRow base e size v' (n + m) (xs ++ news) → w.grownBy w' v.ownBlock → (v'.ownBlock = v.ownBlock ∨ v'.ownBlock = some w.heap.size) → K (a.put o.dst v') w') :
    if Region.wanted o (yielded ops a.tmps) = true then Oper.wp P o a w K Q else E := by
  have hw : Region.wanted o (yielded ops a.tmps) = true := by simp [Region.wanted, hg]
  rw [if_pos hw]
  obtain ⟨v', w', hrun, r1, r2, _, r3⟩ := run_append_own_at (P := P) w base t o.type e i z size bytes h1 h2 h3 h4 h5 h6 h7 v n xs hown ad m c news hn hc h1c b1 b2 hbase
  unfold Oper.wp
  simp [execOp, hop, resolve, invoke, builtin, hs, hx, hrun, Result.andThen]
  exact hK v' w' r1 r2 r3
/-- Copies so far: of the first k of a list, in blocks from B on. -/
def CLb (B : Nat) (wr : World) (T : TypeId) (l : List PT) (k : Nat) (own : Value) : Prop :=
  ∃ m : List PT, m.map PT.bare = (l.take k).map PT.bare ∧ wr.ownsRow B T 9 own k (m.flatMap PT.cells) ∧ (∀ q ∈ m, New wr T (fun b => B ≤ b ∧ own.ownBlock ≠ some b) q)
theorem CLb.start (B : Nat) (w : World) (T : TypeId) (l : List PT) : CLb B w T l 0 (.slice none 0 0) := ⟨[], by simp, World.ownsRow_nil _ _ _ _, by simp⟩
theorem CLb.sv {B : Nat} {X : Nat → Prop} {w w' : World} {T : TypeId} {l : List PT} {k : Nat} {own : Value} (h : CLb B w T l k own) (hs : Sv X w w') (hx : ∀ b, B ≤ b → ¬ X b) : CLb B w' T l k own := by
  obtain ⟨m, h1, h2, h3⟩ := h
  exact ⟨m, h1, owns_sv h2 hs fun g hg => hx g (World.ownsRow.lt h2 g hg).1, fun q hq => (h3 q hq).sv hs fun b hb => hx b hb.1⟩
theorem CLb.done {B : Nat} {wr : World} {T : TypeId} {l : List PT} {own : Value} (h : CLb B wr T l l.length own) : ∃ m : List PT, m.map PT.bare = l.map PT.bare ∧ NewL wr T (fun b => B ≤ b) own m := by
  obtain ⟨m, h1, h2, h3⟩ := h
  rw [List.take_length] at h1
  have hlen : m.length = l.length := by have := congrArg List.length h1; simpa using this
  refine ⟨m, h1, ⟨?_, fun g hg => (World.ownsRow.lt h2 g hg).1, fun p hp => (h3 p hp).imp fun b hb _ => hb.1⟩⟩
  rw [hlen]
  exact owns_base h2 fun g hg => Nat.zero_le _
theorem CLb.slice {B : Nat} {wr : World} {T : TypeId} {l : List PT} {k : Nat} {own : Value} (h : CLb B wr T l k own) : ∃ ao n c, own = .slice ao n c := by
  obtain ⟨m, _, h2, _⟩ := h
  obtain ⟨ao, c, e, _⟩ := (owns_lies h2).slice
  exact ⟨ao, k, c, e⟩
/-- What the append is handed. -/
theorem CLb.owns {B : Nat} {wr wb : World} {T : TypeId} {l : List PT} {k : Nat} {own : Value} (h : CLb B wr T l k own) (hB : B ≤ wr.heap.size) (hb : Below wr.heap.size wr wb) : ∃ m : List PT, wb.ownsRow B T 9 own k (m.flatMap PT.cells) ∧ B ≤ wb.heap.size ∧
    ∀ (q : PT) (wa w2 : World) (v' : Value) (hk : k < l.length), wr.heap.size ≤ wa.heap.size → q.bare = l[k].bare → New wb T (fun b => wa.heap.size ≤ b) q → w2.ownsRow B T 9 v' (k + 1) (m.flatMap PT.cells ++ q.cells) → wb.grownBy w2 own.ownBlock → (v'.ownBlock = own.ownBlock ∨ v'.ownBlock = some wb.heap.size) → CLb B w2 T l (k + 1) v' ∧ Sv (fun b => B ≤ b) wb w2 := by
  obtain ⟨m, h1, h2, h3⟩ := h
  have h2' : wb.ownsRow B T 9 own k (m.flatMap PT.cells) := owns_sv (X := Nothing) h2 (Sv.of hb) fun _ _ h => h
  refine ⟨m, h2', Nat.le_trans hB hb.size, fun q wa w2 v' hk ha hq hn ho hg hat => ?_⟩
  have hlt : ∀ g, own.ownBlock = some g → B ≤ g ∧ g < wr.heap.size := World.ownsRow.lt h2
  have hsv : Sv (fun b => own.ownBlock = some b) wb w2 := ⟨hg.os, hg.tape, hg.output, hg.size, fun b hb hx => hg.block b hb fun e => hx e.symm⟩
  have hsv' : Sv (fun b => B ≤ b) wb w2 := ⟨hg.os, hg.tape, hg.output, hg.size, fun b hb hx => hg.block b hb fun e => hx (hlt b e.symm).1⟩
  have hfin : ∀ b, B ≤ b ∧ own.ownBlock ≠ some b → b < wb.heap.size → B ≤ b ∧ v'.ownBlock ≠ some b := fun b hb1 hb2 => ⟨hb1.1, fun e => by
    rcases hat with hat | hat
    · exact hb1.2 (by rw [← hat]; exact e)
    · rw [hat] at e; have := Option.some.inj e; omega⟩
  refine ⟨⟨m ++ [q], ?_, ?_, ?_⟩, hsv'⟩
  · rw [List.map_append, h1, List.take_add_one, List.map_append, List.getElem?_eq_getElem hk]
    simp [hq]
  · rw [List.flatMap_append]; simpa using ho
  · intro p hp
    rcases List.mem_append.1 hp with hp | hp
    · have n1 : New wb T (fun b => B ≤ b ∧ own.ownBlock ≠ some b) p := (h3 p hp).keep hb
      exact (n1.imp (Q := fun b => (B ≤ b ∧ own.ownBlock ≠ some b) ∧ (B ≤ b ∧ v'.ownBlock ≠ some b)) fun b h1 h2 => ⟨h1, hfin b h1 h2⟩).sv hsv (fun b hb e => hb.1.2 e) |>.imp fun b hb _ => hb.2
    · rw [List.mem_singleton] at hp
      subst hp
      have n1 : New wb T (fun b => B ≤ b ∧ own.ownBlock ≠ some b) p := hn.imp fun b hb _ => ⟨by omega, fun e => by have := hlt b e; omega⟩
      exact (n1.imp (Q := fun b => (B ≤ b ∧ own.ownBlock ≠ some b) ∧ (B ≤ b ∧ v'.ownBlock ≠ some b)) fun b h1 h2 => ⟨h1, hfin b h1 h2⟩).sv hsv (fun b hb e => hb.1.2 e) |>.imp fun b hb _ => hb.2
/-- The boxes of what is copied and of what is answered. -/
structure TW (N : Nat) (p : PT) (own : Value) (w : World) : Prop where
  pb : Box w N (PT.mk p.op p.col p.v p.w own [])
  z : Box w (N + 1) PT.zero
  f0 : ∀ j, w.frozen? ⟨N, j, none⟩ = false
  f1 : ∀ j, w.frozen? ⟨N + 1, j, none⟩ = false
theorem TW.sv {N : Nat} {p : PT} {own : Value} {X : Nat → Prop} {w w' : World} (h : TW N p own w) (hs : Sv X w w') (hx : ¬ X N) (hx' : ¬ X (N + 1)) : TW N p own w' :=
  ⟨h.pb.sv hs hx, h.z.sv hs hx', fun j => by rw [hs.frozen (p := ⟨N, j, none⟩) h.pb.lt hx]; exact h.f0 j, fun j => by rw [hs.frozen (p := ⟨N + 1, j, none⟩) h.z.lt hx']; exact h.f1 j⟩
theorem TW.below {N : Nat} {p : PT} {own : Value} {w w' : World} (h : TW N p own w) (hb : Below w.heap.size w w') : TW N p own w' := h.sv (X := Nothing) (Sv.of hb) (fun h => h) (fun h => h)
theorem TW.set {N : Nat} {p : PT} {own : Value} {w : World} (h : TW N p own w) (v : Value) : TW N p v (w.setCell ⟨N, 8, none⟩ v) := by
  have hne : ∀ j, j ≠ 8 → (w.setCell ⟨N, 8, none⟩ v).cell? ⟨N, j, none⟩ = w.cell? ⟨N, j, none⟩ := fun j hj => World.cell?_setCell_other _ _ _ _ (by intro e; injection e; omega)
  have hs : Sv (fun b => b = N) w (w.setCell ⟨N, 8, none⟩ v) := Sv.set (X := fun b => b = N) (Sv.refl _ w) (a := ⟨N, 8, none⟩) (show N = N from rfl) v
  refine ⟨⟨?_, ?_, ?_, ?_, ?_, ?_, ?_, ?_, ?_⟩, h.z.sv hs (by omega), fun j => by rw [World.frozen?_setCell]; exact h.f0 j, fun j => by rw [World.frozen?_setCell]; exact h.f1 j⟩
  · rw [hne 0 (by omega)]; exact h.pb.c0
  · rw [hne 1 (by omega)]; exact h.pb.c1
  · rw [hne 2 (by omega)]; exact h.pb.c2
  · rw [hne 3 (by omega)]; exact h.pb.c3
  · rw [hne 4 (by omega)]; exact h.pb.c4
  · rw [hne 5 (by omega)]; exact h.pb.c5
  · rw [hne 6 (by omega)]; exact h.pb.c6
  · rw [hne 7 (by omega)]; exact h.pb.c7
  · exact World.cell?_setCell_same' _ _ _ (by rw [h.pb.c8]; rfl)
end Go.Proofs.Ytnfageikacfdoaa.Val
