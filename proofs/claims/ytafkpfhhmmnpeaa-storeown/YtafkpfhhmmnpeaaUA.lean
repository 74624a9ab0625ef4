/- Plain facts on rows of the call's own: what they hold, kept and stored into. No program. -/
import Derived.Test.YtafkpfhhmmnpeaaU1
import Derived.RangeFuncNested
namespace Go.Proofs.Ytafkpfhhmmnpeaa.Val
open Go Go.RowKit

/-- A row of the call's own, of values. -/
def OwnRow (w : World) (base : Nat) (T : TypeId) (v : Value) (xs : List Val) : Prop := w.ownsRow base T 3 v xs.length (xs.flatMap Val.cells)
theorem OwnRow.isIn {w : World} {base : Nat} {T : TypeId} {v : Value} {xs : List Val} (h : OwnRow w base T v xs) : RowIn w v xs := by
  rcases h.2 with ⟨rfl, h0⟩ | ⟨g, cap, cur, rfl, hb, hg, hn, hm, hs, ht⟩
  · have : xs = [] := List.eq_nil_of_length_eq_zero h0
    subst this
    exact ⟨none, 0, rfl, Nat.le_refl _, Nat.zero_le _, fun _ => ⟨rfl, rfl⟩, .inl rfl⟩
  · refine ⟨some ⟨g, 0, none⟩, cap, rfl, hn, hm, fun h => (by cases h), .inr ⟨g, 0, rfl, fun j u hj => ?_⟩⟩
    have := World.ownsRow.cells h (g := g) rfl j u hj
    rw [Addr.add_lit] at this
    exact this
theorem OwnRow.below {w w' : World} {base : Nat} {T : TypeId} {v : Value} {xs : List Val} (h : OwnRow w base T v xs) (hb : Below w.heap.size w w') : OwnRow w' base T v xs := by
  refine ⟨h.1, ?_⟩
  rcases h.2 with hn | ⟨g, cap, cur, rfl, hb', hg, rest⟩
  · exact .inl hn
  · refine .inr ⟨g, cap, cur, rfl, hb', ?_, rest⟩
    rw [hb.block g (Array.getElem?_eq_some_iff.1 hg).1]; exact hg
theorem OwnRow.mono {w : World} {base base' : Nat} {T : TypeId} {v : Value} {xs : List Val} (h : OwnRow w base T v xs) (hb : base' ≤ base) : OwnRow w base' T v xs := by
  refine ⟨h.1, ?_⟩
  rcases h.2 with hn | ⟨g, cap, cur, rfl, hb', rest⟩
  · exact .inl hn
  · exact .inr ⟨g, cap, cur, rfl, Nat.le_trans hb hb', rest⟩
theorem OwnRow.nil (w : World) (base : Nat) (T : TypeId) : OwnRow w base T (.slice none 0 0) [] := World.ownsRow_nil w base T 3
theorem flat_set (xs : List Val) (c : Nat) (x : Val) (hc : c < xs.length) :
    (((xs.flatMap Val.cells).set (c * 3) (.bool x.t)).set (c * 3 + 1) (.int .i64 x.n)).set (c * 3 + 2) (.string x.s) = (xs.set c x).flatMap Val.cells := by
  induction xs generalizing c with
  | nil => simp at hc
  | cons y l ih =>
    cases c with
    | zero => simp [Val.cells]
    | succ c =>
      have := ih c (by simpa using hc)
      simp only [List.flatMap_cons, List.set_cons_succ, ← this, Val.cells]
      rw [show (c + 1) * 3 = c * 3 + 1 + 1 + 1 by omega, show c * 3 + 1 + 1 + 1 + 1 = (c * 3 + 1) + 1 + 1 + 1 by omega, show c * 3 + 1 + 1 + 1 + 2 = (c * 3 + 2) + 1 + 1 + 1 by omega]
      simp
/-- A value stored into a row of the call's own. -/
theorem OwnRow.store {w : World} {base : Nat} {T : TypeId} {g n cap : Nat} {xs : List Val} (h : OwnRow w base T (.slice (some ⟨g, 0, none⟩) n cap) xs) (c : Nat) (hc : c < xs.length) (x : Val) :
    OwnRow (((w.setCell ⟨g, c * 3, none⟩ (.bool x.t)).setCell ⟨g, c * 3 + 1, none⟩ (.int .i64 x.n)).setCell ⟨g, c * 3 + 2, none⟩ (.string x.s)) base T (.slice (some ⟨g, 0, none⟩) n cap) (xs.set c x) := by
  have e : n = xs.length := by
    rcases h.2 with ⟨e, _⟩ | ⟨g', cap', cur, e, _⟩ <;> cases e; rfl
  subst e
  have h1 := (World.ownsRow.stored h (c * 3) (.bool x.t)).1
  have h2 := (World.ownsRow.stored h1 (c * 3 + 1) (.int .i64 x.n)).1
  have h3 := (World.ownsRow.stored h2 (c * 3 + 2) (.string x.s)).1
  rw [flat_set xs c x hc] at h3
  unfold OwnRow
  rw [List.length_set]
  exact h3
/-- Its cells may be written. -/
theorem OwnRow.free {w : World} {base : Nat} {T : TypeId} {g n cap : Nat} {xs : List Val} (h : OwnRow w base T (.slice (some ⟨g, 0, none⟩) n cap) xs) (j : Nat) : w.frozen? ⟨g, j, none⟩ = false := by
  have e : n = xs.length := by
    rcases h.2 with ⟨e, _⟩ | ⟨g', cap', cur, e, _⟩ <;> cases e; rfl
  subst e
  exact World.ownsRow.frozenAt h j
/-- A row of the call's own that isn't empty has a place. -/
theorem OwnRow.place {w : World} {base : Nat} {T : TypeId} {v : Value} {xs : List Val} (h : OwnRow w base T v xs) (hn : 0 < xs.length) : ∃ g cap, v = .slice (some ⟨g, 0, none⟩) xs.length cap ∧ base ≤ g ∧ g < w.heap.size := by
  rcases h.2 with ⟨_, h0⟩ | ⟨g, cap, cur, rfl, hb, hg, _⟩
  · omega
  · exact ⟨g, cap, rfl, hb, (Array.getElem?_eq_some_iff.1 hg).1⟩
theorem cells_one (xs : List Val) : ∀ u ∈ xs.flatMap Val.cells, u.oneCell' = true := by
  intro u hu
  obtain ⟨x, _, hx⟩ := List.mem_flatMap.1 hu
  simp only [Val.cells, List.mem_cons, List.not_mem_nil, or_false] at hx
  rcases hx with rfl | rfl | rfl <;> rfl
end Go.Proofs.Ytafkpfhhmmnpeaa.Val
/- Plain: rows of rows (a claim's images, a store's rows): where they lie; in memory of the call's own. No program. -/
namespace Go.Proofs.Ytafkpfhhmmnpeaa.Val
open Go Go.RowKit

/-- A row, with the slice in which it lies. -/
structure Im where
  v : Value
  r : List Val
/-- Rows lie in memory. -/
def ImsIn (w : World) (iv : Value) (l : List Im) : Prop := Lies w iv l.length (l.map Im.v) ∧ ∀ i ∈ l, RowIn w i.v i.r
theorem ImsIn.below {w w' : World} {iv : Value} {l : List Im} (h : ImsIn w iv l) (hb : Below w.heap.size w w') : ImsIn w' iv l := ⟨h.1.below hb, fun i hi => (h.2 i hi).below hb⟩
theorem ImsIn.at {w : World} {ao : Option Addr} {c n : Nat} {l : List Im} (h : ImsIn w (.slice ao n c) l) (k : Nat) (hk : k < l.length) :
    ∃ b o, ao = some ⟨b, o, none⟩ ∧ w.cell? ⟨b, o + k, none⟩ = some l[k].v := by
  obtain ⟨ao', c', e, h1, h2, h0, h3⟩ := h.1
  cases e
  rcases h3 with h3 | ⟨b, o, rfl, h3⟩
  · have : l = [] := by simpa using h3
    subst this; simp at hk
  · exact ⟨b, o, rfl, h3 k _ (by simp [hk])⟩
theorem ImsIn.slice {w : World} {iv : Value} {l : List Im} (h : ImsIn w iv l) : ∃ ao c, iv = .slice ao l.length c ∧ l.length ≤ 9223372036854775807 := h.1.slice
abbrev TRo : TypeId := 34
abbrev TVa : TypeId := 32
theorem info_R : (Try.prog.info? 34).map (fun i => (i.zero, i.size, i.bytes)) = some (some (.slice none 0 0), 1, 24) := by kernel_rfl
theorem ims_lies {w : World} {b s : Nat} {T : TypeId} {v : Value} {n : Nat} {xs : List Value} (h : w.ownsRow b T s v n xs) : Lies w v n xs := by
  rcases h.2 with ⟨rfl, rfl⟩ | ⟨g, cap, cur, rfl, hb, hg, hn, hm, hs, ht⟩
  · have : xs = [] := List.eq_nil_of_length_eq_zero (by rw [h.1]; simp)
    subst this
    exact ⟨none, 0, rfl, Nat.le_refl _, Nat.zero_le _, fun _ => ⟨rfl, rfl⟩, .inl rfl⟩
  · refine ⟨some ⟨g, 0, none⟩, cap, rfl, hn, hm, fun h => (by cases h), .inr ⟨g, 0, rfl, fun j u hj => ?_⟩⟩
    have := World.ownsRow.cells h (g := g) rfl j u hj
    rw [Addr.add_lit] at this
    exact this
theorem ims_sv {X : Nat → Prop} {w w' : World} {b s : Nat} {T : TypeId} {v : Value} {n : Nat} {xs : List Value} (h : w.ownsRow b T s v n xs) (hs : Sv X w w') (hx : ∀ g, v.ownBlock = some g → ¬ X g) : w'.ownsRow b T s v n xs := by
  refine ⟨h.1, ?_⟩
  rcases h.2 with hn | ⟨g, cap, cur, rfl, hb, hg, rest⟩
  · exact .inl hn
  · refine .inr ⟨g, cap, cur, rfl, hb, ?_, rest⟩
    rw [hs.block g (Array.getElem?_eq_some_iff.1 hg).1 (hx g rfl)]; exact hg
theorem ims_base {w : World} {b b' s : Nat} {T : TypeId} {v : Value} {n : Nat} {xs : List Value} (h : w.ownsRow b T s v n xs) (hb : ∀ g, v.ownBlock = some g → b' ≤ g) : w.ownsRow b' T s v n xs := by
  refine ⟨h.1, ?_⟩
  rcases h.2 with hn | ⟨g, cap, cur, rfl, _, rest⟩
  · exact .inl hn
  · exact .inr ⟨g, cap, cur, rfl, hb g rfl, rest⟩
/-- Rows in rows of the call's own. -/
def OwnIms (w : World) (B : Nat) (iv : Value) (m : List Im) : Prop := w.ownsRow B TRo 1 iv m.length (m.map Im.v) ∧ ∀ i ∈ m, OwnRow w B TVa i.v i.r
theorem own_types {w : World} {B B' s s' n n' : Nat} {T T' : TypeId} {v v' : Value} {xs xs' : List Value} (h : w.ownsRow B T s v n xs) (h' : w.ownsRow B' T' s' v' n' xs') (hT : T ≠ T') (g : Nat) (hg : v.ownBlock = some g) : v'.ownBlock ≠ some g := by
  intro hg'
  rcases h.2 with ⟨rfl, _⟩ | ⟨k, cap, cur, rfl, _, hk, _⟩
  · cases hg
  rcases h'.2 with ⟨rfl, _⟩ | ⟨k', cap', cur', rfl, _, hk', _⟩
  · cases hg'
  have e1 : k = g := by simpa [Value.ownBlock] using hg
  have e2 : k' = g := by simpa [Value.ownBlock] using hg'
  subst e1; subst e2
  rw [hk] at hk'
  simp at hk'
  exact hT hk'.2
theorem OwnIms.nil (w : World) (B : Nat) : OwnIms w B (.slice none 0 0) [] := ⟨World.ownsRow_nil _ _ _ _, by simp⟩
theorem OwnIms.isIn {w : World} {B : Nat} {iv : Value} {m : List Im} (h : OwnIms w B iv m) : ImsIn w iv m := ⟨ims_lies h.1, fun i hi => (h.2 i hi).isIn⟩
theorem OwnIms.sv {X : Nat → Prop} {w w' : World} {B : Nat} {iv : Value} {m : List Im} (h : OwnIms w B iv m) (hs : Sv X w w') (hx : ∀ k, B ≤ k → ¬ X k) : OwnIms w' B iv m :=
  ⟨ims_sv h.1 hs fun g hg => hx g (World.ownsRow.lt h.1 g hg).1, fun i hi => ims_sv (h.2 i hi) hs fun g hg => hx g (World.ownsRow.lt (h.2 i hi) g hg).1⟩
theorem OwnIms.below {w w' : World} {B : Nat} {iv : Value} {m : List Im} (h : OwnIms w B iv m) (hb : Below w.heap.size w w') : OwnIms w' B iv m :=
  ⟨ims_sv (X := Nothing) h.1 (Sv.of hb) (fun _ _ h => h), fun i hi => (h.2 i hi).below hb⟩
theorem OwnIms.mono {w : World} {B B' : Nat} {iv : Value} {m : List Im} (h : OwnIms w B iv m) (hB : B' ≤ B) : OwnIms w B' iv m :=
  ⟨ims_base h.1 fun g hg => Nat.le_trans hB (World.ownsRow.lt h.1 g hg).1, fun i hi => (h.2 i hi).mono hB⟩
/-- One more row behind all. -/
theorem OwnIms.grown {w w' : World} {B : Nat} {own own' : Value} {m : List Im} {i : Im} (h : OwnIms w B own m) (hi : OwnRow w B TVa i.v i.r) (hg : w.grownBy w' own.ownBlock) (ho : w'.ownsRow B TRo 1 own' (m.length + 1) (m.map Im.v ++ [i.v])) : OwnIms w' B own' (m ++ [i]) := by
  have hsv : Sv (fun b => own.ownBlock = some b) w w' := ⟨hg.os, hg.tape, hg.output, hg.size, fun b hb hx => hg.block b hb fun e => hx e.symm⟩
  refine ⟨by simpa using ho, fun j hj => ?_⟩
  have hj' : OwnRow w B TVa j.v j.r := by
    rcases List.mem_append.1 hj with hj | hj
    · exact h.2 j hj
    · rw [List.mem_singleton] at hj; rw [hj]; exact hi
  exact ims_sv hj' hsv fun g hg' => own_types hj' h.1 (by decide) g hg'
end Go.Proofs.Ytafkpfhhmmnpeaa.Val
/- A range over a function that yields what lies in new memory: a contract whose rounds are told of it, and the law for a caller that never stops it. -/
namespace Go.Proofs.Ytafkpfhhmmnpeaa.Val
open Go Go.RowKit

/-- An iterator's contract: a round is told what is known of its element (Ad); it keeps Kp, and all that is no cells and lies behind the iterator's own start. -/
def SeqCond {α : Type} (F : Fence) (n : Nat) (P : Program) (g : Nat) (lb : Array Value) (enc : α → Value) (Ad : α → World → Prop) (Kp : World → World → Prop) (S : List α → Prop) (N : Nat) (w : World) : Prop :=
  ∀ (l : Nat) (J : List α → World → Prop) (W : World), Below w.heap.size w W → OwnFrom W.heap.size J →
    (∀ pre x W1, J pre W1 → Ad x W1 → pre.length < N → YieldAt F (n - 1) P l #[enc x] W1 fun e W' => e = .returned (.bool true) ∧ J (pre ++ [x]) W' ∧ Kp W1 W' ∧ KeepsFrom W.heap.size W1 W') →
    J [] W → CallsIn F n P g (#[.func (.yield l) #[] #[]] ++ lb) W fun e W' => (∃ v, e = .returned v) ∧ ∃ xs, S xs ∧ J xs W'
/-- How a round's body that never leaves the loop is left. -/
def endsC (R : World → Prop) : Exit → Act → World → Prop
  | .normal, _, W' => R W'
  | _, _, _ => False
theorem keeps_put {B : Nat} {W : World} {l : Nat} (o' : Obj) (hl : l < B) : KeepsFrom B W (W.putObj l o') :=
  ⟨(grownBy_putObj' W l o').size, fun k o hB hk _ => by
    have hne : k ≠ l := by omega
    exact (World.putObj_heap_other hne).trans hk⟩
section
variable {F : Fence} {n : Nat} {P : Program} {w : World}
theorem wpIn_rangeFunc_cond {α : Type} {g : Operand} {ps : Array Tmp} {assign body : Code} {Q : Exit → Act → World → Prop} {a : Act}
    (hro : F.round = none) (h1 : 1 ≤ n) {gf : Nat} {lb : Array Value} (hg : a.eval g = .func (.func gf) #[] lb) (hFg : F.fn gf) (eg : ∀ args w, (callFunc gf args).run P w = .ok (.enter gf args) w)
    {enc : α → Value} {Ad : α → World → Prop} {Kp : World → World → Prop} {S : List α → Prop} {N : Nat} {w0 : World} (hseq : SeqCond F (n - 1) P gf lb enc Ad Kp S N w0)
    (hKt : ∀ {A B C : World}, Kp A B → Kp B C → Kp A C) (hKb : ∀ (W : World) (l : Nat) (o o' : Obj), w.heap.size ≤ l → W.heap[l]? = some o → o.isCells = false → o.isWalk = false → Kp W (W.putObj l o'))
    (hb0 : Below w0.heap.size w0 w) (hps : ps.size = 1) (I : List α → World → Prop) (hI : OwnFrom w.heap.size I) (hA : ∀ x, OwnFrom w.heap.size (fun (_ : Unit) W => Ad x W)) (h0 : I [] w) (a₁ : α → Act)
    (hassign : ∀ (l : Nat) (x : α) (W : World) (K : Act → World → Prop), K (a₁ x) W →
      assign.wpIn (F.inRound l) (n - 1 - 1) P (Exit.then K (fun _ _ _ => False)) { tmps := (ps.zip #[enc x]).foldl (fun t (p, v) => t.setIfInBounds p v) a.tmps, defers := [] } W)
    (hbody : ∀ (l : Nat) (pre : List α) (x : α) (W : World), I pre W → Ad x W → pre.length < N → body.wpIn (F.inRound l) (n - 1 - 1) P (endsC fun W' => KeepsFrom w.heap.size W W' ∧ Kp W W' ∧ I (pre ++ [x]) W') (a₁ x) W)
    (hdone : ∀ (D : Nat) (xs : List α) (W : World), w.heap.size ≤ D → S xs → I xs W → W.heap[D]? = some (.deferred (some [])) → Q .normal { a with defers := { target := .collected D, args := #[] } :: a.defers } W) :
    (Code.rangeFunc g ps assign body).wpIn F n P Q a w := by
  refine wpIn_rangeFunc fun fn hfn => ?_
  rw [hro]
  -- the loop's record, whatever its state
  obtain ⟨rc, hrc⟩ : ∃ rc : LoopState → Loop, rc = fun st => { state := st, pending := none, fn, tmps := a.tmps, params := ps, assign, body, defers := w.heap.size } := ⟨_, rfl⟩
  obtain ⟨V, hV⟩ : ∃ V, (w.alloc (.deferred (some []))).alloc (.loop (rc .ready)) = V := ⟨_, rfl⟩
  have sz : V.heap.size = w.heap.size + 2 := by rw [← hV]; simp
  have vl : V.heap[w.heap.size + 1]? = some (.loop (rc .ready)) := by
    rw [← hV]
    have := World.alloc_heap_new (w.alloc (.deferred (some []))) (.loop (rc .ready))
    rwa [World.size_alloc] at this
  have vd : V.heap[w.heap.size]? = some (.deferred (some [])) := by
    rw [← hV]
    exact (Below.heap_alloc _ _ _ (by simp)).trans (World.alloc_heap_new w _)
  have vi : I [] V := by rw [← hV]; exact hI.alloc _ (hI.alloc _ h0)
  have vb : Below w0.heap.size w0 V := by
    rw [← hV]
    exact hb0.trans ((((Below.refl _ w).alloc (Nat.le_refl _) _).alloc (by simp) _).mono hb0.size)
  have hput : ∀ (W : World) (st st' : LoopState), W.heap[w.heap.size + 1]? = some (.loop (rc st)) → W.heap[w.heap.size]? = some (.deferred (some [])) →
      (W.putObj (w.heap.size + 1) (.loop (rc st'))).heap[w.heap.size + 1]? = some (.loop (rc st')) ∧ (W.putObj (w.heap.size + 1) (.loop (rc st'))).heap[w.heap.size]? = some (.deferred (some [])) ∧
      Kp W (W.putObj (w.heap.size + 1) (.loop (rc st'))) ∧ KeepsFrom V.heap.size W (W.putObj (w.heap.size + 1) (.loop (rc st'))) ∧ (∀ pre, I pre W → I pre (W.putObj (w.heap.size + 1) (.loop (rc st')))) ∧ ∀ x, Ad x W → Ad x (W.putObj (w.heap.size + 1) (.loop (rc st'))) := fun W st st' hl hd =>
    ⟨World.putObj_heap_same (Array.getElem?_eq_some_iff.1 hl).1, (World.putObj_heap_other (by omega)).trans hd, hKb _ _ _ _ (by omega) hl rfl rfl, keeps_put _ (by omega), fun pre hi => hI.putObj _ hi (by omega) hl rfl, fun x hx => (hA x).putObj (s := ()) _ hx (by omega) hl rfl⟩
  refine ⟨w.heap.size + 1, [{ target := .collected w.heap.size, args := #[] }], V, { target := .fn (.func gf) lb, args := #[.func (.yield (w.heap.size + 1)) #[] #[]] }, V, gf,
    #[.func (.yield (w.heap.size + 1)) #[] #[]] ++ lb, V, ?_, ?_, ?_, ?_, fun _ => h1, ?_⟩
  · rw [← hV, hrc]; exact run_enterLoop_outer _ _ _ _ _
  · simp only [resolve, hg]
    simp [go_sem]
  · intro f' hf'
    simp [Target.leads] at hf'
    subst hf'
    exact hFg
  · simp [invoke, go_sem, eg]
  refine (hseq (w.heap.size + 1) (fun pre W => I pre W ∧ W.heap[w.heap.size + 1]? = some (.loop (rc .ready)) ∧ W.heap[w.heap.size]? = some (.deferred (some []))) V vb ?own ?round ⟨vi, vl, vd⟩).mono ?behind
  case own =>
    rintro s A B row ⟨hi, hl, hd⟩ hg' hr
    have hlt1 := (Array.getElem?_eq_some_iff.1 hl).1
    have hne : ∀ k, k < V.heap.size → some k ≠ row := fun k hk e => by have := (hr k e.symm).1; omega
    exact ⟨hI s A B row hi hg' fun r e => ⟨by have := (hr r e).1; omega, (hr r e).2⟩, (hg'.block _ hlt1 (hne _ (by omega))).trans hl, (hg'.block _ (by omega) (hne _ (by omega))).trans hd⟩
  case round =>
    rintro pre x W ⟨hi, hl, hd⟩ had hlen
    obtain ⟨p1, p2, p3, p4, p5, p6⟩ := hput W .ready .busy hl hd
    have hy := run_yield (P := P) (args := #[enc x]) hl (by rw [hrc]; simp [hps])
    have hbg := run_beginRound (P := P) hl (by rw [hrc])
    rw [hrc] at hy
    refine ⟨fn, _, assign, body, hy, roundIn_of_wpIn hfn (hassign _ x W _ ⟨_, hbg, ?_⟩)⟩
    have e1 : ({ rc .ready with state := .busy } : Loop) = rc .busy := by rw [hrc]
    rw [e1]
    refine wpIn_mono (hbody _ pre x _ (p5 _ hi) (p6 _ had) hlen) ?_
    rintro e a3 W3 hp
    cases e with
    | normal =>
      obtain ⟨k1, k2, k3⟩ := hp
      have hl3 := k1.same _ _ (by omega) p1 rfl
      have hd3 := k1.same _ _ (Nat.le_refl _) p2 rfl
      obtain ⟨q1, q2, q3, q4, q5, _⟩ := hput W3 .busy .ready hl3 hd3
      have he := run_endRound (P := P) none hl3
      have e2 : ({ rc .busy with state := .ready, pending := none } : Loop) = rc .ready := by rw [hrc]
      simp only [Option.isNone_none, if_true, e2] at he
      refine ⟨_, _, he, rfl, ⟨q5 _ k3, q1, q2⟩, hKt p3 (hKt k2 q3), p4.trans (KeepsFrom.trans ⟨k1.size, fun k o hB => k1.same k o (by omega)⟩ q4)⟩
    | ret => exact hp.elim
    | exit id => exact hp.elim
    | goto t => exact hp.elim
    | panic ch => exact hp.elim
    | outgrown => exact hp.elim
  case behind =>
    rintro e W2 ⟨⟨v, rfl⟩, xs, hS, hi, hl, hd⟩
    obtain ⟨q1, q2, q3, q4, q5, _⟩ := hput W2 .ready .exhausted hl hd
    have he := run_endLoop (P := P) hl (by rw [hrc]; simp)
    have e2 : ({ rc .ready with state := .exhausted } : Loop) = rc .exhausted := by rw [hrc]
    rw [e2] at he
    exact ⟨none, _, by rw [he, hrc], hdone _ xs _ (Nat.le_refl _) hS (q5 _ hi) q2⟩
end
end Go.Proofs.Ytafkpfhhmmnpeaa.Val
