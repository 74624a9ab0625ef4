/- What the store's New makes. -/
import Derived.Test.YtafkpfhhmmnpeaaU26
import Derived.Test.YtafkpfhhmmnpeaaU27
import Derived.Laws.AppendOwnNone
import Derived.Deep.RegionLaw
import Derived.Maps.AppendAt
namespace Go.Proofs.Ytafkpfhhmmnpeaa.Val
open Go Go.RowKit
set_option maxRecDepth 100000

abbrev TB1 : TypeId := 4
abbrev TTb : TypeId := 76
theorem info_B : ∃ i, Try.prog.info? TB1 = some i ∧ i.zero = some (.bool false) ∧ i.size = 1 ∧ i.bytes = 1 := ⟨_, rfl, rfl, rfl, rfl⟩
theorem info_Tb : ∃ i, Try.prog.info? TTb = some i ∧ i.zero = some (.agg #[.slice none 0 0, .pointer none]) ∧ i.size = 2 ∧ i.bytes = 32 := ⟨_, rfl, rfl, rfl, rfl⟩
theorem bools_one (l : List Bool) : ∀ u ∈ l.map Value.bool, u.oneCell' = true := by
  intro u hu
  obtain ⟨b, _, rfl⟩ := List.mem_map.1 hu
  rfl
set_option maxHeartbeats 4000000 in
theorem clone_bools (v : Value) (l : List Bool) (w : World) (hl : BoolsIn w v l) (hn : l.length ≤ 1000) :
    Calls Try.prog 29 #[v] w fun e w' => ∃ v', e = .returned v' ∧ w'.ownsRow w.heap.size TB1 1 v' l.length (l.map .bool) ∧ Below w.heap.size w w' := by
  obtain ⟨i0, hi, hz0, hz1, hz2⟩ := info_B
  have he : ∀ (w : World), (binOp .eql 58 (.slice none 0 0) (.slice none 0 0)).run Try.prog w = .ok (.bool true) w := fun _ => rfl
  have hs : ∀ (w : World) (a : Addr) (n c : Nat), (binOp .eql 58 (.slice (some a) n c) (.slice none 0 0)).run Try.prog w = .ok (.bool false) w := fun _ _ _ _ => rfl
  have hone := bools_one l
  have hlen : (l.map Value.bool).length = l.length := by simp
  obtain ⟨ao, c, rfl, h1, h2, h0, h3⟩ := hl
  cases ao with
  | none =>
    obtain ⟨hn0, rfl⟩ := h0 rfl
    have hx : l = [] := List.eq_nil_of_length_eq_zero hn0
    subst hx
    go_enter Try.func29, Try.ntmps29
    go_wp2_with fail
    go_ret
    exact ⟨_, rfl, World.ownsRow_nil _ _ _ _, Below.refl _ _⟩
  | some a =>
    have hcell : ∀ j u, (l.map Value.bool)[j]? = some u → w.cell? (a.add j) = some u := by
      rcases h3 with h3 | ⟨b, o, e, h3⟩
      · rw [h3]; intro j u hj; simp at hj
      · cases e; intro j u hj; rw [Addr.add_lit]; exact h3 j u hj
    clear h3
    have hw0 : (w.alloc (.cells #[] TB1)).ownsRow w.heap.size TB1 1 (.slice (some ⟨w.heap.size, 0, none⟩) 0 0) 0 [] :=
      ⟨rfl, .inr ⟨w.heap.size, 0, #[], rfl, Nat.le_refl _, heap_alloc_new _ _, Nat.le_refl _, Nat.zero_le _, rfl, rfl⟩⟩
    have hcell1 : ∀ j u, (l.map Value.bool)[j]? = some u → (w.alloc (.cells #[] TB1)).cell? (a.add j) = some u := fun j u hj => by
      have := hcell j u hj
      rw [World.cell?_alloc_lt _ _ _ (World.block_lt_of_cell? w _ this)]; exact this
    clear hcell
    go_enter Try.func29, Try.ntmps29
    go_wp2_with (at_builtin; refine wpList_append_own _ rfl _ _ _ rfl w.heap.size TB1 i0 _ 1 1 Try.underlying58 hi hz0 hz1 hz2 rfl (by decide) _ 0 [] rfl hw0 a l.length c (l.map .bool) rfl (by simp) hcell1 hone ?_ ?_ (by simp) ?_)
    · unfold maxLen; omega
    · omega
    · intro v' w' hown hgrow _
      go_wp2
      go_ret
      exact ⟨_, rfl, by simpa using hown, (alloc1 _ _).grown hgrow (by simp) (fun k hk => by cases hk; simp)⟩
/-- The tables that New is told lie in memory. -/
def TabsIn (w : World) (v : Value) (tabs : List (Value × List Bool)) : Prop := Lies w v tabs.length (tabs.map Prod.fst) ∧ ∀ x ∈ tabs, BoolsIn w x.1 x.2
theorem TabsIn.below {w w' : World} {v : Value} {tabs : List (Value × List Bool)} (h : TabsIn w v tabs) (hb : Below w.heap.size w w') : TabsIn w' v tabs := ⟨h.1.below hb, fun x hx => (h.2 x hx).below hb⟩
/-- May a store be made of these? -/
def mayS (tabs : List (Value × List Bool)) (room : Int) : Bool := decide (1 ≤ tabs.length) && (decide (tabs.length ≤ 3) && (decide (0 ≤ room) && (decide (room ≤ 40) && tabs.all fun x => mayT x.2)))
/-- All that a store keeps lies from B on. -/
def Own (B : Nat) (p : Nat) (tv : Value) (ts : List Tb) : Prop := (∀ k, Fp p ts k → B ≤ k) ∧ (∀ g, tv.ownBlock = some g → B ≤ g) ∧ ∀ j (hj : j < ts.length) g, ts[j].fv.ownBlock = some g → B ≤ g
def emptyT (fv : Value) (cols : List Bool) (q : Nat) : Tb := ⟨cols, fv, ⟨q, .slice none 0 0, .slice none 0 0, .slice none 0 0⟩, []⟩
section
variable {w w' : World} {p : Nat} {tv : Value} {room last : Int} {ts : List Tb}
/-- One more table. -/
theorem SM.more (s : SM w p tv room last ts) {tv' : Value} {wn : World} {fv : Value} {cols : List Bool} {q : Nat} (X : Nat → Prop) (hs : Sv X w wn) (hX : ∀ k, X k → k = p ∨ tv.ownBlock = some k)
    (c0 : wn.cell? ⟨p, 0, none⟩ = some tv') (c1 : wn.cell? ⟨p, 1, none⟩ = some (.int .i64 room)) (c2 : wn.cell? ⟨p, 2, none⟩ = some (.int .i64 last)) (fz : ∀ j, wn.frozen? ⟨p, j, none⟩ = false)
    (tab : Lies wn tv' (ts.length + 1) ((ts ++ [emptyT fv cols q]).flatMap Tb.cells)) (hf : BoolsIn wn fv cols) (ht : Tr wn (emptyT fv cols q).h [])
    (hq : ¬ Fp p ts q) (hqp : q ≠ p) (hft : ∀ g, fv.ownBlock = some g → g ≠ p ∧ g ≠ q ∧ g < wn.heap.size ∧ ∀ j (hj : j < ts.length), ¬ ts[j].h.has g)
    (htv : ∀ g, tv'.ownBlock = some g → g ≠ p ∧ g ≠ q ∧ g < wn.heap.size ∧ ∀ j (hj : j < ts.length), ¬ ts[j].h.has g) (hqf : ∀ j (hj : j < ts.length) g, ts[j].fv.ownBlock = some g → g ≠ q) (htvo : ∀ g, tv.ownBlock = some g → ∀ j (hj : j < ts.length) g', ts[j].fv.ownBlock = some g' → g' ≠ g) :
    SM wn p tv' room last (ts ++ [emptyT fv cols q]) := by
  have hhas : ∀ k, (emptyT fv cols q).h.has k ↔ k = q := fun k => by simp [emptyT, Hd.has, Value.ownBlock]
  have keepX : ∀ j (hj : j < ts.length) k, ts[j].h.has k → ¬ X k := fun j hj k hk hx => by
    rcases hX k hx with e | e
    · subst e; exact s.offp j hj hk
    · exact (s.offt k e).2.2 j hj hk
  have at' : ∀ j (hj : j < (ts ++ [emptyT fv cols q]).length), (∃ h : j < ts.length, (ts ++ [emptyT fv cols q])[j] = ts[j]) ∨ (j = ts.length ∧ (ts ++ [emptyT fv cols q])[j] = emptyT fv cols q) := fun j hj => by
    by_cases h : j < ts.length
    · exact .inl ⟨h, by rw [List.getElem_append_left h]⟩
    · have e : j = ts.length := by simp at hj; omega
      subst e
      exact .inr ⟨rfl, by simp⟩
  have hnq : ∀ j (hj : j < ts.length), ¬ ts[j].h.has q := fun j hj hh => hq (.inr ⟨j, hj, hh⟩)
  refine ⟨c0, c1, c2, fz, by simpa using tab, fun j hj => ?_, fun j hj => ?_, fun a b ha hb hne k => ?_, fun j hj => ?_, fun g hg => ?_, fun a ha g hg => ?_⟩
  · rcases at' j hj with ⟨h, e⟩ | ⟨_, e⟩ <;> rw [e]
    · exact Lies.sv (s.forms j h) hs fun g hg hx => by
        rcases hX g hx with e | e
        · exact (s.offf j h g hg).1 e
        · exact htvo g e j h g hg rfl
    · exact hf
  · rcases at' j hj with ⟨h, e⟩ | ⟨_, e⟩ <;> rw [e]
    · exact (s.trees j h).sv hs (keepX j h)
    · exact ht
  · rcases at' a ha with ⟨h1, e1⟩ | ⟨h1, e1⟩ <;> rcases at' b hb with ⟨h2, e2⟩ | ⟨h2, e2⟩ <;> rw [e1, e2]
    · exact s.apart a b h1 h2 hne k
    · intro hk hh
      rw [(hhas k).1 hh] at hk
      exact hnq a h1 hk
    · intro hk hh
      rw [(hhas k).1 hk] at hh
      exact hnq b h2 hh
    · omega
  · rcases at' j hj with ⟨h, e⟩ | ⟨_, e⟩ <;> rw [e]
    · exact s.offp j h
    · rw [hhas]; exact fun e => hqp e.symm
  · obtain ⟨h1, h2, h3, h4⟩ := htv g hg
    refine ⟨h1, h3, fun j hj => ?_⟩
    rcases at' j hj with ⟨h, e⟩ | ⟨_, e⟩ <;> rw [e]
    · exact h4 j h
    · rw [hhas]; exact h2
  · rcases at' a ha with ⟨h, e⟩ | ⟨_, e⟩ <;> rw [e] at hg
    · obtain ⟨h1, h2, h3⟩ := s.offf a h g hg
      refine ⟨h1, Nat.lt_of_lt_of_le h2 hs.size, fun j hj => ?_⟩
      rcases at' j hj with ⟨h', e⟩ | ⟨_, e⟩ <;> rw [e]
      · exact h3 j h'
      · rw [hhas]; exact hqf a h g hg
    · obtain ⟨h1, h2, h3, h4⟩ := hft g hg
      refine ⟨h1, h3, fun j hj => ?_⟩
      rcases at' j hj with ⟨h', e⟩ | ⟨_, e⟩ <;> rw [e]
      · exact h4 j h'
      · rw [hhas]; exact h2
end
end Go.Proofs.Ytafkpfhhmmnpeaa.Val
/- A store that is being made: one more table. -/
namespace Go.Proofs.Ytafkpfhhmmnpeaa.Val
open Go Go.RowKit
set_option maxRecDepth 100000

theorem owns_lieS {w : World} {b s : Nat} {T : TypeId} {v : Value} {n : Nat} {xs : List Value} (h : w.ownsRow b T s v n xs) : Lies w v n xs := by
  rcases h.2 with ⟨rfl, rfl⟩ | ⟨g, cap, cur, rfl, hb, hg, hn, hm, hs, ht⟩
  · have : xs = [] := List.eq_nil_of_length_eq_zero (by rw [h.1]; simp)
    subst this
    exact ⟨none, 0, rfl, Nat.le_refl _, Nat.zero_le _, fun _ => ⟨rfl, rfl⟩, .inl rfl⟩
  · refine ⟨some ⟨g, 0, none⟩, cap, rfl, hn, hm, fun h => (by cases h), .inr ⟨g, 0, rfl, fun j u hj => ?_⟩⟩
    have := World.ownsRow.cells h (g := g) rfl j u hj
    rw [Addr.add_lit] at this
    exact this
/-- A store that is being made, with so many tables. -/
structure NP (w0 w : World) (p : Nat) (room : Int) (cs : List (List Bool)) (tv : Value) (ts : List Tb) : Prop where
  sm : SM w p tv room 0 ts
  cols : ts.map Tb.cols = cs
  nil : ∀ j (hj : j < ts.length), ts[j].l = []
  own : Own w0.heap.size p tv ts
  row : w.ownsRow w0.heap.size TTb 2 tv ts.length (ts.flatMap Tb.cells)
  bel : Below w0.heap.size w0 w
  apt : ∀ g, tv.ownBlock = some g → ∀ j (hj : j < ts.length) g', ts[j].fv.ownBlock = some g' → g' ≠ g
section
variable {w0 w w' : World} {p : Nat} {tv : Value} {room : Int} {ts : List Tb} {cs : List (List Bool)}
theorem NP.below (n : NP w0 w p room cs tv ts) (hb : Below w.heap.size w w') : NP w0 w' p room cs tv ts :=
  ⟨n.sm.below hb, n.cols, n.nil, n.own, ownsRow_sv n.row (Sv.of (X := Nothing) hb) fun _ _ h => h, n.bel.trans (hb.mono n.bel.size), n.apt⟩
theorem NP.next (n : NP w0 w p room cs tv ts) {W4 w5 : World} {tv' fv : Value} {cols : List Bool} {q : Nat} (hb : Below w.heap.size w W4) (hg : W4.grownBy w5 tv.ownBlock)
    (hown : w5.ownsRow w0.heap.size TTb 2 tv' (ts.length + 1) (ts.flatMap Tb.cells ++ [fv, sptr q])) (hv : tv'.ownBlock = tv.ownBlock ∨ tv'.ownBlock = some W4.heap.size)
    (hf : W4.ownsRow w.heap.size TB1 1 fv cols.length (cols.map .bool)) (ht : Tr W4 (emptyT fv cols q).h []) (hq1 : w.heap.size ≤ q) (hqf : ∀ g, fv.ownBlock = some g → g ≠ q) :
    NP w0 (w5.setCell ⟨p, 0, none⟩ tv') p room (cs ++ [cols]) tv' (ts ++ [emptyT fv cols q]) := by
  have hhas : ∀ k, (emptyT fv cols q).h.has k ↔ k = q := fun k => by simp [emptyT, Hd.has, Value.ownBlock]
  have hq2 : q < W4.heap.size := ht.lt q ((hhas q).2 rfl)
  have hpl := n.sm.lt
  have hsz4 := hb.size
  have hsz5 := hg.size
  have hf' := hf.lt
  have htl := fun j (hj : j < ts.length) k (hk : ts[j].h.has k) => (n.sm.trees j hj).lt k hk
  have hptv : ∀ g, tv.ownBlock = some g → g ≠ p ∧ g < w.heap.size ∧ ∀ j (hj : j < ts.length), ¬ ts[j].h.has g := n.sm.offt
  have hp5 : ∀ j, w5.cell? ⟨p, j, none⟩ = w.cell? ⟨p, j, none⟩ ∧ w5.frozen? ⟨p, j, none⟩ = w.frozen? ⟨p, j, none⟩ := fun j => by
    have hne : some p ≠ tv.ownBlock := fun e => (hptv p e.symm).1 rfl
    have e1 : w5.heap[p]? = w.heap[p]? := (hg.block p (by omega) hne).trans (hb.block p hpl)
    exact ⟨World.cell?_of_block e1, World.frozen?_of_block e1⟩
  have sv5 : Sv (fun k => tv.ownBlock = some k) w w5 := ⟨hg.os.trans hb.os, hg.tape.trans hb.tape, hg.output.trans hb.output, by omega, fun k hk hx => (hg.block k (by omega) fun e => hx e.symm).trans (hb.block k hk)⟩
  have svE : Sv (fun k => k = p ∨ tv.ownBlock = some k) w (w5.setCell ⟨p, 0, none⟩ tv') := by
    have h1 : Sv (fun k => k = p ∨ tv.ownBlock = some k) w w5 := ⟨sv5.os, sv5.tape, sv5.output, sv5.size, fun k hk hx => sv5.block k hk fun e => hx (.inr e)⟩
    exact h1.set (a := ⟨p, 0, none⟩) (.inl rfl) _
  -- what is new stays: from W4 on
  have sv4 : Sv (fun k => k = p ∨ tv.ownBlock = some k) W4 (w5.setCell ⟨p, 0, none⟩ tv') := by
    have h1 : Sv (fun k => k = p ∨ tv.ownBlock = some k) W4 w5 := ⟨hg.os, hg.tape, hg.output, hg.size, fun k hk hx => hg.block k hk fun e => hx (.inr e.symm)⟩
    exact h1.set (a := ⟨p, 0, none⟩) (.inl rfl) _
  have new4 : ∀ k, w.heap.size ≤ k → ¬ (k = p ∨ tv.ownBlock = some k) := fun k hk hx => by
    rcases hx with e | e
    · omega
    · have := (hptv k e).2.1; omega
  have hszE : (w5.setCell ⟨p, 0, none⟩ tv').heap.size = w5.heap.size := by simp
  have tvb : ∀ g, tv'.ownBlock = some g → g ≠ p ∧ g ≠ q ∧ g < w5.heap.size ∧ (∀ j (hj : j < ts.length), ¬ ts[j].h.has g) ∧ w0.heap.size ≤ g ∧ (∀ g', fv.ownBlock = some g' → g' ≠ g) ∧ ∀ j (hj : j < ts.length) g', ts[j].fv.ownBlock = some g' → g' ≠ g := fun g hgg => by
    have hlt := hown.lt g hgg
    rcases hv with e | e
    · rw [e] at hgg
      obtain ⟨h1, h2, h3⟩ := hptv g hgg
      exact ⟨h1, by omega, hlt.2, h3, hlt.1, fun g' hg' e => by have := (hf' g' hg').1; omega, n.apt g hgg⟩
    · rw [e] at hgg
      injection hgg with e2
      subst e2
      exact ⟨by omega, by omega, hlt.2, fun j hj hh => by have := htl j hj _ hh; omega, hlt.1, fun g' hg' e => by have := (hf' g' hg').2; omega, fun j hj g' hg' e => by have := (n.sm.offf j hj g' hg').2.1; omega⟩
  have hcells : (ts ++ [emptyT fv cols q]).flatMap Tb.cells = ts.flatMap Tb.cells ++ [fv, sptr q] := by simp [Tb.cells, emptyT]
  have hrowE : (w5.setCell ⟨p, 0, none⟩ tv').ownsRow w0.heap.size TTb 2 tv' (ts.length + 1) (ts.flatMap Tb.cells ++ [fv, sptr q]) :=
    ownsRow_sv hown (Sv.set (X := fun k => k = p) (Sv.refl _ w5) (a := ⟨p, 0, none⟩) rfl _) fun k hk e => (tvb k hk).1 e
  have hfE : (w5.setCell ⟨p, 0, none⟩ tv').ownsRow w.heap.size TB1 1 fv cols.length (cols.map .bool) := ownsRow_sv hf sv4 fun k hk => new4 k (hf' k hk).1
  refine ⟨?_, by rw [List.map_append, n.cols]; rfl, fun j hj => ?_, ⟨fun k hk => ?_, fun g hgg => (tvb g hgg).2.2.2.2.1, fun j hj g hgg => ?_⟩, by rw [hcells]; simpa using hrowE, ?_, fun g hgg j hj g' hg' => ?_⟩
  · refine n.sm.more (fun k => k = p ∨ tv.ownBlock = some k) svE (fun k hk => hk) ?_ ?_ ?_ (fun j => ?_) (by rw [hcells]; exact owns_lieS hrowE) ?_ (ht.sv sv4 fun k hk => new4 k (by rw [(hhas k).1 hk]; exact hq1)) ?_ (by omega) (fun g hgg => ?_) (fun g hgg => ?_) (fun j hj g hgg => ?_) n.apt
    · exact World.cell?_setCell_same _ _ _ ((hp5 0).1.trans n.sm.c0)
    · rw [World.cell?_setCell_other _ _ _ _ (by simp)]; exact (hp5 1).1.trans n.sm.c1
    · rw [World.cell?_setCell_other _ _ _ _ (by simp)]; exact (hp5 2).1.trans n.sm.c2
    · rw [World.frozen?_setCell]; exact (hp5 j).2.trans (n.sm.fz j)
    · have := owns_lieS hfE
      exact this
    · rintro (e | ⟨j, hj, hh⟩)
      · omega
      · have := htl j hj _ hh; omega
    · have h1 := hf' g hgg
      exact ⟨by omega, hqf g hgg, by rw [hszE]; omega, fun j hj hh => by have := htl j hj _ hh; omega⟩
    · obtain ⟨h1, h2, h3, h4, _⟩ := tvb g hgg
      exact ⟨h1, h2, by rw [hszE]; exact h3, h4⟩
    · have := (n.sm.offf j hj g hgg).2.1; omega
  · by_cases h : j < ts.length
    · rw [List.getElem_append_left h]; exact n.nil j h
    · have e : j = ts.length := by simp at hj; omega
      subst e; simp [emptyT]
  · rcases hk with hk | ⟨j, hj, hk⟩
    · exact n.own.1 k (.inl hk)
    · by_cases h : j < ts.length
      · rw [List.getElem_append_left h] at hk; exact n.own.1 k (.inr ⟨j, h, hk⟩)
      · have e : j = ts.length := by simp at hj; omega
        subst e
        have hk' : (emptyT fv cols q).h.has k := by simpa using hk
        rw [hhas] at hk'
        have := n.bel.size; omega
  · by_cases h : j < ts.length
    · rw [List.getElem_append_left h] at hgg; exact n.own.2.2 j h g hgg
    · have e : j = ts.length := by simp at hj; omega
      subst e
      have hg2 : fv.ownBlock = some g := by simpa [emptyT] using hgg
      have := (hf' g hg2).1
      have := n.bel.size; omega
  · refine svE.below n.bel.size (fun k hk hx => ?_) |> fun h => n.bel.trans h
    rcases hx with e | e
    · have := n.own.1 k (.inl e); omega
    · have := n.own.2.1 k e; omega
  · by_cases h : j < ts.length
    · rw [List.getElem_append_left h] at hg'; exact (tvb g hgg).2.2.2.2.2.2 j h g' hg'
    · have e : j = ts.length := by simp at hj; omega
      subst e
      have hg2 : fv.ownBlock = some g' := by simpa [emptyT] using hg'
      exact (tvb g hgg).2.2.2.2.2.1 g' hg2
end
end Go.Proofs.Ytafkpfhhmmnpeaa.Val
/- What the store's New makes: a store with these tables, or none. -/
namespace Go.Proofs.Ytafkpfhhmmnpeaa.Val
open Go Go.RowKit
set_option maxRecDepth 100000

theorem step_append_ownS {P : Program} {ops : Array Oper} {o : Oper} {a : Act} {w : World} {K : Act → World → Prop} {Q : Exit → Act → World → Prop} {E : Prop}
    (hg : o.guard = none) (s x : Operand) (t : TypeId) (hop : o.op = Op.call { callee := Callee.builtin Builtin.append, args := #[s, x], argTypes := #[t, t] })
    (base : Nat) (e : TypeId) (i : TypeInfo) (z : Value) (size bytes : Nat) (h1 : P.underlying t = some (.slice e)) (h2 : P.info? e = some i) (h3 : i.zero = some z) (h4 : i.size = size) (h5 : i.bytes = bytes) (h6 : z.cells.size = size) (h7 : 0 < size)
    (v : Value) (n : Nat) (xs : List Value) (hs : a.eval s = v) (hown : w.ownsRow base e size v n xs)
    (ad : Addr) (m c : Nat) (news : List Value) (hx : a.eval x = .slice (some ad) m c) (hn : news.length = m * size) (hc : ∀ j u, news[j]? = some u → w.cell? (ad.add j) = some u) (h1c : ∀ u ∈ news, u.oneCell' = true)
    (b1 : n + m ≤ maxLen) (b2 : (n + m) * bytes ≤ 140737488355328) (hbase : base ≤ w.heap.size)
    (hK : ∀ v' w', w'.ownsRow base e size v' (n + m) (xs ++ news) → w.grownBy w' v.ownBlock → (v'.ownBlock = v.ownBlock ∨ v'.ownBlock = some w.heap.size) → K (a.put o.dst v') w') :
    if Region.wanted o (yielded ops a.tmps) = true then Oper.wp P o a w K Q else E := by
  have hw : Region.wanted o (yielded ops a.tmps) = true := by simp [Region.wanted, hg]
  rw [if_pos hw]
  obtain ⟨v', w', hrun, r1, r2, _, r3⟩ := run_append_own_at (P := P) w base t o.type e i z size bytes h1 h2 h3 h4 h5 h6 h7 v n xs hown ad m c news hn hc h1c b1 b2 hbase
  unfold Oper.wp
  simp [execOp, hop, resolve, invoke, builtin, hs, hx, hrun, Result.andThen]
  exact hK v' w' r1 r2 r3
abbrev storeObj (room : Int) : Obj := .cells #[.slice none 0 0, .int .i64 room, .int .i64 0] 67 (0, 0)
theorem NP.start (w : World) (room : Int) : NP w (w.alloc (storeObj room)) w.heap.size room [] (.slice none 0 0) [] := by
  refine ⟨⟨by simp [go_sem], by simp [go_sem], by simp [go_sem], fun j => by simp [go_sem], ⟨none, 0, rfl, Nat.le_refl _, Nat.zero_le _, fun _ => ⟨rfl, rfl⟩, .inl rfl⟩, fun j hj => ?_, fun j hj => ?_, fun i j hi => ?_, fun j hj => ?_, fun g hg => ?_, fun i hi => ?_⟩, rfl, fun j hj => ?_, ⟨fun k hk => ?_, fun g hg => ?_, fun j hj => ?_⟩, World.ownsRow_nil _ _ _ _, alloc1 _ _, fun g hg => ?_⟩
  all_goals first
    | (simp at hj; done)
    | (simp at hi; done)
    | (simp [Value.ownBlock] at hg; done)
    | (rcases hk with rfl | ⟨j, hj, _⟩; exact Nat.le_refl _; simp at hj)
    | fail
theorem TabsIn.at {w : World} {v : Value} {tabs : List (Value × List Bool)} (h : TabsIn w v tabs) (j : Nat) (hj : j < tabs.length) : ∃ b o c, v = .slice (some ⟨b, o, none⟩) tabs.length c ∧ w.cell? ⟨b, o + j, none⟩ = some tabs[j].1 := by
  obtain ⟨ao, c, rfl, h1, h2, h0, h3⟩ := h.1
  rcases h3 with h3 | ⟨b, o, rfl, h3⟩
  · have := congrArg List.length h3
    simp at this
    subst this
    simp at hj
  · exact ⟨b, o, c, rfl, h3 j _ (by simp [hj])⟩
theorem mayS_take {tabs : List (Value × List Bool)} {j : Nat} (hj : j < tabs.length) (h : (tabs.take j).all (fun x => mayT x.2) = true) : (tabs.take (j + 1)).all (fun x => mayT x.2) = mayT tabs[j].2 := by
  rw [List.take_succ_eq_append_getElem hj, List.all_append, h]; simp
theorem mayS_bad {tabs : List (Value × List Bool)} {j : Nat} (hj : j < tabs.length) (h : mayT tabs[j].2 = false) (room : Int) : mayS tabs room = false := by
  have : tabs.all (fun x => mayT x.2) = false := by
    rw [List.all_eq_false]
    exact ⟨tabs[j], List.getElem_mem hj, by rw [h]; decide⟩
  simp [mayS, this]
/-- What New answers. -/
def NewOk (w w' : World) (tabs : List (Value × List Bool)) (room : Int) (e : Ending) : Prop := (mayS tabs room = false ∧ e = .returned (.pointer none) ∨ mayS tabs room = true ∧ ∃ tv ts, e = .returned (sptr w.heap.size) ∧ NP w w' w.heap.size room (tabs.map Prod.snd) tv ts) ∧ Below w.heap.size w w'
section
variable {w : World} {v : Value} {tabs : List (Value × List Bool)} {room : Int}
set_option maxHeartbeats 4000000 in
theorem snew_bad (h : TabsIn w v tabs) (hb : ¬ (1 ≤ tabs.length ∧ tabs.length ≤ 3 ∧ 0 ≤ room ∧ room ≤ 40)) : Calls Try.prog 10 #[v, .int .i64 room] w fun e w' => NewOk w w' tabs room e := by
  have hm : mayS tabs room = false := by
    rw [Bool.eq_false_iff]
    intro e
    simp only [mayS, Bool.and_eq_true, decide_eq_true_eq] at e
    exact hb ⟨e.1, e.2.1, e.2.2.1, e.2.2.2.1⟩
  have HM : Hid (NewOk w w tabs room (.returned (.pointer none))) := ⟨.inl ⟨hm, rfl⟩, Below.refl _ _⟩
  obtain ⟨ao, c, rfl, _⟩ := h.1.slice
  clear h hm
  generalize tabs.length = tl at *
  by_cases h1 : tl < 1
  · have h1' : (tl : Int) < 1 := by omega
    go_enter Try.func10, Try.ntmps10
    go_wp2_with fail
    go_ret
    exact HM.out
  · have h1' : decide ((tl : Int) < 1) = false := by simp; omega
    by_cases h2 : 3 < tl
    · have h2' : (3 : Int) < (tl : Int) := by omega
      go_enter Try.func10, Try.ntmps10
      go_wp2_with fail
      go_ret
      exact HM.out
    · have h2' : decide ((3 : Int) < (tl : Int)) = false := by simp; omega
      by_cases h3 : room < 0
      · go_enter Try.func10, Try.ntmps10
        go_wp2_with fail
        go_ret
        exact HM.out
      · have h3' : decide (room < 0) = false := by simp; omega
        have h4 : 40 < room := by omega
        go_enter Try.func10, Try.ntmps10
        go_wp2_with fail
        go_ret
        exact HM.out
set_option maxHeartbeats 16000000 in
theorem snew_good (h : TabsIn w v tabs) (hb : 1 ≤ tabs.length ∧ tabs.length ≤ 3 ∧ 0 ≤ room ∧ room ≤ 40) : Calls Try.prog 10 #[v, .int .i64 room] w fun e w' => NewOk w w' tabs room e := by
  obtain ⟨i0, hi, hz0, hz1, hz2⟩ := info_Tb
  have I0 : Hid (Try.prog.info? TTb = some i0 ∧ i0.zero = some (.agg #[.slice none 0 0, .pointer none]) ∧ i0.size = 2 ∧ i0.bytes = 32) := ⟨hi, hz0, hz1, hz2⟩
  clear hi hz0 hz1 hz2
  obtain ⟨ao, c, rfl, _⟩ := h.1.slice
  have HT : Hid (TabsIn w (.slice ao tabs.length c) tabs) := h
  obtain ⟨b1, b2, b3, b4⟩ := hb
  have HN : Hid (tabs.length ≤ 3 ∧ 1 ≤ tabs.length ∧ 0 ≤ room ∧ room ≤ 40) := ⟨b2, b1, b3, b4⟩
  have n1 : decide ((tabs.length : Int) < 1) = false := by simp; omega
  have n2 : decide ((3 : Int) < (tabs.length : Int)) = false := by simp; omega
  have n3 : decide (room < 0) = false := by simp; omega
  have n4 : decide (40 < room) = false := by simp; omega
  have NS : Hid _ := NP.start w room
  clear h b1 b2 b3 b4
  go_enter Try.func10, Try.ntmps10
  go_wp2_with fail
  clear n1 n2 n3 n4
  go_loopw [30] (fun i wr => ∃ j : Nat, j ≤ tabs.length ∧ i = .int .i64 (j : Int) ∧ Hid (∃ tv ts, NP w wr w.heap.size room ((tabs.take j).map Prod.snd) tv ts) ∧ Hid ((tabs.take j).all (fun x => mayT x.2) = true)) (fun i _ => tabs.length - (intOf i).toNat)
  case atStart => exact ⟨0, Nat.zero_le _, rfl, ⟨_, _, NS.out⟩, rfl⟩
  case round =>
    obtain ⟨j, hj, rfl, HP0, HA⟩ := hrel
    by_cases h1 : j < tabs.length
    · obtain ⟨tv, ts, hnp⟩ := HP0.out
      have HP : Hid (NP w wr w.heap.size room ((tabs.take j).map Prod.snd) tv ts) := hnp
      have T1 := HT.out.below hnp.bel
      obtain ⟨b, o, c', ev, d0⟩ := T1.at j h1
      obtain ⟨af, cf, hf, hcl⟩ := (T1.2 tabs[j] (List.getElem_mem h1)).slice
      have HBI : Hid (BoolsIn wr tabs[j].1 tabs[j].2) := T1.2 tabs[j] (List.getElem_mem h1)
      have HS : Hid ((tabs.take (j + 1)).map Prod.snd = (tabs.take j).map Prod.snd ++ [tabs[j].2] ∧ (tabs.take (j + 1)).all (fun x => mayT x.2) = mayT tabs[j].2 ∧ (mayT tabs[j].2 = false → mayS tabs room = false) ∧ j < tabs.length) := ⟨by rw [List.take_succ_eq_append_getElem h1, List.map_append]; rfl, mayS_take h1 HA.out, fun h => mayS_bad h1 h room, h1⟩
      injection ev with e1 e2 e3
      subst e1
      rw [hf] at d0 HBI
      have hbl := World.block_lt_of_cell? _ _ d0
      clear hnp HP0 T1 HA hf e2 e3
      have htl : ts.length ≤ 3 := by
        have h2 := congrArg List.length HP.out.cols
        have h3 := HN.out.1
        simp at h2; omega
      generalize tabs[j].2 = cols at *
      have HCK : Hid (∀ w1, Below wr.heap.size wr w1 → Calls Try.prog 28 #[.agg #[.slice af cols.length cf]] w1 fun e w' => e = .returned (.int .i64 (errIf (!mayT cols) 1)) ∧ Below w1.heap.size w1 w') := fun w1 hb => check_any _ cols w1 (HBI.out.below hb)
      have HCL : Hid (mayT cols = true → ∀ w1, Below wr.heap.size wr w1 → Calls Try.prog 29 #[.slice af cols.length cf] w1 fun e w' => ∃ v', e = .returned v' ∧ w'.ownsRow w1.heap.size TB1 1 v' cols.length (cols.map .bool) ∧ Below w1.heap.size w1 w') := fun hm w1 hb => clone_bools _ cols w1 (HBI.out.below hb) (by have := (mayT_iff.1 hm).2; omega)
      have j0 : (0 : Int) ≤ (j : Int) := by omega
      have j1 : (j : Int) < (tabs.length : Int) := by omega
      have j3 : j ≤ 3 := by have := HN.out.1; omega
      have HTL : Hid (ts.length ≤ 3) := htl
      clear h1 hj HBI htl
      go_wp2_with fail
      refine Calls.mono (HCK.out _ (alloc1 _ _)) ?_
      rintro e w1 ⟨rfl, hb⟩
      have HB1 : Hid (Below wr.heap.size wr w1) := back1 hb
      have c7 : w1.cell? ⟨wr.heap.size, 0, none⟩ = some (.slice af cols.length cf) := cell_below (cell_new wr (.slice af cols.length cf) 60) hb
      clear hb HCK d0 hbl
      cases hm : mayT cols
      · have HE : Hid (mayS tabs room = false ∧ Below w.heap.size w w1) := ⟨HS.out.2.2.1 hm, HP.out.bel.trans (HB1.out.mono HP.out.bel.size)⟩
        simp only [errIf, Bool.not_false, if_true]
        clear HCL HS hm
        go_wp2_with fail
        go_ret
        exact ⟨.inl ⟨HE.out.1, rfl⟩, HE.out.2⟩
      · have HC2 : Hid _ := HCL.out hm
        have HM : Hid (mayT cols = true) := hm
        have ee : errIf (!true) 1 = 0 := rfl
        rw [ee]
        clear HCL hm ee
        go_wp2_with fail
        refine Calls.mono (HC2.out _ HB1.out) ?_
        rintro e w2 ⟨fv, rfl, hfo, hb⟩
        obtain ⟨fa, fc, rfl⟩ := owns_slice hfo
        have HB2 : Hid (Below wr.heap.size wr w2 ∧ w2.ownsRow w1.heap.size TB1 1 (.slice fa cols.length fc) cols.length (cols.map .bool) ∧ wr.heap.size ≤ w1.heap.size) := ⟨HB1.out.trans (hb.mono HB1.out.size), hfo, HB1.out.size⟩
        clear hb HC2 c7 HB1 hfo
        go_wp2_with fail
        have HB3 : Hid (Below w2.heap.size w2 (w2.alloc (.cells #[.slice fa cols.length fc] 60)).drew) := (alloc1 _ _).drew
        have HF3 : Hid (∀ wq, Below (w2.alloc (.cells #[.slice fa cols.length fc] 60)).heap.size (w2.alloc (.cells #[.slice fa cols.length fc] 60)) wq → wq.cell? ⟨w2.heap.size, 0, none⟩ = some (.slice fa cols.length fc)) := fun wq hb => cell_below (cell_new w2 _ _) hb
        have HSZ : Hid (∀ wq, Below (w2.alloc (.cells #[.slice fa cols.length fc] 60)).heap.size (w2.alloc (.cells #[.slice fa cols.length fc] 60)) wq → Below w2.heap.size w2 wq ∧ Below wr.heap.size wr wq ∧ wq.cell? ⟨w.heap.size, 0, none⟩ = some tv ∧ w.heap.size < wq.heap.size) := fun wq hb => by
          have h1 : Below w2.heap.size w2 wq := (alloc1 _ _).trans (hb.mono (by simp))
          have h2 := HB2.out.1.trans (h1.mono HB2.out.1.size)
          have h3 := (HP.out.below h2).sm.c0
          exact ⟨h1, h2, h3, World.block_lt_of_cell? _ _ h3⟩
        obtain ⟨ta, tc, htv⟩ : ∃ a c, tv = .slice a ts.length c := by obtain ⟨a, c, e, _⟩ := HP.out.sm.tv_slice; exact ⟨a, c, e⟩
        subst htv
        clear HB3
        refine wp_region_held_drew (S := fun w' => w'.cell? ⟨w2.heap.size, 0, none⟩ = some (.slice fa cols.length fc)) (by kernel_rfl) ?_ (fun hHeld => ?_)
        · exact HF3.out _ (Below.refl _ _).drew
        (try clear hK K)
        refine wpAnyH_take (i := 0) (v := ?_) rfl (by kernel_rfl) (by kernel_rfl) (by kernel_rfl) (fun _ _ _ h => h) (Or.inl ⟨by rfl, ?_⟩) (by assumption) ?_
        rotate_left
        · intro w hSw; (try dsimp only at hSw); go_simp; (try with_reducible rfl)
        (try simp only [Act.put, List.getElem_toArray, List.getElem_cons_zero, List.setIfInBounds_toArray, List.set_cons_zero, List.set_cons_succ])
        refine wpAnyH_take (i := 1) (v := ?_) rfl (by kernel_rfl) (by kernel_rfl) (by kernel_rfl) (fun _ _ _ h => h) (Or.inl ⟨by rfl, ?_⟩) (by assumption) ?_
        rotate_left
        · intro w hSw; (try dsimp only at hSw); go_simp; (try with_reducible rfl)
        (try simp only [Act.put, List.getElem_toArray, List.getElem_cons_succ, List.getElem_cons_zero, List.setIfInBounds_toArray, List.set_cons_zero, List.set_cons_succ])
        refine wpAnyH_take (i := 2) (v := ?_) rfl (by kernel_rfl) (by kernel_rfl) (by kernel_rfl) (fun _ _ _ h => h) (Or.inl ⟨by rfl, ?_⟩) (by assumption) ?_
        rotate_left
        · intro w hSw; (try dsimp only at hSw); go_simp; (try with_reducible rfl)
        (try simp only [Act.put, List.getElem_toArray, List.getElem_cons_succ, List.getElem_cons_zero, List.setIfInBounds_toArray, List.set_cons_zero, List.set_cons_succ])
        refine wpAnyH_take (i := 3) (v := ?_) rfl (by kernel_rfl) (by kernel_rfl) (by kernel_rfl) (fun _ _ _ h => h) (Or.inl ⟨by rfl, ?_⟩) (by assumption) ?_
        rotate_left
        · intro w hSw; (try dsimp only at hSw); go_simp; (try with_reducible rfl)
        (try simp only [Act.put, List.getElem_toArray, List.getElem_cons_succ, List.getElem_cons_zero, List.setIfInBounds_toArray, List.set_cons_zero, List.set_cons_succ])
        refine wpAnyH_take (i := 5) (v := ?_) rfl (by kernel_rfl) (by kernel_rfl) (by kernel_rfl) (fun _ _ _ h => h) (Or.inl ⟨by rfl, ?_⟩) (by assumption) ?_
        rotate_left
        · intro w hSw; (try dsimp only at hSw); go_simp; (try with_reducible rfl)
        (try simp only [Act.put, List.getElem_toArray, List.getElem_cons_succ, List.getElem_cons_zero, List.setIfInBounds_toArray, List.set_cons_zero, List.set_cons_succ])
        (try clear hK K)
        refine wpAnyH_ready (rs := [4, 6]) (by kernel_rfl) (by simp) ?_
        refine AllReadyH.cons rfl (fun K hK => ?_) (AllReadyH.cons rfl (fun K hK => ?_) AllReadyH.nil)
        · have c0 := (HSZ.out _ (Below.refl _ _).drew).2.2.1
          go_simp
          clear c0
          refine hK.out _ _ ?_ (fun hHeld => ?_)
          · exact HF3.out _ (Below.refl _ _).drew
          (try clear hK K)
          refine wpAnyH_ready (rs := [6]) (by kernel_rfl) (by simp) ?_
          refine AllReadyH.cons rfl (fun K hK => ?_) AllReadyH.nil
          go_simp
          refine Calls.mono (tr_new _) ?_
          rintro e w3 ⟨rfl, htr, hb⟩
          have HX3 : Hid (Below (w2.alloc (.cells #[.slice fa cols.length fc] 60)).heap.size (w2.alloc (.cells #[.slice fa cols.length fc] 60)) w3 ∧ Tr w3 (emptyT (.slice fa cols.length fc) cols (w2.heap.size + 1)).h []) := ⟨(Below.refl _ _).drew.trans (by simpa using hb), by simpa [emptyT] using htr⟩
          clear hb htr
          refine hK.out _ _ ?_ (fun hHeld => ?_)
          · exact HF3.out _ HX3.out.1
          (try clear hK K)
          refine wpAnyH_take (i := 7) (v := ?_) rfl (by kernel_rfl) (by kernel_rfl) (by kernel_rfl) (fun _ _ _ h => h) (Or.inl ⟨by rfl, ?_⟩) (by assumption) ?_
          rotate_left
          · intro w hSw; (try dsimp only at hSw); go_simp; (try with_reducible rfl)
          (try simp only [Act.put, List.getElem_toArray, List.getElem_cons_succ, List.getElem_cons_zero, List.setIfInBounds_toArray, List.set_cons_zero, List.set_cons_succ])
          (try clear hK K)
          refine wpAnyH_ready (rs := [8]) (by kernel_rfl) (by simp) ?_
          refine AllReadyH.cons rfl (fun K hK => ?_) AllReadyH.nil
          go_simp
          have HX4 : Hid (Below (w2.alloc (.cells #[.slice fa cols.length fc] 60)).heap.size (w2.alloc (.cells #[.slice fa cols.length fc] 60)) (w3.alloc (.cells #[.slice fa cols.length fc, sptr (w2.heap.size + 1)] TTb)) ∧ Tr (w3.alloc (.cells #[.slice fa cols.length fc, sptr (w2.heap.size + 1)] TTb)) (emptyT (.slice fa cols.length fc) cols (w2.heap.size + 1)).h []) := ⟨HX3.out.1.alloc HX3.out.1.size _, HX3.out.2.below (alloc1 _ _)⟩
          refine hK.out _ _ ?_ (fun hHeld => ?_)
          · exact HF3.out _ HX4.out.1
          (try clear hK K)
          have hQ : ∀ j u, ([.slice fa cols.length fc, sptr (w2.heap.size + 1)] : List Value)[j]? = some u → (w3.alloc (.cells #[.slice fa cols.length fc, sptr (w2.heap.size + 1)] TTb)).cell? ((⟨w3.heap.size, 0, none⟩ : Addr).add j) = some u := fun j u hj => by rw [Addr.add_mid]; exact new_range (w := w3) [.slice fa cols.length fc, sptr (w2.heap.size + 1)] TTb rfl j u hj
          refine wpAnyH_ready (rs := [9]) (by kernel_rfl) (by simp) ?_
          refine AllReadyH.cons rfl (fun K hK => ?_) AllReadyH.nil
          refine step_append_ownS rfl (.tmp 45) (.tmp 49) 65 rfl w.heap.size TTb i0 _ 2 32 Try.underlying65 I0.out.1 I0.out.2.1 I0.out.2.2.1 I0.out.2.2.2 rfl (by decide) (.slice ta ts.length tc) ts.length (ts.flatMap Tb.cells) rfl (HP.out.below (HSZ.out _ HX4.out.1).2.1).row ⟨w3.heap.size, 0, none⟩ 1 1 [.slice fa cols.length fc, sptr (w2.heap.size + 1)] rfl rfl hQ (by simp [Value.oneCell']) ?_ ?_ ?_ ?_
          · have := HTL.out; unfold maxLen; omega
          · have := HTL.out; omega
          · exact Nat.le_of_lt (HSZ.out _ HX4.out.1).2.2.2
          intro tv' w5 hown hgrow hat
          obtain ⟨va, vc, rfl⟩ := owns_slice hown
          have hfr : ∀ g, (Value.slice fa cols.length fc).ownBlock = some g → g ≠ (w2.heap.size + 1) := fun g hg => by have := (HB2.out.2.1.lt g hg).2; omega
          have HNX : Hid (NP w (w5.setCell ⟨w.heap.size, 0, none⟩ (.slice va (ts.length + 1) vc)) w.heap.size room ((tabs.take j).map Prod.snd ++ [cols]) (.slice va (ts.length + 1) vc) (ts ++ [emptyT (.slice fa cols.length fc) cols (w2.heap.size + 1)])) := by
            have hs4 : Below w2.heap.size w2 (w3.alloc (.cells #[.slice fa cols.length fc, sptr (w2.heap.size + 1)] TTb)) := (HSZ.out _ HX4.out.1).1
            refine HP.out.next (W4 := w3.alloc (.cells #[.slice fa cols.length fc, sptr (w2.heap.size + 1)] TTb)) (HSZ.out _ HX4.out.1).2.1 hgrow (by simpa using hown) hat ?_ HX4.out.2 (by have := HB2.out.1.size; omega) hfr
            exact owns_base (ownsRow_sv HB2.out.2.1 (Sv.of (X := Nothing) hs4) fun _ _ h => h) HB2.out.2.2
          have p5 : w5.cell? ⟨w.heap.size, 0, none⟩ = some (.slice ta ts.length tc) ∧ w5.frozen? ⟨w.heap.size, 0, none⟩ = false := by
            have h4 := HP.out.below (HSZ.out _ HX4.out.1).2.1
            have hne : some w.heap.size ≠ (Value.slice ta ts.length tc).ownBlock := fun e => (h4.sm.offt _ e.symm).1 rfl
            have e1 := hgrow.block _ h4.sm.lt hne
            exact ⟨(World.cell?_of_block (a := ⟨w.heap.size, 0, none⟩) e1).trans h4.sm.c0, (World.frozen?_of_block (a := ⟨w.heap.size, 0, none⟩) e1).trans (h4.sm.fz 0)⟩
          have c8 : w5.cell? ⟨w2.heap.size, 0, none⟩ = some (.slice fa cols.length fc) := by
            have h4 := HF3.out _ HX4.out.1
            have hne : some w2.heap.size ≠ (Value.slice ta ts.length tc).ownBlock := fun e => by
              have h5 := (HP.out.sm.offt _ e.symm).2.1
              have := HB2.out.1.size; omega
            exact (World.cell?_of_block (a := ⟨w2.heap.size, 0, none⟩) (hgrow.block _ (World.block_lt_of_cell? _ _ h4) hne)).trans h4
          have hne2 : w.heap.size ≠ w2.heap.size := by
            have h5 := HP.out.sm.lt
            have := HB2.out.1.size; omega
          refine hK.out _ _ ?_ (fun hHeld => ?_)
          · exact c8
          clear hown hgrow hat hQ hfr
          (try clear hK K)
          refine wpAnyH_take (i := 10) (v := ?_) rfl (by kernel_rfl) (by kernel_rfl) (by kernel_rfl) (fun _ _ _ h => h) (Or.inl ⟨by rfl, ?_⟩) (by assumption) ?_
          rotate_left
          · intro w hSw; (try dsimp only at hSw); go_simp; (try with_reducible rfl)
          (try simp only [Act.put, List.getElem_toArray, List.getElem_cons_succ, List.getElem_cons_zero, List.setIfInBounds_toArray, List.set_cons_zero, List.set_cons_succ])
          refine wpAnyH_take (i := 11) (v := ?_) rfl (by kernel_rfl) (by kernel_rfl) (by kernel_rfl) (fun _ _ _ h => h) (Or.inl ⟨by rfl, ?_⟩) (by assumption) ?_
          rotate_left
          · intro w hSw; (try dsimp only at hSw); go_simp; (try with_reducible rfl)
          (try simp only [Act.put, List.getElem_toArray, List.getElem_cons_succ, List.getElem_cons_zero, List.setIfInBounds_toArray, List.set_cons_zero, List.set_cons_succ])
          obtain ⟨p51, p52⟩ := p5
          (try clear hK K)
          refine wpAnyH_ready (rs := [12]) (by kernel_rfl) (by simp) ?_
          refine AllReadyH.cons rfl (fun K hK => ?_) AllReadyH.nil
          go_simp
          refine hK.out _ _ ?_ (fun hHeld => ?_)
          · rw [World.cell?_setCell_other _ _ _ _ (by simp; try omega)]; exact c8
          clear p51 p52 c8 hne2
          (try clear hK K)
          refine wpAnyH_done (by kernel_rfl) ?_ _
          clear hHeld HX3 HX4 HB2 HF3 HSZ HP
          go_wp2_with fail
          go_roundw
          case rel => exact ⟨j + 1, HS.out.2.2.2, by go_num, ⟨_, _, by rw [HS.out.1]; exact HNX.out⟩, by show _ = _; rw [HS.out.2.1]; exact HM.out⟩
          case measure => have := HS.out.2.2.2; simp [intOf]; omega
        · go_simp
          refine Calls.mono (tr_new _) ?_
          rintro e w3 ⟨rfl, htr, hb⟩
          have HX3 : Hid (Below (w2.alloc (.cells #[.slice fa cols.length fc] 60)).heap.size (w2.alloc (.cells #[.slice fa cols.length fc] 60)) w3 ∧ Tr w3 (emptyT (.slice fa cols.length fc) cols (w2.heap.size + 1)).h []) := ⟨(Below.refl _ _).drew.trans (by simpa using hb), by simpa [emptyT] using htr⟩
          clear hb htr
          refine hK.out _ _ ?_ (fun hHeld => ?_)
          · exact HF3.out _ HX3.out.1
          (try clear hK K)
          refine wpAnyH_take (i := 7) (v := ?_) rfl (by kernel_rfl) (by kernel_rfl) (by kernel_rfl) (fun _ _ _ h => h) (Or.inl ⟨by rfl, ?_⟩) (by assumption) ?_
          rotate_left
          · intro w hSw; (try dsimp only at hSw); go_simp; (try with_reducible rfl)
          (try simp only [Act.put, List.getElem_toArray, List.getElem_cons_succ, List.getElem_cons_zero, List.setIfInBounds_toArray, List.set_cons_zero, List.set_cons_succ])
          (try clear hK K)
          refine wpAnyH_ready (rs := [4, 8]) (by kernel_rfl) (by simp) ?_
          refine AllReadyH.cons rfl (fun K hK => ?_) (AllReadyH.cons rfl (fun K hK => ?_) AllReadyH.nil)
          · have c0 := (HSZ.out _ HX3.out.1).2.2.1
            go_simp
            clear c0
            refine hK.out _ _ ?_ (fun hHeld => ?_)
            · exact HF3.out _ HX3.out.1
            (try clear hK K)
            refine wpAnyH_ready (rs := [8]) (by kernel_rfl) (by simp) ?_
            refine AllReadyH.cons rfl (fun K hK => ?_) AllReadyH.nil
            go_simp
            have HX4 : Hid (Below (w2.alloc (.cells #[.slice fa cols.length fc] 60)).heap.size (w2.alloc (.cells #[.slice fa cols.length fc] 60)) (w3.alloc (.cells #[.slice fa cols.length fc, sptr (w2.heap.size + 1)] TTb)) ∧ Tr (w3.alloc (.cells #[.slice fa cols.length fc, sptr (w2.heap.size + 1)] TTb)) (emptyT (.slice fa cols.length fc) cols (w2.heap.size + 1)).h []) := ⟨HX3.out.1.alloc HX3.out.1.size _, HX3.out.2.below (alloc1 _ _)⟩
            refine hK.out _ _ ?_ (fun hHeld => ?_)
            · exact HF3.out _ HX4.out.1
            (try clear hK K)
            have hQ : ∀ j u, ([.slice fa cols.length fc, sptr (w2.heap.size + 1)] : List Value)[j]? = some u → (w3.alloc (.cells #[.slice fa cols.length fc, sptr (w2.heap.size + 1)] TTb)).cell? ((⟨w3.heap.size, 0, none⟩ : Addr).add j) = some u := fun j u hj => by rw [Addr.add_mid]; exact new_range (w := w3) [.slice fa cols.length fc, sptr (w2.heap.size + 1)] TTb rfl j u hj
            refine wpAnyH_ready (rs := [9]) (by kernel_rfl) (by simp) ?_
            refine AllReadyH.cons rfl (fun K hK => ?_) AllReadyH.nil
            refine step_append_ownS rfl (.tmp 45) (.tmp 49) 65 rfl w.heap.size TTb i0 _ 2 32 Try.underlying65 I0.out.1 I0.out.2.1 I0.out.2.2.1 I0.out.2.2.2 rfl (by decide) (.slice ta ts.length tc) ts.length (ts.flatMap Tb.cells) rfl (HP.out.below (HSZ.out _ HX4.out.1).2.1).row ⟨w3.heap.size, 0, none⟩ 1 1 [.slice fa cols.length fc, sptr (w2.heap.size + 1)] rfl rfl hQ (by simp [Value.oneCell']) ?_ ?_ ?_ ?_
            · have := HTL.out; unfold maxLen; omega
            · have := HTL.out; omega
            · exact Nat.le_of_lt (HSZ.out _ HX4.out.1).2.2.2
            intro tv' w5 hown hgrow hat
            obtain ⟨va, vc, rfl⟩ := owns_slice hown
            have hfr : ∀ g, (Value.slice fa cols.length fc).ownBlock = some g → g ≠ (w2.heap.size + 1) := fun g hg => by have := (HB2.out.2.1.lt g hg).2; omega
            have HNX : Hid (NP w (w5.setCell ⟨w.heap.size, 0, none⟩ (.slice va (ts.length + 1) vc)) w.heap.size room ((tabs.take j).map Prod.snd ++ [cols]) (.slice va (ts.length + 1) vc) (ts ++ [emptyT (.slice fa cols.length fc) cols (w2.heap.size + 1)])) := by
              have hs4 : Below w2.heap.size w2 (w3.alloc (.cells #[.slice fa cols.length fc, sptr (w2.heap.size + 1)] TTb)) := (HSZ.out _ HX4.out.1).1
              refine HP.out.next (W4 := w3.alloc (.cells #[.slice fa cols.length fc, sptr (w2.heap.size + 1)] TTb)) (HSZ.out _ HX4.out.1).2.1 hgrow (by simpa using hown) hat ?_ HX4.out.2 (by have := HB2.out.1.size; omega) hfr
              exact owns_base (ownsRow_sv HB2.out.2.1 (Sv.of (X := Nothing) hs4) fun _ _ h => h) HB2.out.2.2
            have p5 : w5.cell? ⟨w.heap.size, 0, none⟩ = some (.slice ta ts.length tc) ∧ w5.frozen? ⟨w.heap.size, 0, none⟩ = false := by
              have h4 := HP.out.below (HSZ.out _ HX4.out.1).2.1
              have hne : some w.heap.size ≠ (Value.slice ta ts.length tc).ownBlock := fun e => (h4.sm.offt _ e.symm).1 rfl
              have e1 := hgrow.block _ h4.sm.lt hne
              exact ⟨(World.cell?_of_block (a := ⟨w.heap.size, 0, none⟩) e1).trans h4.sm.c0, (World.frozen?_of_block (a := ⟨w.heap.size, 0, none⟩) e1).trans (h4.sm.fz 0)⟩
            have c8 : w5.cell? ⟨w2.heap.size, 0, none⟩ = some (.slice fa cols.length fc) := by
              have h4 := HF3.out _ HX4.out.1
              have hne : some w2.heap.size ≠ (Value.slice ta ts.length tc).ownBlock := fun e => by
                have h5 := (HP.out.sm.offt _ e.symm).2.1
                have := HB2.out.1.size; omega
              exact (World.cell?_of_block (a := ⟨w2.heap.size, 0, none⟩) (hgrow.block _ (World.block_lt_of_cell? _ _ h4) hne)).trans h4
            have hne2 : w.heap.size ≠ w2.heap.size := by
              have h5 := HP.out.sm.lt
              have := HB2.out.1.size; omega
            refine hK.out _ _ ?_ (fun hHeld => ?_)
            · exact c8
            clear hown hgrow hat hQ hfr
            (try clear hK K)
            refine wpAnyH_take (i := 10) (v := ?_) rfl (by kernel_rfl) (by kernel_rfl) (by kernel_rfl) (fun _ _ _ h => h) (Or.inl ⟨by rfl, ?_⟩) (by assumption) ?_
            rotate_left
            · intro w hSw; (try dsimp only at hSw); go_simp; (try with_reducible rfl)
            (try simp only [Act.put, List.getElem_toArray, List.getElem_cons_succ, List.getElem_cons_zero, List.setIfInBounds_toArray, List.set_cons_zero, List.set_cons_succ])
            refine wpAnyH_take (i := 11) (v := ?_) rfl (by kernel_rfl) (by kernel_rfl) (by kernel_rfl) (fun _ _ _ h => h) (Or.inl ⟨by rfl, ?_⟩) (by assumption) ?_
            rotate_left
            · intro w hSw; (try dsimp only at hSw); go_simp; (try with_reducible rfl)
            (try simp only [Act.put, List.getElem_toArray, List.getElem_cons_succ, List.getElem_cons_zero, List.setIfInBounds_toArray, List.set_cons_zero, List.set_cons_succ])
            obtain ⟨p51, p52⟩ := p5
            (try clear hK K)
            refine wpAnyH_ready (rs := [12]) (by kernel_rfl) (by simp) ?_
            refine AllReadyH.cons rfl (fun K hK => ?_) AllReadyH.nil
            go_simp
            refine hK.out _ _ ?_ (fun hHeld => ?_)
            · rw [World.cell?_setCell_other _ _ _ _ (by simp; try omega)]; exact c8
            clear p51 p52 c8 hne2
            (try clear hK K)
            refine wpAnyH_done (by kernel_rfl) ?_ _
            clear hHeld HX3 HX4 HB2 HF3 HSZ HP
            go_wp2_with fail
            go_roundw
            case rel => exact ⟨j + 1, HS.out.2.2.2, by go_num, ⟨_, _, by rw [HS.out.1]; exact HNX.out⟩, by show _ = _; rw [HS.out.2.1]; exact HM.out⟩
            case measure => have := HS.out.2.2.2; simp [intOf]; omega
          · go_simp
            have HX4 : Hid (Below (w2.alloc (.cells #[.slice fa cols.length fc] 60)).heap.size (w2.alloc (.cells #[.slice fa cols.length fc] 60)) (w3.alloc (.cells #[.slice fa cols.length fc, sptr (w2.heap.size + 1)] TTb)) ∧ Tr (w3.alloc (.cells #[.slice fa cols.length fc, sptr (w2.heap.size + 1)] TTb)) (emptyT (.slice fa cols.length fc) cols (w2.heap.size + 1)).h []) := ⟨HX3.out.1.alloc HX3.out.1.size _, HX3.out.2.below (alloc1 _ _)⟩
            refine hK.out _ _ ?_ (fun hHeld => ?_)
            · exact HF3.out _ HX4.out.1
            (try clear hK K)
            refine wpAnyH_ready (rs := [4]) (by kernel_rfl) (by simp) ?_
            refine AllReadyH.cons rfl (fun K hK => ?_) AllReadyH.nil
            have c0 := (HSZ.out _ HX4.out.1).2.2.1
            go_simp
            clear c0
            refine hK.out _ _ ?_ (fun hHeld => ?_)
            · exact HF3.out _ HX4.out.1
            (try clear hK K)
            have hQ : ∀ j u, ([.slice fa cols.length fc, sptr (w2.heap.size + 1)] : List Value)[j]? = some u → (w3.alloc (.cells #[.slice fa cols.length fc, sptr (w2.heap.size + 1)] TTb)).cell? ((⟨w3.heap.size, 0, none⟩ : Addr).add j) = some u := fun j u hj => by rw [Addr.add_mid]; exact new_range (w := w3) [.slice fa cols.length fc, sptr (w2.heap.size + 1)] TTb rfl j u hj
            refine wpAnyH_ready (rs := [9]) (by kernel_rfl) (by simp) ?_
            refine AllReadyH.cons rfl (fun K hK => ?_) AllReadyH.nil
            refine step_append_ownS rfl (.tmp 45) (.tmp 49) 65 rfl w.heap.size TTb i0 _ 2 32 Try.underlying65 I0.out.1 I0.out.2.1 I0.out.2.2.1 I0.out.2.2.2 rfl (by decide) (.slice ta ts.length tc) ts.length (ts.flatMap Tb.cells) rfl (HP.out.below (HSZ.out _ HX4.out.1).2.1).row ⟨w3.heap.size, 0, none⟩ 1 1 [.slice fa cols.length fc, sptr (w2.heap.size + 1)] rfl rfl hQ (by simp [Value.oneCell']) ?_ ?_ ?_ ?_
            · have := HTL.out; unfold maxLen; omega
            · have := HTL.out; omega
            · exact Nat.le_of_lt (HSZ.out _ HX4.out.1).2.2.2
            intro tv' w5 hown hgrow hat
            obtain ⟨va, vc, rfl⟩ := owns_slice hown
            have hfr : ∀ g, (Value.slice fa cols.length fc).ownBlock = some g → g ≠ (w2.heap.size + 1) := fun g hg => by have := (HB2.out.2.1.lt g hg).2; omega
            have HNX : Hid (NP w (w5.setCell ⟨w.heap.size, 0, none⟩ (.slice va (ts.length + 1) vc)) w.heap.size room ((tabs.take j).map Prod.snd ++ [cols]) (.slice va (ts.length + 1) vc) (ts ++ [emptyT (.slice fa cols.length fc) cols (w2.heap.size + 1)])) := by
              have hs4 : Below w2.heap.size w2 (w3.alloc (.cells #[.slice fa cols.length fc, sptr (w2.heap.size + 1)] TTb)) := (HSZ.out _ HX4.out.1).1
              refine HP.out.next (W4 := w3.alloc (.cells #[.slice fa cols.length fc, sptr (w2.heap.size + 1)] TTb)) (HSZ.out _ HX4.out.1).2.1 hgrow (by simpa using hown) hat ?_ HX4.out.2 (by have := HB2.out.1.size; omega) hfr
              exact owns_base (ownsRow_sv HB2.out.2.1 (Sv.of (X := Nothing) hs4) fun _ _ h => h) HB2.out.2.2
            have p5 : w5.cell? ⟨w.heap.size, 0, none⟩ = some (.slice ta ts.length tc) ∧ w5.frozen? ⟨w.heap.size, 0, none⟩ = false := by
              have h4 := HP.out.below (HSZ.out _ HX4.out.1).2.1
              have hne : some w.heap.size ≠ (Value.slice ta ts.length tc).ownBlock := fun e => (h4.sm.offt _ e.symm).1 rfl
              have e1 := hgrow.block _ h4.sm.lt hne
              exact ⟨(World.cell?_of_block (a := ⟨w.heap.size, 0, none⟩) e1).trans h4.sm.c0, (World.frozen?_of_block (a := ⟨w.heap.size, 0, none⟩) e1).trans (h4.sm.fz 0)⟩
            have c8 : w5.cell? ⟨w2.heap.size, 0, none⟩ = some (.slice fa cols.length fc) := by
              have h4 := HF3.out _ HX4.out.1
              have hne : some w2.heap.size ≠ (Value.slice ta ts.length tc).ownBlock := fun e => by
                have h5 := (HP.out.sm.offt _ e.symm).2.1
                have := HB2.out.1.size; omega
              exact (World.cell?_of_block (a := ⟨w2.heap.size, 0, none⟩) (hgrow.block _ (World.block_lt_of_cell? _ _ h4) hne)).trans h4
            have hne2 : w.heap.size ≠ w2.heap.size := by
              have h5 := HP.out.sm.lt
              have := HB2.out.1.size; omega
            refine hK.out _ _ ?_ (fun hHeld => ?_)
            · exact c8
            clear hown hgrow hat hQ hfr
            (try clear hK K)
            refine wpAnyH_take (i := 10) (v := ?_) rfl (by kernel_rfl) (by kernel_rfl) (by kernel_rfl) (fun _ _ _ h => h) (Or.inl ⟨by rfl, ?_⟩) (by assumption) ?_
            rotate_left
            · intro w hSw; (try dsimp only at hSw); go_simp; (try with_reducible rfl)
            (try simp only [Act.put, List.getElem_toArray, List.getElem_cons_succ, List.getElem_cons_zero, List.setIfInBounds_toArray, List.set_cons_zero, List.set_cons_succ])
            refine wpAnyH_take (i := 11) (v := ?_) rfl (by kernel_rfl) (by kernel_rfl) (by kernel_rfl) (fun _ _ _ h => h) (Or.inl ⟨by rfl, ?_⟩) (by assumption) ?_
            rotate_left
            · intro w hSw; (try dsimp only at hSw); go_simp; (try with_reducible rfl)
            (try simp only [Act.put, List.getElem_toArray, List.getElem_cons_succ, List.getElem_cons_zero, List.setIfInBounds_toArray, List.set_cons_zero, List.set_cons_succ])
            obtain ⟨p51, p52⟩ := p5
            (try clear hK K)
            refine wpAnyH_ready (rs := [12]) (by kernel_rfl) (by simp) ?_
            refine AllReadyH.cons rfl (fun K hK => ?_) AllReadyH.nil
            go_simp
            refine hK.out _ _ ?_ (fun hHeld => ?_)
            · rw [World.cell?_setCell_other _ _ _ _ (by simp; try omega)]; exact c8
            clear p51 p52 c8 hne2
            (try clear hK K)
            refine wpAnyH_done (by kernel_rfl) ?_ _
            clear hHeld HX3 HX4 HB2 HF3 HSZ HP
            go_wp2_with fail
            go_roundw
            case rel => exact ⟨j + 1, HS.out.2.2.2, by go_num, ⟨_, _, by rw [HS.out.1]; exact HNX.out⟩, by show _ = _; rw [HS.out.2.1]; exact HM.out⟩
            case measure => have := HS.out.2.2.2; simp [intOf]; omega
    · obtain rfl : j = tabs.length := by omega
      have j1 : decide ((tabs.length : Int) < (tabs.length : Int)) = false := by simp
      obtain ⟨tv, ts, hnp⟩ := HP0.out
      rw [List.take_length] at hnp HA
      have HE : Hid (NewOk w wr tabs room (.returned (sptr w.heap.size))) := by
        refine ⟨.inr ⟨?_, tv, ts, rfl, hnp⟩, hnp.bel⟩
        obtain ⟨h1, h2, h3, h4⟩ := HN.out
        have h5 := HA.out
        simp only [mayS, h5, decide_eq_true h1, decide_eq_true h2, decide_eq_true h3, decide_eq_true h4]; rfl
      clear hnp HP0 HA
      go_wp2_with fail
      go_ret
      exact HE.out
theorem snew_any (h : TabsIn w v tabs) : Calls Try.prog 10 #[v, .int .i64 room] w fun e w' => NewOk w w' tabs room e := by
  by_cases hb : 1 ≤ tabs.length ∧ tabs.length ≤ 3 ∧ 0 ≤ room ∧ room ≤ 40
  · exact snew_good h hb
  · exact snew_bad h hb
end
end Go.Proofs.Ytafkpfhhmmnpeaa.Val
