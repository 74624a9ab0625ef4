/- A store's tree in memory: what it holds, and what its calls do. -/
import Derived.Test.YtafkpfhhmmnpeaaU15
import Derived.Test.YtafkpfhhmmnpeaaU18
import Derived.Test.YtafkpfhhmmnpeaaU19
namespace Go.Proofs.Ytafkpfhhmmnpeaa.Val
open Go Go.RowKit
set_option maxRecDepth 100000

/-- A tree in memory that holds these pairs, of a size that can be. -/
def Tr (w : World) (h : Hd) (l : List Pr) : Prop := ∃ m u d, TR w h l m u d ∧ m ≤ 1000
section
variable {w w' : World} {h : Hd} {l : List Pr}
theorem Tr.rises (t : Tr w h l) : Rises l ∧ Rights l := by
  obtain ⟨m, u, d, t, _⟩ := t
  exact ⟨t.rises.1, t.rises.2⟩
theorem Tr.lt (t : Tr w h l) : ∀ k, h.has k → k < w.heap.size := by
  obtain ⟨m, u, d, t, _⟩ := t
  exact t.lt
theorem Tr.sv {X : Nat → Prop} (t : Tr w h l) (hs : Sv X w w') (hx : ∀ k, h.has k → ¬ X k) : Tr w' h l := by
  obtain ⟨m, u, d, ⟨R, fr, root, t1, t2, t3⟩, hm⟩ := t
  exact ⟨m, u, d, ⟨R, fr, root, t1.sv hs hx, t2, t3⟩, hm⟩
theorem Tr.below (t : Tr w h l) (hb : Below w.heap.size w w') : Tr w' h l := t.sv (X := Nothing) (Sv.of hb) fun _ _ h => h
theorem tr_new (w : World) : Calls Try.prog 30 #[] w fun e w' => e = .returned (.pointer (some ⟨w.heap.size, 0, none⟩)) ∧ Tr w' ⟨w.heap.size, .slice none 0 0, .slice none 0 0, .slice none 0 0⟩ [] ∧ Below w.heap.size w w' :=
  (new_any w).mono fun e w' ⟨he, t, hb⟩ => ⟨he, ⟨0, 0, 0, t, by omega⟩, hb⟩
theorem tr_get (t : Tr w h l) (hl : l.length ≤ 900) (k : Val) (hs : k.s.size ≤ maxLen) : Calls Try.prog 38 #[.pointer (some ⟨h.p, 0, none⟩), V k.t k.n k.s] w fun e w' => e = gans (getP k l).1 (getP k l).2 ∧ Below w.heap.size w w' := by
  obtain ⟨m, u, d, t, hm⟩ := t
  exact get_any t (by omega) k hs
theorem tr_len (t : Tr w h l) : Calls Try.prog 42 #[.pointer (some ⟨h.p, 0, none⟩)] w fun e w' => e = .returned (.int .i64 l.length) ∧ Below w.heap.size w w' := by
  obtain ⟨m, u, d, t, hm⟩ := t
  exact len_any t
theorem tr_put (t : Tr w h l) (hl : l.length ≤ 900) (k : Val) (v : Pl) (hs : k.s.size ≤ maxLen) (hk : rightX k = true) : Calls Try.prog 45 #[.pointer (some ⟨h.p, 0, none⟩), V k.t k.n k.s, .agg #[.bool v.a.t, .int .i64 v.a.n, .string v.a.s, .bool v.b.t, .int .i64 v.b.n, .string v.b.s, .bool v.c.t, .int .i64 v.c.n, .string v.c.s, .bool v.d.t, .int .i64 v.d.n, .string v.d.s, .int .i64 v.w, .int .i64 v.m]] w fun e w' => e = .returned (.bool (!hasP k l)) ∧ ∃ h', Tr w' h' (insP k v l) ∧ Mv w h w' h' := by
  obtain ⟨m, u, d, t, hm⟩ := t
  refine (put_any t (by omega) (by omega) k v hs hk).mono fun e w' ⟨he, h', m', u', d', t', vv, hmm⟩ => ⟨he, h', ⟨m', u', d', t', ?_⟩, vv⟩
  have hsh := t'.shape
  have hlen := len_put (v := v) hk t.rises.1 t.rises.2
  have hlen2 : (insP k v l).length ≤ 901 := by rw [hlen]; split <;> omega
  omega
theorem tr_del (t : Tr w h l) (hl : l.length ≤ 900) (k : Val) (hs : k.s.size ≤ maxLen) : Calls Try.prog 48 #[.pointer (some ⟨h.p, 0, none⟩), V k.t k.n k.s] w fun e w' => e = .returned (.bool (hasP k l)) ∧ ∃ h', Tr w' h' (delP k l) ∧ Mv w h w' h' := by
  obtain ⟨m, u, d, t, hm⟩ := t
  exact (del_any t (by omega) (by omega) k hs).mono fun e w' ⟨he, h', u', d', t', vv⟩ => ⟨he, h', ⟨m, u', d', t', hm⟩, vv⟩
theorem tr_rows (t : Tr w h l) (hl : l.length ≤ 900) (s : Sp) : Calls Try.prog 73 #[.pointer (some ⟨h.p, 0, none⟩), s.val] w fun e w' => ∃ v I, e = .returned v ∧ w'.ownsRow w.heap.size TI 18 v I.length (icells I) ∧ I.map toP = rangeP s l ∧ Below w.heap.size w w' := by
  obtain ⟨m, u, d, t, hm⟩ := t
  exact gather_any t (by omega) s
end
/-- Two blocks that are apart stay apart. -/
theorem Mv.apart {w w' : World} {h h' : Hd} (v : Mv w h w' h') {P : Nat → Prop} (hP : ∀ k, P k → k < w.heap.size) (hx : ∀ k, P k → ¬ h.has k) : ∀ k, P k → ¬ h'.has k := fun k hk hh => by
  rcases v.own k hh with h1 | h1
  · exact hx k hk h1
  · have := hP k hk; omega
end Go.Proofs.Ytafkpfhhmmnpeaa.Val
/- A store in memory, and what its at answers. -/
namespace Go.Proofs.Ytafkpfhhmmnpeaa.Val
open Go Go.RowKit
set_option maxRecDepth 100000

/-- A table of a store: its columns, the slice in which they lie, its tree, and what that holds. -/
structure Tb where
  cols : List Bool
  fv : Value
  h : Hd
  l : List Pr
def Tb.cells (t : Tb) : List Value := [t.fv, .pointer (some ⟨t.h.p, 0, none⟩)]
/-- A store in memory. -/
structure SM (w : World) (p : Nat) (tv : Value) (room last : Int) (ts : List Tb) : Prop where
  c0 : w.cell? ⟨p, 0, none⟩ = some tv
  c1 : w.cell? ⟨p, 1, none⟩ = some (.int .i64 room)
  c2 : w.cell? ⟨p, 2, none⟩ = some (.int .i64 last)
  fz : ∀ j, w.frozen? ⟨p, j, none⟩ = false
  tab : Lies w tv ts.length (ts.flatMap Tb.cells)
  forms : ∀ j (hj : j < ts.length), BoolsIn w ts[j].fv ts[j].cols
  trees : ∀ j (hj : j < ts.length), Tr w ts[j].h ts[j].l
  apart : ∀ i j (hi : i < ts.length) (hj : j < ts.length), i ≠ j → ∀ k, ts[i].h.has k → ¬ ts[j].h.has k
  offp : ∀ j (hj : j < ts.length), ¬ ts[j].h.has p
  offt : ∀ g, tv.ownBlock = some g → g ≠ p ∧ g < w.heap.size ∧ ∀ j (hj : j < ts.length), ¬ ts[j].h.has g
  offf : ∀ i (hi : i < ts.length) g, ts[i].fv.ownBlock = some g → g ≠ p ∧ g < w.heap.size ∧ ∀ j (hj : j < ts.length), ¬ ts[j].h.has g
abbrev sptr (p : Nat) : Value := .pointer (some ⟨p, 0, none⟩)
section
variable {w w' : World} {p : Nat} {tv : Value} {room last : Int} {ts : List Tb}
theorem SM.below (s : SM w p tv room last ts) (hb : Below w.heap.size w w') : SM w' p tv room last ts where
  c0 := cell_below s.c0 hb
  c1 := cell_below s.c1 hb
  c2 := cell_below s.c2 hb
  fz := fun j => (World.frozen?_of_block (hb.block p (World.block_lt_of_cell? w _ s.c0))).trans (s.fz j)
  tab := s.tab.below hb
  forms := fun j hj => (s.forms j hj).below hb
  trees := fun j hj => (s.trees j hj).below hb
  apart := s.apart
  offp := s.offp
  offt := fun g hg => ⟨(s.offt g hg).1, Nat.lt_of_lt_of_le (s.offt g hg).2.1 hb.size, (s.offt g hg).2.2⟩
  offf := fun i hi g hg => ⟨(s.offf i hi g hg).1, Nat.lt_of_lt_of_le (s.offf i hi g hg).2.1 hb.size, (s.offf i hi g hg).2.2⟩
theorem SM.at (s : SM w p tv room last ts) (i : Nat) (hi : i < ts.length) : ∃ b o c, tv = .slice (some ⟨b, o, none⟩) ts.length c ∧ w.cell? ⟨b, o + i * 2, none⟩ = some ts[i].fv ∧ w.cell? ⟨b, o + i * 2 + 1, none⟩ = some (sptr ts[i].h.p) := by
  obtain ⟨ao, c, rfl, h1, h2, h0, h3⟩ := s.tab
  have hl := flat_length Tb.cells 2 (fun _ => rfl) ts
  rcases h3 with h3 | ⟨b, o, rfl, h3⟩
  · rw [h3] at hl; simp at hl; omega
  · refine ⟨b, o, c, rfl, ?_, ?_⟩
    · exact h3 (i * 2) _ (by rw [show i * 2 = i * 2 + 0 by omega, flat_at _ 2 (fun _ => rfl) ts i 0 hi (by omega)]; rfl)
    · exact h3 (i * 2 + 1) _ (by rw [flat_at _ 2 (fun _ => rfl) ts i 1 hi (by omega)]; rfl)
theorem SM.tv_slice (s : SM w p tv room last ts) : ∃ ao c, tv = .slice ao ts.length c ∧ ts.length ≤ 9223372036854775807 := s.tab.slice
/-- What at answers. -/
abbrev atAns (fv : Value) (tp : Option Addr) : Ending := .returned (.agg #[fv, .pointer tp])
set_option maxHeartbeats 4000000 in
theorem at_nil (n : Int) : Calls Try.prog 37 #[.pointer none, .int .i64 n] w fun e w' => e = atAns (.slice none 0 0) none ∧ Below w.heap.size w w' := by
  go_enter Try.func37, Try.ntmps37
  go_wp2_with fail
  refine bodyPost_ret (v := .agg #[.slice none 0 0, .pointer none]) (by simp [results, Try.results37, go_sem]) rfl ⟨rfl, ?_⟩
  exact back1 (Below.refl _ _)
set_option maxHeartbeats 4000000 in
theorem at_out (s : SM w p tv room last ts) (n : Int) (hn : ¬ (0 ≤ n ∧ n < ts.length)) : Calls Try.prog 37 #[sptr p, .int .i64 n] w fun e w' => e = atAns (.slice none 0 0) none ∧ Below w.heap.size w w' := by
  obtain ⟨ao, c, rfl, hl⟩ := s.tv_slice
  have c0 := s.c0
  have hp := World.block_lt_of_cell? w _ c0
  clear s
  by_cases h0 : n < 0
  · go_enter Try.func37, Try.ntmps37
    go_wp2_with fail
    refine bodyPost_ret (v := .agg #[.slice none 0 0, .pointer none]) (by simp [results, Try.results37, go_sem]) rfl ⟨rfl, ?_⟩
    exact back1 (Below.refl _ _)
  · have h1 : (ts.length : Int) ≤ n := by omega
    clear hn
    go_enter Try.func37, Try.ntmps37
    go_wp2_with fail
    refine bodyPost_ret (v := .agg #[.slice none 0 0, .pointer none]) (by simp [results, Try.results37, go_sem]) rfl ⟨rfl, ?_⟩
    exact back1 (Below.refl _ _)
set_option maxHeartbeats 4000000 in
theorem at_in (s : SM w p tv room last ts) (i : Nat) (hi : i < ts.length) : Calls Try.prog 37 #[sptr p, .int .i64 i] w fun e w' => e = atAns ts[i].fv (some ⟨ts[i].h.p, 0, none⟩) ∧ Below w.heap.size w w' := by
  obtain ⟨b, o, c, rfl, d0, d1⟩ := s.at i hi
  obtain ⟨af, cf, hf, _⟩ := (s.forms i hi).slice
  obtain ⟨_, _, _, hl⟩ := s.tv_slice
  have c0 := s.c0
  have hp := World.block_lt_of_cell? w _ c0
  have hb := World.block_lt_of_cell? w _ d0
  rw [hf] at d0 ⊢
  generalize ts[i].cols.length = cl at *
  generalize ts[i].h.p = q at *
  clear s hf
  have h0 : (0 : Int) ≤ (i : Int) := by omega
  have h1 : (i : Int) < (ts.length : Int) := by omega
  generalize ts.length = tl at *
  go_enter Try.func37, Try.ntmps37
  go_wp2_with fail
  refine bodyPost_ret (v := .agg #[.slice af cl cf, .pointer (some ⟨q, 0, none⟩)]) (by simp [results, Try.results37, go_sem]) rfl ⟨rfl, ?_⟩
  repeat (first | exact Below.refl _ _ | refine Below.alloc ?_ (by simp) _ | refine Below.setCell ?_ (by simp) _)
end
end Go.Proofs.Ytafkpfhhmmnpeaa.Val
