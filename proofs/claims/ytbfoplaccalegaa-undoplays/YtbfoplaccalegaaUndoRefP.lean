/- The reference's log in memory; what its New and turned answer. -/
import Derived.Test.YtbfoplaccalegaaUndoPushes
import Derived.Test.YtbfoplaccalegaaEqual
import Derived.Test.YtbfoplaccalegaaEqV
import Derived.Laws.AppendOwnNone
import Derived.Lib.MinMax
namespace Go.Proofs.Ytbfoplaccalegaa.Val
open Go Go.RowKit

/-- Entries that lie there, with their rows. -/
def EntsIn (w : World) (v : Value) (l : List En) : Prop := Lies w v l.length (ecells l) ∧ ∀ e ∈ l, RowIn w e.r e.xs
theorem EntsIn.below {w w' : World} {v : Value} {l : List En} (h : EntsIn w v l) (hb : Below w.heap.size w w') : EntsIn w' v l := ⟨h.1.below hb, fun e he => (h.2 e he).below hb⟩
theorem ents_one {w : World} {l : List En} (h : ∀ e ∈ l, RowIn w e.r e.xs) : ∀ u ∈ ecells l, u.oneCell' = true := by
  intro u hu
  obtain ⟨x, hx, hu⟩ := List.mem_flatMap.1 hu
  obtain ⟨ao, c, e, _⟩ := (h x hx).slice
  simp only [En.cells, e, List.mem_cons, List.not_mem_nil, or_false] at hu
  rcases hu with rfl | rfl | rfl | rfl | rfl <;> rfl
theorem owns_in {w : World} {B : Nat} {v : Value} {l : List En} (h : w.ownsRow B TE 5 v l.length (ecells l)) : Lies w v l.length (ecells l) := by
  rcases h.2 with ⟨rfl, h0⟩ | ⟨q, cap, cur, rfl, hB, hq, c1, c2, c3, c4⟩
  · have : l = [] := List.eq_nil_of_length_eq_zero h0
    subst this
    exact ⟨none, 0, rfl, Nat.le_refl _, Nat.zero_le _, fun _ => ⟨rfl, rfl⟩, .inl rfl⟩
  · refine ⟨_, cap, rfl, c1, c2, (fun e => by cases e), .inr ⟨q, 0, rfl, fun j u hj => ?_⟩⟩
    have := World.ownsRow.cells h (g := q) rfl j u hj
    rwa [Addr.add_lit] at this
/-- 'append(nil, l...)' of entries: a row of one's own. -/
theorem wpList_append_ents {w : World} {ops : Array Oper} {rest : List Oper} {o : Oper} {a : Act} {Q : Exit → Act → World → Prop} (hgd : o.guard = none) (s x : Operand) (t : TypeId)
    (ho : o.op = .call { callee := .builtin .append, args := #[s, x], argTypes := #[t, t] }) (ht : Try.prog.underlying t = some (.slice TE))
    (vr : Value) (xs : List En) (hs : a.eval s = .slice none 0 0) (hx : a.eval x = vr) (hr : EntsIn w vr xs) (hl : xs.length ≤ 1000)
    (h : ∀ v' w', w'.ownsRow w.heap.size TE 5 v' xs.length (ecells xs) → Below w.heap.size w w' → wpList Try.prog ops Q rest (a.put o.dst v') w') : wpList Try.prog ops Q (o :: rest) a w := by
  obtain ⟨i0, hi, hz0, hz1, hz2⟩ := info_parts info_E
  have hone := ents_one hr.2
  obtain ⟨⟨ao, c, rfl, h1, h2, h0, h3⟩, _⟩ := hr
  cases ao with
  | none =>
    obtain ⟨hn, rfl⟩ := h0 rfl
    have hx' : xs = [] := List.eq_nil_of_length_eq_zero hn
    subst hx'
    exact wpList_append_own_none hgd s x t ho w.heap.size TE i0 5 ht hi _ 0 [] hs (World.ownsRow_nil w w.heap.size _ 5) hx (h _ _ (World.ownsRow_nil _ _ _ _) (Below.refl _ _))
  | some ad =>
    have hcell : ∀ j u, (ecells xs)[j]? = some u → w.cell? (ad.add j) = some u := by
      rcases h3 with h3 | ⟨b, o, e, h3⟩
      · rw [h3]; intro j u hj; simp at hj
      · cases e; intro j u hj; rw [Addr.add_lit]; exact h3 j u hj
    refine wpList_append_own _ hgd s x t ho w.heap.size TE i0 _ 5 64 ht hi hz0 hz1 hz2 rfl (by decide) _ 0 [] hs (World.ownsRow_nil w w.heap.size _ 5) ad xs.length c (ecells xs) hx (ecells_length xs) hcell hone ?_ ?_ (Nat.le_refl _) ?_
    · unfold maxLen; omega
    · omega
    · intro v' w' hown hgrow _
      rw [Nat.zero_add, List.nil_append] at hown
      exact h v' w' hown ((Below.refl _ _).grown hgrow (Nat.le_refl _) (fun k hk => by simp [Value.ownBlock] at hk))
/-- A row of entries of the call's own. -/
def FE (w : World) (m : List En) (v : Value) (wr : World) : Prop := wr.ownsRow w.heap.size TE 5 v m.length (ecells m) ∧ Below w.heap.size w wr
theorem FE.more {w wr w2 : World} {m : List En} {v v' : Value} {e : En} {o : Obj} (f : FE w m v wr) (ho : w2.ownsRow w.heap.size TE 5 v' (m.length + 1) (ecells m ++ e.cells)) (hg : (wr.alloc o).grownBy w2 v.ownBlock) : FE w (m ++ [e]) v' w2 := by
  refine ⟨?_, (f.2.alloc f.2.size o).grown hg (Nat.le_trans f.2.size (by simp)) fun k hk => ?_⟩
  · rw [List.length_append, show ecells (m ++ [e]) = ecells m ++ e.cells by simp [ecells]]; exact ho
  · rcases f.1.2 with ⟨e1, _⟩ | ⟨q, cap, cur, e1, hB, _⟩
    · rw [e1] at hk; cases hk
    · rw [e1] at hk; cases hk; exact hB
theorem owns_alloc {w : World} {B : Nat} {v : Value} {n : Nat} {xs : List Value} (h : w.ownsRow B TE 5 v n xs) (o : Obj) : (w.alloc o).ownsRow B TE 5 v n xs :=
  owns_block h fun k hk => Below.heap_alloc _ _ _ (by
    rcases h.2 with ⟨e1, _⟩ | ⟨q, cap, cur, e1, hB, hq, _⟩
    · rw [e1] at hk; cases hk
    · rw [e1] at hk; cases hk; exact (Array.getElem?_eq_some_iff.1 hq).1)
theorem ents_new (w : World) (e : En) : ∀ j u, e.cells[j]? = some u → (w.alloc (eobj e)).cell? ((⟨w.heap.size, 0, none⟩ : Addr).add j) = some u := fun j u hj => by
  rw [Addr.add_lit, Nat.zero_add, cell_of_row _ w.heap.size j _ TE (0, 0) (heap_alloc_new w _)]
  simpa [En.cells] using hj
theorem ents_new2 (w : World) (e : En) (ra : Option Addr) (rn rc : Nat) (hr : e.r = .slice ra rn rc) : ∀ j u, e.cells[j]? = some u → (w.alloc (.cells #[.int .i64 e.t, .bool e.k.t, .int .i64 e.k.n, .string e.k.s, .slice ra rn rc] TE)).cell? ((⟨w.heap.size, 0, none⟩ : Addr).add j) = some u := by
  rw [← hr]; exact ents_new w e
def svI (o : Option Nat) : Int := match o with | none => -1 | some k => k
/-- The reference's log, its four parts. -/
structure RL (R : Value → List Val → Prop) (w : World) (lv sv mv : Value) (L : Lg) : Prop where
  l : ∃ es, es.map En.pe = L.es.map En.pe ∧ EntsIn w lv es ∧ ∀ e ∈ es, R e.r e.xs
  s : Lies w sv 4 [.int .i64 (-1), .int .i64 (svI L.s1), .int .i64 (svI L.s2), .int .i64 (svI L.s3)]
  m : EntsIn w mv (L.met.map touE)
theorem RL.below {R : Value → List Val → Prop} {w w' : World} {lv sv mv : Value} {L : Lg} (h : RL R w lv sv mv L) (hb : Below w.heap.size w w') : RL R w' lv sv mv L := by
  obtain ⟨⟨es, e, hl, hr⟩, hs, hm⟩ := h
  exact ⟨⟨es, e, hl.below hb, hr⟩, hs.below hb, hm.below hb⟩
/-- A slice in new memory, or a beginning of an old one. -/
def NewV (w : World) (v : Value) : Prop := ∀ b o n c, v = .slice (some ⟨b, o, none⟩) n c → w.heap.size ≤ b
def Src (w : World) (v v' : Value) : Prop := NewV w v' ∨ ∃ ao n c a, v = .slice ao n c ∧ v' = .slice ao a c ∧ a ≤ n
theorem NewV.nil (w : World) : NewV w (.slice none 0 0) := fun _ _ _ _ e => by cases e
theorem NewV.own {w wf : World} {B n m : Nat} {T : TypeId} {v : Value} {xs : List Value} (h : wf.ownsRow B T m v n xs) (hb : w.heap.size ≤ B) : NewV w v := fun b o n' c e => by
  subst e
  rcases h.2 with ⟨e1, _⟩ | ⟨q, cap, cur, e1, hB, _⟩
  · cases e1
  · cases e1; omega
theorem Src.same {w : World} {ao : Option Addr} {n c : Nat} : Src w (.slice ao n c) (.slice ao n c) := .inr ⟨ao, n, c, n, rfl, rfl, Nat.le_refl _⟩
abbrev RV (room : Int) (lv sv mv : Value) : Value := .agg #[.int .i64 room, lv, sv, mv]
theorem nil_ents (w : World) : EntsIn w (.slice none 0 0) [] := ⟨⟨none, 0, rfl, Nat.le_refl _, Nat.zero_le _, fun _ => ⟨rfl, rfl⟩, .inl rfl⟩, by simp⟩
theorem tou_rows (w : World) (l : List Spot) : ∀ e ∈ l.map touE, RowIn w e.r e.xs := fun e he => by
  obtain ⟨s, _, rfl⟩ := List.mem_map.1 he
  exact ⟨none, 0, rfl, Nat.le_refl _, Nat.zero_le _, fun _ => ⟨rfl, rfl⟩, .inl rfl⟩
theorem rnew_any {R : Value → List Val → Prop} (room : Int) (w : World) : Calls Try.prog 10 #[.int .i64 room] w fun e w' => ∃ sv, e = .returned (RV (capR room) (.slice none 0 0) sv (.slice none 0 0)) ∧ RL R w' (.slice none 0 0) sv (.slice none 0 0) (newL (capR room)) ∧ Below w.heap.size w w' ∧ ∃ q, w.heap.size ≤ q ∧ sv = .slice (some ⟨q, 0, none⟩) 4 4 := by
  have HN : Hid (min (max room 0) 60 = (capR room : Int)) := (capR_int room).symm
  go_enter Try.func10, Try.ntmps10
  go_wp2_with fail
  rw [HN.out]
  refine bodyPost_ret (v := RV (capR room) (.slice none 0 0) (.slice (some ⟨w.heap.size + 1, 0, none⟩) 4 4) (.slice none 0 0)) (by simp [results, Try.results10, go_sem]) rfl ⟨_, rfl, ⟨⟨[], rfl, nil_ents _, by simp⟩, ⟨_, _, rfl, Nat.le_refl _, by decide, (fun e => by cases e), .inr ⟨_, 0, rfl, fun j u hj => ?_⟩⟩, nil_ents _⟩, ((Below.refl _ _).alloc (Nat.le_refl _) _).alloc (by simp) _, w.heap.size + 1, by omega, rfl⟩
  have hb := heap_alloc_new (w.alloc (.cells #[.int .i64 (capR room : Int), .slice none 0 0, .slice (some ⟨w.heap.size + 1, 0, none⟩) 4 4, .slice none 0 0] 29)) (.cells #[.int .i64 (-1), .int .i64 (-1), .int .i64 (-1), .int .i64 (-1)] 3)
  rw [show (w.alloc (.cells #[.int .i64 (capR room : Int), .slice none 0 0, .slice (some ⟨w.heap.size + 1, 0, none⟩) 4 4, .slice none 0 0] 29)).heap.size = w.heap.size + 1 by simp] at hb
  rw [cell_of_row _ _ _ _ _ _ hb, Nat.zero_add]
  simpa [newL, svI] using hj
theorem lies_far {w w' : World} {q o n c m : Nat} {xs : List Value} (h : Lies w (.slice (some ⟨q, o, none⟩) n c) m xs) (hb : w'.heap[q]? = w.heap[q]?) : Lies w' (.slice (some ⟨q, o, none⟩) n c) m xs := by
  obtain ⟨ao, c', e, h1, h2, h0, h3⟩ := h
  cases e
  refine ⟨_, _, rfl, h1, h2, h0, ?_⟩
  rcases h3 with h3 | ⟨b, o', e, h3⟩
  · exact .inl h3
  · cases e
    exact .inr ⟨_, _, rfl, fun j u hj => by rw [World.cell?_of_block (w := w) (a := ⟨q, o + j, none⟩) hb]; exact h3 j u hj⟩
theorem turned_own (lv : Value) (l : List En) (f : Nat) (w : World) (hl : EntsIn w lv l) (hf : f ≤ l.length) (hn : l.length ≤ 1000) :
    Calls Try.prog 29 #[lv, .int .i64 f] w fun e w' => ∃ v, e = .returned v ∧ w'.ownsRow w.heap.size TE 5 v (l.drop f).reverse.length (ecells (l.drop f).reverse) ∧ Below w.heap.size w w' := by
  obtain ⟨i0, hi, hz0, hz1, hz2⟩ := info_parts info_E
  have I0 : Hid _ := And.intro hi (And.intro hz0 (And.intro hz1 hz2))
  obtain ⟨ao, c, rfl, hm⟩ := hl.1.slice
  have HL : Hid (EntsIn w (.slice ao l.length c) l ∧ f ≤ l.length ∧ l.length ≤ 1000) := ⟨hl, hf, hn⟩
  have i1 : IntKind.i64.wrap ((l.length : Int) - 1) = l.length - 1 := by rw [IntKind.wrap_i64]; omega
  clear hl hi hz0 hz1 hz2 hf hn hm
  go_enter Try.func29, Try.ntmps29
  go_wp2_with fail
  have H0 : Hid (FE w (l.drop l.length).reverse (.slice none 0 0) w) := by rw [List.drop_length]; exact ⟨World.ownsRow_nil _ _ _ _, Below.refl _ _⟩
  go_loopw [5, 6] (fun v i wr => ∃ m : Nat, m ≤ l.length ∧ f ≤ m ∧ i = .int .i64 ((m : Int) - 1) ∧ Hid (FE w (l.drop m).reverse v wr)) (fun _ i _ => (intOf i + 1 - f).toNat)
  case atStart => exact ⟨l.length, Nat.le_refl _, HL.out.2.1, rfl, H0⟩
  case round =>
    obtain ⟨m, hm, hfm, rfl, HR⟩ := hrel
    clear H0
    rcases Nat.lt_or_ge f m with h1 | h1
    · obtain ⟨j, hj⟩ : ∃ j, m = j + 1 := ⟨m - 1, by omega⟩
      have hlt : j < l.length := by omega
      have e0 : (m : Int) - 1 = j := by omega
      rw [e0]
      have e1 : (f : Int) ≤ j := by omega
      have e2 : (j : Int) < l.length := by omega
      have e3 : IntKind.i64.wrap ((j : Int) - 1) = j - 1 := by have := HL.out.2.2; rw [IntKind.wrap_i64]; omega
      have hN : (l.drop j).reverse = (l.drop m).reverse ++ [l[j]] := by rw [hj, List.drop_eq_getElem_cons hlt, List.reverse_cons]
      have hrow := HL.out.1.2 _ (List.getElem_mem hlt)
      obtain ⟨b, o, rfl, d0, d1, d2, d3, d4⟩ := ents_at (HL.out.1.below HR.out.2).1 j hlt
      have hone := ents_one (l := [l[j]]) (by simpa using hrow)
      simp only [ecells, List.flatMap_cons, List.flatMap_nil, List.append_nil] at hone
      generalize l[j] = e at *
      obtain ⟨ra, rc, hr, -⟩ := hrow.slice
      rw [hr] at d4
      have hnew := ents_new2 wr e ra _ rc hr
      have hown := owns_alloc HR.out.1 (.cells #[.int .i64 e.t, .bool e.k.t, .int .i64 e.k.n, .string e.k.s, .slice ra e.xs.length rc] TE)
      have HJ : Hid (j < l.length ∧ f ≤ j ∧ m = j + 1) := ⟨hlt, by omega, hj⟩
      have HN : Hid ((l.drop j).reverse = (l.drop m).reverse ++ [e]) := hN
      have hle : (l.drop m).reverse.length ≤ 1000 := by rw [List.length_reverse, List.length_drop]; have := HL.out.2.2; omega
      have HB : Hid _ := HR.out
      have hbs := HR.out.2.size
      clear hm hfm h1 hj hlt hN hrow hr HR
      generalize (l.drop m).reverse = ms at *
      go_wp2_with (at_builtin; refine wpList_append_own_at _ rfl _ _ _ rfl w.heap.size TE i0 _ 5 64 Try.underlying26 I0.out.1 I0.out.2.1 I0.out.2.2.1 I0.out.2.2.2 rfl (by decide) _ ms.length (ecells ms) rfl hown ⟨wr.heap.size, 0, none⟩ 1 1 e.cells rfl rfl hnew hone ?_ ?_ ?_ ?_)
      · unfold maxLen; omega
      · omega
      · simp; omega
      · intro v' w5 ho hg _ _
        have HF : Hid (FE w (ms ++ [e]) v' w5) := FE.more HB.out ho hg
        clear ho hg hown hnew hone d0 d1 d2 d3 d4 HB
        go_wp2_with fail
        go_roundw
        case rel => exact ⟨j, by have := HJ.out; omega, HJ.out.2.1, rfl, by rw [HN.out]; exact HF⟩
        case measure => have := HJ.out; simp [intOf]; omega
    · obtain rfl : m = f := by omega
      clear hm h1
      go_wp2_with fail
      go_ret
      exact ⟨_, rfl, HR.out.1, HR.out.2⟩
theorem turned_any (lv : Value) (l : List En) (f : Nat) (w : World) (hl : EntsIn w lv l) (hf : f ≤ l.length) (hn : l.length ≤ 1000) :
    Calls Try.prog 29 #[lv, .int .i64 f] w fun e w' => ∃ v, e = .returned v ∧ EntsIn w' v (l.drop f).reverse ∧ Below w.heap.size w w' :=
  (turned_own lv l f w hl hf hn).mono fun _ _ ⟨v, he, ho, hb⟩ => ⟨v, he, ⟨owns_in ho, fun e he => (hl.2 e (List.mem_of_mem_drop (List.mem_reverse.1 he))).below hb⟩, hb⟩
end Go.Proofs.Ytbfoplaccalegaa.Val
