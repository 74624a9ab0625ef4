/- What cut answers: the entries behind a place, turned; the log keeps the others. -/
import Derived.Test.YtbfoplaccalegaaUndoRev
namespace Go.Proofs.Ytbfoplaccalegaa.Val
open Go Go.RowKit

/-- Nothing to turn. -/
theorem rev_none (w : World) (ao : Option Addr) (cap : Nat) :
    Calls Try.prog 30 #[.slice ao 0 cap] w fun e w' => e = .returned (.tuple #[]) ∧ Below w.heap.size w w' := by
  go_enter Try.func30, Try.ntmps30
  go_wp2_with fail
  have HW : Hid (Below w.heap.size w w) := Below.refl _ _
  go_loopw [2, 3] (fun i j wr => i = .int .i64 0 ∧ j = .int .i64 (-1) ∧ Hid (Below w.heap.size w wr)) (fun _ _ _ => 0)
  case atStart => exact ⟨rfl, rfl, HW⟩
  case round =>
    obtain ⟨rfl, rfl, HR⟩ := hrel
    go_wp2_with fail
    go_end0
    exact ⟨rfl, HR.out⟩
section
variable {w w1 w2 : World} {h : Hl} {L : Lg}
/-- The log behind it. -/
theorem LG.cut (g : LG w h L) (f : Nat) (hf : f < L.es.length) {q c : Nat} (he : h.ev = .slice (some ⟨q, 0, none⟩) L.es.length c) (hc : L.es.length ≤ c)
    (t : Turn (w.setCell ⟨h.p, 1, none⟩ (.slice (some ⟨q, 0, none⟩) f f)) w2 q (f * 5) (L.es.length - f)) (ht : ∀ j u, (ecells (L.es.drop f).reverse)[j]? = some u → w2.cell? ⟨q, f * 5 + j, none⟩ = some u) :
    LG w2 { h with ev := .slice (some ⟨q, 0, none⟩) f f } { L with es := L.es.take f } ∧ Ml w h w2 { h with ev := .slice (some ⟨q, 0, none⟩) f f } ∧
      Ans w2 { h with ev := .slice (some ⟨q, 0, none⟩) f f } (.slice (some ⟨q, f * 5, none⟩) (L.es.length - f) (L.es.length - f)) (L.es.drop f).reverse := by
  obtain ⟨n1, n2, n3⟩ := g.ne
  obtain ⟨b1, b2, b3, b4⟩ := g.has
  have own : h.ev.ownBlock = some q := by rw [he]; rfl
  have hqp : q ≠ h.p := fun e => g.ep (e ▸ own)
  have hqm : q ≠ h.mb := fun e => n3 (e ▸ own)
  have hqt : h.tv.ownBlock ≠ some q := g.et q own
  have hk : ∀ k, k ≠ h.p → k ≠ q → w2.heap[k]? = w.heap[k]? := fun k k1 k2 => by rw [t.block k k2, Below.heap_setCell _ _ _ _ k1]
  have hp2 : w2.heap[h.p]? = some (.cells #[.int .i64 (L.room : Int), .slice (some ⟨q, 0, none⟩) f f, svB L.s1, svN L.s1, svB L.s2, svN L.s2, svB L.s3, svN L.s3, .map (some h.mb), h.tv] TLg (0, 0)) := by
    rw [t.block _ (fun e => hqp e.symm)]; exact heap_setCell_same w h.p 1 _ TLg _ g.box
  have hfq : ∀ o, o < c * 5 → h.fp ⟨q, o, none⟩ := fun o ho => .inr (.inr (.inr ⟨_, _, he, .inr ho⟩))
  have ml : Ml w h w2 { h with ev := .slice (some ⟨q, 0, none⟩) f f } := by
    refine ⟨⟨t.os, t.tape, t.output, by rw [t.size]; simp [World.setCell], fun k hk' hn => hk k (fun e => hn 0 (.inl e)) (fun e => hn 0 (e ▸ hfq 0 (by have := hf; have := hc; omega))), fun b o hb hn => ?_⟩, fun a ha => .inl ?_, rfl⟩
    · by_cases e : b = q
      · subst e
        have ho : L.es.length * 5 ≤ o := by
          rcases Nat.lt_or_ge o (c * 5) with h1 | h1
          · exact absurd (hfq o h1) hn
          · omega
        rw [t.cell b o (.inr (.inr (by omega)))]
        exact World.cell?_of_block (w := w) (Below.heap_setCell _ _ _ _ hqp)
      · exact World.cell?_of_block (hk b (fun e => hn (.inl e)) e)
    · rcases ha with e | e | e | ⟨n, c', e, h1⟩
      · exact .inl e
      · exact .inr (.inl e)
      · exact .inr (.inr (.inl e))
      · have e' : Value.slice (some ⟨q, 0, none⟩) f f = .slice (some ⟨a.block, 0, none⟩) n c' := e
        cases e'
        exact .inr (.inr (.inr ⟨_, _, he, .inr (by omega)⟩))
  have rows2 : ∀ e ∈ L.es, Safe w2 { h with ev := .slice (some ⟨q, 0, none⟩) f f } e := fun e he => (g.rows e he).ml ml
  obtain ⟨es, cl, m1, m2, m3⟩ := g.map
  refine ⟨⟨hp2, ?_, fun e he => rows2 e (List.mem_of_mem_take he), ⟨es, cl, by rw [hk _ n1 (fun e => hqm e.symm)]; exact m1, m2, m3⟩,
    owns_block g.tou fun k hk' => hk k (fun e => g.tp (e ▸ hk')) (fun e => hqt (e ▸ hk')), g.okm, g.tp, (by show some q ≠ some h.p; exact fun e => hqp (Option.some.inj e)), (fun k hk' => g.et k (by rw [own]; exact hk')), g.room, (by show (L.es.take f).length ≤ L.room; exact Nat.le_trans (List.length_take_le' f L.es) g.len)⟩, ml, ⟨⟨?_, ?_⟩, fun e he => rows2 e (List.mem_of_mem_drop (List.mem_reverse.1 he))⟩⟩
  · show Er w2 (.slice (some ⟨q, 0, none⟩) f f) (L.es.take f).length (ecells (L.es.take f))
    have hl : (L.es.take f).length = f := by rw [List.length_take]; omega
    rw [hl]
    rcases g.ents.2 with ⟨e1, _⟩ | ⟨q', cap, cur, e1, hq, c1, c2, c3, c4, c5⟩
    · rw [he] at e1; cases e1
    · rw [he] at e1
      cases e1
      obtain ⟨cur', hq2, hs2⟩ := t.own cur TE (0, 0) (by rw [Below.heap_setCell _ _ _ _ hqp]; exact hq)
      refine ⟨by rw [ecells_length, hl], .inr ⟨q, f, cur', rfl, hq2, Nat.le_refl _, by omega, by omega, fun h => by omega, ?_⟩⟩
      have hcat : ecells (L.es.take f) = (ecells L.es).take (f * 5) := by
        have : ecells L.es = ecells (L.es.take f) ++ ecells (L.es.drop f) := by rw [← List.flatMap_append, List.take_append_drop]
        rw [this, List.take_left' (by rw [ecells_length, hl])]
      rw [hcat, ← c5, List.take_take, Nat.min_eq_left (by omega)]
      refine List.ext_getElem? fun j => ?_
      rw [List.getElem?_take, List.getElem?_take]
      split
      · rename_i hj
        have e2 := t.cell q j (.inr (.inl hj))
        rw [cell_of_row w2 q j cur' TE (0, 0) hq2, World.cell?_of_block (w := w) (a := ⟨q, j, none⟩) (Below.heap_setCell _ _ _ _ hqp), cell_of_row w q j cur TE (0, 0) hq] at e2
        simpa using e2
      · rfl
  · have hl : (L.es.drop f).reverse.length = L.es.length - f := by rw [List.length_reverse, List.length_drop]
    refine ⟨_, _, (by rw [hl]), (by rw [hl]; exact Nat.le_refl _), (by have := g.len; have := g.room; unfold maxLen; omega), (fun e => by cases e), .inr ⟨q, f * 5, rfl, ht⟩⟩
  · intro b o n c' e j hj hf2
    cases e
    rcases hf2 with e | e | e | ⟨n, c', e, h1⟩
    · exact hqp e
    · exact hqm e
    · exact hqt e
    · cases e
      simp only at h1
      omega
end
theorem cut_none {w : World} {h : Hl} {L : Lg} (g : LG w h L) {ao : Option Addr} {c : Nat} (he : h.ev = .slice ao L.es.length c) (hc : L.es.length ≤ c) :
    LG (w.setCell ⟨h.p, 1, none⟩ (.slice ao L.es.length L.es.length)) { h with ev := .slice ao L.es.length L.es.length } L ∧ Ml w h (w.setCell ⟨h.p, 1, none⟩ (.slice ao L.es.length L.es.length)) { h with ev := .slice ao L.es.length L.es.length } := by
  obtain ⟨n1, n2, n3⟩ := g.ne
  have hk : ∀ k, k ≠ h.p → (w.setCell ⟨h.p, 1, none⟩ (.slice ao L.es.length L.es.length)).heap[k]? = w.heap[k]? := fun k hk => Below.heap_setCell _ _ _ _ hk
  have own : (Value.slice ao L.es.length L.es.length).ownBlock = h.ev.ownBlock := by rw [he]; cases ao <;> rfl
  have ml : Ml w h (w.setCell ⟨h.p, 1, none⟩ (.slice ao L.es.length L.es.length)) { h with ev := .slice ao L.es.length L.es.length } := by
    refine ⟨⟨rfl, rfl, rfl, by simp [World.setCell], fun k hk' hn => hk k (fun e => hn 0 (.inl e)), fun b o hb hn => World.cell?_of_block (hk b (fun e => hn (.inl e)))⟩, fun a ha => .inl ?_, rfl⟩
    rcases ha with e | e | e | ⟨n, c', e, h1⟩
    · exact .inl e
    · exact .inr (.inl e)
    · exact .inr (.inr (.inl e))
    · cases e
      exact .inr (.inr (.inr ⟨_, _, he, by omega⟩))
  obtain ⟨es, cl, m1, m2, m3⟩ := g.map
  refine ⟨⟨heap_setCell_same w h.p 1 _ TLg _ g.box, ⟨g.ents.1, ?_⟩, fun e he => (g.rows e he).ml ml, ⟨es, cl, by rw [hk _ n1]; exact m1, m2, m3⟩,
    owns_block g.tou fun k hk' => hk k (fun e => g.tp (e ▸ hk')), g.okm, g.tp, (by show Value.ownBlock _ ≠ _; rw [own]; exact g.ep), (fun k hk' => g.et k (by rw [← own]; exact hk')), g.room, g.len⟩, ml⟩
  rcases g.ents.2 with ⟨e1, e2⟩ | ⟨q', cap, cur, e1, hq, c1, c2, c3, c4, c5⟩
  · rw [he] at e1
    injection e1 with e1 _ _
    exact .inl ⟨by rw [e1, e2], e2⟩
  · rw [he] at e1
    cases e1
    exact .inr ⟨q', _, cur, rfl, by rw [hk _ fun e => g.ep (by rw [he, ← e]; rfl)]; exact hq, Nat.le_refl _, by omega, by omega, fun h => by omega, c5⟩
theorem cut_any {w : World} {h : Hl} {L : Lg} (g : LG w h L) (f : Nat) (hf : f ≤ L.es.length) : Calls Try.prog 28 #[.pointer (some ⟨h.p, 0, none⟩), .int .i64 f] w fun e w' => ∃ v h', e = .returned v ∧ LG w' h' { L with es := L.es.take f } ∧ Ml w h w' h' ∧ Ans w' h' v (L.es.drop f).reverse := by
  obtain ⟨ao, c, he, hc⟩ := g.slice
  have c1 := g.cells 1
  rw [he] at c1
  simp at c1
  have f1 := g.frozen 1
  have hf' : (f : Int) ≤ L.es.length := by omega
  rcases Nat.lt_or_ge f L.es.length with h1 | h1
  · obtain ⟨q, rfl⟩ : ∃ q, ao = some ⟨q, 0, none⟩ := by
      rcases g.ents.2 with ⟨e1, e2⟩ | ⟨q', cap, cur, e1, _⟩
      · omega
      · rw [he] at e1; cases e1; exact ⟨_, rfl⟩
    have hn : ¬ f = L.es.length := by omega
    have hn2 : ¬ L.es.length = f := by omega
    have HR : Hid (Calls Try.prog 30 #[.slice (some ⟨q, f * 5, none⟩) (L.es.length - f) (L.es.length - f)] (w.setCell ⟨h.p, 1, none⟩ (.slice (some ⟨q, 0, none⟩) f f)) fun e w' => e = .returned (.tuple #[]) ∧ 
       LG w' { h with ev := .slice (some ⟨q, 0, none⟩) f f } { L with es := L.es.take f } ∧ Ml w h w' { h with ev := .slice (some ⟨q, 0, none⟩) f f } ∧
      Ans w' { h with ev := .slice (some ⟨q, 0, none⟩) f f } (.slice (some ⟨q, f * 5, none⟩) (L.es.length - f) (L.es.length - f)) (L.es.drop f).reverse) := by
      rcases g.ents.2 with ⟨e1, _⟩ | ⟨q', cap, cur, e1, hq, c1, c2, c3, c4, c5⟩
      · rw [he] at e1; cases e1
      rw [he] at e1
      cases e1
      have hqp : q ≠ h.p := fun e => g.ep (by rw [he, ← e]; rfl)
      have hq1 : (w.setCell ⟨h.p, 1, none⟩ (.slice (some ⟨q, 0, none⟩) f f)).heap[q]? = some (.cells cur TE (0, 0)) := by rw [Below.heap_setCell _ _ _ _ hqp]; exact hq
      have hl : (L.es.drop f).length = L.es.length - f := List.length_drop
      have := rev_any (w.setCell ⟨h.p, 1, none⟩ (.slice (some ⟨q, 0, none⟩) f f)) q (f * 5) (L.es.length - f) (L.es.drop f) (fun j u hj => by
        rw [cell_of_row _ q (f * 5 + j) cur TE (0, 0) hq1]
        have hlt : f * 5 + j < L.es.length * 5 := by
          have h2 := (List.getElem?_eq_some_iff.1 hj).1
          rw [ecells_length, hl] at h2; omega
        have hcat : ecells L.es = ecells (L.es.take f) ++ ecells (L.es.drop f) := by rw [← List.flatMap_append, List.take_append_drop]
        have e2 : (ecells L.es)[f * 5 + j]? = some u := by
          rw [hcat, List.getElem?_append_right (by rw [ecells_length, List.length_take]; omega), ecells_length, List.length_take, Nat.min_eq_left hf, Nat.add_sub_cancel_left]; exact hj
        rw [← c5, List.getElem?_take, if_pos hlt] at e2
        simpa using e2) (fun j => by simp [World.frozen?, hq1]) (fun x hx => (g.rows x (List.mem_of_mem_drop hx)).one) (by have := g.len; have := g.room; omega)
      rw [hl] at this
      exact this.mono fun e w' ⟨h1', t, ht⟩ => ⟨h1', g.cut f h1 he hc t ht⟩
    clear g he
    go_enter Try.func28, Try.ntmps28
    go_wp2_with fail
    refine Calls.mono HR.out ?_
    rintro e w1 ⟨rfl, h1, h2, h3⟩
    have HF : Hid _ := And.intro h1 (And.intro h2 h3)
    clear h1 h2 h3
    go_wp2_with fail
    go_ret
    exact ⟨_, _, rfl, HF.out⟩
  · obtain rfl : f = L.es.length := by omega
    have HR : Hid _ := rev_none (w.setCell ⟨h.p, 1, none⟩ (.slice ao L.es.length L.es.length)) ao 0
    have HF : Hid _ := cut_none g he hc
    clear g he
    go_enter Try.func28, Try.ntmps28
    go_wp2_with fail
    refine Calls.mono HR.out ?_
    rintro e w1 ⟨rfl, hb⟩
    have HW : Hid _ := hb
    clear hb
    go_wp2_with fail
    go_ret
    refine ⟨_, _, rfl, ?_, HF.out.2.trans (Ml.of HW.out), ?_⟩
    · rw [List.take_length]; exact HF.out.1.below HW.out
    · rw [List.drop_length]
      refine ⟨⟨⟨_, _, rfl, Nat.le_refl _, Nat.zero_le _, fun _ => ⟨rfl, rfl⟩, .inl rfl⟩, fun _ _ _ _ _ j hj => by simp at hj⟩, by simp⟩
end Go.Proofs.Ytbfoplaccalegaa.Val
