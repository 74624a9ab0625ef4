/- An entry put behind a log's entries. Plain facts on memory. -/
import Derived.Test.YtbfoplaccalegaaUndoMeet
namespace Go.Proofs.Ytbfoplaccalegaa.Val
open Go Go.RowKit

section
variable {w : World} {h : Hl} {L : Lg}
/-- A cell elsewhere written. -/
theorem LG.far (g : LG w h L) {b j : Nat} (u : Value) (hb : ∀ o, ¬ h.fp ⟨b, o, none⟩) (he : h.ev.ownBlock ≠ some b) (hr : ∀ e ∈ L.es, ∀ q o n c, e.r = .slice (some ⟨q, o, none⟩) n c → 0 < e.xs.length → q ≠ b) : LG (w.setCell ⟨b, j, none⟩ u) h L := by
  have hk : ∀ k, k ≠ b → (w.setCell ⟨b, j, none⟩ u).heap[k]? = w.heap[k]? := fun k hk => Below.heap_setCell _ _ _ _ hk
  obtain ⟨es, cl, m1, m2, m3⟩ := g.map
  refine ⟨by rw [hk _ fun e => hb 0 (.inl e.symm)]; exact g.box, g.ents.block fun k hk' => hk k fun e => he (e ▸ hk'), fun e he' => ?_, ⟨es, cl, by rw [hk _ fun e => hb 0 (.inr (.inl e.symm))]; exact m1, m2, m3⟩,
    owns_block g.tou fun k hk' => hk k fun e => hb 0 (.inr (.inr (.inl (e ▸ hk')))), g.okm, g.tp, g.ep, g.et, g.room, g.len⟩
  obtain ⟨⟨ao, c, er, h1, h2, h0, h3⟩, off⟩ := g.rows e he'
  refine ⟨⟨ao, c, er, h1, h2, h0, ?_⟩, off⟩
  rcases h3 with h3 | ⟨q, o, rfl, h3⟩
  · exact .inl h3
  · refine .inr ⟨q, o, rfl, fun i v hi => ?_⟩
    have hl : 0 < e.xs.length := by
      rcases Nat.eq_zero_or_pos e.xs.length with h0 | h0
      · rw [List.eq_nil_of_length_eq_zero h0] at hi; simp at hi
      · exact h0
    rw [World.cell?_of_block (w := w) (a := ⟨q, o + i, none⟩) (hk q (hr e he' q o _ _ er hl))]
    exact h3 i v hi
/-- The append: what it answers, and what it turns. -/
theorem LG.app_run (g : LG w h L) (e : En) (se : Safe w h e) (hl : L.es.length < 60) (ad : Addr) (hc : ∀ j u, e.cells[j]? = some u → w.cell? (ad.add j) = some u) :
    ∃ ao c w5 r, (Builtin.append_ #[26, 26] 26 #[h.ev, .slice (some ad) 1 1]).run Try.prog w = .ok (.slice ao (L.es.length + 1) c) w5 ∧
      w5.ownsRow 0 TE 5 (.slice ao (L.es.length + 1) c) (L.es.length + 1) (ecells (L.es ++ [e])) ∧ w.grownBy w5 r ∧ (∀ k, r = some k → ∀ o, h.fp ⟨k, o, none⟩) ∧ (∀ k, r = some k → h.ev.ownBlock = some k) ∧
      ∀ k, (Value.slice ao (L.es.length + 1) c).ownBlock = some k → r = some k ∨ w.heap.size ≤ k := by
  obtain ⟨i0, hi, hz0, hz1, hz2⟩ := info_parts info_E
  have hone : ∀ u ∈ e.cells, u.oneCell' = true := by
    have := ecells_one (w := w) (h := h) (l := [e]) (by simpa using se)
    simpa [ecells] using this
  have hcat : ecells (L.es ++ [e]) = ecells L.es ++ e.cells := by simp [ecells]
  have form : ∀ {B : Nat} {w5 : World} {v : Value} {xs : List Value}, w5.ownsRow B TE 5 v (L.es.length + 1) xs → ∃ ao c, v = .slice ao (L.es.length + 1) c := fun {B w5 v xs} ho => by
    rcases ho.2 with ⟨_, e2⟩ | ⟨q, cap, cur, e1, _⟩
    · omega
    · exact ⟨_, cap, e1⟩
  have own : (∃ ao c, h.ev = .slice ao L.es.length c ∧ w.ownsRow 0 TE 5 h.ev L.es.length (ecells L.es) ∧ (∀ k, h.ev.ownBlock = some k → ∀ o, h.fp ⟨k, o, none⟩)) ∨
      ∃ q, h.ev = .slice (some ⟨q, 0, none⟩) L.es.length L.es.length ∧ ∀ j u, (ecells L.es)[j]? = some u → w.cell? ((⟨q, 0, none⟩ : Addr).add j) = some u := by
    rcases g.ents.2 with ⟨e1, e2⟩ | ⟨q, cap, cur, e1, hq, c1, c2, c3, c4, c5⟩
    · left
      refine ⟨none, 0, by rw [e1, e2], ⟨g.ents.1, .inl ⟨e1, e2⟩⟩, fun k hk => ?_⟩
      rw [e1] at hk; cases hk
    · rcases Nat.lt_or_ge L.es.length cap with hlt | hge
      · left
        refine ⟨_, cap, e1, ⟨g.ents.1, .inr ⟨q, cap, cur, e1, Nat.zero_le _, hq, c1, c2, c4 hlt, c5⟩⟩, fun k hk o => ?_⟩
        rw [e1] at hk
        cases hk
        exact .inr (.inr (.inr ⟨_, _, e1, .inl hlt⟩))
      · right
        obtain rfl : cap = L.es.length := by omega
        refine ⟨q, e1, fun j u hj => ?_⟩
        rw [Addr.add_lit, Nat.zero_add, cell_of_row w q j cur TE (0, 0) hq]
        rw [← c5, List.getElem?_take] at hj
        split at hj
        · simpa using hj
        · cases hj
  rcases own with ⟨ao0, c0, e0, ho0, hf0⟩ | ⟨q, e0, hcells⟩
  · obtain ⟨v', w5, hrun, ho, hg, _, hat⟩ := run_append_own_at (P := Try.prog) w 0 26 26 36 i0 _ 5 64 Try.underlying26 hi hz0 hz1 hz2 rfl (by decide) h.ev L.es.length (ecells L.es) ho0 ad 1 1 e.cells rfl hc hone (by unfold maxLen; omega) (by omega) (Nat.zero_le _)
    obtain ⟨ao, c, rfl⟩ := form ho
    refine ⟨ao, c, w5, h.ev.ownBlock, hrun, by rw [hcat]; exact ho, hg, hf0, fun k hk => hk, fun k hk => ?_⟩
    rcases hat with e1 | e1
    · exact .inl (e1 ▸ hk)
    · rw [e1] at hk; injection hk with hk; exact .inr (by omega)
  · obtain ⟨v', w5, hrun, ho, hg⟩ := run_append_arg_grows (P := Try.prog) w 26 26 36 i0 _ 5 64 Try.underlying26 hi hz0 hz1 hz2 rfl (by decide) ⟨q, 0, none⟩ L.es.length L.es.length (ecells L.es) (ecells_length _) hcells ad 1 1 e.cells rfl hc (by omega) (by unfold maxLen; omega) (by omega)
    obtain ⟨ao, c, rfl⟩ := form ho
    refine ⟨ao, c, w5, none, (by rw [e0]; exact hrun), ?_, hg, (fun k hk => by cases hk), (fun k hk => by cases hk), fun k hk => .inr ?_⟩
    · rw [hcat]
      refine ⟨ho.1, ?_⟩
      rcases ho.2 with ⟨_, e2⟩ | ⟨q', cap, cur, e1, _, rest⟩
      · omega
      · exact .inr ⟨q', cap, cur, e1, Nat.zero_le _, rest⟩
    · rcases ho.2 with ⟨_, e2⟩ | ⟨q', cap, cur, e1, hb, rest⟩
      · omega
      · rw [e1] at hk; cases hk; exact hb
theorem Er.of_owns {w : World} {v : Value} {n : Nat} {xs : List Value} (h : w.ownsRow 0 TE 5 v n xs) : Er w v n xs := by
  refine ⟨h.1, ?_⟩
  rcases h.2 with h1 | ⟨q, cap, cur, e1, _, hq, c1, c2, c3, c4⟩
  · exact .inl h1
  · exact .inr ⟨q, cap, cur, e1, hq, c1, c2, by omega, fun _ => c3, c4⟩
/-- The log behind it. -/
theorem LG.app (g : LG w h L) (e : En) (se : Safe w h e) (hl : L.es.length < L.room) (ad : Addr) (hc : ∀ j u, e.cells[j]? = some u → w.cell? (ad.add j) = some u) :
    ∃ ao c w5, (Builtin.append_ #[26, 26] 26 #[h.ev, .slice (some ad) 1 1]).run Try.prog w = .ok (.slice ao (L.es.length + 1) c) w5 ∧
      LG (w5.setCell ⟨h.p, 1, none⟩ (.slice ao (L.es.length + 1) c)) { h with ev := .slice ao (L.es.length + 1) c } { L with es := L.es ++ [e] } ∧ Ml w h (w5.setCell ⟨h.p, 1, none⟩ (.slice ao (L.es.length + 1) c)) { h with ev := .slice ao (L.es.length + 1) c } ∧
      w5.cell? ⟨h.p, 1, none⟩ = some h.ev ∧ w5.frozen? ⟨h.p, 1, none⟩ = false ∧ (∀ k, k < w.heap.size → h.ev.ownBlock ≠ some k → w5.heap[k]? = w.heap[k]?) := by
  obtain ⟨ao, c, w5, r, hrun, ho, hg, hr, hr2, hat⟩ := g.app_run e se (by have := g.room; omega) ad hc
  obtain ⟨n1, n2, n3⟩ := g.ne
  obtain ⟨b1, b2, b3, b4⟩ := g.has
  have hk5 : ∀ k, k < w.heap.size → h.ev.ownBlock ≠ some k → w5.heap[k]? = w.heap[k]? := fun k hk ht => hg.block k hk (fun e => ht (hr2 k e.symm))
  have hp5 : w5.heap[h.p]? = some (.cells #[.int .i64 (L.room : Int), h.ev, svB L.s1, svN L.s1, svB L.s2, svN L.s2, svB L.s3, svN L.s3, .map (some h.mb), h.tv] TLg (0, 0)) := by rw [hk5 h.p b1 g.ep]; exact g.box
  refine ⟨ao, c, w5, hrun, ?_⟩
  generalize hv : Value.slice ao (L.es.length + 1) c = v at *
  have np : v.ownBlock ≠ some h.p := fun e => by
    rcases hat _ e with e | e
    · exact g.ep (hr2 _ e)
    · omega
  have hk6 : ∀ k, k < w.heap.size → k ≠ h.p → r ≠ some k → (w5.setCell ⟨h.p, 1, none⟩ v).heap[k]? = w.heap[k]? := fun k hk hp ht => by
    rw [Below.heap_setCell _ _ _ _ hp, hg.block k hk (fun e => ht e.symm)]
  have ml : Ml w h (w5.setCell ⟨h.p, 1, none⟩ v) { h with ev := v } := by
    refine ⟨⟨hg.os, hg.tape, hg.output, by have := hg.size; simp [World.setCell]; omega, fun k hk hn => hk6 k hk (fun e => hn 0 (.inl e)) (fun e => hn 0 (hr k e 0)), fun b o hb' hn => World.cell?_of_block (hk6 b hb' (fun e => hn (.inl e)) (fun e => hn (hr b e o)))⟩, fun a ha => ?_, rfl⟩
    rcases ha with e | e | e | ⟨n, c', e, _⟩
    · exact .inl (.inl e)
    · exact .inl (.inr (.inl e))
    · exact .inl (.inr (.inr (.inl e)))
    · have e' : v = .slice (some ⟨a.block, 0, none⟩) n c' := e
      rcases hat a.block (by rw [e']; rfl) with k | k
      · exact .inl (hr _ k a.off)
      · exact .inr k
  obtain ⟨es, cl, m1, m2, m3⟩ := g.map
  refine ⟨⟨heap_setCell_same w5 h.p 1 _ TLg _ hp5, ?_, fun x hx => ?_, ⟨es, cl, ?_, m2, m3⟩, ?_, g.okm, g.tp, np, fun k hk e => ?_, g.room, ?_⟩, ml, ?_, ?_, hk5⟩
  · have := Er.of_owns ho
    show Er _ v (L.es ++ [e]).length (ecells (L.es ++ [e]))
    rw [List.length_append]
    exact this.block fun k hk => Below.heap_setCell _ _ _ _ fun e => np (by rw [hk]; exact congrArg some e)
  · rcases List.mem_append.1 hx with hx | hx
    · exact (g.rows x hx).ml ml
    · rw [List.mem_singleton.1 hx]; exact se.ml ml
  · rw [Below.heap_setCell _ _ _ _ n1, hk5 _ b2 n3]; exact m1
  · refine owns_block g.tou fun k hk => ?_
    rw [Below.heap_setCell _ _ _ _ (fun e => g.tp (by rw [hk]; exact congrArg some e)), hk5 k (b3 k hk) fun e => g.et k e hk]
  · rcases hat k hk with e1 | e1
    · exact g.et k (hr2 k e1) e
    · have := b3 k e; omega
  · show (L.es ++ [e]).length ≤ L.room
    rw [List.length_append]; exact hl
  · rw [cell_of_row w5 h.p 1 _ TLg (0, 0) hp5]; rfl
  · simp [World.frozen?, hp5]
end
end Go.Proofs.Ytbfoplaccalegaa.Val
