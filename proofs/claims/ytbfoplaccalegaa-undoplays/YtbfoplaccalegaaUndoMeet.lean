/- What meet does: a spot that is new stands in the map, and behind all that was told. -/
import Derived.Test.YtbfoplaccalegaaUndoSave
import Derived.Test.YtbfoplaccalegaaPredBox
namespace Go.Proofs.Ytbfoplaccalegaa.Val
open Go Go.RowKit

section
variable {P : Program} {ops : Array Oper} {o : Oper} {a : Act} {w : World} {K : Act → World → Prop} {Q : Exit → Act → World → Prop} {E : Prop}
theorem step_append_run (hgd : o.guard = none) (s x : Operand) (t tn : TypeId) (ho : o.op = .call { callee := .builtin .append, args := #[s, x], argTypes := #[t, tn] }) (vs vx : Value) (hs : a.eval s = vs) (hx : a.eval x = vx)
    (v' : Value) (w' : World) (hr : (Builtin.append_ #[t, tn] o.type #[vs, vx]).run P w = .ok v' w') (h : K (a.put o.dst v') w') : if Region.wanted o (yielded ops a.tmps) = true then Oper.wp P o a w K Q else E := by
  rw [if_pos (by simp [Region.wanted, hgd])]
  unfold Oper.wp
  simp [execOp, ho, resolve, invoke, builtin, hs, hx, hr, Result.andThen]
  exact h
end
def Lg.meet (L : Lg) (s : Spot) : Lg := if inMet L.met s then L else { L with met := L.met ++ [s] }
theorem info_E : (Try.prog.info? 36).map (fun i => (i.zero, i.size, i.bytes)) = some (some (.agg #[.int .i64 0, .bool false, .int .i64 0, .string ⟨#[]⟩, .slice none 0 0]), 5, 64) := by kernel_rfl
abbrev sobj (s : Spot) : Obj := .cells #[.int .i64 s.1, .bool s.2.t, .int .i64 s.2.n, .string s.2.s] TSp
structure SpB (w : World) (b : Nat) (s : Spot) : Prop where
  c0 : w.cell? ⟨b, 0, none⟩ = some (.int .i64 s.1)
  c1 : w.cell? ⟨b, 1, none⟩ = some (.bool s.2.t)
  c2 : w.cell? ⟨b, 2, none⟩ = some (.int .i64 s.2.n)
  c3 : w.cell? ⟨b, 3, none⟩ = some (.string s.2.s)
theorem SpB.below {w w' : World} {b : Nat} {s : Spot} (x : SpB w b s) (hb : Below w.heap.size w w') : SpB w' b s :=
  ⟨cell_below x.c0 hb, cell_below x.c1 hb, cell_below x.c2 hb, cell_below x.c3 hb⟩
theorem SpB.lt {w : World} {b : Nat} {s : Spot} (x : SpB w b s) : b < w.heap.size := World.block_lt_of_cell? w _ x.c0
theorem SpB.new (w : World) (s : Spot) : SpB (w.alloc (sobj s)) w.heap.size s := by constructor <;> simp [go_sem]
set_option maxHeartbeats 400000 in
theorem meet_in {w : World} {h : Hl} {L : Lg} (g : LG w h L) (s : Spot) (hs : okS s) (hin : inMet L.met s = true) :
    Calls Try.prog 25 #[.pointer (some ⟨h.p, 0, none⟩), .int .i64 s.1, V s.2.t s.2.n s.2.s] w fun e w' => e = .returned (.tuple #[]) ∧ Below w.heap.size w w' := by
  have HB : Hid (Below w.heap.size w ((w.alloc (vobj s.2 32)).alloc (sobj s))) := ((Below.refl _ _).alloc (Nat.le_refl _) _).alloc (by simp) _
  have X0 : SpB ((w.alloc (vobj s.2 32)).alloc (sobj s)) (w.heap.size + 1) s := by
    have := SpB.new (w.alloc (vobj s.2 32)) s
    rwa [show (w.alloc (vobj s.2 32)).heap.size = w.heap.size + 1 by simp] at this
  have HG : Hid (LG ((w.alloc (vobj s.2 32)).alloc (sobj s)) h L) := g.below HB.out
  have HL : Hid (∀ w' : World, LG w' h L → (Instr.lookup TMp (.map (some h.mb)) (.agg #[.int .i64 s.1, .bool s.2.t, .int .i64 s.2.n, .string s.2.s]) true).run Try.prog w' = .ok (.tuple #[.agg #[], .bool true]) w') := fun w' g' => by have := g'.look s hs; rwa [hin] at this
  have HM : Hid (∀ w' : World, LG w' h L → w'.cell? ⟨h.p, 8, none⟩ = some (.map (some h.mb))) := fun w' g' => g'.cells 8
  have HS : Hid (∀ w' : World, LG w' h L → SpB w' (w.heap.size + 1) s → w'.cell? ⟨h.p, 8, none⟩ = some (.map (some h.mb)) ∧ w'.cell? ⟨w.heap.size + 1, 0, none⟩ = some (.int .i64 s.1) ∧ w'.cell? ⟨w.heap.size + 1, 1, none⟩ = some (.bool s.2.t) ∧ w'.cell? ⟨w.heap.size + 1, 2, none⟩ = some (.int .i64 s.2.n) ∧ w'.cell? ⟨w.heap.size + 1, 3, none⟩ = some (.string s.2.s) ∧ Hid (LG w' h L)) := fun w' g' x' => ⟨g'.cells 8, x'.c0, x'.c1, x'.c2, x'.c3, g'⟩
  have hX : Hid _ := X0
  clear g hs hin HM X0
  go_enter Try.func25, Try.ntmps25
  go_wp2_with fail
  generalize (w.alloc (vobj s.2 32)).alloc (sobj s) = w2 at *
  refine wp_region_held_drew (S := fun w' => w'.cell? ⟨h.p, 8, none⟩ = some (.map (some h.mb)) ∧ w'.cell? ⟨w.heap.size + 1, 0, none⟩ = some (.int .i64 s.1) ∧ w'.cell? ⟨w.heap.size + 1, 1, none⟩ = some (.bool s.2.t) ∧ w'.cell? ⟨w.heap.size + 1, 2, none⟩ = some (.int .i64 s.2.n) ∧ w'.cell? ⟨w.heap.size + 1, 3, none⟩ = some (.string s.2.s) ∧ Hid (LG w' h L)) (by kernel_rfl) ?_ (fun hHeld => ?_)
  · exact HS.out _ HG.out.drew (hX.out.below (Below.refl _ _).drew)
  (try clear hK K)
  refine wpAnyH_take (i := 0) (v := ?_) rfl (by kernel_rfl) (by kernel_rfl) (by kernel_rfl) (fun _ _ _ h => h) (Or.inl ⟨by rfl, ?_⟩) (by assumption) ?_
  rotate_left
  · intro w hSw; (try dsimp only at hSw); go_simp; (try with_reducible rfl)
  (try simp only [Act.put, List.getElem_toArray, List.getElem_cons_zero, List.setIfInBounds_toArray, List.set_cons_zero, List.set_cons_succ])
  refine wpAnyH_take (i := 1) (v := ?_) rfl (by kernel_rfl) (by kernel_rfl) (by kernel_rfl) (fun _ _ _ h => h) (Or.inl ⟨by rfl, ?_⟩) (by assumption) ?_
  rotate_left
  · intro w hSw; (try dsimp only at hSw); go_simp; (try with_reducible rfl)
  (try simp only [Act.put, List.getElem_toArray, List.getElem_cons_succ, List.getElem_cons_zero, List.setIfInBounds_toArray, List.set_cons_zero, List.set_cons_succ])
  refine wpAnyH_take (i := 2) (v := ?_) rfl (by kernel_rfl) (by kernel_rfl) (by kernel_rfl) (fun _ _ _ h => h) (Or.inl ⟨by rfl, ?_⟩) (by assumption) ?_
  rotate_left
  · intro w hSw; (try dsimp only at hSw); go_simp; (try with_reducible rfl)
  (try simp only [Act.put, List.getElem_toArray, List.getElem_cons_succ, List.getElem_cons_zero, List.setIfInBounds_toArray, List.set_cons_zero, List.set_cons_succ])
  refine wpAnyH_take (i := 3) (v := ?_) rfl (by kernel_rfl) (by kernel_rfl) (by kernel_rfl) (fun _ _ _ h => h) (Or.inl ⟨by rfl, ?_⟩) (by assumption) ?_
  rotate_left
  · intro w hSw; (try dsimp only at hSw); go_simp; (try with_reducible rfl)
  (try simp only [Act.put, List.getElem_toArray, List.getElem_cons_succ, List.getElem_cons_zero, List.setIfInBounds_toArray, List.set_cons_zero, List.set_cons_succ])
  refine wpAnyH_take (i := 4) (v := ?_) rfl (by kernel_rfl) (by kernel_rfl) (by kernel_rfl) (fun _ _ _ h => h) (Or.inl ⟨by rfl, ?_⟩) (by assumption) ?_
  rotate_left
  · intro w hSw; (try dsimp only at hSw); go_simp; (try with_reducible rfl)
  (try simp only [Act.put, List.getElem_toArray, List.getElem_cons_succ, List.getElem_cons_zero, List.setIfInBounds_toArray, List.set_cons_zero, List.set_cons_succ])
  refine wpAnyH_take (i := 5) (v := .tuple #[.agg #[], .bool true]) rfl (by kernel_rfl) (by kernel_rfl) (by kernel_rfl) (fun _ _ _ h => h) (Or.inl ⟨by rfl, ?_⟩) (by assumption) ?_
  · intro w' hSw
    have hl := HL.out w' hSw.2.2.2.2.2.out
    clear hSw
    go_simp
  (try simp only [Act.put, List.getElem_toArray, List.getElem_cons_succ, List.getElem_cons_zero, List.setIfInBounds_toArray, List.set_cons_zero, List.set_cons_succ])
  (try clear hK K)
  refine wpAnyH_take (i := 6) (v := ?_) rfl (by kernel_rfl) (by kernel_rfl) (by kernel_rfl) (fun _ _ _ h => h) (Or.inl ⟨by rfl, ?_⟩) (by assumption) ?_
  rotate_left
  · intro w hSw; (try dsimp only at hSw); go_simp; (try with_reducible rfl)
  (try simp only [Act.put, List.getElem_toArray, List.getElem_cons_succ, List.getElem_cons_zero, List.setIfInBounds_toArray, List.set_cons_zero, List.set_cons_succ])
  refine wpAnyH_take (i := 7) (v := ?_) rfl (by kernel_rfl) (by kernel_rfl) (by kernel_rfl) (fun _ _ _ h => h) (Or.inl ⟨by rfl, ?_⟩) (by assumption) ?_
  rotate_left
  · intro w hSw; (try dsimp only at hSw); go_simp; (try with_reducible rfl)
  (try simp only [Act.put, List.getElem_toArray, List.getElem_cons_succ, List.getElem_cons_zero, List.setIfInBounds_toArray, List.set_cons_zero, List.set_cons_succ])
  refine wpAnyH_take (i := 8) (v := ?_) rfl (by kernel_rfl) (by kernel_rfl) (by kernel_rfl) (fun _ _ _ h => h) (Or.inl ⟨by rfl, ?_⟩) (by assumption) ?_
  rotate_left
  · intro w hSw; (try dsimp only at hSw); go_simp; (try with_reducible rfl)
  (try simp only [Act.put, List.getElem_toArray, List.getElem_cons_succ, List.getElem_cons_zero, List.setIfInBounds_toArray, List.set_cons_zero, List.set_cons_succ])
  (try clear hK K)
  refine wpAnyH_ready (rs := [9]) (by kernel_rfl) (by simp) ?_
  refine AllReadyH.cons rfl (fun K hK => ?_) AllReadyH.nil
  go_simp
  refine hK.out _ _ ?_ (fun hHeld => ?_)
  · exact HS.out _ (HG.out.below ((alloc1 _ _).drew)) (hX.out.below ((alloc1 _ _).drew))
  (try clear hK K)
  refine wpAnyH_ready (rs := [10]) (by kernel_rfl) (by simp) ?_
  refine AllReadyH.cons rfl (fun K hK => ?_) AllReadyH.nil
  go_simp
  refine hK.out _ _ ?_ (fun hHeld => ?_)
  · exact HS.out _ (HG.out.below ((alloc1 _ _).drew)) (hX.out.below ((alloc1 _ _).drew))
  (try clear hK K)
  refine wpAnyH_take (i := 11) (v := ?_) rfl (by kernel_rfl) (by kernel_rfl) (by kernel_rfl) (fun _ _ _ h => h) (Or.inl ⟨by rfl, ?_⟩) (by assumption) ?_
  rotate_left
  · intro w hSw; (try dsimp only at hSw); go_simp; (try with_reducible rfl)
  (try simp only [Act.put, List.getElem_toArray, List.getElem_cons_succ, List.getElem_cons_zero, List.setIfInBounds_toArray, List.set_cons_zero, List.set_cons_succ])
  (try clear hK K)
  refine wpAnyH_done (by kernel_rfl) ?_ _
  go_wp2_with fail
  refine bodyPost_ret (results_none rfl _ _ _) rfl ?_
  exact ⟨rfl, (HB.out.alloc HB.out.size _).drew⟩
section
variable {w w4 w5 : World} {h : Hl} {L : Lg}
theorem LG.met_done (g : LG w h L) (s : Spot) (hs : okS s) (es : Array MapEntry) (cl : Nat) (hm : es.toList.map (·.key) = (L.met ++ [s]).map spotV) (hv : ∀ e ∈ es.toList, e.val = .agg #[])
    (hb : Below (ChangeMaps.setBlock w h.mb (.map es cl)).heap.size (ChangeMaps.setBlock w h.mb (.map es cl)) w4) (v : Value)
    (ho : w5.ownsRow 0 TE 5 v (L.met.length + 1) (ecells (L.met.map touE) ++ (touE s).cells)) (hg : w4.grownBy w5 h.tv.ownBlock) (hat : v.ownBlock = h.tv.ownBlock ∨ v.ownBlock = some w4.heap.size) :
    LG (w5.setCell ⟨h.p, 9, none⟩ v) { h with tv := v } { L with met := L.met ++ [s] } ∧ Ml w h (w5.setCell ⟨h.p, 9, none⟩ v) { h with tv := v } := by
  obtain ⟨es0, cl0, m1, m2, m3⟩ := g.map
  obtain ⟨n1, n2, n3⟩ := g.ne
  obtain ⟨b1, b2, b3, b4⟩ := g.has
  have sz : (ChangeMaps.setBlock w h.mb (.map es cl)).heap.size = w.heap.size := by simp [ChangeMaps.setBlock]
  have hsz := hb.size
  rw [sz] at hsz
  have hw4 : ∀ k, k < w.heap.size → k ≠ h.mb → w4.heap[k]? = w.heap[k]? := fun k hk hne => by
    rw [hb.block k (by rw [sz]; exact hk), ChangeMaps.heap_setBlock_other m1 _ hne]
  have hmb4 : w4.heap[h.mb]? = some (.map es cl) := by rw [hb.block _ (by rw [sz]; exact b2), ChangeMaps.heap_setBlock_same m1]
  have hk5 : ∀ k, k < w.heap.size → k ≠ h.mb → h.tv.ownBlock ≠ some k → w5.heap[k]? = w.heap[k]? := fun k hk hne ht => by
    rw [hg.block k (by omega) (fun e => ht e.symm), hw4 k hk hne]
  have hk6 : ∀ k, k < w.heap.size → k ≠ h.p → k ≠ h.mb → h.tv.ownBlock ≠ some k → (w5.setCell ⟨h.p, 9, none⟩ v).heap[k]? = w.heap[k]? := fun k hk hp hne ht => by
    rw [Below.heap_setCell _ _ _ _ hp, hk5 k hk hne ht]
  have own : ∀ k, v.ownBlock = some k → h.tv.ownBlock = some k ∨ w.heap.size ≤ k := fun k hk => by
    rcases hat with e | e
    · exact .inl (e ▸ hk)
    · rw [e] at hk; injection hk with hk; exact .inr (by omega)
  have np : v.ownBlock ≠ some h.p := fun e => by
    rcases own _ e with e | e
    · exact g.tp e
    · omega
  have ml : Ml w h (w5.setCell ⟨h.p, 9, none⟩ v) { h with tv := v } := by
    refine ⟨⟨?_, ?_, ?_, ?_, fun k hk hn => hk6 k hk (fun e => hn 0 (.inl e)) (fun e => hn 0 (.inr (.inl e))) (fun e => hn 0 (.inr (.inr (.inl e)))), fun b o hb' hn => World.cell?_of_block (hk6 b hb' (fun e => hn (.inl e)) (fun e => hn (.inr (.inl e))) (fun e => hn (.inr (.inr (.inl e)))))⟩, fun a ha => ?_, rfl⟩
    · exact hg.os.trans (hb.os.trans rfl)
    · exact hg.tape.trans (hb.tape.trans rfl)
    · exact hg.output.trans (hb.output.trans rfl)
    · have := hg.size; simp [World.setCell]; omega
    · rcases ha with e | e | e | e
      · exact .inl (.inl e)
      · exact .inl (.inr (.inl e))
      · rcases own _ e with k | k
        · exact .inl (.inr (.inr (.inl k)))
        · exact .inr k
      · exact .inl (.inr (.inr (.inr e)))
  refine ⟨⟨?_, g.ents.block fun k hk => hk6 k (b4 k hk) (fun e => g.ep (e ▸ hk)) (fun e => n3 (e ▸ hk)) (g.et k hk), fun e he => (g.rows e he).ml ml, ⟨es, cl, ?_, hm, hv⟩, ?_, ?_, np, g.ep, ?_, g.room, g.len⟩, ml⟩
  · have hp : w5.heap[h.p]? = some (.cells #[.int .i64 (L.room : Int), h.ev, svB L.s1, svN L.s1, svB L.s2, svN L.s2, svB L.s3, svN L.s3, .map (some h.mb), h.tv] TLg (0, 0)) := by
      rw [hk5 h.p b1 (fun e => n1 e.symm) g.tp]; exact g.box
    exact heap_setCell_same w5 h.p 9 _ TLg _ hp
  · rw [Below.heap_setCell _ _ _ _ n1, hg.block _ (by omega) (fun e => n2 e.symm)]; exact hmb4
  · have hc : ecells ((L.met ++ [s]).map touE) = ecells (L.met.map touE) ++ (touE s).cells := by simp [ecells]
    show World.ownsRow _ 0 TE 5 v (L.met ++ [s]).length (ecells ((L.met ++ [s]).map touE))
    rw [hc, List.length_append]
    exact owns_block ho fun k hk => Below.heap_setCell _ _ _ _ fun e => np (by rw [hk]; exact congrArg some e)
  · intro x hx
    rcases List.mem_append.1 hx with hx | hx
    · exact g.okm x hx
    · rw [List.mem_singleton.1 hx]; exact hs
  · intro k hk e
    rcases own k e with e | e
    · exact g.et k hk e
    · have := b4 k hk; omega
end
set_option maxHeartbeats 400000 in
theorem meet_new {w : World} {h : Hl} {L : Lg} (g : LG w h L) (s : Spot) (hs : okS s) (hin : inMet L.met s = false) (hlen : L.met.length ≤ 1000) :
    Calls Try.prog 25 #[.pointer (some ⟨h.p, 0, none⟩), .int .i64 s.1, V s.2.t s.2.n s.2.s] w fun e w' => e = .returned (.tuple #[]) ∧ ∃ h', LG w' h' { L with met := L.met ++ [s] } ∧ Ml w h w' h' ∧ h'.ev = h.ev := by
  have HB : Hid (Below w.heap.size w ((w.alloc (vobj s.2 32)).alloc (sobj s))) := ((Below.refl _ _).alloc (Nat.le_refl _) _).alloc (by simp) _
  have X0 : SpB ((w.alloc (vobj s.2 32)).alloc (sobj s)) (w.heap.size + 1) s := by
    have := SpB.new (w.alloc (vobj s.2 32)) s
    rwa [show (w.alloc (vobj s.2 32)).heap.size = w.heap.size + 1 by simp] at this
  have HG : Hid (LG ((w.alloc (vobj s.2 32)).alloc (sobj s)) h L) := g.below HB.out
  have HL : Hid (∀ w' : World, LG w' h L → (Instr.lookup TMp (.map (some h.mb)) (.agg #[.int .i64 s.1, .bool s.2.t, .int .i64 s.2.n, .string s.2.s]) true).run Try.prog w' = .ok (.tuple #[.agg #[], .bool false]) w') := fun w' g' => by have := g'.look s hs; rwa [hin] at this
  have HN : Hid (okS s ∧ inMet L.met s = false ∧ L.met.length ≤ 1000) := ⟨hs, hin, hlen⟩
  have HV : Hid (VBox ((w.alloc (vobj s.2 32)).alloc (sobj s)) w.heap.size s.2) := (VBox.new w s.2 _).alloc _
  have HM : Hid (∀ w' : World, LG w' h L → w'.cell? ⟨h.p, 8, none⟩ = some (.map (some h.mb))) := fun w' g' => g'.cells 8
  have HS : Hid (∀ w' : World, LG w' h L → SpB w' (w.heap.size + 1) s → w'.cell? ⟨h.p, 8, none⟩ = some (.map (some h.mb)) ∧ w'.cell? ⟨w.heap.size + 1, 0, none⟩ = some (.int .i64 s.1) ∧ w'.cell? ⟨w.heap.size + 1, 1, none⟩ = some (.bool s.2.t) ∧ w'.cell? ⟨w.heap.size + 1, 2, none⟩ = some (.int .i64 s.2.n) ∧ w'.cell? ⟨w.heap.size + 1, 3, none⟩ = some (.string s.2.s) ∧ Hid (LG w' h L)) := fun w' g' x' => ⟨g'.cells 8, x'.c0, x'.c1, x'.c2, x'.c3, g'⟩
  have hX : Hid _ := X0
  have HT : Hid ((∀ k, h.tv.ownBlock = some k → k < w.heap.size) ∧ h.p < w.heap.size) := ⟨g.has.2.2.1, g.has.1⟩
  clear g hs hin hlen HM X0
  go_enter Try.func25, Try.ntmps25
  go_wp2_with fail
  generalize (w.alloc (vobj s.2 32)).alloc (sobj s) = w2 at *
  refine wp_region_held_drew (S := fun w' => w'.cell? ⟨h.p, 8, none⟩ = some (.map (some h.mb)) ∧ w'.cell? ⟨w.heap.size + 1, 0, none⟩ = some (.int .i64 s.1) ∧ w'.cell? ⟨w.heap.size + 1, 1, none⟩ = some (.bool s.2.t) ∧ w'.cell? ⟨w.heap.size + 1, 2, none⟩ = some (.int .i64 s.2.n) ∧ w'.cell? ⟨w.heap.size + 1, 3, none⟩ = some (.string s.2.s) ∧ Hid (LG w' h L)) (by kernel_rfl) ?_ (fun hHeld => ?_)
  · exact HS.out _ HG.out.drew (hX.out.below (Below.refl _ _).drew)
  (try clear hK K)
  refine wpAnyH_take (i := 0) (v := ?_) rfl (by kernel_rfl) (by kernel_rfl) (by kernel_rfl) (fun _ _ _ h => h) (Or.inl ⟨by rfl, ?_⟩) (by assumption) ?_
  rotate_left
  · intro w hSw; (try dsimp only at hSw); go_simp; (try with_reducible rfl)
  (try simp only [Act.put, List.getElem_toArray, List.getElem_cons_zero, List.setIfInBounds_toArray, List.set_cons_zero, List.set_cons_succ])
  refine wpAnyH_take (i := 1) (v := ?_) rfl (by kernel_rfl) (by kernel_rfl) (by kernel_rfl) (fun _ _ _ h => h) (Or.inl ⟨by rfl, ?_⟩) (by assumption) ?_
  rotate_left
  · intro w hSw; (try dsimp only at hSw); go_simp; (try with_reducible rfl)
  (try simp only [Act.put, List.getElem_toArray, List.getElem_cons_succ, List.getElem_cons_zero, List.setIfInBounds_toArray, List.set_cons_zero, List.set_cons_succ])
  refine wpAnyH_take (i := 2) (v := ?_) rfl (by kernel_rfl) (by kernel_rfl) (by kernel_rfl) (fun _ _ _ h => h) (Or.inl ⟨by rfl, ?_⟩) (by assumption) ?_
  rotate_left
  · intro w hSw; (try dsimp only at hSw); go_simp; (try with_reducible rfl)
  (try simp only [Act.put, List.getElem_toArray, List.getElem_cons_succ, List.getElem_cons_zero, List.setIfInBounds_toArray, List.set_cons_zero, List.set_cons_succ])
  refine wpAnyH_take (i := 3) (v := ?_) rfl (by kernel_rfl) (by kernel_rfl) (by kernel_rfl) (fun _ _ _ h => h) (Or.inl ⟨by rfl, ?_⟩) (by assumption) ?_
  rotate_left
  · intro w hSw; (try dsimp only at hSw); go_simp; (try with_reducible rfl)
  (try simp only [Act.put, List.getElem_toArray, List.getElem_cons_succ, List.getElem_cons_zero, List.setIfInBounds_toArray, List.set_cons_zero, List.set_cons_succ])
  refine wpAnyH_take (i := 4) (v := ?_) rfl (by kernel_rfl) (by kernel_rfl) (by kernel_rfl) (fun _ _ _ h => h) (Or.inl ⟨by rfl, ?_⟩) (by assumption) ?_
  rotate_left
  · intro w hSw; (try dsimp only at hSw); go_simp; (try with_reducible rfl)
  (try simp only [Act.put, List.getElem_toArray, List.getElem_cons_succ, List.getElem_cons_zero, List.setIfInBounds_toArray, List.set_cons_zero, List.set_cons_succ])
  refine wpAnyH_take (i := 5) (v := .tuple #[.agg #[], .bool false]) rfl (by kernel_rfl) (by kernel_rfl) (by kernel_rfl) (fun _ _ _ h => h) (Or.inl ⟨by rfl, ?_⟩) (by assumption) ?_
  · intro w' hSw
    have hl := HL.out w' hSw.2.2.2.2.2.out
    clear hSw
    go_simp
  (try simp only [Act.put, List.getElem_toArray, List.getElem_cons_succ, List.getElem_cons_zero, List.setIfInBounds_toArray, List.set_cons_zero, List.set_cons_succ])
  (try clear hK K)
  refine wpAnyH_take (i := 6) (v := ?_) rfl (by kernel_rfl) (by kernel_rfl) (by kernel_rfl) (fun _ _ _ h => h) (Or.inl ⟨by rfl, ?_⟩) (by assumption) ?_
  rotate_left
  · intro w hSw; (try dsimp only at hSw); go_simp; (try with_reducible rfl)
  (try simp only [Act.put, List.getElem_toArray, List.getElem_cons_succ, List.getElem_cons_zero, List.setIfInBounds_toArray, List.set_cons_zero, List.set_cons_succ])
  refine wpAnyH_take (i := 7) (v := ?_) rfl (by kernel_rfl) (by kernel_rfl) (by kernel_rfl) (fun _ _ _ h => h) (Or.inl ⟨by rfl, ?_⟩) (by assumption) ?_
  rotate_left
  · intro w hSw; (try dsimp only at hSw); go_simp; (try with_reducible rfl)
  (try simp only [Act.put, List.getElem_toArray, List.getElem_cons_succ, List.getElem_cons_zero, List.setIfInBounds_toArray, List.set_cons_zero, List.set_cons_succ])
  refine wpAnyH_take (i := 8) (v := ?_) rfl (by kernel_rfl) (by kernel_rfl) (by kernel_rfl) (fun _ _ _ h => h) (Or.inl ⟨by rfl, ?_⟩) (by assumption) ?_
  rotate_left
  · intro w hSw; (try dsimp only at hSw); go_simp; (try with_reducible rfl)
  (try simp only [Act.put, List.getElem_toArray, List.getElem_cons_succ, List.getElem_cons_zero, List.setIfInBounds_toArray, List.set_cons_zero, List.set_cons_succ])
  (try clear hK K)
  refine wpAnyH_ready (rs := [9]) (by kernel_rfl) (by simp) ?_
  refine AllReadyH.cons rfl (fun K hK => ?_) AllReadyH.nil
  go_simp
  refine hK.out _ _ ?_ (fun hHeld => ?_)
  · exact HS.out _ (HG.out.below ((alloc1 _ _).drew)) (hX.out.below ((alloc1 _ _).drew))
  (try clear hK K)
  refine wpAnyH_ready (rs := [10]) (by kernel_rfl) (by simp) ?_
  refine AllReadyH.cons rfl (fun K hK => ?_) AllReadyH.nil
  go_simp
  refine hK.out _ _ ?_ (fun hHeld => ?_)
  · exact HS.out _ (HG.out.below ((alloc1 _ _).drew)) (hX.out.below ((alloc1 _ _).drew))
  (try clear hK K)
  refine wpAnyH_take (i := 11) (v := ?_) rfl (by kernel_rfl) (by kernel_rfl) (by kernel_rfl) (fun _ _ _ h => h) (Or.inl ⟨by rfl, ?_⟩) (by assumption) ?_
  rotate_left
  · intro w hSw; (try dsimp only at hSw); go_simp; (try with_reducible rfl)
  (try simp only [Act.put, List.getElem_toArray, List.getElem_cons_succ, List.getElem_cons_zero, List.setIfInBounds_toArray, List.set_cons_zero, List.set_cons_succ])
  (try clear hK K)
  refine wpAnyH_done (by kernel_rfl) ?_ _
  have HB3 : Hid (Below w.heap.size w (w2.alloc (.cells #[] 76)).drew) := (HB.out.alloc HB.out.size (.cells #[] 76)).drew
  have HG3 : Hid (LG (w2.alloc (.cells #[] 76)).drew h L) := HG.out.below ((alloc1 w2 (.cells #[] 76)).drew)
  have HX3 : Hid (SpB (w2.alloc (.cells #[] 76)).drew (w.heap.size + 1) s) := hX.out.below ((alloc1 w2 (.cells #[] 76)).drew)
  have HV3 : Hid (VBox (w2.alloc (.cells #[] 76)).drew w.heap.size s.2) := HV.out.below ((alloc1 w2 (.cells #[] 76)).drew)
  clear hHeld HB HG hX HV HL
  go_wp2_with fail
  generalize (w2.alloc (.cells #[] 76)).drew = w3 at *
  obtain ⟨hs, hin, hlen⟩ := HN.out
  obtain ⟨es', cl', hrun, hm, hv⟩ := HG3.out.drew.put s hs hin
  obtain ⟨n1, n2, n3⟩ := HG3.out.ne
  obtain ⟨q1, q2, q3, q4⟩ := HG3.out.has
  have hne0 : w.heap.size ≠ h.mb := fun e => by
    obtain ⟨es0, cl0, m1, _⟩ := HG3.out.map
    have := HV3.out.c0
    simp [World.cell?, e, m1] at this
  have hne1 : w.heap.size + 1 ≠ h.mb := fun e => by
    obtain ⟨es0, cl0, m1, _⟩ := HG3.out.map
    have := HX3.out.c0
    simp [World.cell?, e, m1] at this
  have hcell : ∀ b o, b ≠ h.mb → (ChangeMaps.setBlock w3.drew h.mb (.map es' cl')).cell? ⟨b, o, none⟩ = w3.cell? ⟨b, o, none⟩ := fun b o hb => by
    obtain ⟨es0, cl0, m1, _⟩ := HG3.out.drew.map
    exact World.cell?_of_block (w := w3.drew) (ChangeMaps.heap_setBlock_other m1 _ hb)
  have HR : Hid _ := hrun
  have HC : Hid ((ChangeMaps.setBlock w3.drew h.mb (.map es' cl')).cell? ⟨h.p, 8, none⟩ = some (.map (some h.mb)) ∧ SpB (ChangeMaps.setBlock w3.drew h.mb (.map es' cl')) (w.heap.size + 1) s) :=
    ⟨by rw [hcell _ _ (fun e => n1 e.symm)]; exact HG3.out.cells 8, ⟨by rw [hcell _ _ hne1]; exact HX3.out.c0, by rw [hcell _ _ hne1]; exact HX3.out.c1, by rw [hcell _ _ hne1]; exact HX3.out.c2, by rw [hcell _ _ hne1]; exact HX3.out.c3⟩⟩
  have HV4 : Hid (VBox (ChangeMaps.setBlock w3.drew h.mb (.map es' cl')) w.heap.size s.2 ∧ (ChangeMaps.setBlock w3.drew h.mb (.map es' cl')).cell? ⟨h.p, 9, none⟩ = some h.tv) :=
    ⟨⟨by rw [hcell _ _ hne0]; exact HV3.out.c0, by rw [hcell _ _ hne0]; exact HV3.out.c1, by rw [hcell _ _ hne0]; exact HV3.out.c2⟩, by rw [hcell _ _ (fun e => n1 e.symm)]; exact HG3.out.cells 9⟩
  have HO4 : Hid ((ChangeMaps.setBlock w3.drew h.mb (.map es' cl')).ownsRow 0 TE 5 h.tv L.met.length (ecells (L.met.map touE))) := by
    obtain ⟨es0, cl0, m1, _⟩ := HG3.out.drew.map
    exact owns_block HG3.out.drew.tou fun k hk => ChangeMaps.heap_setBlock_other m1 _ fun e => n2 (e ▸ hk)
  have HF4 : Hid (∀ j, (ChangeMaps.setBlock w3.drew h.mb (.map es' cl')).frozen? ⟨h.p, j, none⟩ = false) := fun j => by
    obtain ⟨es0, cl0, m1, _⟩ := HG3.out.drew.map
    rw [World.frozen?_of_block (w := w3.drew) (a := ⟨h.p, j, none⟩) (ChangeMaps.heap_setBlock_other m1 _ (fun e => n1 e.symm))]
    exact HG3.out.drew.frozen j
  have HD : Hid _ := fun (w4 w5 : World) (v : Value) hb ho hg hat => HG3.out.drew.met_done (w4 := w4) (w5 := w5) s hs es' cl' hm hv hb v ho hg hat
  have HSz : Hid ((ChangeMaps.setBlock w3.drew h.mb (.map es' cl')).heap.size = w3.heap.size ∧ h.p < w3.heap.size ∧ h.tv.ownBlock ≠ some h.p) := ⟨by simp [ChangeMaps.setBlock], q1, HG3.out.tp⟩
  have HG4 : Hid _ := HG3.out
  have HLn : Hid (L.met.length ≤ 1000) := hlen
  clear hs hin hrun hm hv n1 n2 n3 q1 q2 q3 q4 hne0 hne1 hcell HN hlen
  refine wp_region_held_drew (S := fun w' => w'.cell? ⟨h.p, 8, none⟩ = some (.map (some h.mb)) ∧ w'.cell? ⟨w.heap.size + 1, 0, none⟩ = some (.int .i64 s.1) ∧ w'.cell? ⟨w.heap.size + 1, 1, none⟩ = some (.bool s.2.t) ∧ w'.cell? ⟨w.heap.size + 1, 2, none⟩ = some (.int .i64 s.2.n) ∧ w'.cell? ⟨w.heap.size + 1, 3, none⟩ = some (.string s.2.s)) (by kernel_rfl) ?_ (fun hHeld => ?_)
  · exact ⟨HG3.out.cells 8, HX3.out.c0, HX3.out.c1, HX3.out.c2, HX3.out.c3⟩
  (try clear hK K)
  refine wpAnyH_take (i := 0) (v := ?_) rfl (by kernel_rfl) (by kernel_rfl) (by kernel_rfl) (fun _ _ _ h => h) (Or.inl ⟨by rfl, ?_⟩) (by assumption) ?_
  rotate_left
  · intro w hSw; (try dsimp only at hSw); go_simp; (try with_reducible rfl)
  (try simp only [Act.put, List.getElem_toArray, List.getElem_cons_zero, List.setIfInBounds_toArray, List.set_cons_zero, List.set_cons_succ])
  refine wpAnyH_take (i := 1) (v := ?_) rfl (by kernel_rfl) (by kernel_rfl) (by kernel_rfl) (fun _ _ _ h => h) (Or.inl ⟨by rfl, ?_⟩) (by assumption) ?_
  rotate_left
  · intro w hSw; (try dsimp only at hSw); go_simp; (try with_reducible rfl)
  (try simp only [Act.put, List.getElem_toArray, List.getElem_cons_succ, List.getElem_cons_zero, List.setIfInBounds_toArray, List.set_cons_zero, List.set_cons_succ])
  refine wpAnyH_take (i := 2) (v := ?_) rfl (by kernel_rfl) (by kernel_rfl) (by kernel_rfl) (fun _ _ _ h => h) (Or.inl ⟨by rfl, ?_⟩) (by assumption) ?_
  rotate_left
  · intro w hSw; (try dsimp only at hSw); go_simp; (try with_reducible rfl)
  (try simp only [Act.put, List.getElem_toArray, List.getElem_cons_succ, List.getElem_cons_zero, List.setIfInBounds_toArray, List.set_cons_zero, List.set_cons_succ])
  refine wpAnyH_take (i := 3) (v := ?_) rfl (by kernel_rfl) (by kernel_rfl) (by kernel_rfl) (fun _ _ _ h => h) (Or.inl ⟨by rfl, ?_⟩) (by assumption) ?_
  rotate_left
  · intro w hSw; (try dsimp only at hSw); go_simp; (try with_reducible rfl)
  (try simp only [Act.put, List.getElem_toArray, List.getElem_cons_succ, List.getElem_cons_zero, List.setIfInBounds_toArray, List.set_cons_zero, List.set_cons_succ])
  refine wpAnyH_take (i := 4) (v := ?_) rfl (by kernel_rfl) (by kernel_rfl) (by kernel_rfl) (fun _ _ _ h => h) (Or.inl ⟨by rfl, ?_⟩) (by assumption) ?_
  rotate_left
  · intro w hSw; (try dsimp only at hSw); go_simp; (try with_reducible rfl)
  (try simp only [Act.put, List.getElem_toArray, List.getElem_cons_succ, List.getElem_cons_zero, List.setIfInBounds_toArray, List.set_cons_zero, List.set_cons_succ])
  refine wpAnyH_take (i := 5) (v := ?_) rfl (by kernel_rfl) (by kernel_rfl) (by kernel_rfl) (fun _ _ _ h => h) (Or.inl ⟨by rfl, ?_⟩) (by assumption) ?_
  rotate_left
  · intro w hSw; (try dsimp only at hSw); go_simp; (try with_reducible rfl)
  (try simp only [Act.put, List.getElem_toArray, List.getElem_cons_succ, List.getElem_cons_zero, List.setIfInBounds_toArray, List.set_cons_zero, List.set_cons_succ])
  (try clear hK K)
  refine wpAnyH_ready (rs := [6]) (by kernel_rfl) (by simp) ?_
  refine AllReadyH.cons rfl (fun K hK => ?_) AllReadyH.nil
  (refine step_mapUpdate_known rfl (.tmp 25) (.tmp 26) (.tmp 27) _ rfl _ _ _ rfl rfl rfl _ HR.out ?_; refine hK.out _ _ ?_ (fun hHeld => ?_))
  · exact ⟨HC.out.1, HC.out.2.c0, HC.out.2.c1, HC.out.2.c2, HC.out.2.c3⟩
  (try clear hK K)
  refine wpAnyH_done (by kernel_rfl) ?_ _
  clear hHeld HR HC
  generalize ChangeMaps.setBlock w3.drew h.mb (.map es' cl') = w4 at *
  obtain ⟨i0, hi, hz0, hz1, hz2⟩ := info_parts info_E
  have hone : ∀ u ∈ (touE s).cells, u.oneCell' = true := by
    intro u hu
    simp only [En.cells, touE, List.mem_cons, List.not_mem_nil, or_false] at hu
    rcases hu with rfl | rfl | rfl | rfl | rfl <;> rfl
  have HB5 : Hid (Below w4.heap.size w4 (w4.alloc (.cells #[.int .i64 s.1, .bool s.2.t, .int .i64 s.2.n, .string s.2.s, .slice none 0 0] 36)).drew) := (alloc1 _ _).drew
  obtain ⟨v', w5, hrun5, ho5, hg5, _, hat5⟩ := run_append_own_at (P := Try.prog) (w4.alloc (.cells #[.int .i64 s.1, .bool s.2.t, .int .i64 s.2.n, .string s.2.s, .slice none 0 0] 36)).drew 0 26 26 36 i0 _ 5 64 Try.underlying26 hi hz0 hz1 hz2 rfl (by decide) h.tv L.met.length (ecells (L.met.map touE))
    (owns_block HO4.out fun k hk => HB5.out.block k (by
      rcases HO4.out.2 with ⟨e1, _⟩ | ⟨q, cap, cur, e1, _, hq, _⟩
      · rw [e1] at hk; cases hk
      · rw [e1] at hk; cases hk; exact (Array.getElem?_eq_some_iff.1 hq).1)) ⟨w4.heap.size, 0, none⟩ 1 1 (touE s).cells rfl (fun j u hj => by
      rw [Addr.add_lit, Nat.zero_add, cell_of_row _ w4.heap.size j _ 36 (0, 0) (show (w4.alloc _).drew.heap[w4.heap.size]? = _ from heap_alloc_new w4 _)]
      simpa [En.cells, touE] using hj) hone (by have := HLn.out; unfold maxLen; omega) (by have := HLn.out; omega) (Nat.zero_le _)
  obtain ⟨ao', c', rfl⟩ : ∃ ao c, v' = .slice ao (L.met.length + 1) c := by
    rcases ho5.2 with ⟨_, e2⟩ | ⟨q, cap, cur, e1, _⟩
    · omega
    · exact ⟨_, cap, e1⟩
  have HR5 : Hid _ := hrun5
  have HC5 : Hid (∀ j, w5.cell? ⟨h.p, j, none⟩ = w4.cell? ⟨h.p, j, none⟩ ∧ w5.frozen? ⟨h.p, j, none⟩ = false) := fun j => by
    obtain ⟨z1, z2, z3⟩ := HSz.out
    have hb : w5.heap[h.p]? = w4.heap[h.p]? := by rw [hg5.block h.p (by simp; omega) (fun e => z3 e.symm), HB5.out.block h.p (by omega)]
    exact ⟨World.cell?_of_block hb, (World.frozen?_of_block (w := w4) (a := ⟨h.p, j, none⟩) hb).trans (HF4.out j)⟩
  have HW5 : Hid ((w5.cell? ⟨w.heap.size, 0, none⟩ = some (.bool s.2.t) ∧ w5.cell? ⟨w.heap.size, 1, none⟩ = some (.int .i64 s.2.n) ∧ w5.cell? ⟨w.heap.size, 2, none⟩ = some (.string s.2.s)) ∧
      ((w5.setCell ⟨h.p, 9, none⟩ (.slice ao' (L.met.length + 1) c')).cell? ⟨w.heap.size, 0, none⟩ = some (.bool s.2.t) ∧ (w5.setCell ⟨h.p, 9, none⟩ (.slice ao' (L.met.length + 1) c')).cell? ⟨w.heap.size, 1, none⟩ = some (.int .i64 s.2.n) ∧ (w5.setCell ⟨h.p, 9, none⟩ (.slice ao' (L.met.length + 1) c')).cell? ⟨w.heap.size, 2, none⟩ = some (.string s.2.s))) := by
    have hlt := HV4.out.1.lt
    obtain ⟨tl, pl⟩ := HT.out
    have e5 : w5.heap[w.heap.size]? = w4.heap[w.heap.size]? := by rw [hg5.block w.heap.size (by simp; omega) (fun e => by have := tl _ e.symm; omega), HB5.out.block _ hlt]
    have e6 : (w5.setCell ⟨h.p, 9, none⟩ (.slice ao' (L.met.length + 1) c')).heap[w.heap.size]? = w4.heap[w.heap.size]? := by rw [Below.heap_setCell _ _ _ _ (by simp only; omega), e5]
    obtain ⟨x0, x1, x2⟩ := HV4.out.1
    refine ⟨⟨?_, ?_, ?_⟩, ?_, ?_, ?_⟩
    · rw [World.cell?_of_block (w := w4) e5]; exact x0
    · rw [World.cell?_of_block (w := w4) e5]; exact x1
    · rw [World.cell?_of_block (w := w4) e5]; exact x2
    · rw [World.cell?_of_block (w := w4) e6]; exact x0
    · rw [World.cell?_of_block (w := w4) e6]; exact x1
    · rw [World.cell?_of_block (w := w4) e6]; exact x2
  have c9 : w5.cell? ⟨h.p, 9, none⟩ = some h.tv := (HC5.out 9).1.trans HV4.out.2
  have f9 : w5.frozen? ⟨h.p, 9, none⟩ = false := (HC5.out 9).2
  have HE : Hid _ := HD.out _ w5 _ HB5.out ho5 hg5 hat5
  have HVB : Hid (VBox w4 w.heap.size s.2 ∧ w.heap.size < w4.heap.size) := ⟨HV4.out.1, HV4.out.1.lt⟩
  have HV5 : Hid (∀ w', Below w4.heap.size w4 w' → w'.cell? ⟨h.p, 9, none⟩ = some h.tv ∧ w'.cell? ⟨w.heap.size, 0, none⟩ = some (.bool s.2.t) ∧ w'.cell? ⟨w.heap.size, 1, none⟩ = some (.int .i64 s.2.n) ∧ w'.cell? ⟨w.heap.size, 2, none⟩ = some (.string s.2.s)) := fun w' hb =>
    ⟨cell_below HV4.out.2 hb, (HV4.out.1.below hb).c0, (HV4.out.1.below hb).c1, (HV4.out.1.below hb).c2⟩
  have HM5 : Hid (Ml w h w3.drew h) := Ml.of (HB3.out.drew)
  clear hi hz0 hz1 hz2 hone hrun5 ho5 hg5 hat5 HSz HO4 HF4 HV4 HD HC5 HX3 HV3 HG3 HG4 HS HB3 HLn HT
  go_wp2_with fail
  refine wp_region_held_drew (S := fun w' => w'.cell? ⟨w.heap.size, 0, none⟩ = some (.bool s.2.t) ∧ w'.cell? ⟨w.heap.size, 1, none⟩ = some (.int .i64 s.2.n) ∧ w'.cell? ⟨w.heap.size, 2, none⟩ = some (.string s.2.s)) (by kernel_rfl) ?_ (fun hHeld => ?_)
  · exact (HV5.out _ (Below.refl _ _).drew).2
  (try clear hK K)
  refine wpAnyH_take (i := 0) (v := ?_) rfl (by kernel_rfl) (by kernel_rfl) (by kernel_rfl) (fun _ _ _ h => h) (Or.inl ⟨by rfl, ?_⟩) (by assumption) ?_
  rotate_left
  · intro w hSw; (try dsimp only at hSw); go_simp; (try with_reducible rfl)
  (try simp only [Act.put, List.getElem_toArray, List.getElem_cons_zero, List.setIfInBounds_toArray])
  (try clear hK K)
  refine wpAnyH_take (i := 1) (v := ?_) rfl (by kernel_rfl) (by kernel_rfl) (by kernel_rfl) (fun _ _ _ h => h) (Or.inl ⟨by rfl, ?_⟩) (by assumption) ?_
  rotate_left
  · intro w hSw; (try dsimp only at hSw); go_simp; (try with_reducible rfl)
  (try simp only [Act.put, List.getElem_toArray, List.getElem_cons_succ, List.getElem_cons_zero, List.setIfInBounds_toArray, List.set_cons_zero, List.set_cons_succ])
  refine wpAnyH_take (i := 2) (v := ?_) rfl (by kernel_rfl) (by kernel_rfl) (by kernel_rfl) (fun _ _ _ h => h) (Or.inl ⟨by rfl, ?_⟩) (by assumption) ?_
  rotate_left
  · intro w hSw; (try dsimp only at hSw); go_simp; (try with_reducible rfl)
  (try simp only [Act.put, List.getElem_toArray, List.getElem_cons_succ, List.getElem_cons_zero, List.setIfInBounds_toArray, List.set_cons_zero, List.set_cons_succ])
  refine wpAnyH_take (i := 3) (v := ?_) rfl (by kernel_rfl) (by kernel_rfl) (by kernel_rfl) (fun _ _ _ h => h) (Or.inl ⟨by rfl, ?_⟩) (by assumption) ?_
  rotate_left
  · intro w hSw; (try dsimp only at hSw); go_simp; (try with_reducible rfl)
  (try simp only [Act.put, List.getElem_toArray, List.getElem_cons_succ, List.getElem_cons_zero, List.setIfInBounds_toArray, List.set_cons_zero, List.set_cons_succ])
  refine wpAnyH_take (i := 5) (v := ?_) rfl (by kernel_rfl) (by kernel_rfl) (by kernel_rfl) (fun _ _ _ h => h) (Or.inl ⟨by rfl, ?_⟩) (by assumption) ?_
  rotate_left
  · intro w hSw; (try dsimp only at hSw); go_simp; (try with_reducible rfl)
  (try simp only [Act.put, List.getElem_toArray, List.getElem_cons_succ, List.getElem_cons_zero, List.setIfInBounds_toArray, List.set_cons_zero, List.set_cons_succ])
  refine wpAnyH_take (i := 6) (v := ?_) rfl (by kernel_rfl) (by kernel_rfl) (by kernel_rfl) (fun _ _ _ h => h) (Or.inl ⟨by rfl, ?_⟩) (by assumption) ?_
  rotate_left
  · intro w hSw; (try dsimp only at hSw); go_simp; (try with_reducible rfl)
  (try simp only [Act.put, List.getElem_toArray, List.getElem_cons_succ, List.getElem_cons_zero, List.setIfInBounds_toArray, List.set_cons_zero, List.set_cons_succ])
  refine wpAnyH_take (i := 7) (v := ?_) rfl (by kernel_rfl) (by kernel_rfl) (by kernel_rfl) (fun _ _ _ h => h) (Or.inl ⟨by rfl, ?_⟩) (by assumption) ?_
  rotate_left
  · intro w hSw; (try dsimp only at hSw); go_simp; (try with_reducible rfl)
  (try simp only [Act.put, List.getElem_toArray, List.getElem_cons_succ, List.getElem_cons_zero, List.setIfInBounds_toArray, List.set_cons_zero, List.set_cons_succ])
  (try clear hK K)
  refine wpAnyH_ready (rs := [4, 8]) (by kernel_rfl) (by simp) ?_
  refine AllReadyH.cons rfl (fun K hK => ?_) (AllReadyH.cons rfl (fun K hK => ?_) AllReadyH.nil)
  · obtain ⟨q9, _⟩ := HV5.out _ (Below.refl _ _)
    go_simp
    refine hK.out _ _ ?_ (fun hHeld => ?_)
    · exact (HV5.out _ (Below.refl _ _).drew).2
    clear q9
    (try clear hK K)
    refine wpAnyH_ready (rs := [8]) (by kernel_rfl) (by simp) ?_
    refine AllReadyH.cons rfl (fun K hK => ?_) AllReadyH.nil
    go_simp
    refine hK.out _ _ ?_ (fun hHeld => ?_)
    · exact (HV5.out _ (alloc1 _ _).drew).2
    (try clear hK K)
    refine wpAnyH_ready (rs := [9]) (by kernel_rfl) (by simp) ?_
    refine AllReadyH.cons rfl (fun K hK => ?_) AllReadyH.nil
    (refine step_append_run rfl (.tmp 32) (.tmp 36) _ _ rfl _ _ rfl rfl _ _ HR5.out ?_; refine hK.out _ _ ?_ (fun hHeld => ?_))
    · exact HW5.out.1
    clear HR5
    (try clear hK K)
    refine wpAnyH_take (i := 10) (v := ?_) rfl (by kernel_rfl) (by kernel_rfl) (by kernel_rfl) (fun _ _ _ h => h) (Or.inl ⟨by rfl, ?_⟩) (by assumption) ?_
    rotate_left
    · intro w hSw; (try dsimp only at hSw); go_simp; (try with_reducible rfl)
    (try simp only [Act.put, List.getElem_toArray, List.getElem_cons_succ, List.getElem_cons_zero, List.setIfInBounds_toArray, List.set_cons_zero, List.set_cons_succ])
    refine wpAnyH_take (i := 11) (v := ?_) rfl (by kernel_rfl) (by kernel_rfl) (by kernel_rfl) (fun _ _ _ h => h) (Or.inl ⟨by rfl, ?_⟩) (by assumption) ?_
    rotate_left
    · intro w hSw; (try dsimp only at hSw); go_simp; (try with_reducible rfl)
    (try simp only [Act.put, List.getElem_toArray, List.getElem_cons_succ, List.getElem_cons_zero, List.setIfInBounds_toArray, List.set_cons_zero, List.set_cons_succ])
    (try clear hK K)
    refine wpAnyH_ready (rs := [12]) (by kernel_rfl) (by simp) ?_
    refine AllReadyH.cons rfl (fun K hK => ?_) AllReadyH.nil
    go_simp
    refine hK.out _ _ ?_ (fun hHeld => ?_)
    · exact HW5.out.2
    (try clear hK K)
    refine wpAnyH_done (by kernel_rfl) ?_ _
    go_wp2_with fail
    go_end0
    exact ⟨rfl, _, HE.out.1, HM5.out.trans HE.out.2, rfl⟩
  · go_simp
    refine hK.out _ _ ?_ (fun hHeld => ?_)
    · exact (HV5.out _ (alloc1 _ _).drew).2
    obtain ⟨q9, _⟩ := HV5.out _ HB5.out
    (try clear hK K)
    refine wpAnyH_ready (rs := [4]) (by kernel_rfl) (by simp) ?_
    refine AllReadyH.cons rfl (fun K hK => ?_) AllReadyH.nil
    go_simp
    refine hK.out _ _ ?_ (fun hHeld => ?_)
    · exact (HV5.out _ (alloc1 _ _).drew).2
    clear q9
    (try clear hK K)
    refine wpAnyH_ready (rs := [9]) (by kernel_rfl) (by simp) ?_
    refine AllReadyH.cons rfl (fun K hK => ?_) AllReadyH.nil
    (refine step_append_run rfl (.tmp 32) (.tmp 36) _ _ rfl _ _ rfl rfl _ _ HR5.out ?_; refine hK.out _ _ ?_ (fun hHeld => ?_))
    · exact HW5.out.1
    clear HR5
    (try clear hK K)
    refine wpAnyH_take (i := 10) (v := ?_) rfl (by kernel_rfl) (by kernel_rfl) (by kernel_rfl) (fun _ _ _ h => h) (Or.inl ⟨by rfl, ?_⟩) (by assumption) ?_
    rotate_left
    · intro w hSw; (try dsimp only at hSw); go_simp; (try with_reducible rfl)
    (try simp only [Act.put, List.getElem_toArray, List.getElem_cons_succ, List.getElem_cons_zero, List.setIfInBounds_toArray, List.set_cons_zero, List.set_cons_succ])
    refine wpAnyH_take (i := 11) (v := ?_) rfl (by kernel_rfl) (by kernel_rfl) (by kernel_rfl) (fun _ _ _ h => h) (Or.inl ⟨by rfl, ?_⟩) (by assumption) ?_
    rotate_left
    · intro w hSw; (try dsimp only at hSw); go_simp; (try with_reducible rfl)
    (try simp only [Act.put, List.getElem_toArray, List.getElem_cons_succ, List.getElem_cons_zero, List.setIfInBounds_toArray, List.set_cons_zero, List.set_cons_succ])
    (try clear hK K)
    refine wpAnyH_ready (rs := [12]) (by kernel_rfl) (by simp) ?_
    refine AllReadyH.cons rfl (fun K hK => ?_) AllReadyH.nil
    go_simp
    refine hK.out _ _ ?_ (fun hHeld => ?_)
    · exact HW5.out.2
    (try clear hK K)
    refine wpAnyH_done (by kernel_rfl) ?_ _
    go_wp2_with fail
    go_end0
    exact ⟨rfl, _, HE.out.1, HM5.out.trans HE.out.2, rfl⟩
theorem meet_any {w : World} {h : Hl} {L : Lg} (g : LG w h L) (s : Spot) (hs : okS s) (hlen : L.met.length ≤ 1000) :
    Calls Try.prog 25 #[.pointer (some ⟨h.p, 0, none⟩), .int .i64 s.1, V s.2.t s.2.n s.2.s] w fun e w' => e = .returned (.tuple #[]) ∧ ∃ h', LG w' h' (L.meet s) ∧ Ml w h w' h' ∧ h'.ev = h.ev := by
  cases hin : inMet L.met s
  · exact (meet_new g s hs hin hlen).mono fun e w' ⟨he, h', g', m, hv⟩ => ⟨he, h', by rw [Lg.meet, hin]; exact g', m, hv⟩
  · exact (meet_in g s hs hin).mono fun e w' ⟨he, hb⟩ => ⟨he, h, by rw [Lg.meet, hin]; exact g.below hb, Ml.of hb, rfl⟩
end Go.Proofs.Ytbfoplaccalegaa.Val
