/- What Push answers. -/
import Derived.Test.YtbfoplaccalegaaUndoApp
import Derived.Test.YtbfoplaccalegaaRowClone
namespace Go.Proofs.Ytbfoplaccalegaa.Val
open Go Go.RowKit

/-- An entry in a block of its own. -/
structure EB (w : World) (b : Nat) (e : En) : Prop where
  c0 : w.cell? ⟨b, 0, none⟩ = some (.int .i64 e.t)
  c1 : w.cell? ⟨b, 1, none⟩ = some (.bool e.k.t)
  c2 : w.cell? ⟨b, 2, none⟩ = some (.int .i64 e.k.n)
  c3 : w.cell? ⟨b, 3, none⟩ = some (.string e.k.s)
  c4 : w.cell? ⟨b, 4, none⟩ = some e.r
  fz : ∀ j, w.frozen? ⟨b, j, none⟩ = false
abbrev eobj (e : En) : Obj := .cells #[.int .i64 e.t, .bool e.k.t, .int .i64 e.k.n, .string e.k.s, e.r] TE
theorem EB.of {w : World} {b : Nat} {e : En} (h : w.heap[b]? = some (eobj e)) : EB w b e :=
  ⟨cell_of_row w b 0 _ TE (0, 0) h, cell_of_row w b 1 _ TE (0, 0) h, cell_of_row w b 2 _ TE (0, 0) h, cell_of_row w b 3 _ TE (0, 0) h, cell_of_row w b 4 _ TE (0, 0) h, fun j => by simp [World.frozen?, h]⟩
theorem EB.new (w : World) (e : En) : EB (w.alloc (eobj e)) w.heap.size e := EB.of (heap_alloc_new w _)
theorem EB.lt {w : World} {b : Nat} {e : En} (x : EB w b e) : b < w.heap.size := World.block_lt_of_cell? w _ x.c0
theorem EB.below {w w' : World} {b : Nat} {e : En} (x : EB w b e) (hb : Below w.heap.size w w') : EB w' b e :=
  ⟨cell_below x.c0 hb, cell_below x.c1 hb, cell_below x.c2 hb, cell_below x.c3 hb, cell_below x.c4 hb, fun j => (hb.frozen (p := ⟨b, j, none⟩) x.lt).trans (x.fz j)⟩
theorem EB.block {w w' : World} {b : Nat} {e : En} (x : EB w b e) (hb : w'.heap[b]? = w.heap[b]?) : EB w' b e :=
  ⟨(World.cell?_of_block hb).trans x.c0, (World.cell?_of_block hb).trans x.c1, (World.cell?_of_block hb).trans x.c2, (World.cell?_of_block hb).trans x.c3, (World.cell?_of_block hb).trans x.c4, fun j => (World.frozen?_of_block (a := ⟨b, j, none⟩) hb).trans (x.fz j)⟩
theorem EB.cells {w : World} {b : Nat} {e : En} (x : EB w b e) : w.cell? ⟨b, 0, none⟩ = some (.int .i64 e.t) ∧ w.cell? ⟨b, 1, none⟩ = some (.bool e.k.t) ∧ w.cell? ⟨b, 2, none⟩ = some (.int .i64 e.k.n) ∧ w.cell? ⟨b, 3, none⟩ = some (.string e.k.s) ∧ w.cell? ⟨b, 4, none⟩ = some e.r := ⟨x.c0, x.c1, x.c2, x.c3, x.c4⟩
def Lg.push (L : Lg) (e : En) : Lg := if L.es.length < L.room then { L.meet (e.t, e.k) with es := L.es ++ [e] } else L
def pushE (L : Lg) : Int := if L.es.length < L.room then 0 else 62
theorem meet_es (L : Lg) (s : Spot) : (L.meet s).es = L.es ∧ (L.meet s).room = L.room ∧ (L.meet s).s1 = L.s1 ∧ (L.meet s).s2 = L.s2 ∧ (L.meet s).s3 = L.s3 := by
  unfold Lg.meet; split <;> exact ⟨rfl, rfl, rfl, rfl, rfl⟩
theorem push_full {w : World} {h : Hl} {L : Lg} (g : LG w h L) (e : En) (hl : L.room ≤ L.es.length) :
    Calls Try.prog 15 #[.pointer (some ⟨h.p, 0, none⟩), e.val] w fun x w' => x = .returned (.int .i64 62) ∧ Below w.heap.size w w' := by
  obtain ⟨ao, c, he, _⟩ := g.slice
  have hl' : ¬ (L.es.length : Int) < L.room := by omega
  have HQ : Hid (∀ w', Below w.heap.size w w' → w'.cell? ⟨h.p, 1, none⟩ = some (.slice ao L.es.length c) ∧ w'.cell? ⟨h.p, 0, none⟩ = some (.int .i64 (L.room : Int))) := fun w' hb => ⟨by rw [← he]; exact (g.below hb).cells 1, (g.below hb).cells 0⟩
  have HB : Hid (Below w.heap.size w (w.alloc (eobj e))) := alloc1 _ _
  clear g he hl
  go_enter Try.func15, Try.ntmps15
  go_wp2_with fail
  refine wp_region_held_drew (S := fun w' => w'.cell? ⟨h.p, 1, none⟩ = some (.slice ao L.es.length c) ∧ w'.cell? ⟨h.p, 0, none⟩ = some (.int .i64 (L.room : Int))) (by kernel_rfl) ?_ (fun hHeld => ?_)
  · exact HQ.out _ HB.out.drew
  (try clear hK K)
  refine wpAnyH_take (i := 0) (v := ?_) rfl (by kernel_rfl) (by kernel_rfl) (by kernel_rfl) (fun _ _ _ h => h) (Or.inl ⟨by rfl, ?_⟩) (by assumption) ?_
  rotate_left
  · intro w hSw; (try dsimp only at hSw); go_simp; (try with_reducible rfl)
  (try simp only [Act.put, List.getElem_toArray, List.getElem_cons_zero, List.setIfInBounds_toArray, List.set_cons_zero, List.set_cons_succ])
  refine wpAnyH_take (i := 1) (v := ?_) rfl (by kernel_rfl) (by kernel_rfl) (by kernel_rfl) (fun _ _ _ h => h) (Or.inl ⟨by rfl, ?_⟩) (by assumption) ?_
  rotate_left
  · intro w hSw; (try dsimp only at hSw); go_simp; (try with_reducible rfl)
  (try simp only [Act.put, List.getElem_toArray, List.getElem_cons_succ, List.getElem_cons_zero, List.setIfInBounds_toArray, List.set_cons_zero, List.set_cons_succ])
  refine wpAnyH_take (i := 2) (v := ?_) rfl (by kernel_rfl) (by kernel_rfl) (by kernel_rfl) (fun _ _ _ h => h) (Or.inl ⟨by rfl, ?_⟩) (by assumption) ?_
  rotate_left
  · intro w hSw; (try dsimp only at hSw); go_simp; (try with_reducible rfl)
  (try simp only [Act.put, List.getElem_toArray, List.getElem_cons_succ, List.getElem_cons_zero, List.setIfInBounds_toArray, List.set_cons_zero, List.set_cons_succ])
  refine wpAnyH_take (i := 3) (v := ?_) rfl (by kernel_rfl) (by kernel_rfl) (by kernel_rfl) (fun _ _ _ h => h) (Or.inl ⟨by rfl, ?_⟩) (by assumption) ?_
  rotate_left
  · intro w hSw; (try dsimp only at hSw); go_simp; (try with_reducible rfl)
  (try simp only [Act.put, List.getElem_toArray, List.getElem_cons_succ, List.getElem_cons_zero, List.setIfInBounds_toArray, List.set_cons_zero, List.set_cons_succ])
  refine wpAnyH_take (i := 4) (v := ?_) rfl (by kernel_rfl) (by kernel_rfl) (by kernel_rfl) (fun _ _ _ h => h) (Or.inl ⟨by rfl, ?_⟩) (by assumption) ?_
  rotate_left
  · intro w hSw; (try dsimp only at hSw); go_simp; (try with_reducible rfl)
  (try simp only [Act.put, List.getElem_toArray, List.getElem_cons_succ, List.getElem_cons_zero, List.setIfInBounds_toArray, List.set_cons_zero, List.set_cons_succ])
  refine wpAnyH_take (i := 5) (v := ?_) rfl (by kernel_rfl) (by kernel_rfl) (by kernel_rfl) (fun _ _ _ h => h) (Or.inl ⟨by rfl, ?_⟩) (by assumption) ?_
  rotate_left
  · intro w hSw; (try dsimp only at hSw); go_simp; (try with_reducible rfl)
  (try simp only [Act.put, List.getElem_toArray, List.getElem_cons_succ, List.getElem_cons_zero, List.setIfInBounds_toArray, List.set_cons_zero, List.set_cons_succ])
  refine wpAnyH_take (i := 6) (v := ?_) rfl (by kernel_rfl) (by kernel_rfl) (by kernel_rfl) (fun _ _ _ h => h) (Or.inl ⟨by rfl, ?_⟩) (by assumption) ?_
  rotate_left
  · intro w hSw; (try dsimp only at hSw); go_simp; (try with_reducible rfl)
  (try simp only [Act.put, List.getElem_toArray, List.getElem_cons_succ, List.getElem_cons_zero, List.setIfInBounds_toArray, List.set_cons_zero, List.set_cons_succ])
  refine wpAnyH_take (i := 7) (v := ?_) rfl (by kernel_rfl) (by kernel_rfl) (by kernel_rfl) (fun _ _ _ h => h) (Or.inl ⟨by rfl, ?_⟩) (by assumption) ?_
  rotate_left
  · intro w hSw; (try dsimp only at hSw); go_simp; (try with_reducible rfl)
  (try simp only [Act.put, List.getElem_toArray, List.getElem_cons_succ, List.getElem_cons_zero, List.setIfInBounds_toArray, List.set_cons_zero, List.set_cons_succ])
  refine wpAnyH_take (i := 8) (v := ?_) rfl (by kernel_rfl) (by kernel_rfl) (by kernel_rfl) (fun _ _ _ h => h) (Or.inl ⟨by rfl, ?_⟩) (by assumption) ?_
  rotate_left
  · intro w hSw; (try dsimp only at hSw); go_simp; (try with_reducible rfl)
  (try simp only [Act.put, List.getElem_toArray, List.getElem_cons_succ, List.getElem_cons_zero, List.setIfInBounds_toArray, List.set_cons_zero, List.set_cons_succ])
  refine wpAnyH_take (i := 9) (v := ?_) rfl (by kernel_rfl) (by kernel_rfl) (by kernel_rfl) (fun _ _ _ h => h) (Or.inl ⟨by rfl, ?_⟩) (by assumption) ?_
  rotate_left
  · intro w hSw; (try dsimp only at hSw); go_simp; (try with_reducible rfl)
  (try simp only [Act.put, List.getElem_toArray, List.getElem_cons_succ, List.getElem_cons_zero, List.setIfInBounds_toArray, List.set_cons_zero, List.set_cons_succ])
  refine wpAnyH_take (i := 10) (v := ?_) rfl (by kernel_rfl) (by kernel_rfl) (by kernel_rfl) (fun _ _ _ h => h) (Or.inl ⟨by rfl, ?_⟩) (by assumption) ?_
  rotate_left
  · intro w hSw; (try dsimp only at hSw); go_simp; (try with_reducible rfl)
  (try simp only [Act.put, List.getElem_toArray, List.getElem_cons_succ, List.getElem_cons_zero, List.setIfInBounds_toArray, List.set_cons_zero, List.set_cons_succ])
  (try clear hK K)
  refine wpAnyH_done (by kernel_rfl) ?_ _
  clear hHeld
  go_wp2_with fail
  go_ret
  exact ⟨rfl, HB.out.drew⟩
theorem EB.set {w : World} {b : Nat} {e : En} (x : EB w b e) (v : Value) : EB (w.setCell ⟨b, 4, none⟩ v) b { e with r := v } := by
  obtain ⟨c0, c1, c2, c3, c4, fz⟩ := x
  refine ⟨?_, ?_, ?_, ?_, ?_, fun j => ?_⟩
  · rw [← c0]; simp [go_sem]
  · rw [← c1]; simp [go_sem]
  · rw [← c2]; simp [go_sem]
  · rw [← c3]; simp [go_sem]
  · simp [go_sem, c4]
  · rw [← fz j]; simp [go_sem]
theorem push_after {w w1 w2 w3 : World} {h h2 : Hl} {L L2 : Lg} (g : LG w h L) (e : En) (hb1 : Below w.heap.size w w1) (hs1 : w1.heap.size = w.heap.size + 1) (m12 : Ml w1 h w2 h2) (g2 : LG w2 h2 L2) (hes : L2.es = L.es) (hev : h2.ev = h.ev)
    (eb : EB w2 w.heap.size e) (v : Value) (ow : OwnRow w3 w2.heap.size 32 v e.xs) (b23 : Below w2.heap.size w2 w3) :
    LG (w3.setCell ⟨w.heap.size, 4, none⟩ v) h2 L2 ∧ Ml w h (w3.setCell ⟨w.heap.size, 4, none⟩ v) h2 ∧ EB (w3.setCell ⟨w.heap.size, 4, none⟩ v) w.heap.size { e with r := v } ∧ Safe (w3.setCell ⟨w.heap.size, 4, none⟩ v) h2 { e with r := v } := by
  have s12 := m12.kp.size
  have hfp : ∀ o, ¬ h2.fp ⟨w.heap.size, o, none⟩ := fun o hf => by
    rcases m12.own _ hf with k | k
    · have := g.lt _ k; simp at this
    · simp at k; omega
  refine ⟨(g2.below b23).far v hfp (by rw [hev]; exact fun e => by have := g.has.2.2.2 _ e; omega) (fun x hx q o n c er hl => ?_), ?_, (eb.below b23).set v, ?_⟩
  · rw [hes] at hx
    obtain ⟨⟨ao, c', er', _, _, _, h3⟩, _⟩ := g.rows x hx
    rw [er] at er'
    cases er'
    rcases h3 with h3 | ⟨b, o', e1, h3⟩
    · have := flat_length Val.cells 3 (fun _ => rfl) x.xs; rw [h3] at this; simp at this; omega
    · cases e1
      have hlen : 0 < (x.xs.flatMap Val.cells).length := by rw [flat_length Val.cells 3 (fun _ => rfl) x.xs]; omega
      have := World.block_lt_of_cell? w _ (h3 0 _ (List.getElem?_eq_getElem hlen))
      simp at this; omega
  · exact (((Ml.of hb1).trans m12).trans (Ml.of b23)).set (Nat.le_refl _) _ _
  · have hlt : w.heap.size < w2.heap.size := eb.lt
    rcases ow.2 with ⟨ev, e0⟩ | ⟨q, cap, cur, ev, hq, hblk, _⟩
    · have : e.xs = [] := List.eq_nil_of_length_eq_zero e0
      subst ev
      refine ⟨⟨none, 0, by rw [e0], by rw [e0]; exact Nat.le_refl _, Nat.zero_le _, fun _ => ⟨e0, rfl⟩, .inl (by rw [this]; rfl)⟩, fun b o n c e1 => by cases e1⟩
    · subst ev
      have hne : q ≠ w.heap.size := by omega
      have hin := ow.isIn
      obtain ⟨ao, c', er', h1, h2', h0, h3⟩ := hin
      cases er'
      refine ⟨⟨_, _, rfl, h1, h2', h0, ?_⟩, fun b o n c e1 j hj hf => ?_⟩
      · rcases h3 with h3 | ⟨b, o, e1, h3⟩
        · exact .inl h3
        · cases e1
          refine .inr ⟨q, 0, rfl, fun j u hj => ?_⟩
          rw [World.cell?_of_block (w := w3) (a := ⟨q, 0 + j, none⟩) (Below.heap_setCell _ _ _ _ hne)]
          exact h3 j u hj
      · cases e1
        have := g2.lt _ hf
        simp at this; omega
set_option maxHeartbeats 1000000 in
theorem push_room {w : World} {h : Hl} {L : Lg} (g : LG w h L) (e : En) (ok : okS (e.t, e.k)) (se : Safe w h e) (hx : e.xs.length * 32 ≤ 140737488355328) (hm : L.met.length ≤ 1000) (hl : L.es.length < L.room) :
    Calls Try.prog 15 #[.pointer (some ⟨h.p, 0, none⟩), e.val] w fun x w' => x = .returned (.int .i64 0) ∧ ∃ h' r, LG w' h' { L.meet (e.t, e.k) with es := L.es ++ [⟨e.t, e.k, e.xs, r⟩] } ∧ Ml w h w' h' ∧ (∀ b o n c, r = .slice (some ⟨b, o, none⟩) n c → w.heap.size ≤ b) := by
  obtain ⟨ao, c, he, _⟩ := g.slice
  have hl' : (L.es.length : Int) < L.room := by omega
  have HQ : Hid (∀ w', Below w.heap.size w w' → w'.cell? ⟨h.p, 1, none⟩ = some (.slice ao L.es.length c) ∧ w'.cell? ⟨h.p, 0, none⟩ = some (.int .i64 (L.room : Int))) := fun w' hb => ⟨by rw [← he]; exact (g.below hb).cells 1, (g.below hb).cells 0⟩
  have HB : Hid (Below w.heap.size w (w.alloc (eobj e)).drew) := (alloc1 _ _).drew
  have HE1 : Hid (EB (w.alloc (eobj e)).drew w.heap.size e) := (EB.new w e).below (Below.refl _ _).drew
  have H1 : Hid (∀ w1, Below w.heap.size w w1 → Calls Try.prog 25 #[.pointer (some ⟨h.p, 0, none⟩), .int .i64 e.t, .agg #[.bool e.k.t, .int .i64 e.k.n, .string e.k.s]] w1 fun x w' => x = .returned (.tuple #[]) ∧ ∃ h', LG w' h' (L.meet (e.t, e.k)) ∧ Ml w1 h w' h' ∧ h'.ev = h.ev) := fun w1 hb => meet_any (g.below hb) (e.t, e.k) ok hm
  have H2 : Hid (∀ w2 h2, Ml w h w2 h2 → Calls Try.prog 26 #[e.r] w2 fun x w' => ∃ v', x = .returned v' ∧ OwnRow w' w2.heap.size 32 v' e.xs ∧ Below w2.heap.size w2 w') := fun w2 h2 m => clone_big e.r e.xs w2 (se.ml m).row hx
  have HA : Hid (LG w h L ∧ L.es.length < L.room ∧ ∃ ao n c, e.r = .slice ao n c) := ⟨g, hl, se.one⟩
  clear g he hl ok hm hx se
  go_enter Try.func15, Try.ntmps15
  go_wp2_with fail
  refine wp_region_held_drew (S := fun w' => w'.cell? ⟨h.p, 1, none⟩ = some (.slice ao L.es.length c) ∧ w'.cell? ⟨h.p, 0, none⟩ = some (.int .i64 (L.room : Int))) (by kernel_rfl) ?_ (fun hHeld => ?_)
  · exact HQ.out _ HB.out
  (try clear hK K)
  refine wpAnyH_take (i := 0) (v := ?_) rfl (by kernel_rfl) (by kernel_rfl) (by kernel_rfl) (fun _ _ _ h => h) (Or.inl ⟨by rfl, ?_⟩) (by assumption) ?_
  rotate_left
  · intro w hSw; (try dsimp only at hSw); go_simp; (try with_reducible rfl)
  (try simp only [Act.put, List.getElem_toArray, List.getElem_cons_zero, List.setIfInBounds_toArray, List.set_cons_zero, List.set_cons_succ])
  refine wpAnyH_take (i := 1) (v := ?_) rfl (by kernel_rfl) (by kernel_rfl) (by kernel_rfl) (fun _ _ _ h => h) (Or.inl ⟨by rfl, ?_⟩) (by assumption) ?_
  rotate_left
  · intro w hSw; (try dsimp only at hSw); go_simp; (try with_reducible rfl)
  (try simp only [Act.put, List.getElem_toArray, List.getElem_cons_succ, List.getElem_cons_zero, List.setIfInBounds_toArray, List.set_cons_zero, List.set_cons_succ])
  refine wpAnyH_take (i := 2) (v := ?_) rfl (by kernel_rfl) (by kernel_rfl) (by kernel_rfl) (fun _ _ _ h => h) (Or.inl ⟨by rfl, ?_⟩) (by assumption) ?_
  rotate_left
  · intro w hSw; (try dsimp only at hSw); go_simp; (try with_reducible rfl)
  (try simp only [Act.put, List.getElem_toArray, List.getElem_cons_succ, List.getElem_cons_zero, List.setIfInBounds_toArray, List.set_cons_zero, List.set_cons_succ])
  refine wpAnyH_take (i := 3) (v := ?_) rfl (by kernel_rfl) (by kernel_rfl) (by kernel_rfl) (fun _ _ _ h => h) (Or.inl ⟨by rfl, ?_⟩) (by assumption) ?_
  rotate_left
  · intro w hSw; (try dsimp only at hSw); go_simp; (try with_reducible rfl)
  (try simp only [Act.put, List.getElem_toArray, List.getElem_cons_succ, List.getElem_cons_zero, List.setIfInBounds_toArray, List.set_cons_zero, List.set_cons_succ])
  refine wpAnyH_take (i := 4) (v := ?_) rfl (by kernel_rfl) (by kernel_rfl) (by kernel_rfl) (fun _ _ _ h => h) (Or.inl ⟨by rfl, ?_⟩) (by assumption) ?_
  rotate_left
  · intro w hSw; (try dsimp only at hSw); go_simp; (try with_reducible rfl)
  (try simp only [Act.put, List.getElem_toArray, List.getElem_cons_succ, List.getElem_cons_zero, List.setIfInBounds_toArray, List.set_cons_zero, List.set_cons_succ])
  refine wpAnyH_take (i := 5) (v := ?_) rfl (by kernel_rfl) (by kernel_rfl) (by kernel_rfl) (fun _ _ _ h => h) (Or.inl ⟨by rfl, ?_⟩) (by assumption) ?_
  rotate_left
  · intro w hSw; (try dsimp only at hSw); go_simp; (try with_reducible rfl)
  (try simp only [Act.put, List.getElem_toArray, List.getElem_cons_succ, List.getElem_cons_zero, List.setIfInBounds_toArray, List.set_cons_zero, List.set_cons_succ])
  refine wpAnyH_take (i := 6) (v := ?_) rfl (by kernel_rfl) (by kernel_rfl) (by kernel_rfl) (fun _ _ _ h => h) (Or.inl ⟨by rfl, ?_⟩) (by assumption) ?_
  rotate_left
  · intro w hSw; (try dsimp only at hSw); go_simp; (try with_reducible rfl)
  (try simp only [Act.put, List.getElem_toArray, List.getElem_cons_succ, List.getElem_cons_zero, List.setIfInBounds_toArray, List.set_cons_zero, List.set_cons_succ])
  refine wpAnyH_take (i := 7) (v := ?_) rfl (by kernel_rfl) (by kernel_rfl) (by kernel_rfl) (fun _ _ _ h => h) (Or.inl ⟨by rfl, ?_⟩) (by assumption) ?_
  rotate_left
  · intro w hSw; (try dsimp only at hSw); go_simp; (try with_reducible rfl)
  (try simp only [Act.put, List.getElem_toArray, List.getElem_cons_succ, List.getElem_cons_zero, List.setIfInBounds_toArray, List.set_cons_zero, List.set_cons_succ])
  refine wpAnyH_take (i := 8) (v := ?_) rfl (by kernel_rfl) (by kernel_rfl) (by kernel_rfl) (fun _ _ _ h => h) (Or.inl ⟨by rfl, ?_⟩) (by assumption) ?_
  rotate_left
  · intro w hSw; (try dsimp only at hSw); go_simp; (try with_reducible rfl)
  (try simp only [Act.put, List.getElem_toArray, List.getElem_cons_succ, List.getElem_cons_zero, List.setIfInBounds_toArray, List.set_cons_zero, List.set_cons_succ])
  refine wpAnyH_take (i := 9) (v := ?_) rfl (by kernel_rfl) (by kernel_rfl) (by kernel_rfl) (fun _ _ _ h => h) (Or.inl ⟨by rfl, ?_⟩) (by assumption) ?_
  rotate_left
  · intro w hSw; (try dsimp only at hSw); go_simp; (try with_reducible rfl)
  (try simp only [Act.put, List.getElem_toArray, List.getElem_cons_succ, List.getElem_cons_zero, List.setIfInBounds_toArray, List.set_cons_zero, List.set_cons_succ])
  refine wpAnyH_take (i := 10) (v := ?_) rfl (by kernel_rfl) (by kernel_rfl) (by kernel_rfl) (fun _ _ _ h => h) (Or.inl ⟨by rfl, ?_⟩) (by assumption) ?_
  rotate_left
  · intro w hSw; (try dsimp only at hSw); go_simp; (try with_reducible rfl)
  (try simp only [Act.put, List.getElem_toArray, List.getElem_cons_succ, List.getElem_cons_zero, List.setIfInBounds_toArray, List.set_cons_zero, List.set_cons_succ])
  (try clear hK K)
  refine wpAnyH_done (by kernel_rfl) ?_ _
  clear hHeld HQ
  obtain ⟨d0, d1, d2, d3, d4⟩ := HE1.out.cells
  have hsz : Hid ((w.alloc (eobj e)).drew.heap.size = w.heap.size + 1) := by show (w.alloc (eobj e)).heap.size = _; simp
  generalize (w.alloc (eobj e)).drew = w1 at *
  go_wp2_with fail
  refine Calls.mono (H1.out _ HB.out) ?_
  rintro x w2 ⟨rfl, h2, g2, m12, hev⟩
  have hp2 := m12.p
  have HM2 : Hid (Ml w h w2 h2) := (Ml.of HB.out).trans m12
  have HE2 : Hid (EB w2 w.heap.size e) := HE1.out.block (m12.kp.block _ HE1.out.lt fun o hf => by have := HA.out.1.lt _ hf; simp at this)
  have HG2 : Hid (LG w2 h2 (L.meet (e.t, e.k)) ∧ Ml w1 h w2 h2 ∧ h2.ev = h.ev ∧ w1.heap.size = w.heap.size + 1) := ⟨g2, m12, hev, hsz.out⟩
  clear d0 d1 d2 d3 d4 g2 m12 hev H1 HE1 hsz
  obtain ⟨d0, d1, d2, d3, d4⟩ := HE2.out.cells
  have f4 := HE2.out.fz 4
  go_wp2_with fail
  refine Calls.mono (H2.out _ _ HM2.out) ?_
  rintro x w3 ⟨v', rfl, ow, b23⟩
  obtain ⟨aov, nv, cv, rfl⟩ : ∃ ao n c, v' = .slice ao n c := by
    rcases ow.2 with ⟨e1, _⟩ | ⟨q, cap, cur, e1, _⟩
    · exact ⟨_, _, _, e1⟩
    · exact ⟨_, _, _, e1⟩
  have HNr : Hid (∀ b o n c, Value.slice aov nv cv = .slice (some ⟨b, o, none⟩) n c → w.heap.size ≤ b) := fun b o n c e1 => by
    rcases ow.2 with ⟨e2, _⟩ | ⟨q, cap, cur, e2, hq, _⟩
    · rw [e2] at e1; cases e1
    · rw [e2] at e1; cases e1
      have h1 := HM2.out.kp.size
      omega
  have HP : Hid _ := push_after HA.out.1 e HB.out HG2.out.2.2.2 HG2.out.2.1 HG2.out.1 (meet_es _ _).1 HG2.out.2.2.1 HE2.out _ ow b23
  have HE3 : Hid (EB w3 w.heap.size e) := HE2.out.below b23
  have HNb : Hid (h2.ev.ownBlock ≠ some w.heap.size) := fun e1 => by rw [HG2.out.2.2.1] at e1; have := HA.out.1.has.2.2.2 _ e1; omega
  clear d0 d1 d2 d3 d4 f4 ow b23 H2 HE2 HM2 HG2
  obtain ⟨d0, d1, d2, d3, d4⟩ := HE3.out.cells
  have f4 := HE3.out.fz 4
  go_wp2_with fail
  clear d0 d1 d2 d3 d4 f4 HE3
  generalize w3.setCell ⟨w.heap.size, 4, none⟩ (.slice aov nv cv) = w4 at *
  have HL4 : Hid (w.heap.size < w4.heap.size) := HP.out.2.2.1.lt
  have HB4 : Hid (Below w4.heap.size w4 (w4.alloc (eobj ⟨e.t, e.k, e.xs, .slice aov nv cv⟩)).drew) := (alloc1 _ _).drew
  obtain ⟨ao5, c5, w5, hrun, hg5, hm5, hc5, hf5, hk5⟩ := (HP.out.1.below HB4.out).app ⟨e.t, e.k, e.xs, .slice aov nv cv⟩ (HP.out.2.2.2.ml (Ml.of HB4.out)) (by rw [(meet_es _ _).1, (meet_es _ _).2.1]; exact HA.out.2.1) ⟨w4.heap.size, 0, none⟩ (fun j u hj => by
      rw [Addr.add_lit, Nat.zero_add, cell_of_row _ w4.heap.size j _ 36 (0, 0) (show (w4.alloc _).drew.heap[w4.heap.size]? = _ from heap_alloc_new w4 _)]
      simpa [En.cells] using hj)
  rw [hp2] at hg5 hm5 hc5 hf5
  have HR : Hid _ := hrun
  have HF : Hid _ := And.intro hg5 (HP.out.2.1.trans ((Ml.of HB4.out).trans hm5))
  have HW : Hid (EB w5 w.heap.size ⟨e.t, e.k, e.xs, .slice aov nv cv⟩ ∧ EB (w5.setCell ⟨h.p, 1, none⟩ (.slice ao5 ((L.meet (e.t, e.k)).es.length + 1) c5)) w.heap.size ⟨e.t, e.k, e.xs, .slice aov nv cv⟩) := by
    have hl := HL4.out
    have hnb := HNb.out
    have e5 : w5.heap[w.heap.size]? = w4.heap[w.heap.size]? := (hk5 _ (by simp; omega) hnb).trans (HB4.out.block _ hl)
    exact ⟨HP.out.2.2.1.block e5, HP.out.2.2.1.block (by rw [Below.heap_setCell _ _ _ _ (by have := HA.out.1.has.1; simp only; omega), e5])⟩
  have HV : Hid (∀ w', Below w4.heap.size w4 w' → (w'.cell? ⟨h.p, 1, none⟩ = some h2.ev) ∧ EB w' w.heap.size ⟨e.t, e.k, e.xs, .slice aov nv cv⟩) := fun w' hb => ⟨by rw [← hp2]; exact (HP.out.1.below hb).cells 1, HP.out.2.2.1.below hb⟩
  clear hrun hg5 hm5 hk5 HP HL4 HA HB hp2 hl'
  go_wp2_with fail
  refine wp_region_held_drew (S := fun w' => w'.cell? ⟨w.heap.size, 0, none⟩ = some (.int .i64 e.t) ∧ w'.cell? ⟨w.heap.size, 1, none⟩ = some (.bool e.k.t) ∧ w'.cell? ⟨w.heap.size, 2, none⟩ = some (.int .i64 e.k.n) ∧ w'.cell? ⟨w.heap.size, 3, none⟩ = some (.string e.k.s) ∧ w'.cell? ⟨w.heap.size, 4, none⟩ = some (.slice aov nv cv)) (by kernel_rfl) ?_ (fun hHeld => ?_)
  · exact (HV.out _ (Below.refl _ _).drew).2.cells
  (try clear hK K)
  refine wpAnyH_take (i := 0) (v := ?_) rfl (by kernel_rfl) (by kernel_rfl) (by kernel_rfl) (fun _ _ _ h => h) (Or.inl ⟨by rfl, ?_⟩) (by assumption) ?_
  rotate_left
  · intro w hSw; (try dsimp only at hSw); go_simp; (try with_reducible rfl)
  (try simp only [Act.put, List.getElem_toArray, List.getElem_cons_zero, List.setIfInBounds_toArray, List.set_cons_zero, List.set_cons_succ])
  refine wpAnyH_take (i := 1) (v := ?_) rfl (by kernel_rfl) (by kernel_rfl) (by kernel_rfl) (fun _ _ _ h => h) (Or.inl ⟨by rfl, ?_⟩) (by assumption) ?_
  rotate_left
  · intro w hSw; (try dsimp only at hSw); go_simp; (try with_reducible rfl)
  (try simp only [Act.put, List.getElem_toArray, List.getElem_cons_succ, List.getElem_cons_zero, List.setIfInBounds_toArray, List.set_cons_zero, List.set_cons_succ])
  refine wpAnyH_take (i := 2) (v := ?_) rfl (by kernel_rfl) (by kernel_rfl) (by kernel_rfl) (fun _ _ _ h => h) (Or.inl ⟨by rfl, ?_⟩) (by assumption) ?_
  rotate_left
  · intro w hSw; (try dsimp only at hSw); go_simp; (try with_reducible rfl)
  (try simp only [Act.put, List.getElem_toArray, List.getElem_cons_succ, List.getElem_cons_zero, List.setIfInBounds_toArray, List.set_cons_zero, List.set_cons_succ])
  refine wpAnyH_take (i := 3) (v := ?_) rfl (by kernel_rfl) (by kernel_rfl) (by kernel_rfl) (fun _ _ _ h => h) (Or.inl ⟨by rfl, ?_⟩) (by assumption) ?_
  rotate_left
  · intro w hSw; (try dsimp only at hSw); go_simp; (try with_reducible rfl)
  (try simp only [Act.put, List.getElem_toArray, List.getElem_cons_succ, List.getElem_cons_zero, List.setIfInBounds_toArray, List.set_cons_zero, List.set_cons_succ])
  refine wpAnyH_take (i := 5) (v := ?_) rfl (by kernel_rfl) (by kernel_rfl) (by kernel_rfl) (fun _ _ _ h => h) (Or.inl ⟨by rfl, ?_⟩) (by assumption) ?_
  rotate_left
  · intro w hSw; (try dsimp only at hSw); go_simp; (try with_reducible rfl)
  (try simp only [Act.put, List.getElem_toArray, List.getElem_cons_succ, List.getElem_cons_zero, List.setIfInBounds_toArray, List.set_cons_zero, List.set_cons_succ])
  (try clear hK K)
  refine wpAnyH_ready (rs := [4, 6]) (by kernel_rfl) (by simp) ?_
  refine AllReadyH.cons rfl (fun K hK => ?_) (AllReadyH.cons rfl (fun K hK => ?_) AllReadyH.nil)
  · obtain ⟨q9, _⟩ := HV.out _ (Below.refl _ _)
    go_simp
    refine hK.out _ _ ?_ (fun hHeld => ?_)
    · exact (HV.out _ (Below.refl _ _).drew).2.cells
    clear q9
    (try clear hK K)
    refine wpAnyH_ready (rs := [6]) (by kernel_rfl) (by simp) ?_
    refine AllReadyH.cons rfl (fun K hK => ?_) AllReadyH.nil
    go_simp
    refine hK.out _ _ ?_ (fun hHeld => ?_)
    · exact (HV.out _ (alloc1 _ _).drew).2.cells
    (try clear hK K)
    refine wpAnyH_ready (rs := [7]) (by kernel_rfl) (by simp) ?_
    refine AllReadyH.cons rfl (fun K hK => ?_) AllReadyH.nil
    (refine step_append_run rfl (.tmp 33) (.tmp 35) _ _ rfl _ _ rfl rfl _ _ HR.out ?_; refine hK.out _ _ ?_ (fun hHeld => ?_))
    · exact HW.out.1.cells
    clear HR
    (try clear hK K)
    refine wpAnyH_take (i := 8) (v := ?_) rfl (by kernel_rfl) (by kernel_rfl) (by kernel_rfl) (fun _ _ _ h => h) (Or.inl ⟨by rfl, ?_⟩) (by assumption) ?_
    rotate_left
    · intro w hSw; (try dsimp only at hSw); go_simp; (try with_reducible rfl)
    (try simp only [Act.put, List.getElem_toArray, List.getElem_cons_succ, List.getElem_cons_zero, List.setIfInBounds_toArray, List.set_cons_zero, List.set_cons_succ])
    refine wpAnyH_take (i := 9) (v := ?_) rfl (by kernel_rfl) (by kernel_rfl) (by kernel_rfl) (fun _ _ _ h => h) (Or.inl ⟨by rfl, ?_⟩) (by assumption) ?_
    rotate_left
    · intro w hSw; (try dsimp only at hSw); go_simp; (try with_reducible rfl)
    (try simp only [Act.put, List.getElem_toArray, List.getElem_cons_succ, List.getElem_cons_zero, List.setIfInBounds_toArray, List.set_cons_zero, List.set_cons_succ])
    (try clear hK K)
    refine wpAnyH_ready (rs := [10]) (by kernel_rfl) (by simp) ?_
    refine AllReadyH.cons rfl (fun K hK => ?_) AllReadyH.nil
    go_simp
    refine hK.out _ _ ?_ (fun hHeld => ?_)
    · exact HW.out.2.cells
    (try clear hK K)
    refine wpAnyH_done (by kernel_rfl) ?_ _
    clear hc5 hf5
    go_wp2_with fail
    go_ret
    refine ⟨rfl, ⟨h.p, .slice ao5 ((L.meet (e.t, e.k)).es.length + 1) c5, h2.mb, h2.tv⟩, .slice aov nv cv, ?_, HF.out.2, HNr.out⟩
    rw [← (meet_es L (e.t, e.k)).1]
    exact HF.out.1
  · go_simp
    refine hK.out _ _ ?_ (fun hHeld => ?_)
    · exact (HV.out _ (alloc1 _ _).drew).2.cells
    obtain ⟨q9, _⟩ := HV.out _ HB4.out
    (try clear hK K)
    refine wpAnyH_ready (rs := [4]) (by kernel_rfl) (by simp) ?_
    refine AllReadyH.cons rfl (fun K hK => ?_) AllReadyH.nil
    go_simp
    refine hK.out _ _ ?_ (fun hHeld => ?_)
    · exact (HV.out _ (alloc1 _ _).drew).2.cells
    clear q9
    (try clear hK K)
    refine wpAnyH_ready (rs := [7]) (by kernel_rfl) (by simp) ?_
    refine AllReadyH.cons rfl (fun K hK => ?_) AllReadyH.nil
    (refine step_append_run rfl (.tmp 33) (.tmp 35) _ _ rfl _ _ rfl rfl _ _ HR.out ?_; refine hK.out _ _ ?_ (fun hHeld => ?_))
    · exact HW.out.1.cells
    clear HR
    (try clear hK K)
    refine wpAnyH_take (i := 8) (v := ?_) rfl (by kernel_rfl) (by kernel_rfl) (by kernel_rfl) (fun _ _ _ h => h) (Or.inl ⟨by rfl, ?_⟩) (by assumption) ?_
    rotate_left
    · intro w hSw; (try dsimp only at hSw); go_simp; (try with_reducible rfl)
    (try simp only [Act.put, List.getElem_toArray, List.getElem_cons_succ, List.getElem_cons_zero, List.setIfInBounds_toArray, List.set_cons_zero, List.set_cons_succ])
    refine wpAnyH_take (i := 9) (v := ?_) rfl (by kernel_rfl) (by kernel_rfl) (by kernel_rfl) (fun _ _ _ h => h) (Or.inl ⟨by rfl, ?_⟩) (by assumption) ?_
    rotate_left
    · intro w hSw; (try dsimp only at hSw); go_simp; (try with_reducible rfl)
    (try simp only [Act.put, List.getElem_toArray, List.getElem_cons_succ, List.getElem_cons_zero, List.setIfInBounds_toArray, List.set_cons_zero, List.set_cons_succ])
    (try clear hK K)
    refine wpAnyH_ready (rs := [10]) (by kernel_rfl) (by simp) ?_
    refine AllReadyH.cons rfl (fun K hK => ?_) AllReadyH.nil
    go_simp
    refine hK.out _ _ ?_ (fun hHeld => ?_)
    · exact HW.out.2.cells
    (try clear hK K)
    refine wpAnyH_done (by kernel_rfl) ?_ _
    clear hc5 hf5
    go_wp2_with fail
    go_ret
    refine ⟨rfl, ⟨h.p, .slice ao5 ((L.meet (e.t, e.k)).es.length + 1) c5, h2.mb, h2.tv⟩, .slice aov nv cv, ?_, HF.out.2, HNr.out⟩
    rw [← (meet_es L (e.t, e.k)).1]
    exact HF.out.1
theorem push_any {w : World} {h : Hl} {L : Lg} (g : LG w h L) (e : En) (ok : okS (e.t, e.k)) (se : Safe w h e) (hx : e.xs.length * 32 ≤ 140737488355328) (hm : L.met.length ≤ 1000) :
    Calls Try.prog 15 #[.pointer (some ⟨h.p, 0, none⟩), e.val] w fun x w' => x = .returned (.int .i64 (pushE L)) ∧ ∃ h' r, LG w' h' (L.push ⟨e.t, e.k, e.xs, r⟩) ∧ Ml w h w' h' ∧ (L.es.length < L.room → (∀ b o n c, r = .slice (some ⟨b, o, none⟩) n c → w.heap.size ≤ b)) := by
  by_cases hl : L.es.length < L.room
  · refine (push_room g e ok se hx hm hl).mono fun x w' ⟨hx, h', r, g', m, hr⟩ => ⟨by rw [hx, pushE, if_pos hl], h', r, ?_, m, fun _ => hr⟩
    rw [Lg.push, if_pos hl]; exact g'
  · refine (push_full g e (by omega)).mono fun x w' ⟨hx, hb⟩ => ⟨by rw [hx, pushE, if_neg hl], h, e.r, ?_, Ml.of hb, fun h1 => absurd h1 hl⟩
    rw [Lg.push, if_neg hl]; exact g.below hb
end Go.Proofs.Ytbfoplaccalegaa.Val
