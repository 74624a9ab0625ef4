/- One act on both logs; what stays true of the log. -/
import Derived.Test.YtbfoplaccalegaaLawUDoneA
import Derived.Test.YtbfoplaccalegaaLawUDoneS
import Derived.Test.YtbfoplaccalegaaLawUDoneP
namespace Go.Proofs.Ytbfoplaccalegaa.Val
open Go Go.RowKit

variable {K : List (Nat × Obj)}
/-- A log behind so many acts. -/
structure Fine (L : Lg) (k : Nat) : Prop where
  room : L.room ≤ 60
  es : L.es.length ≤ L.room
  met : L.met.length ≤ k
  sv : ∀ n a, L.get n = some a → a ≤ L.es.length
theorem Fine.new (room : Int) : Fine (newL (capR room)) 0 := ⟨capR_le room, Nat.zero_le _, Nat.zero_le _, fun n a h => by rw [newr_get] at h; cases h⟩
theorem Fine.push {L : Lg} {k : Nat} (f : Fine L k) (e : En) : Fine (L.push e) (k + 1) ∧ (L.push e).room = L.room := by
  by_cases hl : L.es.length < L.room
  · obtain ⟨a, b, c⟩ := push_facts L e hl
    refine ⟨⟨by rw [b]; exact f.room, by rw [a, b, List.length_append]; simp; omega, Nat.le_trans (push_met L e) (by have := f.met; omega), fun n x h => ?_⟩, b⟩
    rw [c] at h
    have := f.sv n x h
    rw [a, List.length_append]; simp; omega
  · have hp : L.push e = L := if_neg hl
    rw [hp]
    exact ⟨⟨f.room, f.es, by have := f.met; omega, f.sv⟩, rfl⟩
theorem get_cases (L : Lg) (m n : Int) (o : Option Nat) (a : Nat) (h : (L.put m o).get n = some a) : o = some a ∨ L.get n = some a := by
  by_cases m1 : m = 1 <;> by_cases m2 : m = 2 <;> by_cases n1 : n = 1 <;> by_cases n2 : n = 2 <;> simp_all [Lg.put, Lg.get]
theorem Fine.put {L : Lg} {k : Nat} (f : Fine L k) (n : Int) : Fine (L.put n (some L.es.length)) (k + 1) ∧ (L.put n (some L.es.length)).room = L.room := by
  obtain ⟨a, b, c⟩ := Lg.put_es L n (some L.es.length)
  refine ⟨⟨by rw [c]; exact f.room, by rw [a, c]; exact f.es, by rw [b]; have := f.met; omega, fun m x h => ?_⟩, c⟩
  rw [a]
  rcases get_cases L n m _ x h with h | h
  · cases h; exact Nat.le_refl _
  · exact f.sv m x h
theorem Fine.back {L : Lg} {k : Nat} (f : Fine L k) (a : Nat) (ha : a ≤ L.es.length) : Fine (L.back a) (k + 1) ∧ (L.back a).room = L.room := by
  have hl : (L.back a).es.length = a := by show (L.es.take a).length = a; rw [List.length_take]; omega
  refine ⟨⟨f.room, by rw [hl]; exact Nat.le_trans ha f.es, by show L.met.length ≤ _; have := f.met; omega, fun m x h => ?_⟩, rfl⟩
  rw [hl]
  rw [get_back] at h
  unfold clr at h
  split at h
  · cases h
  · rename_i h2
    rw [h] at h2
    simp at h2; exact h2
theorem done_any (w0 w : World) (p : Nat) (L : Lg) (k : Nat) (f : Fine L k) (hk : k ≤ 80) (lv sv mv : Value) (a : UA) (q : QK w0 w p L (NBs K) (RK K w0 lv sv mv L)) (ok : okS (a.e.t, a.e.k)) (hr : RowIn w0 a.e.r a.e.xs) (hx : a.e.xs.length ≤ 100) :
    Calls Try.prog 11 #[.pointer (some ⟨p, 0, none⟩), RV L.room lv sv mv, a.val] w fun x w' => ∃ L' lv' sv' mv', x = .returned (.tuple #[RV L.room lv' sv' mv', .bool true]) ∧ (Fine L' (k + 1) ∧ L'.room = L.room) ∧ QK w0 w' p L' (NBs K) (RK K w0 lv' sv' mv' L') := by
  have hes : L.es.length ≤ 500 := by have := f.es; have := f.room; omega
  have hme : L.met.length ≤ 500 := by have := f.met; omega
  have her : ∃ ra rn rc, a.e.r = .slice ra rn rc := by obtain ⟨ra, rc, h, _⟩ := hr.slice; exact ⟨ra, _, rc, h⟩
  have same : Fine L (k + 1) ∧ L.room = L.room := ⟨⟨f.room, f.es, by have := f.met; omega, f.sv⟩, rfl⟩
  have pu := f.push a.e
  have back : ∀ r, kindA a = r → (r = 5 ∨ r = 6) → Calls Try.prog 11 #[.pointer (some ⟨p, 0, none⟩), RV L.room lv sv mv, a.val] w fun x w' => ∃ L' lv' sv' mv', x = .returned (.tuple #[RV L.room lv' sv' mv', .bool true]) ∧ (Fine L' (k + 1) ∧ L'.room = L.room) ∧ QK w0 w' p L' (NBs K) (RK K w0 lv' sv' mv' L') := by
    intro r hr5 h56
    by_cases hb : ∃ b, okn a.n = true ∧ L.get a.n = some b
    · obtain ⟨b, hn, hg⟩ := hb
      have hle := f.sv a.n b hg
      rcases h56 with rfl | rfl
      · exact (done_back5 w0 w p L lv sv mv a q hr5 b hn hg hle hes her).mono fun x w' ⟨l', s', m', hx, hq⟩ => ⟨_, l', s', m', hx, f.back b hle, hq⟩
      · exact (done_back6 w0 w p L lv sv mv a q hr5 b hn hg hle hes her).mono fun x w' ⟨l', s', m', hx, hq⟩ => ⟨_, l', s', m', hx, f.back b hle, hq⟩
    · have hn : okn a.n = true → L.get a.n = none := fun h => by
        cases hg : L.get a.n with
        | none => rfl
        | some b => exact absurd ⟨b, h, hg⟩ hb
      rcases h56 with rfl | rfl
      · exact (done_backn5 w0 w p L lv sv mv a q hr5 hn her).mono fun x w' ⟨l', s', m', hx, hq⟩ => ⟨_, l', s', m', hx, same, hq⟩
      · exact (done_backn6 w0 w p L lv sv mv a q hr5 hn her).mono fun x w' ⟨l', s', m', hx, hq⟩ => ⟨_, l', s', m', hx, same, hq⟩
  by_cases h0 : kindA a = 0
  · exact (done_push w0 w p L lv sv mv a q ok hr hx hes hme h0).mono fun x w' ⟨l', s', m', hx, hq⟩ => ⟨_, l', s', m', by rw [hx, pu.2], pu, hq⟩
  by_cases h1 : kindA a = 1
  · exact (done_push1 w0 w p L lv sv mv a q ok hr hx hes hme h1).mono fun x w' ⟨l', s', m', hx, hq⟩ => ⟨_, l', s', m', by rw [hx, pu.2], pu, hq⟩
  by_cases h2 : kindA a = 2
  · exact (done_push2 w0 w p L lv sv mv a q ok hr hx hes hme h2).mono fun x w' ⟨l', s', m', hx, hq⟩ => ⟨_, l', s', m', by rw [hx, pu.2], pu, hq⟩
  by_cases h3 : kindA a = 3
  · exact (done_push3 w0 w p L lv sv mv a q ok hr hx hes hme h3).mono fun x w' ⟨l', s', m', hx, hq⟩ => ⟨_, l', s', m', by rw [hx, pu.2], pu, hq⟩
  by_cases h4 : kindA a = 4
  · cases hn : okn a.n
    · exact (done_saven w0 w p L lv sv mv a q h4 hn her).mono fun x w' ⟨l', s', m', hx, hq⟩ => ⟨_, l', s', m', hx, same, hq⟩
    · exact (done_save w0 w p L lv sv mv a q h4 hn her).mono fun x w' ⟨l', s', m', hx, hq⟩ => ⟨_, l', s', m', hx, f.put a.n, hq⟩
  by_cases h5 : kindA a = 5
  · exact back 5 h5 (.inl rfl)
  by_cases h6 : kindA a = 6
  · exact back 6 h6 (.inr rfl)
  · have nb : ∀ {i : Int}, ¬ kindA a = i → (kindA a == i) = false := fun h => by simpa using h
    exact (done_all w0 w p L lv sv mv a q ⟨nb h0, nb h1, nb h2, nb h3, nb h4, nb h5, nb h6⟩ hes f.room her).mono fun x w' ⟨l', s', m', hx, hq⟩ => ⟨newL L.room, l', s', m', hx, ⟨⟨f.room, Nat.zero_le _, Nat.zero_le _, fun n a h => by rw [newr_get] at h; cases h⟩, rfl⟩, hq⟩
theorem told_box {w : World} {b : Nat} {room r : Int} {lv sv mv l s m : Value} (h : w.heap[b]? = some (robj room lv sv mv)) : (told w b r l s m).heap[b]? = some (robj r l s m) := by
  unfold told
  have h0 : (w.setCell ⟨b, 0, none⟩ (.int .i64 r)).heap[b]? = some (.cells #[.int .i64 r, lv, sv, mv] TRf (0, 0)) := heap_setCell_same _ b 0 _ TRf _ h
  have h1 : ((w.setCell ⟨b, 0, none⟩ (.int .i64 r)).setCell ⟨b, 1, none⟩ l).heap[b]? = some (.cells #[.int .i64 r, l, sv, mv] TRf (0, 0)) := heap_setCell_same _ b 1 _ TRf _ h0
  have h2 : (((w.setCell ⟨b, 0, none⟩ (.int .i64 r)).setCell ⟨b, 1, none⟩ l).setCell ⟨b, 2, none⟩ s).heap[b]? = some (.cells #[.int .i64 r, l, s, mv] TRf (0, 0)) := heap_setCell_same _ b 2 _ TRf _ h1
  exact heap_setCell_same _ b 3 _ TRf _ h2
/-- A box written anew. -/
theorem told_k {w0 w : World} {p b : Nat} {L : Lg} {room r : Int} {lv sv mv l1 s1 m1 l s m : Value} (hK : ∀ x ∈ K, x.1 ≠ b) (q : QK w0 w p L (NBs ((b, robj room l1 s1 m1) :: K)) (RK ((b, robj room l1 s1 m1) :: K) w0 lv sv mv L)) (hw : w0.heap.size ≤ b) : QK w0 (told w b r l s m) p L (NBs ((b, robj r l s m) :: K)) (RK ((b, robj r l s m) :: K) w0 lv sv mv L) := by
  obtain ⟨h, L', hp, hl, g, o, bl, z, ⟨_, _, ⟨⟨es, epe, hes, hr⟩, hs, hm⟩, f1, f2, f3, kbs, j1, j2, j3⟩⟩ := q
  have kb := kbs _ List.mem_cons_self
  have hk : ∀ k, k ≠ b → (told w b r l s m).heap[k]? = w.heap[k]? := fun k hb => told_far hb
  have bl' : Below w0.heap.size w0 (told w b r l s m) := told_low bl hw
  have nb : ∀ {v : Value}, NBs ((b, robj room l1 s1 m1) :: K) v → NBk b v ∧ NBs ((b, robj r l s m) :: K) v := fun f => ⟨f _ List.mem_cons_self, fun x hx => by
    rcases List.mem_cons.1 hx with rfl | hx
    · exact f (b, robj room l1 s1 m1) List.mem_cons_self
    · exact f x (List.mem_cons_of_mem _ hx)⟩
  obtain ⟨es0, cl, m1', m2', m3⟩ := g.map
  refine ⟨h, L', hp, hl, ⟨by rw [hk _ fun e => kb.2 0 (.inl e.symm)]; exact g.box, g.ents.block fun k hk' => hk k fun e => ?_, fun e he => ⟨lies_other (g.rows e he).row (flat_length Val.cells 3 (fun _ => rfl) e.xs) (nb (z e he)).1 hk, (g.rows e he).2⟩, ⟨es0, cl, by rw [hk _ fun e => kb.2 0 (.inr (.inl e.symm))]; exact m1', m2', m3⟩,
    owns_block g.tou fun k hk' => hk k fun e => kb.2 0 (.inr (.inr (.inl (by rw [hk']; exact congrArg some e)))), g.okm, g.tp, g.ep, g.et, g.room, g.len⟩, o, bl', fun e he => (nb (z e he)).2, o, bl', ⟨⟨es, epe, ⟨lies_other hes.1 (ecells_length es) (nb j1).1 hk, fun e he => (hr e he).below bl'⟩, hr⟩, lies_other hs (m := 1) rfl (nb j2).1 hk, ⟨lies_other hm.1 (ecells_length _) (nb j3).1 hk, tou_rows _ _⟩⟩, f1, f2, f3, fun x hx => ?_, (nb j1).2, (nb j2).2, (nb j3).2⟩
  · subst e
    rcases g.ents.2 with ⟨e1, _⟩ | ⟨q', cap, cur, e1, hq, _⟩
    · rw [e1] at hk'; cases hk'
    · rw [e1] at hk'
      have hqk : q' = k := Option.some.inj hk'
      have hkb : w.heap[k]? = some (robj room l1 s1 m1) := kb.1
      rw [hqk, hkb] at hq
      injection hq with hq
      injection hq with _ h2 _
      exact rf_ne h2.symm
  · rcases List.mem_cons.1 hx with rfl | hx
    · exact ⟨told_box kb.1, kb.2⟩
    · have k2 := kbs x (List.mem_cons_of_mem _ hx)
      exact ⟨by rw [hk _ (hK x hx)]; exact k2.1, k2.2⟩
/-- A new box beside the log. -/
theorem QK.box {w0 w : World} {p : Nat} {L : Lg} {lv sv mv : Value} (q : QK w0 w p L (NBs K) (RK K w0 lv sv mv L)) (ob : Obj) : QK w0 (w.alloc ob) p L (NBs ((w.heap.size, ob) :: K)) (RK ((w.heap.size, ob) :: K) w0 lv sv mv L) := by
  obtain ⟨h, L', hp, hl, g, o, bl, z, r⟩ := q
  obtain ⟨es0, _, hes0, _⟩ := r.2.2.1.l
  have n1 : NBk w.heap.size lv := NBk.lies hes0.1 (m := 5) (by decide) (ecells_length es0) (Nat.le_refl _) (Nat.le_refl _)
  have n2 : NBk w.heap.size sv := NBk.lies r.2.2.1.s (m := 1) (by decide) rfl (Nat.le_refl _) (Nat.le_refl _)
  have n3 : NBk w.heap.size mv := NBk.lies r.2.2.1.m.1 (m := 5) (by decide) (ecells_length _) (Nat.le_refl _) (Nat.le_refl _)
  have add : ∀ {v : Value}, NBk w.heap.size v → NBs K v → NBs ((w.heap.size, ob) :: K) v := fun a b x hx => by
    rcases List.mem_cons.1 hx with rfl | hx
    · exact a
    · exact b x hx
  have hb := alloc1 w ob
  obtain ⟨o2, b2, rl, f1, f2, f3, kbs, j1, j2, j3⟩ := RK.kpt _ _ _ _ _ _ _ _ _ _ (Ml.of hb) r
  refine ⟨h, L', hp, hl, g.below hb, o, bl.trans (hb.mono bl.size), fun e he => add (NBk.lies (g.rows e he).row (m := 3) (by decide) (flat_length Val.cells 3 (fun _ => rfl) e.xs) (Nat.le_refl _) (Nat.le_refl _)) (z e he), o2, b2, rl, f1, f2, f3, fun x hx => ?_, add n1 j1, add n2 j2, add n3 j3⟩
  rcases List.mem_cons.1 hx with rfl | hx
  · exact ⟨heap_alloc_new w ob, fun j hf => by have := g.lt _ hf; simp at this⟩
  · exact kbs x hx
/-- A box let go. -/
theorem QK.drop {w0 w : World} {p : Nat} {L : Lg} {lv sv mv : Value} {x : Nat × Obj} (q : QK w0 w p L (NBs (x :: K)) (RK (x :: K) w0 lv sv mv L)) : QK w0 w p L (NBs K) (RK K w0 lv sv mv L) := by
  have dr : ∀ {v : Value}, NBs (x :: K) v → NBs K v := fun f y hy => f y (List.mem_cons_of_mem _ hy)
  obtain ⟨h, L', hp, hl, g, o, bl, z, o2, b2, rl, f1, f2, f3, kbs, j1, j2, j3⟩ := q
  exact ⟨h, L', hp, hl, g, o, bl, fun e he => dr (z e he), o2, b2, rl, f1, f2, f3, fun y hy => kbs y (List.mem_cons_of_mem _ hy), dr j1, dr j2, dr j3⟩
theorem QK.lb {w0 w : World} {p b : Nat} {L : Lg} {Z : Value → Prop} {room : Int} {lv sv mv l1 s1 m1 : Value} (q : QK w0 w p L Z (RK K w0 lv sv mv L)) (hx : (b, robj room l1 s1 m1) ∈ K) : LB w b room l1 s1 m1 := by
  obtain ⟨h, L', hp, hl, g, o, bl, z, o2, b2, rl, f1, f2, f3, kbs, _⟩ := q
  exact LB.of (kbs _ hx).1
theorem QK.rl {w0 w : World} {p : Nat} {L : Lg} {Z : Value → Prop} {lv sv mv : Value} (q : QK w0 w p L Z (RK K w0 lv sv mv L)) : RL (RowIn w0) w lv sv mv L := by
  obtain ⟨h, L', hp, hl, g, o, bl, z, o2, b2, rl, _⟩ := q
  exact rl
end Go.Proofs.Ytbfoplaccalegaa.Val
