/- A log of a law's own beside facts that its steps keep: the reference's log, and boxes. -/
import Derived.Test.YtbfoplaccalegaaUndoRefA
import Derived.Test.YtbfoplaccalegaaUndoRefS
namespace Go.Proofs.Ytbfoplaccalegaa.Val
open Go Go.RowKit

/-- Kept by all steps of a log's. -/
def Kpt (A : World → Hl → Prop) : Prop := ∀ w h w' h', Ml w h w' h' → A w h → A w' h'
/-- A log of the law's own, and what is kept beside it. -/
def QK (w0 wr : World) (p : Nat) (L : Lg) (Z : Value → Prop) (A : World → Hl → Prop) : Prop :=
  ∃ (h : Hl) (L' : Lg), h.p = p ∧ L'.like L ∧ LG wr h L' ∧ OwnH h w0.heap.size ∧ Below w0.heap.size w0 wr ∧ (∀ e ∈ L'.es, Z e.r) ∧ A wr h
def AnsK (v : Value) (l : List En) (w : World) (h : Hl) : Prop := ∃ l', l'.map En.pe = l.map En.pe ∧ Ans w h v l'
theorem AnsK.kpt (v : Value) (l : List En) : Kpt (AnsK v l) := fun _ _ _ _ m ⟨l', e, a⟩ => ⟨l', e, a.ml m⟩
theorem Kpt.and {A B : World → Hl → Prop} (a : Kpt A) (b : Kpt B) : Kpt fun w h => A w h ∧ B w h := fun w h w' h' m x => ⟨a w h w' h' m x.1, b w h w' h' m x.2⟩
section
variable {w0 wr w' : World} {p : Nat} {L : Lg} {Z : Value → Prop} {A : World → Hl → Prop}
theorem QK.blw (q : QK w0 wr p L Z A) : Below w0.heap.size w0 wr := by
  obtain ⟨h, L', _, _, _, _, b, _⟩ := q; exact b
theorem QK.below (q : QK w0 wr p L Z A) (k : Kpt A) (hb : Below wr.heap.size wr w') : QK w0 w' p L Z A := by
  obtain ⟨h, L', hp, hl, g, o, b, z, an⟩ := q
  exact ⟨h, L', hp, hl, g.below hb, o, b.trans (hb.mono b.size), z, k _ _ _ _ (Ml.of hb) an⟩
theorem QK.to {B : World → Hl → Prop} (q : QK w0 wr p L Z A) (f : ∀ h, (∀ a, h.fp a → a.block < wr.heap.size) → A wr h → B wr h) : QK w0 wr p L Z B := by
  obtain ⟨h, L', hp, hl, g, o, b, z, an⟩ := q
  exact ⟨h, L', hp, hl, g, o, b, z, f h g.lt an⟩
theorem push_k (q : QK w0 wr p L Z A) (k : Kpt A) (e : En) (ok : okS (e.t, e.k)) (hr : RowIn w0 e.r e.xs) (hx : e.xs.length * 32 ≤ 140737488355328) (hm : L.met.length ≤ 1000) (hZ : ∀ v, (∀ b o n c, v = .slice (some ⟨b, o, none⟩) n c → wr.heap.size ≤ b) → Z v) :
    Calls Try.prog 15 #[.pointer (some ⟨p, 0, none⟩), e.val] wr fun x w' => x = .returned (.int .i64 (pushE L)) ∧ QK w0 w' p (L.push e) Z A := by
  obtain ⟨h, L', hp, hl, g, o, b, z, an⟩ := q
  subst hp
  exact (push_any g e ok (safe_old o b hr) hx (by rw [hl.met]; exact hm)).mono fun x w' ⟨hx, h', r, g', m, hr⟩ => ⟨by rw [hx, pushE, pushE, hl.len, hl.room], h', L'.push ⟨e.t, e.k, e.xs, r⟩, m.p, hl.push (e := ⟨e.t, e.k, e.xs, r⟩) rfl, g', o.ml m b.size, b.trans (m.below o b.size), fun x hx => by
    unfold Lg.push at hx
    split at hx
    · rename_i hlt
      rcases List.mem_append.1 hx with hx | hx
      · exact z x hx
      · rw [List.mem_singleton.1 hx]; exact hZ r (hr hlt)
    · exact z x hx, k _ _ _ _ m an⟩
theorem save_k (q : QK w0 wr p L Z A) (k : Kpt A) (n : Int) (hn : okn n = true) :
    Calls Try.prog 16 #[.pointer (some ⟨p, 0, none⟩), .int .i64 n] wr fun x w' => x = .returned (.int .i64 0) ∧ QK w0 w' p (L.put n (some L.es.length)) Z A := by
  obtain ⟨h, L', hp, hl, g, o, b, z, an⟩ := q
  subst hp
  exact (save_ok g n hn).mono fun x w' ⟨hx, g', m⟩ => ⟨hx, h, _, rfl, by rw [← hl.len]; exact hl.put n _, g', o, b.trans (m.below o b.size), by rw [(Lg.put_es _ _ _).1]; exact z, k _ _ _ _ m an⟩
theorem save_kn (q : QK w0 wr p L Z A) (n : Int) (hn : okn n = false) :
    Calls Try.prog 16 #[.pointer (some ⟨p, 0, none⟩), .int .i64 n] wr fun x w' => x = .returned (.int .i64 70) ∧ QK w0 w' p L Z A :=
  (save_bad n hn).mono fun x w' ⟨hx, hw⟩ => ⟨hx, by rw [hw]; exact q⟩
theorem back_k (q : QK w0 wr p L Z A) (k : Kpt A) (n : Int) (hn : okn n = true) (a : Nat) (ha : L.get n = some a) (hle : a ≤ L.es.length) :
    Calls Try.prog 17 #[.pointer (some ⟨p, 0, none⟩), .int .i64 n] wr fun x w' => ∃ v, x = .returned (.tuple #[v, .int .i64 0]) ∧ QK w0 w' p (L.back a) Z fun w h => A w h ∧ AnsK v (L.es.drop a).reverse w h := by
  obtain ⟨h, L', hp, hl, g, o, b, z, an⟩ := q
  subst hp
  exact (back_some g n hn a (by rw [hl.get]; exact ha) (by rw [hl.len]; exact hle)).mono fun x w' ⟨v, h', hx, g', m, ans⟩ => ⟨v, hx, h', _, m.p, hl.back a, g', o.ml m b.size, b.trans (m.below o b.size), fun x hx => z x (List.mem_of_mem_take hx), k _ _ _ _ m an, _, by simp [hl.es], ans⟩
theorem back_kn (q : QK w0 wr p L Z A) (k : Kpt A) (n : Int) (hn : okn n = true → L.get n = none) :
    Calls Try.prog 17 #[.pointer (some ⟨p, 0, none⟩), .int .i64 n] wr fun x w' => x = .returned (.tuple #[.slice none 0 0, .int .i64 70]) ∧ QK w0 w' p L Z A := by
  obtain ⟨h, L', hp, hl, g, o, b, z, an⟩ := q
  subst hp
  exact (back_none g n (by rw [hl.get]; exact hn)).mono fun x w' ⟨hx, hb⟩ => ⟨hx, QK.below ⟨h, L', rfl, hl, g, o, b, z, an⟩ k hb⟩
theorem all_k (q : QK w0 wr p L Z A) (k : Kpt A) :
    Calls Try.prog 18 #[.pointer (some ⟨p, 0, none⟩)] wr fun x w' => ∃ v, x = .returned v ∧ QK w0 w' p (newL L.room) Z fun w h => A w h ∧ AnsK v L.es.reverse w h := by
  obtain ⟨h, L', hp, hl, g, o, b, z, an⟩ := q
  subst hp
  exact (all_any g).mono fun x w' ⟨v, h', hx, g', m, ans⟩ => ⟨v, hx, h', _, m.p, by rw [hl.room]; exact .refl _, g', o.ml m b.size, b.trans (m.below o b.size), (by simp [newL]), k _ _ _ _ m an, _, by simp [hl.es], ans⟩
theorem len_k (q : QK w0 wr p L Z A) : Calls Try.prog 12 #[.pointer (some ⟨p, 0, none⟩)] wr fun x w' => x = .returned (.int .i64 L.es.length) ∧ w' = wr := by
  obtain ⟨h, L', hp, hl, g, o, b, z, an⟩ := q
  subst hp
  exact (len_any g).mono fun x w' ⟨hx, hw⟩ => ⟨by rw [hx, hl.len], hw⟩
theorem touched_k (q : QK w0 wr p L Z A) (hm : L.met.length ≤ 1000) : Calls Try.prog 14 #[.pointer (some ⟨p, 0, none⟩)] wr fun x w' => ∃ v, x = .returned v ∧ Below wr.heap.size wr w' ∧ EntsIn w' v (L.met.map touE) := by
  obtain ⟨h, L', hp, hl, g, o, b, z, an⟩ := q
  subst hp
  refine (touched_any g (by rw [hl.met]; exact hm)).mono fun x w' ⟨v, hx, hb, ans⟩ => ⟨v, hx, hb, ?_⟩
  rw [hl.met] at ans
  exact ⟨ans.1.1, tou_rows _ _⟩
end
/-- No cell of a slice, of so many cells an element, is one that the log may turn. -/
def OffV (h : Hl) (v : Value) (k : Nat) : Prop := ∀ b o n c, v = .slice (some ⟨b, o, none⟩) n c → ∀ j, j < n * k → ¬ h.fp ⟨b, o + j, none⟩
theorem OffV.src {w : World} {h : Hl} {v v' : Value} {k : Nat} (f : OffV h v k) (hlt : ∀ a, h.fp a → a.block < w.heap.size) (s : Src w v v') : OffV h v' k := by
  intro b o n c e j hj hf
  rcases s with s | ⟨ao, n0, c0, a, e1, e2, ha⟩
  · have h1 := s b o n c e
    have h2 := hlt _ hf
    simp only at h2; omega
  · rw [e2] at e
    cases e
    exact f b o n0 _ e1 j (Nat.lt_of_lt_of_le hj (Nat.mul_le_mul_right _ ha)) hf
theorem OffV.ml {w w' : World} {h h' : Hl} {v : Value} {k : Nat} {m : Nat} {xs : List Value} (f : OffV h v k) (l : Lies w v m xs) (hk : xs.length = m * k) (s : Ml w h w' h') : OffV h' v k ∧ Lies w' v m xs := by
  have hl : Lk w h v m xs := ⟨l, fun b o n c e j hj => by
    obtain ⟨ao, c', e1, _⟩ := l
    rw [e1] at e; cases e
    exact f b o _ _ e1 j (by omega)⟩
  have hl' := hl.ml s
  refine ⟨fun b o n c e j hj => ?_, hl'.1⟩
  have e1 : n = m := by obtain ⟨ao, c', e1, _⟩ := l; rw [e1] at e; cases e; rfl
  exact hl'.2 b o n c e j (by rw [hk, ← e1]; exact hj)
/-- A block that is none of the log's. -/
def KB (b : Nat) (ob : Obj) (w : World) (h : Hl) : Prop := w.heap[b]? = some ob ∧ ∀ j, ¬ h.fp ⟨b, j, none⟩
theorem KB.kpt (b : Nat) (ob : Obj) : Kpt (KB b ob) := fun w h w' h' m ⟨x, f⟩ => by
  have hlt : b < w.heap.size := (Array.getElem?_eq_some_iff.1 x).1
  refine ⟨by rw [m.kp.block b hlt f]; exact x, fun j hf => ?_⟩
  rcases m.own _ hf with k | k
  · exact f j k
  · simp only at k; omega
/-- A slice's block is another one. -/
def NBk (k : Nat) (v : Value) : Prop := ∀ b o n c, v = .slice (some ⟨b, o, none⟩) n c → 0 < n → b ≠ k
theorem NBk.src {w : World} {k : Nat} {v v' : Value} (f : NBk k v) (hk : k < w.heap.size) (s : Src w v v') : NBk k v' := by
  intro b o n c e hn
  rcases s with s | ⟨ao, n0, c0, a, e1, e2, ha⟩
  · have := s b o n c e; omega
  · rw [e2] at e
    cases e
    exact f b o n0 _ e1 (by omega)
theorem NBk.lies {w : World} {B k m n : Nat} {v : Value} {xs : List Value} (l : Lies w v n xs) (hm : 0 < m) (hl : xs.length = n * m) (hB : w.heap.size ≤ B) (hk : B ≤ k) : NBk k v := by
  intro b o n' c e hn
  obtain ⟨ao, c', e1, _, _, _, h3⟩ := l
  rw [e1] at e
  cases e
  rcases h3 with h3 | ⟨b', o', e2, h3⟩
  · rw [h3] at hl
    have := Nat.mul_pos hn hm
    simp at hl; omega
  · cases e2
    have hp : 0 < xs.length := by rw [hl]; exact Nat.mul_pos hn hm
    have := World.block_lt_of_cell? w _ (h3 0 _ (List.getElem?_eq_getElem hp))
    simp only at this; omega
theorem lies_other {w w' : World} {k m n : Nat} {v : Value} {xs : List Value} (l : Lies w v n xs) (hl : xs.length = n * m) (f : NBk k v) (hb : ∀ b, b ≠ k → w'.heap[b]? = w.heap[b]?) : Lies w' v n xs := by
  obtain ⟨ao, c', e1, h1, h2, h0, h3⟩ := l
  refine ⟨ao, c', e1, h1, h2, h0, ?_⟩
  rcases h3 with h3 | ⟨b', o', e2, h3⟩
  · exact .inl h3
  · rcases Nat.eq_zero_or_pos n with hn | hn
    · left
      rw [hn, Nat.zero_mul] at hl
      exact List.eq_nil_of_length_eq_zero hl
    · exact .inr ⟨b', o', e2, fun j u hj => by rw [World.cell?_of_block (w := w) (a := ⟨b', o' + j, none⟩) (hb b' (f b' o' n c' (by rw [e1, e2]) hn))]; exact h3 j u hj⟩
/-- Boxes that are none of the log's, and in which no slice lies. -/
def KBs (K : List (Nat × Obj)) (w : World) (h : Hl) : Prop := ∀ x ∈ K, KB x.1 x.2 w h
def NBs (K : List (Nat × Obj)) (v : Value) : Prop := ∀ x ∈ K, NBk x.1 v
theorem NBs.src {K : List (Nat × Obj)} {w : World} {v v' : Value} (f : NBs K v) (hk : ∀ x ∈ K, x.1 < w.heap.size) (s : Src w v v') : NBs K v' := fun x hx => (f x hx).src (hk x hx) s
theorem KBs.lt {K : List (Nat × Obj)} {w : World} {h : Hl} (f : KBs K w h) : ∀ x ∈ K, x.1 < w.heap.size := fun x hx => (Array.getElem?_eq_some_iff.1 (f x hx).1).1
/-- The reference's log, none of whose cells is the log's; and boxes. -/
def RK (K : List (Nat × Obj)) (w0 : World) (lv sv mv : Value) (L : Lg) (w : World) (h : Hl) : Prop :=
  OwnH h w0.heap.size ∧ Below w0.heap.size w0 w ∧ RL (RowIn w0) w lv sv mv L ∧ OffV h lv 5 ∧ OffV h sv 1 ∧ OffV h mv 5 ∧ KBs K w h ∧ NBs K lv ∧ NBs K sv ∧ NBs K mv
theorem RK.kpt (K : List (Nat × Obj)) (w0 : World) (lv sv mv : Value) (L : Lg) : Kpt (RK K w0 lv sv mv L) := by
  intro w h w' h' m ⟨o, b, ⟨⟨es, epe, hes, hr⟩, hs, hm⟩, f1, f2, f3, kb, nb⟩
  have b' : Below w0.heap.size w0 w' := b.trans (m.below o b.size)
  obtain ⟨g1, k1⟩ := f1.ml hes.1 (ecells_length es) m
  obtain ⟨g2, k2⟩ := f2.ml hs rfl m
  obtain ⟨g3, k3⟩ := f3.ml hm.1 (ecells_length _) m
  exact ⟨o.ml m b.size, b', ⟨⟨es, epe, ⟨k1, fun e he => (hr e he).below b'⟩, hr⟩, k2, ⟨k3, tou_rows _ _⟩⟩, g1, g2, g3, fun x hx => KB.kpt _ _ _ _ _ _ m (kb x hx), nb⟩
end Go.Proofs.Ytbfoplaccalegaa.Val
