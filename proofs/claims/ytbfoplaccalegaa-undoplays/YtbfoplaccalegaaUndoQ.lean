/- A log of a law's own, with what it answered: told by plain data alone. -/
import Derived.Test.YtbfoplaccalegaaUndoAll
namespace Go.Proofs.Ytbfoplaccalegaa.Val
open Go Go.RowKit

/-- The same, but for the places of rows. -/
structure Lg.like (a b : Lg) : Prop where
  room : a.room = b.room
  es : a.es.map En.pe = b.es.map En.pe
  s1 : a.s1 = b.s1
  s2 : a.s2 = b.s2
  s3 : a.s3 = b.s3
  met : a.met = b.met
theorem Lg.like.refl (a : Lg) : a.like a := ⟨rfl, rfl, rfl, rfl, rfl, rfl⟩
theorem pe_len {a b : List En} (h : a.map En.pe = b.map En.pe) : a.length = b.length := by simpa using congrArg List.length h
section
variable {a b : Lg}
theorem Lg.like.len (h : a.like b) : a.es.length = b.es.length := pe_len h.es
theorem Lg.like.meet (h : a.like b) (s : Spot) : (a.meet s).like (b.meet s) := by
  unfold Lg.meet
  rw [h.met]
  split
  · exact h
  · exact ⟨h.room, h.es, h.s1, h.s2, h.s3, by simp⟩
theorem Lg.like.push (h : a.like b) {e f : En} (he : e.pe = f.pe) : (a.push e).like (b.push f) := by
  unfold Lg.push
  rw [h.len, h.room]
  have e1 : (e.t, e.k) = (f.t, f.k) := by simp only [En.pe, Pe.mk.injEq] at he; rw [he.1, he.2.1]
  split
  · have := h.meet (e.t, e.k)
    rw [← e1]
    exact ⟨this.room, by simp [h.es, he], this.s1, this.s2, this.s3, this.met⟩
  · exact h
theorem Lg.like.put (h : a.like b) (n : Int) (o : Option Nat) : (a.put n o).like (b.put n o) := by
  unfold Lg.put
  split
  · exact ⟨h.room, h.es, rfl, h.s2, h.s3, h.met⟩
  · split
    · exact ⟨h.room, h.es, h.s1, rfl, h.s3, h.met⟩
    · exact ⟨h.room, h.es, h.s1, h.s2, rfl, h.met⟩
theorem Lg.like.get (h : a.like b) (n : Int) : a.get n = b.get n := by
  unfold Lg.get; rw [h.s1, h.s2, h.s3]
theorem Lg.like.back (h : a.like b) (k : Nat) : (a.back k).like (b.back k) :=
  ⟨h.room, by simp [Lg.back, h.es], by simp [Lg.back, h.s1], by simp [Lg.back, h.s2], by simp [Lg.back, h.s3], h.met⟩
end
/-- A log of the law's own, and what it answered. -/
def QU (w0 wr : World) (p : Nat) (L : Lg) (As : List (Value × List En)) : Prop :=
  ∃ (h : Hl) (L' : Lg), h.p = p ∧ L'.like L ∧ LG wr h L' ∧ OwnH h w0.heap.size ∧ Below w0.heap.size w0 wr ∧ ∀ x ∈ As, ∃ l', l'.map En.pe = x.2.map En.pe ∧ Ans wr h x.1 l'
section
variable {w0 wr w' : World} {p : Nat} {L L2 : Lg} {As : List (Value × List En)}
theorem QU.blw (q : QU w0 wr p L As) : Below w0.heap.size w0 wr := by
  obtain ⟨h, L', _, _, _, _, b, _⟩ := q; exact b
theorem QU.below (q : QU w0 wr p L As) (hb : Below wr.heap.size wr w') : QU w0 w' p L As := by
  obtain ⟨h, L', hp, hl, g, o, b, an⟩ := q
  exact ⟨h, L', hp, hl, g.below hb, o, b.trans (hb.mono b.size), fun x hx => by obtain ⟨l', e, a⟩ := an x hx; exact ⟨l', e, a.ml (Ml.of hb)⟩⟩
theorem QU.less (q : QU w0 wr p L As) {Bs : List (Value × List En)} (hs : ∀ x ∈ Bs, x ∈ As) : QU w0 wr p L Bs := by
  obtain ⟨h, L', hp, hl, g, o, b, an⟩ := q
  exact ⟨h, L', hp, hl, g, o, b, fun x hx => an x (hs x hx)⟩
theorem safe_old {h : Hl} {e : En} (o : OwnH h w0.heap.size) (b : Below w0.heap.size w0 wr) (r : RowIn w0 e.r e.xs) : Safe wr h e := by
  have := Lies.lk (h := h) r o
  exact this.ml ⟨⟨b.os, b.tape, b.output, b.size, fun k hk _ => b.block k hk, fun q j hq _ => b.cell (p := ⟨q, j, none⟩) hq⟩, fun _ x => .inl x, rfl⟩
theorem new_q (w0 w1 : World) (room : Int) (b : Below w0.heap.size w0 w1) : Calls Try.prog 9 #[.int .i64 room] w1 fun e w' => ∃ p, e = .returned (.pointer (some ⟨p, 0, none⟩)) ∧ QU w0 w' p (newL (capR room)) [] :=
  (new_any room w1).mono fun e w' ⟨h, he, g, hb, o, _, _⟩ => ⟨h.p, he, h, _, rfl, .refl _, g, fun a ha => Nat.le_trans b.size (o a ha), b.trans (hb.mono b.size), by simp⟩
theorem push_q (q : QU w0 wr p L As) (e : En) (ok : okS (e.t, e.k)) (hr : RowIn w0 e.r e.xs) (hx : e.xs.length * 32 ≤ 140737488355328) (hm : L.met.length ≤ 1000) :
    Calls Try.prog 15 #[.pointer (some ⟨p, 0, none⟩), e.val] wr fun x w' => x = .returned (.int .i64 (pushE L)) ∧ QU w0 w' p (L.push e) As := by
  obtain ⟨h, L', hp, hl, g, o, b, an⟩ := q
  subst hp
  refine (push_any g e ok (safe_old o b hr) hx (by rw [hl.met]; exact hm)).mono fun x w' ⟨hx, h', r, g', m, _⟩ => ⟨by rw [hx, pushE, pushE, hl.len, hl.room], h', L'.push ⟨e.t, e.k, e.xs, r⟩, m.p, hl.push (e := ⟨e.t, e.k, e.xs, r⟩) rfl, g', o.ml m b.size, b.trans (m.below o b.size), fun y hy => ?_⟩
  obtain ⟨l', e', a⟩ := an y hy
  exact ⟨l', e', a.ml m⟩
theorem save_q (q : QU w0 wr p L As) (n : Int) (hn : okn n = true) :
    Calls Try.prog 16 #[.pointer (some ⟨p, 0, none⟩), .int .i64 n] wr fun x w' => x = .returned (.int .i64 0) ∧ QU w0 w' p (L.put n (some L.es.length)) As := by
  obtain ⟨h, L', hp, hl, g, o, b, an⟩ := q
  subst hp
  refine (save_ok g n hn).mono fun x w' ⟨hx, g', m⟩ => ⟨hx, h, _, rfl, by rw [← hl.len]; exact hl.put n _, g', o, b.trans (m.below o b.size), fun y hy => ?_⟩
  obtain ⟨l', e', a⟩ := an y hy
  exact ⟨l', e', a.ml m⟩
theorem save_qn (q : QU w0 wr p L As) (n : Int) (hn : okn n = false) :
    Calls Try.prog 16 #[.pointer (some ⟨p, 0, none⟩), .int .i64 n] wr fun x w' => x = .returned (.int .i64 70) ∧ QU w0 w' p L As :=
  (save_bad n hn).mono fun x w' ⟨hx, hw⟩ => ⟨hx, by rw [hw]; exact q⟩
theorem back_q (q : QU w0 wr p L As) (n : Int) (hn : okn n = true) (a : Nat) (ha : L.get n = some a) (hle : a ≤ L.es.length) :
    Calls Try.prog 17 #[.pointer (some ⟨p, 0, none⟩), .int .i64 n] wr fun x w' => ∃ v, x = .returned (.tuple #[v, .int .i64 0]) ∧ QU w0 w' p (L.back a) ((v, (L.es.drop a).reverse) :: As) := by
  obtain ⟨h, L', hp, hl, g, o, b, an⟩ := q
  subst hp
  refine (back_some g n hn a (by rw [hl.get]; exact ha) (by rw [hl.len]; exact hle)).mono fun x w' ⟨v, h', hx, g', m, ans⟩ => ⟨v, hx, h', _, m.p, hl.back a, g', o.ml m b.size, b.trans (m.below o b.size), fun y hy => ?_⟩
  rcases List.mem_cons.1 hy with rfl | hy
  · exact ⟨_, by simp [hl.es], ans⟩
  · obtain ⟨l', e', a⟩ := an y hy
    exact ⟨l', e', a.ml m⟩
theorem back_qn (q : QU w0 wr p L As) (n : Int) (hn : okn n = true → L.get n = none) :
    Calls Try.prog 17 #[.pointer (some ⟨p, 0, none⟩), .int .i64 n] wr fun x w' => x = .returned (.tuple #[.slice none 0 0, .int .i64 70]) ∧ QU w0 w' p L As := by
  obtain ⟨h, L', hp, hl, g, o, b, an⟩ := q
  subst hp
  exact (back_none g n (by rw [hl.get]; exact hn)).mono fun x w' ⟨hx, hb⟩ => ⟨hx, QU.below ⟨h, L', rfl, hl, g, o, b, an⟩ hb⟩
theorem all_q (q : QU w0 wr p L As) :
    Calls Try.prog 18 #[.pointer (some ⟨p, 0, none⟩)] wr fun x w' => ∃ v, x = .returned v ∧ QU w0 w' p (newL L.room) ((v, L.es.reverse) :: As) := by
  obtain ⟨h, L', hp, hl, g, o, b, an⟩ := q
  subst hp
  refine (all_any g).mono fun x w' ⟨v, h', hx, g', m, ans⟩ => ⟨v, hx, h', _, m.p, by rw [hl.room]; exact .refl _, g', o.ml m b.size, b.trans (m.below o b.size), fun y hy => ?_⟩
  rcases List.mem_cons.1 hy with rfl | hy
  · exact ⟨_, by simp [hl.es], ans⟩
  · obtain ⟨l', e', a⟩ := an y hy
    exact ⟨l', e', a.ml m⟩
theorem len_q (q : QU w0 wr p L As) : Calls Try.prog 12 #[.pointer (some ⟨p, 0, none⟩)] wr fun x w' => x = .returned (.int .i64 L.es.length) ∧ QU w0 w' p L As := by
  have q0 := q
  obtain ⟨h, L', hp, hl, g, o, b, an⟩ := q
  subst hp
  exact (len_any g).mono fun x w' ⟨hx, hw⟩ => ⟨by rw [hx, hl.len], by rw [hw]; exact q0⟩
theorem touched_q (q : QU w0 wr p L As) (hm : L.met.length ≤ 1000) : Calls Try.prog 14 #[.pointer (some ⟨p, 0, none⟩)] wr fun x w' => ∃ v, x = .returned v ∧ QU w0 w' p L ((v, L.met.map touE) :: As) := by
  obtain ⟨h, L', hp, hl, g, o, b, an⟩ := q
  subst hp
  refine (touched_any g (by rw [hl.met]; exact hm)).mono fun x w' ⟨v, hx, hb, ans⟩ => ⟨v, hx, h, L', rfl, hl, g.below hb, o, b.trans (hb.mono b.size), fun y hy => ?_⟩
  rcases List.mem_cons.1 hy with rfl | hy
  · exact ⟨_, by rw [hl.met], ans⟩
  · obtain ⟨l', e', a⟩ := an y hy
    exact ⟨l', e', a.ml (Ml.of hb)⟩
/-- What an answer is: a slice; its cells. -/
theorem QU.slice (q : QU w0 wr p L As) {v : Value} {l : List En} (hx : (v, l) ∈ As) : ∃ ao c, v = .slice ao l.length c ∧ l.length ≤ 9223372036854775807 := by
  obtain ⟨h, L', hp, hl, g, o, b, an⟩ := q
  obtain ⟨l', e', a⟩ := an _ hx
  obtain ⟨ao, c, e, hle⟩ := a.1.1.slice
  have := pe_len e'
  exact ⟨ao, c, by rw [← this]; exact e, by rw [← this]; exact hle⟩
theorem QU.at (q : QU w0 wr p L As) {ao : Option Addr} {n c : Nat} {l : List En} (hx : (Value.slice ao n c, l) ∈ As) (k : Nat) (hk : k < l.length) :
    ∃ b o r, ao = some ⟨b, o, none⟩ ∧ wr.cell? ⟨b, o + k * 5, none⟩ = some (.int .i64 l[k].t) ∧ wr.cell? ⟨b, o + k * 5 + 1, none⟩ = some (.bool l[k].k.t) ∧ wr.cell? ⟨b, o + k * 5 + 2, none⟩ = some (.int .i64 l[k].k.n) ∧
      wr.cell? ⟨b, o + k * 5 + 3, none⟩ = some (.string l[k].k.s) ∧ wr.cell? ⟨b, o + k * 5 + 4, none⟩ = some r ∧ RowIn wr r l[k].xs := by
  obtain ⟨h, L', hp, hl, g, o, b, an⟩ := q
  obtain ⟨l', e', a⟩ := an _ hx
  have hlen : l'.length = l.length := pe_len e'
  have hk' : k < l'.length := by omega
  have epe : l'[k].pe = l[k].pe := by
    have := congrArg (fun z => z[k]?) e'
    simpa [hk, hk'] using this
  simp only [En.pe, Pe.mk.injEq] at epe
  obtain ⟨e1, e2, e3⟩ := epe
  obtain ⟨⟨ao', c', e, h1, h2, h0, h3⟩, _⟩ := a.1
  cases e
  rcases h3 with h3 | ⟨b', o', rfl, h3⟩
  · have := ecells_length l'; rw [h3] at this; simp at this; omega
  · have hr := (a.2 l'[k] (List.getElem_mem hk')).row
    rw [e3] at hr
    have at' : ∀ j u, j < 5 → l'[k].cells[j]? = some u → wr.cell? ⟨b', o' + (k * 5 + j), none⟩ = some u := fun j u hj hu =>
      h3 (k * 5 + j) u (by rw [flat_at En.cells 5 En.cells_length l' k j hk' hj]; exact hu)
    refine ⟨b', o', l'[k].r, rfl, ?_, ?_, ?_, ?_, ?_, hr⟩
    · rw [← e1]; exact at' 0 _ (by omega) rfl
    · rw [← e2]; exact at' 1 _ (by omega) rfl
    · rw [← e2]; exact at' 2 _ (by omega) rfl
    · rw [← e2]; exact at' 3 _ (by omega) rfl
    · exact at' 4 _ (by omega) rfl
end
end Go.Proofs.Ytbfoplaccalegaa.Val
