/- A law's own store: what it holds is told; blocks that are none of it are kept by its calls. -/
import Derived.Test.YtafkpfhhmmnpeaaU22
import Derived.Test.YtafkpfhhmmnpeaaU28
import Derived.Test.YtafkpfhhmmnpeaaU29
namespace Go.Proofs.Ytafkpfhhmmnpeaa.Val
open Go Go.RowKit
set_option maxRecDepth 100000

/-- All blocks of a store: those that its calls turn, and those that they only read. -/
def Ft (p : Nat) (tv : Value) (ts : List Tb) (k : Nat) : Prop := Fp p ts k ∨ tv.ownBlock = some k ∨ ∃ j, ∃ hj : j < ts.length, ts[j].fv.ownBlock = some k
/-- A law's own store. O: blocks that are none of it. -/
def SQ (p : Nat) (room last : Int) (d : Dat) (O : Nat → Prop) (w : World) : Prop :=
  ∃ tv ts, SM w p tv room last ts ∧ datS ts = d ∧ GoodD room d ∧ ∀ k, O k → k < w.heap.size ∧ ¬ Ft p tv ts k
/-- What is none of it is kept. -/
abbrev Ke (O : Nat → Prop) (w w' : World) : Prop := Sv (fun k => ¬ O k) w w'
theorem ke_below {O : Nat → Prop} {w w' : World} (h : Below w.heap.size w w') : Ke O w w' := Sv.of h
theorem Ke.low {O : Nat → Prop} {w w' : World} {B : Nat} (h : Ke O w w') (hB : ∀ k, k < B → O k) (hs : B ≤ w.heap.size) : Below B w w' := Sv.below h hs fun k hk hx => hx (hB k hk)
section
variable {w w' : World} {p : Nat} {room last : Int} {d : Dat} {O : Nat → Prop} {tv : Value} {ts : List Tb}
theorem SM.ft (s : SM w p tv room last ts) : ∀ k, Ft p tv ts k → k < w.heap.size := fun k hk => by
  rcases hk with (hk | ⟨j, hj, hk⟩) | hk | ⟨j, hj, hk⟩
  · rw [hk]; exact s.lt
  · exact (s.trees j hj).lt k hk
  · exact (s.offt k hk).2.1
  · exact (s.offf j hj k hk).2.1
theorem SM.sv {X : Nat → Prop} (s : SM w p tv room last ts) (hs : Sv X w w') (hx : ∀ k, Ft p tv ts k → ¬ X k) : SM w' p tv room last ts where
  c0 := by rw [hs.cell (p := ⟨p, 0, none⟩) s.lt (hx p (.inl (.inl rfl)))]; exact s.c0
  c1 := by rw [hs.cell (p := ⟨p, 1, none⟩) s.lt (hx p (.inl (.inl rfl)))]; exact s.c1
  c2 := by rw [hs.cell (p := ⟨p, 2, none⟩) s.lt (hx p (.inl (.inl rfl)))]; exact s.c2
  fz := fun j => (hs.frozen (p := ⟨p, j, none⟩) s.lt (hx p (.inl (.inl rfl)))).trans (s.fz j)
  tab := Lies.sv s.tab hs fun g hg => hx g (.inr (.inl hg))
  forms := fun j hj => Lies.sv (s.forms j hj) hs fun g hg => hx g (.inr (.inr ⟨j, hj, hg⟩))
  trees := fun j hj => (s.trees j hj).sv hs fun k hk => hx k (.inl (.inr ⟨j, hj, hk⟩))
  apart := s.apart
  offp := s.offp
  offt := fun g hg => ⟨(s.offt g hg).1, Nat.lt_of_lt_of_le (s.offt g hg).2.1 hs.size, (s.offt g hg).2.2⟩
  offf := fun i hi g hg => ⟨(s.offf i hi g hg).1, Nat.lt_of_lt_of_le (s.offf i hi g hg).2.1 hs.size, (s.offf i hi g hg).2.2⟩
theorem SQ.sv {X : Nat → Prop} (q : SQ p room last d O w) (hs : Sv X w w') (hx : ∀ k, X k → O k) : SQ p room last d O w' := by
  obtain ⟨tv, ts, s, hd, hg, ho⟩ := q
  exact ⟨tv, ts, s.sv hs fun k hk hxk => (ho k (hx k hxk)).2 hk, hd, hg, fun k hk => ⟨Nat.lt_of_lt_of_le (ho k hk).1 hs.size, (ho k hk).2⟩⟩
theorem SQ.below (q : SQ p room last d O w) (hb : Below w.heap.size w w') : SQ p room last d O w' := q.sv (X := Nothing) (Sv.of hb) fun _ h => h.elim
/-- What was laid since is none of it. -/
theorem SQ.more (q : SQ p room last d O w) (hb : Below w.heap.size w w') : SQ p room last d (fun k => O k ∨ (w.heap.size ≤ k ∧ k < w'.heap.size)) w' := by
  obtain ⟨tv, ts, s, hd, hg, ho⟩ := q
  refine ⟨tv, ts, s.below hb, hd, hg, fun k hk => ?_⟩
  rcases hk with hk | hk
  · exact ⟨Nat.lt_of_lt_of_le (ho k hk).1 hb.size, (ho k hk).2⟩
  · exact ⟨hk.2, fun h => by have := s.ft k h; omega⟩
theorem SQ.less {O' : Nat → Prop} (q : SQ p room last d O w) (h : ∀ k, O' k → O k) : SQ p room last d O' w := by
  obtain ⟨tv, ts, s, hd, hg, ho⟩ := q
  exact ⟨tv, ts, s, hd, hg, fun k hk => ho k (h k hk)⟩
theorem Turned.q {last' : Int} {d' : Dat} (h : Turned w w' p tv room last' ts d') (ho : ∀ k, O k → k < w.heap.size ∧ ¬ Ft p tv ts k) (hg : GoodD room d') : SQ p room last' d' O w' ∧ Ke O w w' := by
  obtain ⟨ts', s', hm, hd, hf⟩ := h
  refine ⟨⟨tv, ts', s', hd, hg, fun k hk => ⟨Nat.lt_of_lt_of_le (ho k hk).1 hm.sv.size, fun h => ?_⟩⟩, hm.sv.os, hm.sv.tape, hm.sv.output, hm.sv.size, fun k hk hx => hm.sv.block k hk fun hf => hx fun hok => (ho k hok).2 (.inl hf)⟩
  rcases h with h | h | ⟨j, hj, h⟩
  · rcases hm.own k h with h1 | h1
    · exact (ho k hk).2 (.inl h1)
    · have := (ho k hk).1; omega
  · exact (ho k hk).2 (.inr (.inl h))
  · have hl : ts'.length = ts.length := by have := congrArg List.length hf; simpa using this
    have e : ts'[j].fv = (ts[j]'(by omega)).fv := by
      have := congrArg (fun l => l[j]?) hf
      simpa [hj, show j < ts.length by omega] using this
    exact (ho k hk).2 (.inr (.inr ⟨j, by omega, by rw [← e]; exact h⟩))
theorem fit_good {n m : Int} {xs : List Val} (h : fitsD d n xs = true) : inD d n ∧ rightX (keyR xs) = true ∧ GoodX (colsD d n) ⟨keyR xs, plOf xs m⟩ := by
  unfold fitsD at h
  split at h
  · rename_i hn
    have hl := fitsR_len h
    refine ⟨hn, key_right h, .inr ⟨xs, m, h, ?_, rfl⟩⟩
    cases xs with
    | nil => simp at hl
    | cons x l => rfl
  · cases h
theorem has_both {n : Int} {k : Val} (hn : inD d n) (h : hasD d n k = true) : hasP k (rowsD d n) = true := by
  unfold hasD at h
  rw [if_pos hn] at h
  cases hh : hasP k (rowsD d n)
  · rw [get_no.2 hh] at h; cases h
  · rfl
theorem has_row {n : Int} {k : Val} (hn : inD d n) (h : hasR (plD d n k) = true) : hasP k (rowsD d n) = true := by
  unfold plD at h
  rw [if_pos hn] at h
  cases hh : hasP k (rowsD d n)
  · rw [get_no.2 hh, has_zero] at h; cases h
  · rfl
theorem place_pl (ts : List Tb) (n : Int) (k : Val) : placeAt ts n k = plD (datS ts) n k := by
  unfold plD
  by_cases hn : inD (datS ts) n
  · rw [if_pos hn]
    obtain ⟨hn0, hn1⟩ := dat_in.1 hn
    obtain ⟨i, rfl⟩ : ∃ i : Nat, n = (i : Int) := ⟨n.toNat, by omega⟩
    have hi : i < ts.length := by omega
    rw [dat_rows hi]
    simp [placeAt, hi]
  · rw [if_neg hn]
    unfold placeAt
    split
    · rename_i h0
      rw [List.getElem?_eq_none (by have := dat_in (ts := ts) (n := n); omega)]
    · rfl
/-- The rows of a table within a span. -/
def scanD (d : Dat) (n : Int) (s : Sp) : List (List Val) := if inD d n then rowsOf (rangeP s (rowsD d n)) else []
section
theorem sq_get (q : SQ p room last d O w) (n : Int) (k : Val) (hs : k.s.size ≤ maxLen) :
    Calls Try.prog 13 #[sptr p, .int .i64 n, V k.t k.n k.s] w fun e w' => ∃ v', e = .returned (.tuple #[v', .int .i64 (if hasR (plD d n k) then (plD d n k).m else 0), .bool (hasR (plD d n k))]) ∧ (if hasR (plD d n k) then OwnRow w' w.heap.size TVa v' (rowP (plD d n k)) else v' = .slice none 0 0) ∧ Below w.heap.size w w' := by
  obtain ⟨tv, ts, s, rfl, hg, ho⟩ := q
  have := sm_get s (good_of hg) n k hs
  rw [place_pl] at this
  exact this
theorem sq_used (q : SQ p room last d O w) : Calls Try.prog 16 #[sptr p] w fun e w' => e = .returned (.int .i64 (usedD d)) ∧ Below w.heap.size w w' := by
  obtain ⟨tv, ts, s, rfl, hg, ho⟩ := q
  have g := good_of hg
  rw [dat_used]
  exact used_any s (by have := g.room; omega) (by have := g.few; omega)
theorem sq_rows (q : SQ p room last d O w) (n : Int) (sp : Sp) : Calls Try.prog 18 #[sptr p, .int .i64 n, sp.val] w fun e w' => ∃ v m, e = .returned v ∧ OwnIms w' w.heap.size v m ∧ m.map Im.r = scanD d n sp ∧ Below w.heap.size w w' := by
  obtain ⟨tv, ts, s, rfl, hg, ho⟩ := q
  have g := good_of hg
  unfold scanD
  by_cases hn : inD (datS ts) n
  · rw [if_pos hn]
    obtain ⟨hn0, hn1⟩ := dat_in.1 hn
    obtain ⟨i, rfl⟩ : ∃ i : Nat, n = (i : Int) := ⟨n.toNat, by omega⟩
    have hi : i < ts.length := by omega
    rw [dat_rows hi]
    have hlen := g.len i hi
    refine rows_gen w sp (fun w1 hb => at_in (s.below hb) i hi) (fun w1 hb => tr_rows ((s.below hb).trees i hi) (by omega) sp) ?_ fun x hx hr => good_width (g.rows i hi x (List.mem_filter.1 hx).1) hr
    have : (rangeP sp ts[i].l).length ≤ ts[i].l.length := List.length_filter_le ..
    omega
  · rw [if_neg hn]
    have e0 : rowsOf ([] : List Pr) = [] := rfl
    rw [← e0]
    refine rows_gen w sp (fun w1 hb => at_out (s.below hb) n fun h => hn (dat_in.2 h)) (fun w1 hb => ?_) (by simp) (by simp)
    refine (gather_nil sp).mono fun e w' ⟨he, hb'⟩ => ⟨_, [], he, World.ownsRow_nil _ _ _ _, rfl, hb'⟩
theorem sq_insert (q : SQ p room last d O w) {vr : Value} {xs : List Val} (hr : RowIn w vr xs) (hk : RowOk xs) (ho : ∀ g, vr.ownBlock = some g → O g) (n : Int) (hl : 0 ≤ last ∧ last ≤ 1000000) :
    Calls Try.prog 23 #[sptr p, .int .i64 n, vr] w fun e w' => e = .returned (.tuple #[.int .i64 (insE d room last n xs).1, .int .i64 (insE d room last n xs).2]) ∧ SQ p room (insL d room last n xs) (insD d room last n xs) O w' ∧ Ke O w w' := by
  obtain ⟨tv, ts, s, rfl, hg, hoo⟩ := q
  refine (sm_insert s (good_of hg) ⟨hr, hk, fun g hg' h => (hoo g (ho g hg')).2 (.inl h)⟩ n hl).mono fun e w' ⟨he, ht⟩ => ⟨he, ht.q hoo ?_⟩
  unfold insD
  split
  · rename_i h0
    have hf : fitsD (datS ts) n xs = true := by
      cases hf : fitsD (datS ts) n xs
      · rw [insE, hf] at h0; cases h0
      · rfl
    obtain ⟨h1, h2, h3⟩ := fit_good (m := last + 1) hf
    refine good_put hg h1 h2 h3 ?_
    rw [insE, hf, if_pos rfl] at h0
    cases hh : hasD (datS ts) n (keyR xs)
    · right
      rw [hh] at h0
      cases hp : hasR (plD (datS ts) n (keyR xs))
      · rw [hp, if_neg (by simp)] at h0
        by_cases hlt : room ≤ (usedD (datS ts) : Int)
        · rw [if_pos (by simpa using hlt)] at h0; cases h0
        · omega
      · rw [hp, if_pos rfl] at h0; cases h0
    · exact .inl (has_both h1 hh)
  · exact hg
theorem sq_replace (q : SQ p room last d O w) {vr : Value} {xs : List Val} (hr : RowIn w vr xs) (hk : RowOk xs) (ho : ∀ g, vr.ownBlock = some g → O g) (n : Int) :
    Calls Try.prog 26 #[sptr p, .int .i64 n, vr] w fun e w' => e = .returned (.int .i64 (if fitsD d n xs then (if hasR (plD d n (keyR xs)) then 0 else 61) else 1)) ∧ SQ p room last (if fitsD d n xs ∧ hasR (plD d n (keyR xs)) then setD d n (insP (keyR xs) (plOf xs (plD d n (keyR xs)).m) (rowsD d n)) else d) O w' ∧ Ke O w w' := by
  obtain ⟨tv, ts, s, rfl, hg, hoo⟩ := q
  refine (sm_replace s (good_of hg) ⟨hr, hk, fun g hg' h => (hoo g (ho g hg')).2 (.inl h)⟩ n).mono fun e w' ⟨he, ht⟩ => ⟨he, ht.q hoo ?_⟩
  split
  · rename_i h
    obtain ⟨h1, h2, h3⟩ := fit_good (m := (plD (datS ts) n (keyR xs)).m) h.1
    exact good_put hg h1 h2 h3 (.inl (has_row h1 h.2))
  · exact hg
theorem sq_remove (q : SQ p room last d O w) (n : Int) (k : Val) (hs : k.s.size ≤ maxLen) :
    Calls Try.prog 21 #[sptr p, .int .i64 n, V k.t k.n k.s] w fun e w' => e = .returned (.int .i64 (if inD d n then (if hasR (plD d n k) then 0 else 61) else 1)) ∧ SQ p room last (if inD d n ∧ hasR (plD d n k) then setD d n (insP k Pl.zero (rowsD d n)) else d) O w' ∧ Ke O w w' := by
  obtain ⟨tv, ts, s, rfl, hg, hoo⟩ := q
  refine (sm_remove s (good_of hg) n k hs).mono fun e w' ⟨he, ht⟩ => ⟨he, ht.q hoo ?_⟩
  split
  · rename_i h
    have hh := has_row h.1 h.2
    obtain ⟨v, hv⟩ := has_iff.1 hh
    exact good_put hg h.1 ((hg.rows _ (dat_mem h.1)).2.2 _ hv) (.inl rfl) (.inl hh)
  · exact hg
theorem sq_restore (q : SQ p room last d O w) {vr : Value} {xs : List Val} (hr : RowIn w vr xs) (hk : RowOk xs) (ho : ∀ g, vr.ownBlock = some g → O g) (n m : Int) :
    Calls Try.prog 22 #[sptr p, .int .i64 n, vr, .int .i64 m] w fun e w' => e = .returned (.int .i64 (if fitsD d n xs then (if hasD d n (keyR xs) && !hasR (plD d n (keyR xs)) then 0 else 61) else 1)) ∧ SQ p room last (if fitsD d n xs ∧ (hasD d n (keyR xs) && !hasR (plD d n (keyR xs))) = true then setD d n (insP (keyR xs) (plOf xs m) (rowsD d n)) else d) O w' ∧ Ke O w w' := by
  obtain ⟨tv, ts, s, rfl, hg, hoo⟩ := q
  refine (sm_restore s (good_of hg) ⟨hr, hk, fun g hg' h => (hoo g (ho g hg')).2 (.inl h)⟩ n m).mono fun e w' ⟨he, ht⟩ => ⟨he, ht.q hoo ?_⟩
  split
  · rename_i h
    obtain ⟨h1, h2, h3⟩ := fit_good (m := m) h.1
    have h4 := h.2
    rw [Bool.and_eq_true] at h4
    exact good_put hg h1 h2 h3 (.inl (has_both h1 h4.1))
  · exact hg
theorem sq_free (q : SQ p room last d O w) (n : Int) (k : Val) (hs : k.s.size ≤ maxLen) :
    Calls Try.prog 24 #[sptr p, .int .i64 n, V k.t k.n k.s] w fun e w' => e = .returned (.int .i64 (if inD d n then (if hasR (plD d n k) then 60 else if hasD d n k then 0 else 61) else 1)) ∧ SQ p room last (if inD d n ∧ hasR (plD d n k) = false ∧ hasD d n k = true then setD d n (delP k (rowsD d n)) else d) O w' ∧ Ke O w w' := by
  obtain ⟨tv, ts, s, rfl, hg, hoo⟩ := q
  refine (sm_free s (good_of hg) n k hs).mono fun e w' ⟨he, ht⟩ => ⟨he, ht.q hoo ?_⟩
  split
  · rename_i h
    exact good_del hg h.1 k
  · exact hg
end
/-- A row that was laid since. -/
theorem insert_new (q : SQ p room last d O w) {w1 : World} (hb : Below w.heap.size w w1) {v : Value} {xs : List Val} (ho : OwnRow w1 w.heap.size TVa v xs) (hk : RowOk xs) (n : Int) (hl : 0 ≤ last ∧ last ≤ 1000000) :
    Calls Try.prog 23 #[sptr p, .int .i64 n, v] w1 fun e w' => e = .returned (.tuple #[.int .i64 (insE d room last n xs).1, .int .i64 (insE d room last n xs).2]) ∧ SQ p room (insL d room last n xs) (insD d room last n xs) O w' ∧ Ke (fun k => O k ∨ (w.heap.size ≤ k ∧ k < w1.heap.size)) w1 w' :=
  (sq_insert (q.more hb) ho.isIn hk (fun g hg => .inr (World.ownsRow.lt ho g hg)) n hl).mono fun _ _ ⟨he, hq, hke⟩ => ⟨he, hq.less fun _ h => .inl h, hke⟩
/-- What a new store holds. -/
def newD (cs : List (List Bool)) : Dat := cs.map fun c => (c, [])
theorem sq_new {v : Value} {tabs : List (Value × List Bool)} (h : TabsIn w v tabs) (room : Int) : Calls Try.prog 10 #[v, .int .i64 room] w fun e w' => (mayS tabs room = false ∧ e = .returned (.pointer none) ∨ mayS tabs room = true ∧ e = .returned (sptr w.heap.size) ∧ SQ w.heap.size room 0 (newD (tabs.map Prod.snd)) (fun k => k < w.heap.size) w') ∧ Below w.heap.size w w' := by
  refine (snew_any h).mono fun e w' ⟨ho, hb⟩ => ⟨?_, hb⟩
  rcases ho with ho | ⟨hm, tv, ts, he, np⟩
  · exact .inl ho
  · refine .inr ⟨hm, he, tv, ts, np.sm, ?_, ?_, fun k hk => ⟨Nat.lt_of_lt_of_le hk hb.size, fun hf => ?_⟩⟩
    · rw [← np.cols, newD, List.map_map]
      unfold datS
      refine List.map_congr_left fun t ht => ?_
      obtain ⟨j, hj, rfl⟩ := List.mem_iff_getElem.1 ht
      simp [np.nil j hj]
    · simp only [mayS, Bool.and_eq_true, decide_eq_true_eq, List.all_eq_true] at hm
      have hu : usedD (newD (tabs.map Prod.snd)) = 0 := by
        unfold usedD newD
        rw [List.map_map]
        induction (tabs.map Prod.snd) with
        | nil => rfl
        | cons c l ih => simpa using ih
      refine ⟨by simp [newD]; omega, by rw [hu]; omega, fun t ht => ?_, fun t ht => ?_⟩
      · simp only [newD, List.mem_map] at ht
        obtain ⟨c, ⟨x, hx, rfl⟩, rfl⟩ := ht
        exact hm.2.2.2.2 x hx
      · simp only [newD, List.mem_map] at ht
        obtain ⟨c, ⟨x, hx, rfl⟩, rfl⟩ := ht
        exact ⟨by simp, by simp [Rises], by simp [Rights]⟩
    · have ow := np.own
      have := hk
      rcases hf with hf | hf | ⟨j, hj, hf⟩
      · have := ow.1 k hf; omega
      · have := ow.2.1 k hf; omega
      · have := ow.2.2 j hj k hf; omega
end
end Go.Proofs.Ytafkpfhhmmnpeaa.Val
/- What the law's awake answers: true. -/
namespace Go.Proofs.Ytafkpfhhmmnpeaa.Val
open Go Go.RowKit
set_option maxRecDepth 100000

abbrev num1 (n : Int) : Val := ⟨false, n, ⟨#[]⟩⟩
theorem one_any (n : Int) (w : World) (hn : fits n = true) : Calls Try.prog 27 #[.int .i64 n] w fun e w' => ∃ v', e = .returned v' ∧ OwnRow w' w.heap.size TVa v' [num1 n] ∧ RowOk [num1 n] ∧ Below w.heap.size w w' := by
  have HO : Hid (OwnRow (w.alloc (.cells #[.bool false, .int .i64 n, .string ⟨#[]⟩] TVa)) w.heap.size TVa (.slice (some ⟨w.heap.size, 0, none⟩) 1 1) [num1 n] ∧ RowOk [num1 n]) := by
    refine ⟨⟨rfl, .inr ⟨w.heap.size, 1, _, rfl, Nat.le_refl _, World.alloc_heap_new w _, Nat.le_refl _, by unfold maxLen; omega, rfl, rfl⟩⟩, ?_⟩
    intro x hx
    rw [List.mem_singleton] at hx
    subst hx
    exact ⟨hn, Nat.zero_le _⟩
  clear hn
  go_enter Try.func27, Try.ntmps27
  go_wp2_with fail
  go_ret
  exact ⟨_, rfl, HO.out.1, HO.out.2, alloc1 _ _⟩
def aw0 : Dat := newD [[false]]
def aw1 : Dat := insD aw0 1 0 0 [num1 1]
def aw3 : Dat := setD aw1 0 (insP (num1 1) Pl.zero (rowsD aw1 0))
def aw5 : Dat := insD aw3 1 1 0 [num1 1]
def spZ : Sp := ⟨false, false, false, Val.zero, false, false, Val.zero⟩
theorem aw_facts : insE aw0 1 0 0 [num1 1] = (1, 0) ∧ insL aw0 1 0 0 [num1 1] = 1 ∧ insE aw1 1 1 0 [num1 2] = (0, 62) ∧ insL aw1 1 1 0 [num1 2] = 1 ∧ insD aw1 1 1 0 [num1 2] = aw1 ∧
    (if inD aw1 0 then (if hasR (plD aw1 0 (num1 1)) then (0 : Int) else 61) else 1) = 0 ∧ (if inD aw1 0 ∧ hasR (plD aw1 0 (num1 1)) then setD aw1 0 (insP (num1 1) Pl.zero (rowsD aw1 0)) else aw1) = aw3 ∧
    insE aw3 1 1 0 [num1 2] = (0, 62) ∧ insL aw3 1 1 0 [num1 2] = 1 ∧ insD aw3 1 1 0 [num1 2] = aw3 ∧ insE aw3 1 1 0 [num1 1] = (2, 0) ∧ usedD aw5 = 1 ∧ (scanD aw5 0 spZ).length = 1 := by
  have e1 : insE aw0 1 0 0 [num1 1] = (1, 0) := by decide +kernel
  have e2 : insL aw0 1 0 0 [num1 1] = 1 := by decide +kernel
  have e3 : insE aw1 1 1 0 [num1 2] = (0, 62) := by decide +kernel
  have e4 : insL aw1 1 1 0 [num1 2] = 1 := by decide +kernel
  have e6 : (if inD aw1 0 then (if hasR (plD aw1 0 (num1 1)) then (0 : Int) else 61) else 1) = 0 := by decide +kernel
  have h1 : hasR (plD aw1 0 (num1 1)) = true := by decide +kernel
  have h2 : inD aw1 0 := by decide +kernel
  have e8 : insE aw3 1 1 0 [num1 2] = (0, 62) := by decide +kernel
  have e9 : insL aw3 1 1 0 [num1 2] = 1 := by decide +kernel
  have e11 : insE aw3 1 1 0 [num1 1] = (2, 0) := by decide +kernel
  have e12 : usedD aw5 = 1 := by decide +kernel
  have e13 : (scanD aw5 0 spZ).length = 1 := by decide +kernel
  refine ⟨e1, e2, e3, e4, ?_, e6, ?_, e8, e9, ?_, e11, e12, e13⟩
  · unfold insD; rw [e3]; rfl
  · rw [if_pos ⟨h2, h1⟩]; rfl
  · unfold insD; rw [e8]; rfl
set_option maxHeartbeats 8000000 in
theorem awake_any (w : World) : Calls Try.prog 9 #[] w fun e w' => e = .returned (.bool true) ∧ Below w.heap.size w w' := by
  obtain ⟨f1, f2, f3, f4, f5, f6, f7, f8, f9, f10, f11, f12, f13⟩ := aw_facts
  have HO : Hid (∀ n w1, fits n = true → Calls Try.prog 27 #[.int .i64 n] w1 fun e w' => ∃ v', e = .returned v' ∧ OwnRow w' w1.heap.size TVa v' [num1 n] ∧ RowOk [num1 n] ∧ Below w1.heap.size w1 w') := fun n w1 hn => one_any n w1 hn
  have HT : Hid (TabsIn ((w.alloc (.cells #[.bool false] 4)).alloc (.cells #[.slice (some ⟨w.heap.size, 0, none⟩) 1 1] 60)) (.slice (some ⟨w.heap.size + 1, 0, none⟩) 1 1) [(.slice (some ⟨w.heap.size, 0, none⟩) 1 1, [false])] ∧ Below w.heap.size w ((w.alloc (.cells #[.bool false] 4)).alloc (.cells #[.slice (some ⟨w.heap.size, 0, none⟩) 1 1] 60))) := by
    refine ⟨⟨⟨some ⟨w.heap.size + 1, 0, none⟩, 1, rfl, Nat.le_refl _, (by decide), (fun h => by cases h), .inr ⟨w.heap.size + 1, 0, rfl, fun j u hj => ?_⟩⟩, fun x hx => ?_⟩, back2 (Below.refl _ _)⟩
    · match j, hj with
      | 0, hj => simp at hj; subst hj; simp [go_sem]
    · rw [List.mem_singleton] at hx
      subst hx
      refine ⟨some ⟨w.heap.size, 0, none⟩, 1, rfl, Nat.le_refl _, (by decide), (fun h => by cases h), .inr ⟨w.heap.size, 0, rfl, fun j u hj => ?_⟩⟩
      match j, hj with
      | 0, hj => simp at hj; subst hj; simp [go_sem]
  go_enter Try.func9, Try.ntmps9
  go_wp2_with fail
  refine Calls.mono (sq_new HT.out.1 1) ?_
  rintro e w1 ⟨h, hb⟩
  have hm : mayS [((.slice (some ⟨w.heap.size, 0, none⟩) 1 1 : Value), [false])] 1 = true := rfl
  rcases h with ⟨h, -⟩ | ⟨-, rfl, q⟩
  · rw [hm] at h; cases h
  have hB1 : Below w.heap.size w w1 := on HT.out.2 hb
  have hbz : (((w.alloc (.cells #[.bool false] 4)).alloc (.cells #[.slice (some ⟨w.heap.size, 0, none⟩) 1 1] 60))).heap.size = w.heap.size + 2 := by simp
  rw [hbz] at q
  have HW1 : Hid (Below w.heap.size w w1 ∧ SQ (w.heap.size + 2) 1 0 aw0 (fun k => k < w.heap.size) w1) := ⟨hB1, q.less fun k hk => by omega⟩
  have HI : Hid (∀ (last : Int) (d : Dat) (n : Int) W0 W v, SQ (w.heap.size + 2) 1 last d (fun k => k < w.heap.size) W0 → Below w.heap.size w W0 → Below W0.heap.size W0 W → OwnRow W W0.heap.size TVa v [num1 n] → RowOk [num1 n] → 0 ≤ last ∧ last ≤ 1000000 → Calls Try.prog 23 #[sptr (w.heap.size + 2), .int .i64 0, v] W fun e w' => e = .returned (.tuple #[.int .i64 (insE d 1 last 0 [num1 n]).1, .int .i64 (insE d 1 last 0 [num1 n]).2]) ∧ SQ (w.heap.size + 2) 1 (insL d 1 last 0 [num1 n]) (insD d 1 last 0 [num1 n]) (fun k => k < w.heap.size) w' ∧ Below w.heap.size w w') := fun last d n W0 W v q hb0 hb ho hk hl => by
    refine (insert_new q hb ho hk 0 hl).mono fun e w' ⟨he, hq, hke⟩ => ⟨he, hq, ?_⟩
    have h1 := on hb0 hb
    exact h1.trans (hke.low (fun k hk => .inl hk) h1.size)
  have F : Hid _ := aw_facts
  clear hb q hB1 hbz hm HT f1 f2 f3 f4 f5 f6 f7 f8 f9 f10 f11 f12 f13
  go_wp2_with fail
  refine Calls.mono (HO.out _ _ (by decide)) ?_
  rintro e w2 ⟨v2, rfl, ho, hk, hb⟩
  have HX : Hid _ := HI.out 0 aw0 1 w1 w2 v2 HW1.out.2 HW1.out.1 hb ho hk (by omega)
  clear ho hk hb
  go_wp2_with fail
  refine Calls.mono HX.out ?_
  rw [F.out.1, F.out.2.1]
  rintro e w3 ⟨rfl, q, hb⟩
  have HW3 : Hid (Below w.heap.size w w3 ∧ SQ (w.heap.size + 2) 1 1 aw1 (fun k => k < w.heap.size) w3) := ⟨hb, q⟩
  clear q hb HX HW1
  go_wp2_with fail
  refine Calls.mono (HO.out _ _ (by decide)) ?_
  rintro e w4 ⟨v4, rfl, ho, hk, hb⟩
  have HX : Hid _ := HI.out 1 aw1 2 w3 w4 v4 HW3.out.2 HW3.out.1 hb ho hk (by omega)
  clear ho hk hb
  go_wp2_with fail
  refine Calls.mono HX.out ?_
  rw [F.out.2.2.1, F.out.2.2.2.1, F.out.2.2.2.2.1]
  rintro e w5 ⟨rfl, q, hb⟩
  have HW5 : Hid (Below w.heap.size w w5 ∧ SQ (w.heap.size + 2) 1 1 aw1 (fun k => k < w.heap.size) w5) := ⟨hb, q⟩
  clear q hb HX HW3
  have HRM : Hid _ := sq_remove HW5.out.2 0 (num1 1) (Nat.zero_le _)
  go_wp2_with fail
  refine Calls.mono HRM.out ?_
  rw [F.out.2.2.2.2.2.1, F.out.2.2.2.2.2.2.1]
  rintro e w6 ⟨rfl, q, hke⟩
  have HW6 : Hid (Below w.heap.size w w6 ∧ SQ (w.heap.size + 2) 1 1 aw3 (fun k => k < w.heap.size) w6) := ⟨HW5.out.1.trans (hke.low (fun k hk => hk) HW5.out.1.size), q⟩
  clear q hke HRM HW5
  go_wp2_with fail
  refine Calls.mono (HO.out _ _ (by decide)) ?_
  rintro e w7 ⟨v7, rfl, ho, hk, hb⟩
  have HX : Hid _ := HI.out 1 aw3 2 w6 w7 v7 HW6.out.2 HW6.out.1 hb ho hk (by omega)
  clear ho hk hb
  go_wp2_with fail
  refine Calls.mono HX.out ?_
  rw [F.out.2.2.2.2.2.2.2.1, F.out.2.2.2.2.2.2.2.2.1, F.out.2.2.2.2.2.2.2.2.2.1]
  rintro e w8 ⟨rfl, q, hb⟩
  have HW8 : Hid (Below w.heap.size w w8 ∧ SQ (w.heap.size + 2) 1 1 aw3 (fun k => k < w.heap.size) w8) := ⟨hb, q⟩
  clear q hb HX HW6
  go_wp2_with fail
  refine Calls.mono (HO.out _ _ (by decide)) ?_
  rintro e w9 ⟨v9, rfl, ho, hk, hb⟩
  have HX : Hid _ := HI.out 1 aw3 1 w8 w9 v9 HW8.out.2 HW8.out.1 hb ho hk (by omega)
  clear ho hk hb
  go_wp2_with fail
  refine Calls.mono HX.out ?_
  rw [F.out.2.2.2.2.2.2.2.2.2.2.1]
  rintro e w10 ⟨rfl, q, hb⟩
  have HW10 : Hid (Below w.heap.size w w10 ∧ SQ (w.heap.size + 2) 1 (insL aw3 1 1 0 [num1 1]) aw5 (fun k => k < w.heap.size) w10) := ⟨hb, q⟩
  clear q hb HX HW8 HI HO
  have HU : Hid _ := sq_used HW10.out.2
  go_wp2_with fail
  refine Calls.mono HU.out ?_
  rw [F.out.2.2.2.2.2.2.2.2.2.2.2.1]
  rintro e w11 ⟨rfl, hb⟩
  have HW11 : Hid (Below w.heap.size w w11) := on HW10.out.1 hb
  have HRS : Hid _ := sq_rows (HW10.out.2.below hb) 0 spZ
  clear hb HU HW10
  go_wp2_with fail
  refine Calls.mono HRS.out ?_
  rintro e w12 ⟨v, m, rfl, hm, hs, hb⟩
  have hl : m.length = 1 := by have := congrArg List.length hs; rw [List.length_map, F.out.2.2.2.2.2.2.2.2.2.2.2.2] at this; exact this
  obtain ⟨av, cv, rfl, _⟩ := hm.isIn.slice
  rw [hl]
  have HZ : Hid (Below w.heap.size w w12) := on HW11.out hb
  clear hm hs hb hl HRS
  go_wp2_with fail
  go_ret
  exact ⟨rfl, HZ.out⟩
end Go.Proofs.Ytafkpfhhmmnpeaa.Val
