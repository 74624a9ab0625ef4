/- A store's calls, told by what it holds: Get. -/
import Derived.Test.YtafkpfhhmmnpeaaU24
import Derived.Test.YtafkpfhhmmnpeaaU25
import Derived.Test.YtafkpfhhmmnpeaaU23
import Derived.Test.YtafkpfhhmmnpeaaU26
import Derived.Test.YtafkpfhhmmnpeaaU27
namespace Go.Proofs.Ytafkpfhhmmnpeaa.Val
open Go Go.RowKit
set_option maxRecDepth 100000

/-- What may stand at a key of a table: no row (the place is kept), or a row that fits, with that key. -/
def GoodX (cols : List Bool) (x : Pr) : Prop := x.v = Pl.zero ∨ ∃ r m, fitsRow cols r = true ∧ r.head? = some x.k ∧ x.v = plOf r m
/-- A store as it can be. -/
structure Good (room : Int) (ts : List Tb) : Prop where
  few : ts.length ≤ 3
  room : (usedS ts : Int) ≤ room ∧ room ≤ 40
  may : ∀ i (hi : i < ts.length), mayT ts[i].cols = true
  rows : ∀ i (hi : i < ts.length), ∀ x ∈ ts[i].l, GoodX ts[i].cols x
theorem used_one (ts : List Tb) (i : Nat) (hi : i < ts.length) : ts[i].l.length ≤ usedS ts := by
  have h1 := used_take hi
  have h2 := used_le ts (i + 1)
  omega
theorem Good.len {room : Int} {ts : List Tb} (g : Good room ts) (i : Nat) (hi : i < ts.length) : ts[i].l.length ≤ 40 := by
  have := used_one ts i hi
  have := g.room
  omega
theorem fitsR_len {cols : List Bool} {r : List Val} (h : fitsRow cols r = true) : 1 ≤ r.length ∧ r.length ≤ 4 := by
  have hm : mayT cols = true := by
    cases hm : mayT cols
    · rw [fitsRow_may hm] at h; cases h
    · rfl
  have hl : r.length = cols.length := by
    by_cases hl : r.length = cols.length
    · exact hl
    · rw [fitsRow_len hl] at h; cases h
  have := mayT_iff.1 hm
  omega
theorem good_width {cols : List Bool} {x : Pr} (g : GoodX cols x) : hasR x.v = true → 0 ≤ x.v.w ∧ x.v.w ≤ 4 := fun hr => by
  rcases g with e | ⟨r, m, hf, _, e⟩
  · rw [e, has_zero] at hr; cases hr
  · have := fitsR_len hf
    rw [e]
    show (0 : Int) ≤ (r.length : Int) ∧ (r.length : Int) ≤ 4
    omega
/-- The place of a key of a table; none: no place. -/
def placeAt (ts : List Tb) (n : Int) (k : Val) : Pl := if 0 ≤ n then (match ts[n.toNat]? with | some t => (getP k t.l).1 | none => Pl.zero) else Pl.zero
theorem get_zero {k : Val} {l : List Pr} : (getP k l).1 = Pl.zero ∨ ∃ x ∈ l, x.v = (getP k l).1 := by
  unfold getP
  cases h : l.find? fun x => eqV x.k k with
  | none => exact .inl rfl
  | some x => exact .inr ⟨x, List.mem_of_find?_eq_some h, rfl⟩
section
variable {w w' : World} {p : Nat} {tv : Value} {room last : Int} {ts : List Tb}
theorem sm_get (s : SM w p tv room last ts) (g : Good room ts) (n : Int) (k : Val) (hs : k.s.size ≤ maxLen) :
    Calls Try.prog 13 #[sptr p, .int .i64 n, V k.t k.n k.s] w fun e w' => ∃ v', e = .returned (.tuple #[v', .int .i64 (if hasR (placeAt ts n k) then (placeAt ts n k).m else 0), .bool (hasR (placeAt ts n k))]) ∧ (if hasR (placeAt ts n k) then OwnRow w' w.heap.size 32 v' (rowP (placeAt ts n k)) else v' = .slice none 0 0) ∧ Below w.heap.size w w' := by
  by_cases hn : 0 ≤ n ∧ n < ts.length
  · obtain ⟨i, rfl⟩ : ∃ i : Nat, n = (i : Int) := ⟨n.toNat, by omega⟩
    have hi : i < ts.length := by omega
    have e : placeAt ts (i : Int) k = (getP k ts[i].l).1 := by simp [placeAt, hi]
    rw [e]
    refine get_gen (fun hr => ?_) (fun w1 hb => at_in (s.below hb) i hi) (fun w1 hb => tr_get (((s.below hb).trees i hi)) (by have := g.len i hi; omega) k hs)
    rcases get_zero (k := k) (l := ts[i].l) with e1 | ⟨x, hx, e1⟩
    · rw [e1, has_zero] at hr; cases hr
    · rw [← e1] at hr ⊢
      exact good_width (g.rows i hi x hx) hr
  · have e : placeAt ts n k = Pl.zero := by
      unfold placeAt
      split
      · rw [List.getElem?_eq_none (by omega)]
      · rfl
    rw [e]
    exact get_gen (fun hr => by rw [has_zero] at hr; cases hr) (fun w1 hb => at_out (s.below hb) n hn) (fun w1 _ => get_nil k)
theorem nil_get (n : Int) (k : Val) :
    Calls Try.prog 13 #[.pointer none, .int .i64 n, V k.t k.n k.s] w fun e w' => e = .returned (.tuple #[.slice none 0 0, .int .i64 0, .bool false]) ∧ Below w.heap.size w w' := by
  refine (get_gen (pl := Pl.zero) (fun hr => by rw [has_zero] at hr; cases hr) (fun w1 _ => at_nil n) (fun w1 _ => get_nil k)).mono ?_
  rintro e w' ⟨v', he, hv, hb⟩
  rw [has_zero] at he hv
  have hv' : v' = .slice none 0 0 := hv
  subst hv'
  exact ⟨he, hb⟩
end
end Go.Proofs.Ytafkpfhhmmnpeaa.Val
/- A store's calls, told by what it holds: Remove, Free, Replace, Restore, Insert. -/
namespace Go.Proofs.Ytafkpfhhmmnpeaa.Val
open Go Go.RowKit
set_option maxRecDepth 100000

/-- What a store holds: of each table its columns, and the places. -/
abbrev Dat := List (List Bool × List Pr)
def datS (ts : List Tb) : Dat := ts.map fun t => (t.cols, t.l)
abbrev inD (d : Dat) (n : Int) : Prop := 0 ≤ n ∧ n < d.length
def rowsD (d : Dat) (n : Int) : List Pr := (d.getD n.toNat ([], [])).2
def colsD (d : Dat) (n : Int) : List Bool := (d.getD n.toNat ([], [])).1
/-- The place of a key; none: no place. -/
def plD (d : Dat) (n : Int) (k : Val) : Pl := if inD d n then (getP k (rowsD d n)).1 else Pl.zero
def hasD (d : Dat) (n : Int) (k : Val) : Bool := if inD d n then (getP k (rowsD d n)).2 else false
def setD (d : Dat) (n : Int) (l : List Pr) : Dat := d.modify n.toNat fun t => (t.1, l)
def usedD (d : Dat) : Nat := (d.map fun t => t.2.length).sum
theorem dat_len (ts : List Tb) : (datS ts).length = ts.length := by simp [datS]
theorem dat_in {ts : List Tb} {n : Int} : inD (datS ts) n ↔ 0 ≤ n ∧ n < ts.length := by rw [inD, dat_len]
theorem dat_rows {ts : List Tb} {i : Nat} (hi : i < ts.length) : rowsD (datS ts) (i : Int) = ts[i].l := by simp [rowsD, datS, hi]
theorem dat_cols {ts : List Tb} {i : Nat} (hi : i < ts.length) : colsD (datS ts) (i : Int) = ts[i].cols := by simp [colsD, datS, hi]
theorem dat_pl {ts : List Tb} {i : Nat} (hi : i < ts.length) (k : Val) : plD (datS ts) (i : Int) k = (getP k ts[i].l).1 := by
  rw [plD, if_pos (dat_in.2 ⟨by omega, by omega⟩), dat_rows hi]
theorem dat_has {ts : List Tb} {i : Nat} (hi : i < ts.length) (k : Val) : hasD (datS ts) (i : Int) k = (getP k ts[i].l).2 := by
  rw [hasD, if_pos (dat_in.2 ⟨by omega, by omega⟩), dat_rows hi]
theorem dat_set (ts : List Tb) (i : Nat) (h' : Hd) (l' : List Pr) : datS (setT ts i h' l') = setD (datS ts) (i : Int) l' := by
  unfold datS setT setD
  rw [Int.toNat_natCast]
  induction ts generalizing i with
  | nil => simp
  | cons t ts ih =>
    cases i with
    | zero => simp
    | succ i => simp only [List.modify_succ_cons, List.map_cons, ih]
theorem dat_used (ts : List Tb) : usedD (datS ts) = usedS ts := by
  unfold usedD usedS datS
  rw [List.map_map]; rfl
theorem get_right {k : Val} {l : List Pr} (hr : Rights l) (h : hasR (getP k l).1 = true ∨ (getP k l).2 = true) : rightX k = true := by
  have hh : hasP k l = true := by
    cases hh : hasP k l
    · have e := get_no.2 hh
      rw [e, has_zero] at h
      rcases h with h | h <;> cases h
    · rfl
  obtain ⟨v, hv⟩ := has_iff.1 hh
  exact hr _ hv
section
variable {w w' : World} {p : Nat} {tv : Value} {room last : Int} {ts : List Tb}
/-- A store behind a step: what it holds is told. -/
def Turned (w w' : World) (p : Nat) (tv : Value) (room last' : Int) (ts : List Tb) (d : Dat) : Prop := ∃ ts', SM w' p tv room last' ts' ∧ Ms w p ts w' ts' ∧ datS ts' = d ∧ ts'.map Tb.fv = ts.map Tb.fv
theorem setT_fv (ts : List Tb) (i : Nat) (h' : Hd) (l' : List Pr) : (setT ts i h' l').map Tb.fv = ts.map Tb.fv :=
  List.ext_getElem (by simp [setT_len]) fun j h1 h2 => by
    simp only [List.getElem_map]
    rw [setT_at]
    split <;> rfl
theorem turned_not (s : SM w p tv room last ts) (hb : Below w.heap.size w w') : Turned w w' p tv room last ts (datS ts) := ⟨ts, s.below hb, Ms.of hb, rfl, rfl⟩
theorem sm_turn (s : SM w p tv room last ts) (i : Nat) (hi : i < ts.length) {w1 w2 : World} {l' : List Pr} (h1 : Below w.heap.size w w1) (hr : ∃ h', Tr w2 h' l' ∧ Mv w1 ts[i].h w2 h') (h2 : Below w2.heap.size w2 w') : Turned w w' p tv room last ts (setD (datS ts) (i : Int) l') := by
  obtain ⟨h', ht, hv⟩ := hr
  exact ⟨setT ts i h' l', ((s.below h1).step i hi hv ht).below h2, (Ms.of h1).trans ((Ms.step i hi hv).trans (Ms.of h2)), dat_set _ _ _ _, setT_fv _ _ _ _⟩
theorem sm_remove (s : SM w p tv room last ts) (g : Good room ts) (n : Int) (k : Val) (hs : k.s.size ≤ maxLen) :
    Calls Try.prog 21 #[sptr p, .int .i64 n, V k.t k.n k.s] w fun e w' => e = .returned (.int .i64 (if inD (datS ts) n then (if hasR (plD (datS ts) n k) then 0 else 61) else 1)) ∧ Turned w w' p tv room last ts (if inD (datS ts) n ∧ hasR (plD (datS ts) n k) then setD (datS ts) n (insP k Pl.zero (rowsD (datS ts) n)) else datS ts) := by
  by_cases hn : inD (datS ts) n
  · rw [if_pos hn]
    obtain ⟨hn0, hn1⟩ := dat_in.1 hn
    obtain ⟨i, rfl⟩ : ∃ i : Nat, n = (i : Int) := ⟨n.toNat, by omega⟩
    have hi : i < ts.length := by omega
    obtain ⟨af, cf, hf, _⟩ := (s.forms i hi).slice
    have hat : ∀ w1, Below w.heap.size w w1 → _ := fun w1 hb => at_in (s.below hb) i hi
    rw [hf] at hat
    have hgt : ∀ w1, Below w.heap.size w w1 → _ := fun w1 hb => tr_get ((s.below hb).trees i hi) (by have := g.len i hi; omega) k hs
    rw [dat_pl hi, dat_rows hi]
    cases hr : hasR (getP k ts[i].l).1
    · rw [if_neg (by simp), if_neg (by simp)]
      refine (remo_none hr hat hgt).mono fun e w' ⟨he, hb⟩ => ⟨he, turned_not s hb⟩
    · rw [if_pos rfl, if_pos ⟨hn, rfl⟩]
      have hk := get_right (s.trees i hi).rises.2 (.inl hr)
      refine (remo_put (R := fun w1 w2 => ∃ h', Tr w2 h' (insP k Pl.zero ts[i].l) ∧ Mv w1 ts[i].h w2 h') hr hat hgt fun w1 hb => ?_).mono fun e w' ⟨he, w1, w2, h1, h2, h3⟩ => ⟨he, sm_turn s i hi h1 h2 h3⟩
      exact (tr_put ((s.below hb).trees i hi) (by have := g.len i hi; omega) k Pl.zero hs hk).mono fun e w' ⟨he, h⟩ => ⟨⟨_, he⟩, h⟩
  · rw [if_neg hn, if_neg (fun h => hn h.1)]
    refine (remo_arg fun w1 hb => at_out (s.below hb) n fun h => hn (dat_in.2 h)).mono fun e w' ⟨he, hb⟩ => ⟨he, turned_not s hb⟩
theorem sm_free (s : SM w p tv room last ts) (g : Good room ts) (n : Int) (k : Val) (hs : k.s.size ≤ maxLen) :
    Calls Try.prog 24 #[sptr p, .int .i64 n, V k.t k.n k.s] w fun e w' => e = .returned (.int .i64 (if inD (datS ts) n then (if hasR (plD (datS ts) n k) then 60 else if hasD (datS ts) n k then 0 else 61) else 1)) ∧ Turned w w' p tv room last ts (if inD (datS ts) n ∧ hasR (plD (datS ts) n k) = false ∧ hasD (datS ts) n k = true then setD (datS ts) n (delP k (rowsD (datS ts) n)) else datS ts) := by
  by_cases hn : inD (datS ts) n
  · rw [if_pos hn]
    obtain ⟨hn0, hn1⟩ := dat_in.1 hn
    obtain ⟨i, rfl⟩ : ∃ i : Nat, n = (i : Int) := ⟨n.toNat, by omega⟩
    have hi : i < ts.length := by omega
    obtain ⟨af, cf, hf, _⟩ := (s.forms i hi).slice
    have hat : ∀ w1, Below w.heap.size w w1 → _ := fun w1 hb => at_in (s.below hb) i hi
    rw [hf] at hat
    have hgt : ∀ w1, Below w.heap.size w w1 → _ := fun w1 hb => tr_get ((s.below hb).trees i hi) (by have := g.len i hi; omega) k hs
    rw [dat_pl hi, dat_rows hi, dat_has hi]
    cases hr : hasR (getP k ts[i].l).1
    · rw [if_neg (by simp)]
      cases hh : (getP k ts[i].l).2
      · rw [if_neg (by simp), if_neg (by simp)]
        rw [hh] at hgt
        refine (free_none hr hat hgt).mono fun e w' ⟨he, hb⟩ => ⟨he, turned_not s hb⟩
      · rw [if_pos rfl, if_pos ⟨hn, rfl, rfl⟩]
        rw [hh] at hgt
        refine (free_put (R := fun w1 w2 => ∃ h', Tr w2 h' (delP k ts[i].l) ∧ Mv w1 ts[i].h w2 h') hr hat hgt fun w1 hb => ?_).mono fun e w' ⟨he, w1, w2, h1, h2, h3⟩ => ⟨he, sm_turn s i hi h1 h2 h3⟩
        exact (tr_del ((s.below hb).trees i hi) (by have := g.len i hi; omega) k hs).mono fun e w' ⟨he, h⟩ => ⟨⟨_, he⟩, h⟩
    · rw [if_pos rfl, if_neg (by simp)]
      refine (free_there hr hat hgt).mono fun e w' ⟨he, hb⟩ => ⟨he, turned_not s hb⟩
  · rw [if_neg hn, if_neg (fun h => hn h.1)]
    refine (free_arg fun w1 hb => at_out (s.below hb) n fun h => hn (dat_in.2 h)).mono fun e w' ⟨he, hb⟩ => ⟨he, turned_not s hb⟩
end
end Go.Proofs.Ytafkpfhhmmnpeaa.Val
/- A store's calls with a row, told by what it holds: Replace, Restore, Insert. -/
namespace Go.Proofs.Ytafkpfhhmmnpeaa.Val
open Go Go.RowKit
set_option maxRecDepth 100000

/-- A row's key. -/
def keyR (xs : List Val) : Val := xs.getD 0 Val.zero
def fitsD (d : Dat) (n : Int) (xs : List Val) : Bool := if inD d n then fitsRow (colsD d n) xs else false
theorem key_right {cols : List Bool} {xs : List Val} (h : fitsRow cols xs = true) : rightX (keyR xs) = true := by
  have hl := fitsR_len h
  have hc : xs.length = cols.length := by
    by_cases hl : xs.length = cols.length
    · exact hl
    · rw [fitsRow_len hl] at h; cases h
  have h2 : fitsL cols xs = true := by
    unfold fitsRow at h
    simp only [Bool.and_eq_true] at h
    exact h.2
  have h3 := fitsL_iff.1 h2 0 (by omega) (by omega)
  have e : keyR xs = xs[0]'(by omega) := by simp [keyR, List.getD_eq_getElem?_getD, List.getElem?_eq_getElem (show 0 < xs.length by omega)]
  rw [e]
  unfold suitV at h3
  simp only [Bool.and_eq_true] at h3
  exact h3.1
section
variable {w w' : World} {p : Nat} {tv : Value} {room last : Int} {ts : List Tb} {vr : Value} {xs : List Val}
/-- A row that a call is told: it lies there, and is none of the store's. -/
structure RowTo (w : World) (p : Nat) (ts : List Tb) (vr : Value) (xs : List Val) : Prop where
  isIn : RowIn w vr xs
  ok : RowOk xs
  off : ∀ g, vr.ownBlock = some g → ¬ Fp p ts g
theorem RowTo.cells (r : RowTo w p ts vr xs) (h : 1 ≤ xs.length) : ∃ rb ro rc rn, vr = .slice (some ⟨rb, ro, none⟩) (rn + 1) rc ∧ xs.length = rn + 1 ∧ (w.cell? ⟨rb, ro, none⟩ = some (.bool (keyR xs).t) ∧ w.cell? ⟨rb, ro + 1, none⟩ = some (.int .i64 (keyR xs).n) ∧ w.cell? ⟨rb, ro + 2, none⟩ = some (.string (keyR xs).s)) := by
  obtain ⟨ao, c, rfl, _⟩ := r.isIn.slice
  obtain ⟨b, o, rfl, h0, h1, h2⟩ := r.isIn.at 0 (by omega)
  have e : keyR xs = xs[0]'(by omega) := by simp [keyR, List.getD_eq_getElem?_getD, List.getElem?_eq_getElem (show 0 < xs.length by omega)]
  rw [e]
  obtain ⟨m, hm⟩ : ∃ m, xs.length = m + 1 := ⟨xs.length - 1, by omega⟩
  refine ⟨b, o, c, m, by rw [hm], hm, ?_⟩
  simpa using ⟨h0, h1, h2⟩
theorem key_size (r : RowTo w p ts vr xs) (h : 1 ≤ xs.length) : (keyR xs).s.size ≤ maxLen := by
  have e : keyR xs = xs[0]'(by omega) := by simp [keyR, List.getD_eq_getElem?_getD, List.getElem?_eq_getElem (show 0 < xs.length by omega)]
  rw [e]
  exact (r.ok _ (List.getElem_mem _)).2
theorem no_fit (s : SM w p tv room last ts) (r : RowTo w p ts vr xs) (n : Int) (h : fitsD (datS ts) n xs = false) : ∃ fa fl fc tp, (∀ w1, Below w.heap.size w w1 → Calls Try.prog 37 #[sptr p, .int .i64 n] w1 fun e w' => e = atAns (.slice fa fl fc) tp ∧ Below w1.heap.size w1 w') ∧ ∀ w1, Below w.heap.size w w1 → Calls Try.prog 46 #[.agg #[.slice fa fl fc], vr] w1 fun e w' => e = .returned (.bool false) ∧ Below w1.heap.size w1 w' := by
  by_cases hn : inD (datS ts) n
  · obtain ⟨hn0, hn1⟩ := dat_in.1 hn
    obtain ⟨i, rfl⟩ : ∃ i : Nat, n = (i : Int) := ⟨n.toNat, by omega⟩
    have hi : i < ts.length := by omega
    obtain ⟨af, cf, hf, _⟩ := (s.forms i hi).slice
    rw [fitsD, if_pos hn, dat_cols hi] at h
    refine ⟨af, ts[i].cols.length, cf, some ⟨ts[i].h.p, 0, none⟩, fun w1 hb => ?_, fun w1 hb => ?_⟩
    · have := at_in (s.below hb) i hi
      rwa [hf] at this
    · have := fits_any _ _ _ _ w1 ((s.below hb).forms i hi) (r.isIn.below hb) r.ok
      rwa [hf, h] at this
  · refine ⟨none, 0, 0, none, fun w1 hb => at_out (s.below hb) n fun h => hn (dat_in.2 h), fun w1 hb => ?_⟩
    have hz : BoolsIn w1 (.slice none 0 0) [] := ⟨none, 0, rfl, Nat.le_refl _, Nat.zero_le _, fun _ => ⟨rfl, rfl⟩, .inl rfl⟩
    have := fits_any _ _ _ _ w1 hz (r.isIn.below hb) r.ok
    have e : fitsRow [] xs = false := fitsRow_may (mayT_few (by simp))
    rwa [e] at this
/-- The table of a row that fits, and what its calls answer. -/
theorem with_fit (s : SM w p tv room last ts) (r : RowTo w p ts vr xs) (n : Int) (h : fitsD (datS ts) n xs = true) : ∃ i, ∃ hi : i < ts.length, n = (i : Int) ∧ fitsRow ts[i].cols xs = true ∧ ∃ fa fl fc, (∀ w1, Below w.heap.size w w1 → Calls Try.prog 37 #[sptr p, .int .i64 n] w1 fun e w' => e = atAns (.slice fa fl fc) (some ⟨ts[i].h.p, 0, none⟩) ∧ Below w1.heap.size w1 w') ∧ ∀ w1, Below w.heap.size w w1 → Calls Try.prog 46 #[.agg #[.slice fa fl fc], vr] w1 fun e w' => e = .returned (.bool true) ∧ Below w1.heap.size w1 w' := by
  have hn : inD (datS ts) n := by
    by_cases hn : inD (datS ts) n
    · exact hn
    · rw [fitsD, if_neg hn] at h; cases h
  obtain ⟨hn0, hn1⟩ := dat_in.1 hn
  obtain ⟨i, rfl⟩ : ∃ i : Nat, n = (i : Int) := ⟨n.toNat, by omega⟩
  have hi : i < ts.length := by omega
  obtain ⟨af, cf, hf, _⟩ := (s.forms i hi).slice
  rw [fitsD, if_pos hn, dat_cols hi] at h
  refine ⟨i, hi, rfl, h, af, ts[i].cols.length, cf, fun w1 hb => ?_, fun w1 hb => ?_⟩
  · have := at_in (s.below hb) i hi
    rwa [hf] at this
  · have := fits_any _ _ _ _ w1 ((s.below hb).forms i hi) (r.isIn.below hb) r.ok
    rwa [hf, h] at this
theorem sm_replace (s : SM w p tv room last ts) (g : Good room ts) (r : RowTo w p ts vr xs) (n : Int) :
    Calls Try.prog 26 #[sptr p, .int .i64 n, vr] w fun e w' => e = .returned (.int .i64 (if fitsD (datS ts) n xs then (if hasR (plD (datS ts) n (keyR xs)) then 0 else 61) else 1)) ∧ Turned w w' p tv room last ts (if fitsD (datS ts) n xs ∧ hasR (plD (datS ts) n (keyR xs)) then setD (datS ts) n (insP (keyR xs) (plOf xs (plD (datS ts) n (keyR xs)).m) (rowsD (datS ts) n)) else datS ts) := by
  cases hfit : fitsD (datS ts) n xs
  · rw [if_neg (by simp), if_neg (by simp)]
    obtain ⟨fa, fl, fc, tp, hat, hft⟩ := no_fit s r n hfit
    obtain ⟨ao, c, rfl, _⟩ := r.isIn.slice
    exact (repl_no hat hft).mono fun e w' ⟨he, hb⟩ => ⟨he, turned_not s hb⟩
  · obtain ⟨i, hi, rfl, hf, fa, fl, fc, hat, hft⟩ := with_fit s r n hfit
    have hl := fitsR_len hf
    have hks := key_size r hl.1
    have hkr := key_right hf
    obtain ⟨rb, ro, rc, rn, rfl, hrn, hk0⟩ := r.cells hl.1
    have hgt : ∀ w1, Below w.heap.size w w1 → _ := fun w1 hb => tr_get ((s.below hb).trees i hi) (by have := g.len i hi; omega) (keyR xs) hks
    have hoff : ¬ ts[i].h.has rb := fun h => r.off rb rfl (.inr ⟨i, hi, h⟩)
    rw [if_pos rfl, dat_pl hi, dat_rows hi]
    cases hr : hasR (getP (keyR xs) ts[i].l).1
    · rw [if_neg (by simp), if_neg (by simp)]
      exact (repl_gone hr hat hft hgt hk0).mono fun e w' ⟨he, hb⟩ => ⟨he, turned_not s hb⟩
    · rw [if_pos rfl, if_pos ⟨rfl, rfl⟩]
      refine (repl_put (nl := plOf xs (getP (keyR xs) ts[i].l).1.m) (X := ts[i].h.has) (R := fun w1 w2 => ∃ h', Tr w2 h' (insP (keyR xs) (plOf xs (getP (keyR xs) ts[i].l).1.m) ts[i].l) ∧ Mv w1 ts[i].h w2 h') hr hat hft hgt hk0 (fun w1 hb => ?_) (fun w1 hb => ?_) (s.trees i hi).lt hoff).mono fun e w' ⟨he, w1, w2, h1, h2, h3⟩ => ⟨he, sm_turn s i hi h1 h2 h3⟩
      · exact taken_any _ xs _ w1 (r.isIn.below hb) hl.2
      · exact (tr_put ((s.below hb).trees i hi) (by have := g.len i hi; omega) (keyR xs) _ hks hkr).mono fun e w' ⟨he, h', ht, hv⟩ => ⟨⟨_, he⟩, hv.sv, h', ht, hv⟩
theorem sm_restore (s : SM w p tv room last ts) (g : Good room ts) (r : RowTo w p ts vr xs) (n m : Int) :
    Calls Try.prog 22 #[sptr p, .int .i64 n, vr, .int .i64 m] w fun e w' => e = .returned (.int .i64 (if fitsD (datS ts) n xs then (if hasD (datS ts) n (keyR xs) && !hasR (plD (datS ts) n (keyR xs)) then 0 else 61) else 1)) ∧ Turned w w' p tv room last ts (if fitsD (datS ts) n xs ∧ (hasD (datS ts) n (keyR xs) && !hasR (plD (datS ts) n (keyR xs))) = true then setD (datS ts) n (insP (keyR xs) (plOf xs m) (rowsD (datS ts) n)) else datS ts) := by
  cases hfit : fitsD (datS ts) n xs
  · rw [if_neg (by simp), if_neg (by simp)]
    obtain ⟨fa, fl, fc, tp, hat, hft⟩ := no_fit s r n hfit
    obtain ⟨ao, c, rfl, _⟩ := r.isIn.slice
    exact (rest_no hat hft).mono fun e w' ⟨he, hb⟩ => ⟨he, turned_not s hb⟩
  · obtain ⟨i, hi, rfl, hf, fa, fl, fc, hat, hft⟩ := with_fit s r n hfit
    have hl := fitsR_len hf
    have hks := key_size r hl.1
    have hkr := key_right hf
    obtain ⟨rb, ro, rc, rn, rfl, hrn, hk0⟩ := r.cells hl.1
    have hgt : ∀ w1, Below w.heap.size w w1 → _ := fun w1 hb => tr_get ((s.below hb).trees i hi) (by have := g.len i hi; omega) (keyR xs) hks
    have hoff : ¬ ts[i].h.has rb := fun h => r.off rb rfl (.inr ⟨i, hi, h⟩)
    rw [if_pos rfl, dat_pl hi, dat_rows hi, dat_has hi]
    cases hh : (getP (keyR xs) ts[i].l).2
    · rw [hh] at hgt
      rw [if_neg (by simp), if_neg (by simp)]
      exact (rest_none hat hft hgt hk0).mono fun e w' ⟨he, hb⟩ => ⟨he, turned_not s hb⟩
    · rw [hh] at hgt
      cases hr : hasR (getP (keyR xs) ts[i].l).1
      · rw [if_pos (show (true && !false) = true from rfl), if_pos ⟨rfl, show (true && !false) = true from rfl⟩]
        refine (rest_put (nl := plOf xs m) (X := ts[i].h.has) (R := fun w1 w2 => ∃ h', Tr w2 h' (insP (keyR xs) (plOf xs m) ts[i].l) ∧ Mv w1 ts[i].h w2 h') hr hat hft hgt hk0 (fun w1 hb => ?_) (fun w1 hb => ?_) (s.trees i hi).lt hoff).mono fun e w' ⟨he, w1, w2, h1, h2, h3⟩ => ⟨he, sm_turn s i hi h1 h2 h3⟩
        · exact taken_any _ xs _ w1 (r.isIn.below hb) hl.2
        · exact (tr_put ((s.below hb).trees i hi) (by have := g.len i hi; omega) (keyR xs) _ hks hkr).mono fun e w' ⟨he, h', ht, hv⟩ => ⟨⟨_, he⟩, hv.sv, h', ht, hv⟩
      · rw [if_neg (by simp), if_neg (by simp)]
        exact (rest_there hr hat hft hgt hk0).mono fun e w' ⟨he, hb⟩ => ⟨he, turned_not s hb⟩
/-- What Insert answers, and how many were put in behind it. -/
def insE (d : Dat) (room last n : Int) (xs : List Val) : Int × Int := if fitsD d n xs then (if hasR (plD d n (keyR xs)) then (0, 60) else if !hasD d n (keyR xs) && decide (room ≤ usedD d) then (0, 62) else (last + 1, 0)) else (0, 1)
def insD (d : Dat) (room last n : Int) (xs : List Val) : Dat := if (insE d room last n xs).2 = 0 then setD d n (insP (keyR xs) (plOf xs (last + 1)) (rowsD d n)) else d
def insL (d : Dat) (room last n : Int) (xs : List Val) : Int := if (insE d room last n xs).2 = 0 then last + 1 else last
theorem sm_put (s : SM w p tv room last ts) (i : Nat) (hi : i < ts.length) {w1 w2 w3 : World} {l' : List Pr} (h1 : Below w.heap.size w w1) (h2 : Below (w1.setCell ⟨p, 2, none⟩ (.int .i64 (last + 1))).heap.size (w1.setCell ⟨p, 2, none⟩ (.int .i64 (last + 1))) w2) (hr : ∃ h', Tr w3 h' l' ∧ Mv w2 ts[i].h w3 h') (h3 : Below w3.heap.size w3 w') : Turned w w' p tv room (last + 1) ts (setD (datS ts) (i : Int) l') := by
  obtain ⟨h', ht, hv⟩ := hr
  exact ⟨setT ts i h' l', ((((s.below h1).told (last + 1)).below h2).step i hi hv ht).below h3, (Ms.of h1).trans ((Ms.told _).trans ((Ms.of h2).trans ((Ms.step i hi hv).trans (Ms.of h3)))), dat_set _ _ _ _, setT_fv _ _ _ _⟩
theorem sm_insert (s : SM w p tv room last ts) (g : Good room ts) (r : RowTo w p ts vr xs) (n : Int) (hl0 : 0 ≤ last ∧ last ≤ 1000000) :
    Calls Try.prog 23 #[sptr p, .int .i64 n, vr] w fun e w' => e = .returned (.tuple #[.int .i64 (insE (datS ts) room last n xs).1, .int .i64 (insE (datS ts) room last n xs).2]) ∧ Turned w w' p tv room (insL (datS ts) room last n xs) ts (insD (datS ts) room last n xs) := by
  unfold insD insL
  cases hfit : fitsD (datS ts) n xs
  · have e : insE (datS ts) room last n xs = (0, 1) := by rw [insE, hfit]; rfl
    rw [e, if_neg (by decide), if_neg (by decide)]
    obtain ⟨fa, fl, fc, tp, hat, hft⟩ := no_fit s r n hfit
    obtain ⟨ao, c, rfl, _⟩ := r.isIn.slice
    exact (ins_no hat hft).mono fun e w' ⟨he, hb⟩ => ⟨he, turned_not s hb⟩
  · obtain ⟨i, hi, rfl, hf, fa, fl, fc, hat, hft⟩ := with_fit s r n hfit
    have hl := fitsR_len hf
    have hks := key_size r hl.1
    have hkr := key_right hf
    obtain ⟨rb, ro, rc, rn, rfl, hrn, hk0⟩ := r.cells hl.1
    have hgt : ∀ w1, Below w.heap.size w w1 → _ := fun w1 hb => tr_get ((s.below hb).trees i hi) (by have := g.len i hi; omega) (keyR xs) hks
    have hoff : ¬ ts[i].h.has rb := fun h => r.off rb rfl (.inr ⟨i, hi, h⟩)
    have hrp : rb ≠ p := fun h => r.off rb rfl (.inl h)
    have hu : ∀ w1, Below w.heap.size w w1 → _ := fun w1 hb => used_any (s.below hb) (by have := g.room; omega) (by have := g.few; omega)
    have hlw : IntKind.i64.wrap (last + 1) = last + 1 := by rw [IntKind.wrap_i64]; omega
    have hin : ∀ w1 w2, Below w.heap.size w w1 → Below (w1.setCell ⟨p, 2, none⟩ (.int .i64 (last + 1))).heap.size (w1.setCell ⟨p, 2, none⟩ (.int .i64 (last + 1))) w2 → RowIn w2 (.slice (some ⟨rb, ro, none⟩) (rn + 1) rc) xs := fun w1 w2 h1 h2 => by
      have h3 := Lies.sv (r.isIn.below h1) (Sv.set (X := fun k => k = p) (Sv.refl _ w1) (a := ⟨p, 2, none⟩) rfl (.int .i64 (last + 1))) fun g hg e => by
        cases hg; exact hrp e
      exact Lies.below h3 h2
    have e0 : insE (datS ts) room last (i : Int) xs = if hasR (getP (keyR xs) ts[i].l).1 then (0, 60) else if !(getP (keyR xs) ts[i].l).2 && decide (room ≤ usedS ts) then (0, 62) else (last + 1, 0) := by
      rw [insE, hfit, if_pos rfl, dat_pl hi, dat_has hi, dat_used]
    rw [e0, dat_rows hi]
    cases hr : hasR (getP (keyR xs) ts[i].l).1
    · rw [if_neg (by simp)]
      have htk : ∀ w1 w2, Below w.heap.size w w1 → Below (w1.setCell ⟨p, 2, none⟩ (.int .i64 (last + 1))).heap.size (w1.setCell ⟨p, 2, none⟩ (.int .i64 (last + 1))) w2 → _ := fun w1 w2 h1 h2 => taken_any _ xs (last + 1) w2 (hin w1 w2 h1 h2) hl.2
      have hpu : ∀ w1 w2, Below w.heap.size w w1 → Below (w1.setCell ⟨p, 2, none⟩ (.int .i64 (last + 1))).heap.size (w1.setCell ⟨p, 2, none⟩ (.int .i64 (last + 1))) w2 → Calls Try.prog 45 #[.pointer (some ⟨ts[i].h.p, 0, none⟩), V (keyR xs).t (keyR xs).n (keyR xs).s, .agg (vcells (plOf xs (last + 1))).toArray] w2 fun e w' => (∃ b, e = .returned (.bool b)) ∧ Sv ts[i].h.has w2 w' ∧ (∃ h', Tr w' h' (insP (keyR xs) (plOf xs (last + 1)) ts[i].l) ∧ Mv w2 ts[i].h w' h') := fun w1 w2 h1 h2 =>
        (tr_put ((((s.below h1).told (last + 1)).below h2).trees i hi) (by have := g.len i hi; omega) (keyR xs) _ hks hkr).mono fun e w' ⟨he, h', ht, hv⟩ => ⟨⟨_, he⟩, hv.sv, h', ht, hv⟩
      cases hh : (getP (keyR xs) ts[i].l).2
      · rw [hh] at hgt
        by_cases hge : room ≤ (usedS ts : Int)
        · rw [if_pos (by simpa using hge), if_neg (by decide), if_neg (by decide)]
          exact (ins_full hr hge hat hft hgt hk0 hu s.c1).mono fun e w' ⟨he, hb⟩ => ⟨he, turned_not s hb⟩
        · rw [if_neg (by simpa using hge), if_pos rfl, if_pos rfl]
          exact (ins_new (R := fun w1 w2 => ∃ h', Tr w2 h' (insP (keyR xs) (plOf xs (last + 1)) ts[i].l) ∧ Mv w1 ts[i].h w2 h') hr (by simpa using hge) hat hft hgt hk0 hu s.c1 hlw htk hpu (s.trees i hi).lt hoff (s.offp i hi) s.c2 (s.fz 2) hrp).mono fun e w' ⟨he, w1, w2, w3, h1, h2, h3, h4⟩ => ⟨he, sm_put s i hi h1 h2 h3 h4⟩
      · rw [hh] at hgt
        rw [if_neg (by simp), if_pos rfl, if_pos rfl]
        exact (ins_again (R := fun w1 w2 => ∃ h', Tr w2 h' (insP (keyR xs) (plOf xs (last + 1)) ts[i].l) ∧ Mv w1 ts[i].h w2 h') hr hat hft hgt hk0 hlw htk hpu (s.trees i hi).lt hoff (s.offp i hi) s.c2 (s.fz 2) hrp).mono fun e w' ⟨he, w1, w2, w3, h1, h2, h3, h4⟩ => ⟨he, sm_put s i hi h1 h2 h3 h4⟩
    · rw [if_pos rfl, if_neg (by decide), if_neg (by decide)]
      exact (ins_there hr hat hft hgt hk0).mono fun e w' ⟨he, hb⟩ => ⟨he, turned_not s hb⟩
end
end Go.Proofs.Ytafkpfhhmmnpeaa.Val
/- What a store holds stays as it can be, whatever its calls do. Plain. -/
namespace Go.Proofs.Ytafkpfhhmmnpeaa.Val
open Go Go.RowKit
set_option maxRecDepth 100000

/-- What a store holds, as it can be. -/
structure GoodD (room : Int) (d : Dat) : Prop where
  few : d.length ≤ 3
  room : (usedD d : Int) ≤ room ∧ room ≤ 40
  may : ∀ t ∈ d, mayT t.1 = true
  rows : ∀ t ∈ d, (∀ x ∈ t.2, GoodX t.1 x) ∧ Rises t.2 ∧ Rights t.2
section
variable {room : Int} {d : Dat} {w : World} {p : Nat} {tv : Value} {last : Int} {ts : List Tb}
theorem good_of (g : GoodD room (datS ts)) : Good room ts := by
  have hm : ∀ i (hi : i < ts.length), (ts[i].cols, ts[i].l) ∈ datS ts := fun i hi => List.mem_map.2 ⟨ts[i], List.getElem_mem hi, rfl⟩
  refine ⟨by have := g.few; rwa [dat_len] at this, ?_, fun i hi => g.may _ (hm i hi), fun i hi x hx => (g.rows _ (hm i hi)).1 x hx⟩
  have := g.room
  rwa [dat_used] at this
theorem dat_mem {n : Int} (h : inD d n) : (colsD d n, rowsD d n) ∈ d := by
  have hl : n.toNat < d.length := by have := h.1; have := h.2; omega
  have e : d.getD n.toNat ([], []) = d[n.toNat] := by simp [List.getD_eq_getElem?_getD, List.getElem?_eq_getElem hl]
  unfold colsD rowsD
  rw [e]
  exact List.getElem_mem hl
theorem used_setD {n : Int} (h : inD d n) (l : List Pr) : usedD (setD d n l) + (rowsD d n).length = usedD d + l.length := by
  have hl : n.toNat < d.length := by have := h.1; have := h.2; omega
  unfold setD usedD rowsD
  generalize n.toNat = i at *
  clear h
  induction d generalizing i with
  | nil => simp at hl
  | cons t d ih =>
    cases i with
    | zero => simp; omega
    | succ i =>
      have := ih i (by simpa using hl)
      simp only [List.modify_succ_cons, List.map_cons, List.sum_cons, List.getD_cons_succ] at this ⊢
      omega
theorem mem_setD {n : Int} (h : inD d n) {l : List Pr} {t : List Bool × List Pr} (ht : t ∈ setD d n l) : t ∈ d ∨ t = (colsD d n, l) := by
  have hl : n.toNat < d.length := by have := h.1; have := h.2; omega
  unfold setD at ht
  unfold colsD
  generalize n.toNat = i at *
  clear h
  induction d generalizing i with
  | nil => simp at hl
  | cons u d ih =>
    cases i with
    | zero =>
      simp only [List.modify_zero_cons, List.mem_cons] at ht
      rcases ht with rfl | ht
      · exact .inr (by simp)
      · exact .inl (List.mem_cons_of_mem _ ht)
    | succ i =>
      simp only [List.modify_succ_cons, List.mem_cons] at ht
      rcases ht with rfl | ht
      · exact .inl (List.mem_cons_self)
      · rcases ih i ht (by simpa using hl) with h | h
        · exact .inl (List.mem_cons_of_mem _ h)
        · exact .inr (by simpa using h)
theorem goodD_set (g : GoodD room d) {n : Int} (h : inD d n) {l : List Pr} (hx : ∀ x ∈ l, GoodX (colsD d n) x) (hr : Rises l) (hrt : Rights l) (hu : (usedD d : Int) + l.length ≤ room + (rowsD d n).length) : GoodD room (setD d n l) := by
  refine ⟨by unfold setD; rw [List.length_modify]; exact g.few, ⟨?_, g.room.2⟩, fun t ht => ?_, fun t ht => ?_⟩
  · have := used_setD h l; omega
  · rcases mem_setD h ht with h1 | rfl
    · exact g.may t h1
    · have := g.may _ (dat_mem h)
      exact this
  · rcases mem_setD h ht with h1 | rfl
    · exact g.rows t h1
    · exact ⟨hx, hr, hrt⟩
theorem good_put (g : GoodD room d) {n : Int} (h : inD d n) {k : Val} {v : Pl} (hk : rightX k = true) (hv : GoodX (colsD d n) ⟨k, v⟩) (hh : hasP k (rowsD d n) = true ∨ (usedD d : Int) < room) : GoodD room (setD d n (insP k v (rowsD d n))) := by
  have g0 := g.rows _ (dat_mem h)
  have g1 : ∀ x ∈ rowsD d n, GoodX (colsD d n) x := g0.1
  have g2 : Rises (rowsD d n) := g0.2.1
  have g3 : Rights (rowsD d n) := g0.2.2
  refine goodD_set g h (fun x hx => ?_) (ins_rises g2) (ins_rights hk g3) ?_
  · rcases mem_ins hx with rfl | hx
    · exact hv
    · exact g1 x hx
  · rw [len_put hk g2 g3]
    have := g.room
    rcases hh with hh | hh
    · rw [if_pos hh]; omega
    · split <;> omega
theorem good_del (g : GoodD room d) {n : Int} (h : inD d n) (k : Val) : GoodD room (setD d n (delP k (rowsD d n))) := by
  have g0 := g.rows _ (dat_mem h)
  have g1 : ∀ x ∈ rowsD d n, GoodX (colsD d n) x := g0.1
  have g2 : Rises (rowsD d n) := g0.2.1
  have g3 : Rights (rowsD d n) := g0.2.2
  refine goodD_set g h (fun x hx => g1 x (List.mem_filter.1 hx).1) (del_rises g2) (fun x hx => g3 x (List.mem_filter.1 hx).1) ?_
  have := g.room
  have h2 : (delP k (rowsD d n)).length ≤ (rowsD d n).length := List.length_filter_le ..
  omega
end
end Go.Proofs.Ytafkpfhhmmnpeaa.Val
