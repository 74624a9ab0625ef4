/- What pred.every answers of a predicate, whatever function that counts it is handed. -/
import Derived.Test.YtfkhfplibhnceaaDoorPredEv
import Derived.Test.YtfkhfplibhnceaaDoorPredAll
import Derived.Laws.EntriesVeiled
namespace Go.Proofs.YtfkhfplibhnceaaDoor.Val
open Go.RowKit

theorem enters_walk' : Enters 67 := enters_of Tryd.func67 (by decide +kernel) rfl
/-- A count in a block of its own. -/
def Cnt (w : World) (c n : Nat) : Prop := w.cell? ⟨c, 0, none⟩ = some (.int .i64 (n : Int)) ∧ w.frozen? ⟨c, 0, none⟩ = false
theorem Cnt.lt {w : World} {c n : Nat} (h : Cnt w c n) : c < w.heap.size := World.block_lt_of_cell? w _ h.1
theorem Cnt.alloc {w : World} {c n : Nat} (h : Cnt w c n) (o : Obj) : Cnt (w.alloc o) c n := by
  have hb := (Below.refl w.heap.size w).alloc (Nat.le_refl _) o
  exact ⟨by rw [hb.cell h.lt]; exact h.1, by rw [hb.frozen h.lt]; exact h.2⟩
/-- What goes with a count: a world's facts that hold as long as nothing but the count is written. -/
structure Goods (w0 : World) (c : Nat) (G : World → Prop) : Prop where
  old : ∀ w, G w → Below w0.heap.size w0 w
  on : ∀ w w', G w → Sv (· = c) w w' → G w'
/-- The function that is handed in: it counts one, and tells whether the part passes. -/
def PassOk (w0 : World) (c : Nat) (G : World → Prop) (g : Nat → PT → Bool) (f : FuncId) (first cap : Array Value) : Prop :=
  ∀ (p : PT) (w : World) (n : Nat), In w0 p → G w → Cnt w c n → n < 1000000 → Calls Tryd.prog f (first.push p.val ++ cap) w fun e w' => e = .returned (.bool (g (n + 1) p)) ∧ Cnt w' c (n + 1) ∧ Sv (· = c) w w'
abbrev FE (eb : Nat) : Value := FV 65 #[] #[.pointer (some ⟨eb, 0, none⟩)]
abbrev ME (eb : Nat) : Value := FV 67 #[.agg #[FE eb]] #[]
def EvOk (c : Nat) (G : World → Prop) (g : Nat → PT → Bool) (f : FuncId) (first cap : Array Value) (eb : Nat) (p : PT) : Prop :=
  ∀ (w : World) (n : Nat), G w → w.cell? ⟨eb, 0, none⟩ = some (FV f first cap) → Cnt w c n → n + p.size ≤ 1000000 →
    Calls Tryd.prog 67 #[.agg #[FE eb], p.val] w fun e w' => e = .returned (.bool (ev g n p).1) ∧ Cnt w' c (ev g n p).2 ∧ Sv (· = c) w w'

theorem all_ev {w0 : World} {c : Nat} {G : World → Prop} {g : Nat → PT → Bool} {f : FuncId} {first cap : Array Value} {eb : Nat} (hG : Goods w0 c G) (hne : eb ≠ c) (p : PT) (hi : In w0 p)
    (ih : ∀ q ∈ p.l, EvOk c G g f first cap eb q) (w : World) (n : Nat) (hg : G w) (he : w.cell? ⟨eb, 0, none⟩ = some (FV f first cap)) (hn : Cnt w c n) (hs : n + sizeL p.l ≤ 1000000) :
    Calls Tryd.prog 66 #[p.lv, ME eb] w fun e w' => e = .returned (.bool (evL g n p.l).1) ∧ Cnt w' c (evL g n p.l).2 ∧ Sv (· = c) w w' := by
  refine Calls.mono (all_any _ _ _ p.lv p.l w (· = c) (fun i w1 => G w1 ∧ w1.cell? ⟨eb, 0, none⟩ = some (FV f first cap) ∧ Cnt w1 c (nAt g n p.l i)) (fun i => if h : i < p.l.length then (ev g (nAt g n p.l i) p.l[i]).1 else false)
    ⟨hg, he, by rw [nAt_zero]; exact hn⟩ enters_walk' (fun k hk => by rw [hk]; exact hn.lt) (fun i w1 o h => ⟨hG.on _ _ h.1 (Sv.alloc _ _ _), cell_alloc h.2.1 _, h.2.2.alloc _⟩) (fun i w1 h => hi.lies.below (hG.old _ h.1)) (fun i hi' w1 h => ?_)) ?_
  · obtain ⟨h1, h2, h3⟩ := h
    have hb := nAt_le g p.l n i hi'
    refine Calls.mono (ih p.l[i] (List.getElem_mem hi') w1 (nAt g n p.l i) h1 h2 h3 (by omega)) ?_
    rintro e w2 ⟨rfl, k1, k2⟩
    refine ⟨by simp [hi'], ⟨hG.on _ _ h1 k2, ?_, by rw [nAt_succ g n p.l i hi']; exact k1⟩, k2⟩
    rw [k2.cell (World.block_lt_of_cell? w1 _ h2) hne]; exact h2
  · rintro e w2 ⟨hs2, ⟨k, hk, hf, hj, rfl, _, _, hI⟩ | ⟨hj, rfl, _, _, hI⟩⟩
    · have := evL_stop g n p.l k hk (fun j hj' => by have := hj j hj'; simpa [show j < p.l.length by omega] using this) (by simpa [hk] using hf)
      rw [this]
      exact ⟨rfl, hI, hs2⟩
    · have := evL_all g n p.l (fun j hj' => by have := hj j hj'; simpa [hj'] using this)
      rw [this]
      exact ⟨rfl, hI, hs2⟩
set_option maxHeartbeats 1000000 in
theorem every1_any {w0 : World} {c : Nat} {G : World → Prop} {g : Nat → PT → Bool} {f : FuncId} {first cap : Array Value} {eb : Nat} (hG : Goods w0 c G) (hP : PassOk w0 c G g f first cap) (hE : Enters f) (hne : eb ≠ c) (p : PT) (hi : In w0 p)
    (ih : ∀ q ∈ p.l, EvOk c G g f first cap eb q) (w : World) (n : Nat) (hg : G w) (he : w.cell? ⟨eb, 0, none⟩ = some (FV f first cap)) (hn : Cnt w c n) (hs : n + p.size ≤ 1000000) :
    Calls Tryd.prog 65 #[p.val, ME eb, .pointer (some ⟨eb, 0, none⟩)] w fun e w' => e = .returned (.bool (ev g n p).1) ∧ Cnt w' c (ev g n p).2 ∧ Sv (· = c) w w' := by
  have hE' : ∀ args w, (callFunc f args).run Tryd.prog w = .ok (.enter f args) w := hE
  have hlt : eb < w.heap.size := World.block_lt_of_cell? w _ he
  have hclt := hn.lt
  obtain ⟨b, hb⟩ : ∃ b, g (n + 1) p = b := ⟨_, rfl⟩
  obtain ⟨r, hr⟩ : ∃ r, ev g n p = r := ⟨_, rfl⟩
  have hsz := size_l p
  have H1 : Hid (Calls Tryd.prog f (first.push p.val ++ cap) (w.alloc (pobj p 29)) fun e w' => e = .returned (.bool b) ∧ Cnt w' c (n + 1) ∧ Sv (· = c) (w.alloc (pobj p 29)) w') := by
    rw [← hb]; exact hP p _ n hi (hG.on _ _ hg (Sv.alloc _ _ _)) (hn.alloc _) (by omega)
  have H2 : Hid (b = true → ∀ w1, Cnt w1 c (n + 1) → Sv (· = c) w w1 → Calls Tryd.prog 66 #[p.lv, ME eb] w1 fun e w' => e = .returned (.bool r.1) ∧ Cnt w' c r.2 ∧ Sv (· = c) w1 w') := by
    intro hbt w1 h1 h2
    rw [← hr, ev_yes (by rw [hb]; exact hbt)]
    exact all_ev hG hne p hi ih w1 (n + 1) (hG.on _ _ hg h2) (by rw [h2.cell hlt hne]; exact he) h1 (by omega)
  have H3 : Hid (b = false → r = (false, n + 1)) := fun hbf => by rw [← hr]; exact ev_no (by rw [hb]; exact hbf)
  have HX : Hid (w.heap.size ≠ c) := by rw [Hid]; omega
  rw [hr]
  clear hE hG hP ih hg hn hs hi hr hb hclt hsz
  unfold PT.val at *
  go_enter Tryd.func65, Tryd.ntmps65
  go_wp2_with fail
  refine Calls.mono H1.out ?_
  rintro e w1 ⟨rfl, hc1, hs1⟩
  have hs2 : Sv (· = c) w w1 := (Sv.alloc _ _ _).trans hs1
  have hbox := (Box.new w p 29).sv hs1 HX.out
  have b8 := hbox.c8
  have HC : Hid (Cnt w1 c (n + 1) ∧ Sv (· = c) w w1) := ⟨hc1, hs2⟩
  clear hc1 hs1 hs2 hbox H1 hE'
  cases b
  · obtain rfl := H3.out rfl
    clear H2
    go_wp2_with fail
    go_ret
    exact ⟨rfl, HC.out⟩
  · have H4 : Hid _ := H2.out rfl w1 HC.out.1 HC.out.2
    go_wp2_with fail
    refine Calls.mono H4.out ?_
    rintro e w2 ⟨rfl, hc2, hs2⟩
    have HC2 : Hid (Cnt w2 c r.2 ∧ Sv (· = c) w w2) := ⟨hc2, HC.out.2.trans hs2⟩
    clear hc2 hs2 HC H2 H3 H4
    go_wp2_with fail
    go_ret
    exact ⟨rfl, HC2.out⟩
set_option maxHeartbeats 1000000 in
theorem ev_step {w0 : World} {c : Nat} {G : World → Prop} {g : Nat → PT → Bool} {f : FuncId} {first cap : Array Value} {eb : Nat} (hG : Goods w0 c G) (hP : PassOk w0 c G g f first cap) (hE : Enters f) (hne : eb ≠ c) (p : PT) (hi : In w0 p)
    (ih : ∀ q ∈ p.l, EvOk c G g f first cap eb q) : EvOk c G g f first cap eb p := by
  intro w n hg he hn hs
  obtain ⟨r, hr⟩ : ∃ r, ev g n p = r := ⟨_, rfl⟩
  have H : Hid (∀ o1 o2, Calls Tryd.prog 65 #[p.val, ME eb, .pointer (some ⟨eb, 0, none⟩)] ((w.alloc o1).alloc o2) fun e w' => e = .returned (.bool r.1) ∧ Cnt w' c r.2 ∧ Sv (· = c) w w') := by
    intro o1 o2
    have ha : Sv (· = c) w ((w.alloc o1).alloc o2) := (Sv.alloc _ _ _).trans (Sv.alloc _ _ _)
    rw [← hr]
    refine Calls.mono (every1_any hG hP hE hne p hi ih _ n (hG.on _ _ hg ha) (cell_alloc (cell_alloc he _) _) ((hn.alloc _).alloc _) hs) ?_
    rintro e w' ⟨h1, h2, h3⟩
    exact ⟨h1, h2, ha.trans h3⟩
  rw [hr]
  clear hG hP hE ih hg he hn hs hi hr
  unfold PT.val at *
  go_enter Tryd.func67, Tryd.ntmps67
  go_wp2_with fail
  refine Calls.mono (H.out _ _) ?_
  rintro e w1 ⟨rfl, hc1⟩
  have HC : Hid _ := hc1
  clear hc1 H
  go_wp2_with fail
  go_ret
  exact ⟨rfl, HC.out⟩
theorem ev_ok {w0 : World} {c : Nat} {G : World → Prop} {g : Nat → PT → Bool} {f : FuncId} {first cap : Array Value} {eb : Nat} (hG : Goods w0 c G) (hP : PassOk w0 c G g f first cap) (hE : Enters f) (hne : eb ≠ c) (p : PT) (hi : In w0 p) : EvOk c G g f first cap eb p := by
  induction p using PT.ind with
  | h p ih => exact ev_step hG hP hE hne p hi fun q hq => ih q hq (hi.part q hq)
set_option maxHeartbeats 1000000 in
/-- every, of a function that counts. -/
theorem every_any {w0 : World} {c : Nat} {G : World → Prop} {g : Nat → PT → Bool} {f : FuncId} {first cap : Array Value} (hG : Goods w0 c G) (hP : PassOk w0 c G g f first cap) (hE : Enters f) (p : PT) (hi : In w0 p) (w : World) (n : Nat) (hg : G w) (hn : Cnt w c n) (hs : n + p.size ≤ 1000000) :
    Calls Tryd.prog 59 #[p.val, FV f first cap] w fun e w' => e = .returned (.bool (ev g n p).1) ∧ Cnt w' c (ev g n p).2 ∧ Sv (· = c) w w' := by
  obtain ⟨r, hr⟩ : ∃ r, ev g n p = r := ⟨_, rfl⟩
  have hclt := hn.lt
  have H : Hid (∀ o1 o3, Calls Tryd.prog 67 #[.agg #[FE (w.heap.size + 1)], p.val] (((w.alloc o1).alloc (.cells #[FV f first cap] 43)).alloc o3) fun e w' => e = .returned (.bool r.1) ∧ Cnt w' c r.2 ∧ Sv (· = c) w w') := by
    intro o1 o3
    have ha : Sv (· = c) w (((w.alloc o1).alloc (.cells #[FV f first cap] 43)).alloc o3) := ((Sv.alloc _ _ _).trans (Sv.alloc _ _ _)).trans (Sv.alloc _ _ _)
    rw [← hr]
    refine Calls.mono (ev_ok hG hP hE (eb := w.heap.size + 1) (by omega) p hi _ n (hG.on _ _ hg ha) (cell_alloc (by simp [go_sem]) _) (((hn.alloc _).alloc _).alloc _) hs) ?_
    rintro e w' ⟨h1, h2, h3⟩
    exact ⟨h1, h2, ha.trans h3⟩
  rw [hr]
  clear hG hP hE hg hn hs hi hr hclt
  unfold PT.val at *
  go_enter Tryd.func59, Tryd.ntmps59
  go_wp2_with fail
  refine Calls.mono (H.out _ _) ?_
  rintro e w1 ⟨rfl, hc1⟩
  have HC : Hid _ := hc1
  clear hc1 H
  go_wp2_with fail
  go_ret
  exact ⟨rfl, HC.out⟩
theorem cnt_next {w : World} {c n : Nat} (o : Obj) (h : Cnt w c n) : Cnt ((w.setCell ⟨c, 0, none⟩ (.int .i64 ((n : Int) + 1))).alloc o) c (n + 1) ∧ Sv (· = c) w ((w.setCell ⟨c, 0, none⟩ (.int .i64 ((n : Int) + 1))).alloc o) := by
  have hs : Cnt (w.setCell ⟨c, 0, none⟩ (.int .i64 ((n : Int) + 1))) c (n + 1) := by
    refine ⟨?_, ?_⟩
    · rw [World.cell?_setCell_same' _ _ _ (by rw [h.1]; rfl)]; simp
    · rw [World.frozen?_setCell]; exact h.2
  have ht : Sv (· = c) w (w.setCell ⟨c, 0, none⟩ (.int .i64 ((n : Int) + 1))) := ⟨rfl, rfl, rfl, by simp [World.setCell], fun k hk hx => Below.heap_setCell _ _ _ _ hx⟩
  exact ⟨hs.alloc o, ht.trans (Sv.alloc _ _ _)⟩
end Go.Proofs.YtfkhfplibhnceaaDoor.Val
