/- What each of package normal answers, whatever function it is handed that makes a predicate. -/
import Derived.Test.YtfkhfplibhnceaaDoorPredNw
import Derived.Test.YtfkhfplibhnceaaDoorPredFunc
namespace Go.Proofs.YtfkhfplibhnceaaDoor.Val
open Go.RowKit

def oppTab : List Int := [0, 2, 1, 4, 3, 8, 7, 6, 5, 0, 0, 12, 11]
/-- The table of opposites lies in memory. -/
def Tab (w : World) : Prop := ∀ (i : Nat) (hi : i < oppTab.length), w.cell? ⟨0, i, none⟩ = some (.int .i64 oppTab[i])
theorem Tab.below {w w' : World} (h : Tab w) (hb : Below w.heap.size w w') : Tab w' := fun i hi => by
  rw [hb.cell (World.block_lt_of_cell? w _ (h i hi))]; exact h i hi
/-- A function makes of one predicate another one, in memory of its own. -/
def MadeOk (f : FuncId) (p t : PT) : Prop := ∀ w, In w p → Tab w → Calls Tryd.prog f #[p.val] w fun e w' => ∃ q : PT, e = .returned q.val ∧ q.bare = t.bare ∧ Nw w' TP (fun b => w.heap.size ≤ b) q ∧ Below w.heap.size w w'
set_option maxHeartbeats 2000000 in
theorem each_any (f : FuncId) (hE : Enters f) (g : PT → PT) (lv : Value) (l : List PT) (w : World) (hl : InL w lv l) (hT : Tab w) (hlen : l.length ≤ 1000000) (ih : ∀ q ∈ l, MadeOk f q (g q)) :
    Calls Tryd.prog 50 #[lv, FV f #[] #[]] w fun e w' => ∃ v' m, e = .returned v' ∧ m.map PT.bare = (l.map g).map PT.bare ∧ (RowNw w' TP (fun b => w.heap.size ≤ b) v' m ∧ ∀ p ∈ m, Nw w' TP (fun b => w.heap.size ≤ b) p) ∧ Below w.heap.size w w' := by
  obtain ⟨i0, hi, hz0, hz1, hz2⟩ := info_parts info_P
  have I0 : Hid (Tryd.prog.info? 29 = some i0 ∧ i0.zero = some (PV 0 0 false 0 ⟨#[]⟩ false 0 ⟨#[]⟩ (.slice none 0 0)) ∧ i0.size = 9 ∧ i0.bytes = 104) := ⟨hi, hz0, hz1, hz2⟩
  clear hi hz0 hz1 hz2
  obtain ⟨ao, c, rfl, hn⟩ := hl.1.slice
  have HL : Hid (InL w (.slice ao l.length c) l ∧ Tab w ∧ ∀ q ∈ l, MadeOk f q (g q)) := ⟨hl, hT, ih⟩
  have hE' : ∀ args w, (callFunc f args).run Tryd.prog w = .ok (.enter f args) w := hE
  clear hl hT ih hE
  go_enter Tryd.func50, Tryd.ntmps50
  go_wp2_with fail
  go_loopw [5, 10] (fun own i wr => ∃ k : Nat, k ≤ l.length ∧ i = .int .i64 k ∧ Hid (CLw w.heap.size wr TP (l.map g) k own ∧ Below w.heap.size w wr))
    (fun _ i _ => l.length - (intOf i).toNat)
  case atStart => exact ⟨0, Nat.zero_le _, rfl, CLw.start _ w TP _, Below.refl _ _⟩
  case round =>
    obtain ⟨k, hk, rfl, HK⟩ := hrel
    by_cases h1 : k < l.length
    · have i0' : (0 : Int) ≤ (k : Int) := by omega
      have i1 : (k : Int) < (l.length : Int) := by omega
      have hbw : Below w.heap.size w wr := HK.out.2
      obtain ⟨b, o, rfl, hat⟩ := lies_at (HL.out.1.1.below hbw) k h1
      have hmem : l[k] ∈ l := List.getElem_mem h1
      have hink : In wr l[k] := (HL.out.1.2 _ hmem).keep hbw
      have HQ : Hid (∀ w1, Below wr.heap.size wr w1 → Calls Tryd.prog f #[l[k].val] w1 fun e w' => ∃ q : PT, e = .returned q.val ∧ q.bare = (g l[k]).bare ∧ Nw w' TP (fun b => w1.heap.size ≤ b) q ∧ Below w1.heap.size w1 w') :=
        fun w1 hb => HL.out.2.2 _ hmem w1 (hink.keep hb) (HL.out.2.1.below (on hbw hb))
      obtain ⟨ak, ck, hlk, _⟩ := hink.lies.slice
      obtain ⟨c0, c1, c2, c3, c4, c5, c6, c7, c8⟩ := hat
      unfold PT.val at HQ
      rw [hlk] at c8 HQ
      have HLK : Hid (l[k].lv = .slice ak l[k].l.length ck) := hlk
      have hbl : b < wr.heap.size := World.block_lt_of_cell? _ _ c0
      clear hlk hmem hink hbw
      go_wp2_with fail
      refine Calls.mono (HQ.out _ (alloc1 _ _)) ?_
      rintro e w1 ⟨q, rfl, hqb, hqn, hb1⟩
      obtain ⟨aq, cq, hlq⟩ := hqn.slice
      have hb1' : Below wr.heap.size wr w1 := back1 hb1
      obtain ⟨m, hown, hsz, hnext⟩ := CLw.owns HK.out.1 HK.out.2.size (wb := w1.alloc (pobj q 29)) (on hb1' (alloc1 _ _))
      have HN : Hid _ := hnext
      have HA : Hid (q.bare = (g l[k]).bare ∧ Nw w1 TP (fun b => (wr.alloc (pobj l[k] 29)).heap.size ≤ b) q ∧ Below wr.heap.size wr w1) := by
        rw [← HLK.out] at hqn; exact ⟨hqb, hqn, hb1'⟩
      have HW : Hid ((w1.alloc (pobj q 29)).ownsRow w.heap.size TP 9 u5 k (m.flatMap PT.cells) ∧ w.heap.size ≤ (w1.alloc (pobj q 29)).heap.size) := ⟨hown, hsz⟩
      have HQL : Hid (q.lv = .slice aq q.l.length cq) := hlq
      clear hqb hqn hb1 hb1' hnext hown hsz c0 c1 c2 c3 c4 c5 c6 c7 c8 hlq HQ
      go_wp2_with (at_builtin; refine wpList_append_own_at _ rfl _ _ _ rfl w.heap.size TP i0 _ 9 104 Tryd.underlying27 I0.out.1 I0.out.2.1 I0.out.2.2.1 I0.out.2.2.2 rfl (by decide) u5 k (m.flatMap PT.cells) rfl HW.out.1 ⟨w1.heap.size, 0, none⟩ 1 1 q.cells rfl rfl (new_cells w1 q _) (one_cells q _ _ _ HQL.out) ?_ ?_ HW.out.2 ?_)
      · unfold maxLen; omega
      · omega
      · intro v' w2 hown' hgrow _ hat
        have HC : Hid (CLw w.heap.size w2 TP (l.map g) (k + 1) v' ∧ Below w.heap.size w w2) := by
          obtain ⟨a1, a2, a3⟩ := HA.out
          obtain ⟨r1, r2⟩ := HN.out q (wr.alloc (pobj l[k] 29)) w2 v' (by simpa using h1) (by simp) (by simpa using a1) (a2.keep (alloc1 _ _)) hown' hgrow (by simpa using hat)
          have hB : Below w.heap.size w (w1.alloc (pobj q 29)) := on HK.out.2 (on a3 (alloc1 _ _))
          exact ⟨r1, hB.trans (r2.below hB.size fun b hb hx => by omega)⟩
        clear hown' hgrow hat HA HN HW HQL HLK HK
        go_wp2_with fail
        go_roundw
        case rel => exact ⟨k + 1, by omega, by go_num, HC⟩
        case measure => simp [intOf]; omega
    · have i1 : decide ((k : Int) < (l.length : Int)) = false := by simp; omega
      obtain rfl : k = l.length := by omega
      obtain ⟨m, hm1, hm2⟩ := CLw.done HK.out.1 (by simp)
      have HM : Hid (m.map PT.bare = (l.map g).map PT.bare ∧ (RowNw wr TP (fun b => w.heap.size ≤ b) u5 m ∧ ∀ p ∈ m, Nw wr TP (fun b => w.heap.size ≤ b) p) ∧ Below w.heap.size w wr) := ⟨hm1, hm2, HK.out.2⟩
      clear hm1 hm2 HK HL
      go_wp2_with fail
      go_ret
      exact ⟨_, m, rfl, HM.out⟩
end Go.Proofs.YtfkhfplibhnceaaDoor.Val
