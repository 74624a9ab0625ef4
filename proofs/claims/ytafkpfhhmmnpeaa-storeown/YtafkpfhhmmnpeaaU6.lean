/- What slices.Delete does in a node's row, and the tree's remove. -/
import Derived.Test.YtafkpfhhmmnpeaaU4
import Derived.Lib.AppendZerosOnto
import Derived.Maps.AppendAt
namespace Go.Proofs.Ytafkpfhhmmnpeaa.Val
open Go Go.RowKit
set_option maxRecDepth 100000

/-- The row behind it. -/
def delR (r : List It) (i j : Nat) : List It := r.take i ++ r.drop j
theorem delR_length (r : List It) (i j : Nat) (hi : i ≤ j) (hj : j ≤ r.length) : (delR r i j).length = i + (r.length - j) := by simp [delR]; omega
theorem delR_none (r : List It) (i : Nat) : delR r i i = r := List.take_append_drop i r
theorem zeroI_length (n : Nat) : (Builtin.zeroCells It.zero.val.cells n).toList.length = n * 18 := by
  rw [Array.length_toList, size_zeroCells]; rfl
theorem zeroI_one (n : Nat) : ∀ v ∈ (Builtin.zeroCells It.zero.val.cells n).toList, v.oneCell' = true := by
  intro v hv
  unfold Builtin.zeroCells at hv
  rw [Array.mem_toList_iff, Array.mem_map] at hv
  obtain ⟨i, _, rfl⟩ := hv
  have h5 : i % 18 < It.zero.cells.toArray.size := Nat.mod_lt _ (by show 0 < 18; omega)
  have hm : It.zero.cells.toArray[i % 18]! ∈ It.zero.cells := by
    rw [getElem!_pos It.zero.cells.toArray (i % 18) h5]
    exact List.getElem_mem _
  show (It.zero.cells.toArray[i % 18]!).oneCell' = true
  exact It.cells_one _ _ hm
theorem slice_three (w : World) (g o L c lo hi mx : Nat) (x y z : Int) (hx : x = lo) (hy : y = hi) (hz : z = mx) (h1 : lo ≤ hi) (h2 : hi ≤ mx) (h3 : mx ≤ c) :
    (Instr.slice 98 (.slice (some ⟨g, o, none⟩) L c) (some (.int .i64 x)) (some (.int .i64 y)) (some (.int .i64 z))).run Try.prog w = .ok (.slice (if mx = lo then some ⟨g, o, none⟩ else some ⟨g, o + lo * 18, none⟩) (hi - lo) (mx - lo)) w := by
  subst hx hy hz
  simp [Instr.slice, Instr.sliceBounds, Instr.sliceBound, run_underlying Try.underlying98, asIntOf, h1, h2, h3, Addr.add_lit]

section
variable {w : World} {h : Hd} {R : Nat → List It} {m : Nat} {fr : List Nat} {root dep cnt : Nat}
set_option maxHeartbeats 4000000 in
theorem delete_any (t : TL w h R m fr root dep cnt) (n i j : Nat) (hn : n < m) (hij : i ≤ j) (hj : j ≤ (R n).length) (g cap : Nat) (hav : h.av = .slice (some ⟨g, 0, none⟩) (m * 5) cap) :
    Calls Try.prog 78 #[.slice (some ⟨g, n * 90, none⟩) (R n).length 5, .int .i64 i, .int .i64 j] w fun e w' =>
      e = .returned (.slice (some ⟨g, n * 90, none⟩) (i + ((R n).length - j)) 5) ∧ TM w' h (upd R n (delR (R n) i j)) (fun x => (R x).length) m fr root dep cnt ∧ Mv w h w' h := by
  obtain ⟨g', cap', cur, e', hg, hc1, hc2, hc3, hrows⟩ := t.arenaAt (by omega)
  rw [e'] at hav
  cases hav
  have hav := e'
  obtain ⟨inf, hi1, hi2, hi3, hi4⟩ := info_I
  have hgb : h.av.ownBlock = some g := by rw [hav]; rfl
  have hL5 : (R n).length ≤ 5 := t.len5 n hn
  obtain ⟨A, hA⟩ : ∃ A, A = (R n).take i := ⟨_, rfl⟩
  obtain ⟨B, hB⟩ : ∃ B, B = (R n).drop j := ⟨_, rfl⟩
  have hlA : A.length = i := by rw [hA]; simp; omega
  have hlB : B.length = (R n).length - j := by rw [hB]; simp
  have hsz : n * 90 + 90 ≤ cur.length := by rw [hc3]; omega
  have sA : Seg cur (n * 90) (icells A) := by
    have := (hrows n hn).2
    rw [app_take_drop (R n) i, ← hA] at this
    exact this.left
  have sB : Seg cur (n * 90 + j * 18) (icells B) := by
    have := (hrows n hn).2
    rw [app_take_drop (R n) j, ← hB] at this
    have := this.right
    rw [icells_length] at this
    simpa [Nat.min_eq_left hj] using this
  have lA := icells_length A
  have lB := icells_length B
  obtain ⟨c1, hc1'⟩ : ∃ c1, c1 = splice cur (n * 90 + i * 18) (icells B) := ⟨_, rfl⟩
  obtain ⟨Z, hZ⟩ : ∃ Z, Z = (Builtin.zeroCells It.zero.val.cells (j - i)).toList := ⟨_, rfl⟩
  have lZ : Z.length = (j - i) * 18 := by rw [hZ]; exact zeroI_length _
  have oZ : ∀ v ∈ Z, v.oneCell' = true := by rw [hZ]; exact zeroI_one _
  obtain ⟨c2, hc2'⟩ : ∃ c2, c2 = splice c1 (n * 90 + (i + ((R n).length - j)) * 18) Z := ⟨_, rfl⟩
  have f1 : n * 90 + i * 18 + (icells B).length ≤ cur.length := by omega
  have N1 : Node (n * 90) cur c1 := by rw [hc1']; exact Node.put f1 (by omega) (by omega)
  have f2 : n * 90 + (i + ((R n).length - j)) * 18 + Z.length ≤ c1.length := by rw [N1.len]; omega
  have N2 : Node (n * 90) c1 c2 := by rw [hc2']; exact Node.put f2 (by omega) (by omega)
  have a1 : Seg c1 (n * 90) (icells A) := by rw [hc1']; exact sA.far f1 (by omega)
  have b1 : Seg c1 (n * 90 + i * 18) (icells B) := by rw [hc1']; exact Seg.put _ _ _ f1
  have s1 : Seg c1 (n * 90) (icells (delR (R n) i j)) := by
    unfold delR
    rw [← hA, ← hB, icells_append]
    refine a1.app ?_
    rw [lA, hlA]; exact b1
  have hlen := delR_length (R n) i j hij hj
  have ld := icells_length (delR (R n) i j)
  have s2 : Seg c2 (n * 90) (icells (delR (R n) i j)) := by rw [hc2']; exact s1.far f2 (by omega)
  have R1 : Hid (∀ w', w'.heap[g]? = some (.cells cur.toArray TI (0, 0)) → ∀ ty, (Builtin.append_ #[98, 98] ty #[.slice (some ⟨g, n * 90, none⟩) i 5, .slice (if 5 = j then some ⟨g, n * 90, none⟩ else some ⟨g, n * 90 + j * 18, none⟩) ((R n).length - j) (5 - j)]).run Try.prog w' = .ok (.slice (some ⟨g, n * 90, none⟩) (i + ((R n).length - j)) 5) (w'.setRow g c1.toArray)) := fun w' hx ty => by
    have hd : (if 5 = j then some (⟨g, n * 90, none⟩ : Addr) else some ⟨g, n * 90 + j * 18, none⟩) = some (if 5 = j then (⟨g, n * 90, none⟩ : Addr) else ⟨g, n * 90 + j * 18, none⟩) := by split <;> rfl
    rw [hd]
    have := run_append_in (P := Try.prog) w' 98 ty TI inf Try.underlying98 hi1 g (n * 90) i 5 cur hx (if 5 = j then (⟨g, n * 90, none⟩ : Addr) else ⟨g, n * 90 + j * 18, none⟩) ((R n).length - j) (5 - j) (icells B) (by rw [lB, hi3, hlB]) (fun q u hq => by
        have hq' := (List.getElem?_eq_some_iff.1 hq).1
        rw [if_neg (by omega)]
        have hadd : (⟨g, n * 90 + j * 18, none⟩ : Addr).add q = ⟨g, n * 90 + j * 18 + q, none⟩ := by unfold Addr.add; split <;> simp_all
        rw [hadd]
        simp [World.cell?, hx, sB q u hq]) (icells_one B) (by omega) (by rw [hi3]; exact f1)
    rw [this, hi3, ← hc1']
  have R2 : Hid (i < j → ∀ w', w'.heap[g]? = some (.cells c1.toArray TI (0, 0)) → ∀ ty, (Builtin.clear_ #[98] ty #[.slice (if 5 = i + ((R n).length - j) then some ⟨g, n * 90, none⟩ else some ⟨g, n * 90 + (i + ((R n).length - j)) * 18, none⟩) ((R n).length - (i + ((R n).length - j))) (5 - (i + ((R n).length - j)))]).run Try.prog w' = .ok (.tuple #[]) (w'.setRow g c2.toArray)) := fun hlt w' hx ty => by
    have e1 : (R n).length - (i + ((R n).length - j)) = j - i := by omega
    rw [if_neg (by omega), e1]
    have := run_clear_in (P := Try.prog) w' 98 ty TI inf It.zero.val Try.underlying98 hi1 hi2 g (n * 90 + (i + ((R n).length - j)) * 18) (j - i) (5 - (i + ((R n).length - j))) c1 TI hx (by omega) (by rw [← hZ]; exact f2) (by rw [← hZ]; exact oZ)
    rw [this, ← hZ, ← hc2']
  have W1 : Hid (∀ w1, Below w.heap.size w w1 → w1.heap[g]? = some (.cells cur.toArray TI (0, 0))) := fun w1 hb => by rw [hb.block g (Array.getElem?_eq_some_iff.1 hg).1]; exact hg
  have W2 : Hid (∀ w1, Below w.heap.size w w1 → TM (w1.setRow g c1.toArray) h (upd R n (delR (R n) i j)) (fun x => (R x).length) m fr root dep cnt ∧ (w1.setRow g c1.toArray).heap[g]? = some (.cells c1.toArray TI (0, 0)) ∧ Mv w h (w1.setRow g c1.toArray) h) := fun w1 hb => by
    obtain ⟨k1, k2, k3⟩ := (t.below hb).node g cap cur c1 hav (W1.out _ hb) n N1 (delR (R n) i j) (by omega) s1
    exact ⟨k1, k2, (Mv.of hb).trans k3⟩
  have W3 : Hid (∀ w2, TM w2 h (upd R n (delR (R n) i j)) (fun x => (R x).length) m fr root dep cnt → w2.heap[g]? = some (.cells c1.toArray TI (0, 0)) → Mv w h w2 h → TM (w2.setRow g c2.toArray) h (upd R n (delR (R n) i j)) (fun x => (R x).length) m fr root dep cnt ∧ Mv w h (w2.setRow g c2.toArray) h) := fun w1 h1 h2 h3 => by
    obtain ⟨k1, k2, k3⟩ := h1.node g cap c1 c2 hav h2 n N2 (delR (R n) i j) (by omega) s2
    rw [upd_upd] at k1
    exact ⟨k1, h3.trans k3⟩
  have W0 : Hid (i = j → (i + ((R n).length - j) = (R n).length) ∧ TM w h (upd R n (delR (R n) i j)) (fun x => (R x).length) m fr root dep cnt) := fun e => by
    refine ⟨by omega, ?_⟩
    subst e
    rw [delR_none]
    have : upd R n (R n) = R := by funext x; unfold upd; split <;> simp_all
    rw [this]; exact t
  clear t hav e' hg hc1 hc2 hc3 hrows hgb hA hB hlA hlB hsz sA sB lA lB hc1' hZ lZ oZ hc2' f1 N1 f2 N2 a1 b1 s1 hlen ld s2 hi1 hi2 hi3 hi4
  generalize delR (R n) i j = del at *
  generalize hL : (R n).length = L at *
  clear hL
  have hs0 : ∀ w', (Instr.slice 98 (.slice (some ⟨g, n * 90, none⟩) L 5) (some (.int .i64 (i : Int))) (some (.int .i64 (j : Int))) (some (.int .i64 (L : Int)))).run Try.prog w' = .ok (.slice (if L = i then some ⟨g, n * 90, none⟩ else some ⟨g, n * 90 + i * 18, none⟩) (j - i) (L - i)) w' := fun w' => slice_three w' g (n * 90) L 5 i j L _ _ _ rfl rfl rfl hij hj hL5
  have hs1 : ∀ w', (Instr.slice 98 (.slice (some ⟨g, n * 90, none⟩) L 5) none (some (.int .i64 (i : Int))) none).run Try.prog w' = .ok (.slice (some ⟨g, n * 90, none⟩) i 5) w' := fun w' => slice_hi w' g (n * 90) L 5 i _ rfl (by omega)
  have hs2 : ∀ w', (Instr.slice 98 (.slice (some ⟨g, n * 90, none⟩) L 5) (some (.int .i64 (j : Int))) none none).run Try.prog w' = .ok (.slice (if 5 = j then some ⟨g, n * 90, none⟩ else some ⟨g, n * 90 + j * 18, none⟩) (L - j) (5 - j)) w' := fun w' => slice_lo w' g (n * 90) L 5 j _ rfl hj
  have hs3 : ∀ w', (Instr.slice 98 (.slice (some ⟨g, n * 90, none⟩) (i + (L - j)) 5) (some (.int .i64 ((i + (L - j) : Nat) : Int))) (some (.int .i64 (L : Int))) none).run Try.prog w' = .ok (.slice (if 5 = i + (L - j) then some ⟨g, n * 90, none⟩ else some ⟨g, n * 90 + (i + (L - j)) * 18, none⟩) (L - (i + (L - j))) (5 - (i + (L - j)))) w' := fun w' => slice_lohi w' g (n * 90) (i + (L - j)) 5 (i + (L - j)) L _ _ rfl rfl (by omega) (by omega)
  generalize (if L = i then some (⟨g, n * 90, none⟩ : Addr) else some ⟨g, n * 90 + i * 18, none⟩) = d0 at *
  generalize (if 5 = j then some (⟨g, n * 90, none⟩ : Addr) else some ⟨g, n * 90 + j * 18, none⟩) = d2 at *
  generalize hK : i + (L - j) = Q at *
  generalize (if 5 = Q then some (⟨g, n * 90, none⟩ : Addr) else some ⟨g, n * 90 + Q * 18, none⟩) = d3 at *
  generalize L - Q = x3 at *
  generalize 5 - Q = y3 at *
  generalize L - j = x2 at *
  generalize 5 - j = y2 at *
  have HP : Hid (i ≤ j ∧ j ≤ L ∧ i + x2 = Q) := ⟨hij, hj, hK⟩
  rcases Nat.lt_or_ge i j with hlt | hge
  · have i1 : ((i : Int) == (j : Int)) = false := by simp; omega
    have R2' : Hid _ := R2.out hlt
    clear hK hij hj R2 W0 hlt
    go_enter Try.func78, Try.ntmps78
    go_wp2_with fail
    refine wp_region_held_drew (S := fun _ => True) (by kernel_rfl) ?_ (fun hHeld => ?_)
    · trivial
    (try clear hK K)
    refine wpAnyH_take (i := 0) (v := ?_) rfl (by kernel_rfl) (by kernel_rfl) (by kernel_rfl) (fun _ _ _ h => h) (Or.inl ⟨by rfl, ?_⟩) (by assumption) ?_
    rotate_left
    · intro w hSw; (try dsimp only at hSw); go_simp; (try with_reducible rfl)
    (try simp only [Act.put, List.getElem_toArray, List.getElem_cons_zero, List.setIfInBounds_toArray, List.set_cons_zero, List.set_cons_succ])
    refine wpAnyH_take (i := 1) (v := ?_) rfl (by kernel_rfl) (by kernel_rfl) (by kernel_rfl) (fun _ _ _ h => h) (Or.inl ⟨by rfl, ?_⟩) (by assumption) ?_
    rotate_left
    · intro w hSw; (try dsimp only at hSw); go_simp; (try with_reducible rfl)
    (try simp only [Act.put, List.getElem_toArray, List.getElem_cons_succ, List.getElem_cons_zero, List.setIfInBounds_toArray, List.set_cons_zero, List.set_cons_succ])
    refine wpAnyH_take (i := 2) (v := ?_) rfl (by kernel_rfl) (by kernel_rfl) (by kernel_rfl) (fun _ _ _ h => h) (Or.inl ⟨by rfl, ?_⟩) (by assumption) ?_
    rotate_left
    · intro w hSw; (try dsimp only at hSw); go_simp; (try with_reducible rfl)
    (try simp only [Act.put, List.getElem_toArray, List.getElem_cons_succ, List.getElem_cons_zero, List.setIfInBounds_toArray, List.set_cons_zero, List.set_cons_succ])
    refine wpAnyH_take (i := 3) (v := ?_) rfl (by kernel_rfl) (by kernel_rfl) (by kernel_rfl) (fun _ _ _ h => h) (Or.inl ⟨by rfl, ?_⟩) (by assumption) ?_
    rotate_left
    · intro w hSw; (try dsimp only at hSw); go_simp; (try with_reducible rfl)
    (try simp only [Act.put, List.getElem_toArray, List.getElem_cons_succ, List.getElem_cons_zero, List.setIfInBounds_toArray, List.set_cons_zero, List.set_cons_succ])
    refine wpAnyH_take (i := 4) (v := ?_) rfl (by kernel_rfl) (by kernel_rfl) (by kernel_rfl) (fun _ _ _ h => h) (Or.inl ⟨by rfl, ?_⟩) (by assumption) ?_
    rotate_left
    · intro w hSw; (try dsimp only at hSw); go_simp; (try with_reducible rfl)
    (try simp only [Act.put, List.getElem_toArray, List.getElem_cons_succ, List.getElem_cons_zero, List.setIfInBounds_toArray, List.set_cons_zero, List.set_cons_succ])
    refine wpAnyH_take (i := 5) (v := ?_) rfl (by kernel_rfl) (by kernel_rfl) (by kernel_rfl) (fun _ _ _ h => h) (Or.inl ⟨by rfl, ?_⟩) (by assumption) ?_
    rotate_left
    · intro w hSw; (try dsimp only at hSw); go_simp; (try with_reducible rfl)
    (try simp only [Act.put, List.getElem_toArray, List.getElem_cons_succ, List.getElem_cons_zero, List.setIfInBounds_toArray, List.set_cons_zero, List.set_cons_succ])
    (try clear hK K)
    refine wpAnyH_ready (rs := [6]) (by kernel_rfl) (by simp) ?_
    refine AllReadyH.cons rfl (fun K hK => ?_) AllReadyH.nil
    (refine step_append_known rfl (.tmp 22) (.tmp 25) _ _ rfl _ _ rfl rfl _ _ (R1.out _ (W1.out _ (Below.refl _ _).drew) _) ?_; refine hK.out _ _ ?_ (fun hHeld => ?_))
    · trivial
    have T2 : Hid _ := W2.out _ (Below.refl _ _).drew
    generalize w.drew.setRow g c1.toArray = w2 at *
    (try clear hK K)
    refine wpAnyH_take (i := 7) (v := ?_) rfl (by kernel_rfl) (by kernel_rfl) (by kernel_rfl) (fun _ _ _ h => h) (Or.inl ⟨by rfl, ?_⟩) (by assumption) ?_
    rotate_left
    · intro w hSw; (try dsimp only at hSw); go_simp; (try with_reducible rfl)
    (try simp only [Act.put, List.getElem_toArray, List.getElem_cons_succ, List.getElem_cons_zero, List.setIfInBounds_toArray])
    (try clear hK K)
    refine wpAnyH_done (by kernel_rfl) ?_ _
    have hcl := fun ty => R2'.out w2 T2.out.2.1 ty
    have T3 : Hid _ := W3.out _ T2.out.1 T2.out.2.1 T2.out.2.2
    generalize w2.setRow g c2.toArray = w3 at *
    clear T2 W1 W2 W3 R1 R2'
    go_wp2_with fail
    go_ret
    exact ⟨rfl, T3.out⟩
  · obtain rfl : i = j := by omega
    obtain ⟨e1, e2⟩ := W0.out rfl
    subst e1
    have W : Hid _ := e2
    clear hK hij hj R2 W0 R1 W1 W2 W3 e2
    go_enter Try.func78, Try.ntmps78
    go_wp2_with fail
    go_ret
    exact ⟨rfl, W.out, Mv.refl _ _⟩
end
end Go.Proofs.Ytafkpfhhmmnpeaa.Val
/- A tree's own block written; its arena grown by a node. Plain facts; no function of the program. -/
namespace Go.Proofs.Ytafkpfhhmmnpeaa.Val
open Go Go.RowKit
set_option maxRecDepth 100000

section
variable {w w1 : World} {h : Hd} {R : Nat → List It} {F : Nat → Nat} {ma m : Nat} {fr : List Nat} {root dep cnt : Nat}
theorem sv_grown {w w1 : World} {o : Option Nat} (hg : w.grownBy w1 o) : Sv (fun k => some k = o) w w1 := ⟨hg.os, hg.tape, hg.output, hg.size, fun k hk hx => hg.block k hk hx⟩
/-- A number in the block written. -/
theorem TMx.setNum (t : TMx w h R F ma m fr root dep cnt) (j : Nat) (x r d c : Nat) (hx : (#[h.av, h.fv, h.rv, .int .i64 root, .int .i64 dep, .int .i64 cnt] : Array Value).setIfInBounds j (.int .i64 x) = #[h.av, h.fv, h.rv, .int .i64 r, .int .i64 d, .int .i64 c]) :
    TMx (w.setCell ⟨h.p, j, none⟩ (.int .i64 x)) h R F ma m fr r d c ∧ Mv w h (w.setCell ⟨h.p, j, none⟩ (.int .i64 x)) h := by
  have hsv : Sv (fun k => k = h.p) w (w.setCell ⟨h.p, j, none⟩ (.int .i64 x)) := Sv.set (X := fun k => k = h.p) (Sv.refl _ _) (a := ⟨h.p, j, none⟩) rfl _
  refine ⟨⟨?_, t.arena.sv hsv fun k hk e => ?_, ownsRow_sv t.fill hsv fun k hk e => ?_, ownsRow_sv t.free hsv fun k hk e => ?_, t.ap, t.fp, t.rp, t.af, t.ar, t.fr'⟩, ⟨(Sv.refl h.has w).set (a := ⟨h.p, j, none⟩) (.inl rfl) _, rfl, fun _ h => .inl h⟩⟩
  · rw [heap_setCell_same w h.p j _ TT _ t.box, hx]
  · subst e; exact t.ap hk
  · subst e; exact t.fp hk
  · subst e; exact t.rp hk
theorem TMx.setRoot (t : TMx w h R F ma m fr root dep cnt) (x : Nat) : TMx (w.setCell ⟨h.p, 3, none⟩ (.int .i64 x)) h R F ma m fr x dep cnt ∧ Mv w h (w.setCell ⟨h.p, 3, none⟩ (.int .i64 x)) h := t.setNum 3 x x dep cnt rfl
theorem TMx.setDep (t : TMx w h R F ma m fr root dep cnt) (x : Nat) : TMx (w.setCell ⟨h.p, 4, none⟩ (.int .i64 x)) h R F ma m fr root x cnt ∧ Mv w h (w.setCell ⟨h.p, 4, none⟩ (.int .i64 x)) h := t.setNum 4 x root x cnt rfl
theorem TMx.setCnt (t : TMx w h R F ma m fr root dep cnt) (x : Nat) : TMx (w.setCell ⟨h.p, 5, none⟩ (.int .i64 x)) h R F ma m fr root dep x ∧ Mv w h (w.setCell ⟨h.p, 5, none⟩ (.int .i64 x)) h := t.setNum 5 x root dep x rfl
/-- The slice of free nodes turned. -/
theorem TMx.setFree (t : TMx w h R F ma m fr root dep cnt) (v : Value) (fr2 : List Nat) (hg : w.grownBy w1 h.rv.ownBlock) (ho : w1.ownsRow 0 TN 1 v fr2.length (ncells fr2)) (hat : v.ownBlock = h.rv.ownBlock ∨ v.ownBlock = some w.heap.size) :
    TMx (w1.setCell ⟨h.p, 2, none⟩ v) { h with rv := v } R F ma m fr2 root dep cnt ∧ Mv w h (w1.setCell ⟨h.p, 2, none⟩ v) { h with rv := v } := by
  have sv1 := sv_grown hg
  have sv2 : Sv (fun k => k = h.p) w1 (w1.setCell ⟨h.p, 2, none⟩ v) := Sv.set (X := fun k => k = h.p) (Sv.refl _ _) (a := ⟨h.p, 2, none⟩) rfl _
  have hp := (Array.getElem?_eq_some_iff.1 t.box).1
  have hbox := t.box
  rw [← sv1.block h.p hp (fun e => t.rp e.symm)] at hbox
  have own : ∀ k, v.ownBlock = some k → h.rv.ownBlock = some k ∨ k = w.heap.size := fun k hk => by
    rcases hat with e | e
    · exact .inl (e ▸ hk)
    · rw [e] at hk; injection hk with hk; exact .inr hk.symm
  have np : v.ownBlock ≠ some h.p := fun e => by
    rcases own _ e with e | e
    · exact t.rp e
    · omega
  refine ⟨⟨?_, (t.arena.sv sv1 fun k hk e => t.ar k hk e.symm).sv sv2 fun k hk e => t.ap (e ▸ hk), ownsRow_sv (ownsRow_sv t.fill sv1 fun k hk e => t.fr' k hk e.symm) sv2 fun k hk e => t.fp (e ▸ hk), ownsRow_sv ho sv2 fun k hk e => np (e ▸ hk), t.ap, t.fp, np, t.af, fun k hk e => ?_, fun k hk e => ?_⟩, ⟨⟨?_, ?_, ?_, ?_, fun k hk hx => ?_⟩, rfl, fun k hk => ?_⟩⟩
  · exact heap_setCell_same w1 h.p 2 _ TT _ hbox
  · rcases own _ e with e | e
    · exact t.ar k hk e
    · have := t.arena.lt k hk; omega
  · rcases own _ e with e | e
    · exact t.fr' k hk e
    · have := (t.fill.lt k hk).2; omega
  · exact sv2.os.trans sv1.os
  · exact sv2.tape.trans sv1.tape
  · exact sv2.output.trans sv1.output
  · exact Nat.le_trans sv1.size sv2.size
  · exact (sv2.block k (Nat.lt_of_lt_of_le hk sv1.size) fun e => hx (.inl e)).trans (sv1.block k hk fun e => hx (.inr (.inr (.inr e.symm))))
  · rcases hk with e | e | e | e
    · exact .inl (.inl e)
    · exact .inl (.inr (.inl e))
    · exact .inl (.inr (.inr (.inl e)))
    · rcases own _ e with e | e
      · exact .inl (.inr (.inr (.inr e)))
      · exact .inr (by omega)
/-- The slice of counts turned. -/
theorem TMx.setFill (t : TMx w h R F ma m fr root dep cnt) (v : Value) (F2 : Nat → Nat) (m2 : Nat) (hg : w.grownBy w1 h.fv.ownBlock) (ho : w1.ownsRow 0 TN 1 v m2 (fcells F2 m2)) (hat : v.ownBlock = h.fv.ownBlock ∨ v.ownBlock = some w.heap.size) :
    TMx (w1.setCell ⟨h.p, 1, none⟩ v) { h with fv := v } R F2 ma m2 fr root dep cnt ∧ Mv w h (w1.setCell ⟨h.p, 1, none⟩ v) { h with fv := v } := by
  have sv1 := sv_grown hg
  have sv2 : Sv (fun k => k = h.p) w1 (w1.setCell ⟨h.p, 1, none⟩ v) := Sv.set (X := fun k => k = h.p) (Sv.refl _ _) (a := ⟨h.p, 1, none⟩) rfl _
  have hp := (Array.getElem?_eq_some_iff.1 t.box).1
  have hbox := t.box
  rw [← sv1.block h.p hp (fun e => t.fp e.symm)] at hbox
  have own : ∀ k, v.ownBlock = some k → h.fv.ownBlock = some k ∨ k = w.heap.size := fun k hk => by
    rcases hat with e | e
    · exact .inl (e ▸ hk)
    · rw [e] at hk; injection hk with hk; exact .inr hk.symm
  have np : v.ownBlock ≠ some h.p := fun e => by
    rcases own _ e with e | e
    · exact t.fp e
    · omega
  refine ⟨⟨?_, (t.arena.sv sv1 fun k hk e => t.af k hk e.symm).sv sv2 fun k hk e => t.ap (e ▸ hk), ownsRow_sv ho sv2 fun k hk e => np (e ▸ hk), ownsRow_sv (ownsRow_sv t.free sv1 fun k hk e => t.fr' k e.symm hk) sv2 fun k hk e => t.rp (e ▸ hk), t.ap, np, t.rp, fun k hk e => ?_, t.ar, fun k hk e => ?_⟩, ⟨⟨?_, ?_, ?_, ?_, fun k hk hx => ?_⟩, rfl, fun k hk => ?_⟩⟩
  · exact heap_setCell_same w1 h.p 1 _ TT _ hbox
  · rcases own _ e with e | e
    · exact t.af k hk e
    · have := t.arena.lt k hk; omega
  · rcases own _ hk with e' | e'
    · exact t.fr' k e' e
    · have := (t.free.lt k e).2; omega
  · exact sv2.os.trans sv1.os
  · exact sv2.tape.trans sv1.tape
  · exact sv2.output.trans sv1.output
  · exact Nat.le_trans sv1.size sv2.size
  · exact (sv2.block k (Nat.lt_of_lt_of_le hk sv1.size) fun e => hx (.inl e)).trans (sv1.block k hk fun e => hx (.inr (.inr (.inl e.symm))))
  · rcases hk with e | e | e | e
    · exact .inl (.inl e)
    · exact .inl (.inr (.inl e))
    · rcases own _ e with e | e
      · exact .inl (.inr (.inr (.inl e)))
      · exact .inr (by omega)
    · exact .inl (.inr (.inr (.inr e)))
/-- The arena turned. -/
theorem TMx.setArena (t : TMx w h R F ma m fr root dep cnt) (v : Value) (R2 : Nat → List It) (m2 : Nat) (hg : w.grownBy w1 h.av.ownBlock) (ho : Arena w1 v R2 m2) (hat : v.ownBlock = h.av.ownBlock ∨ v.ownBlock = some w.heap.size) :
    TMx (w1.setCell ⟨h.p, 0, none⟩ v) { h with av := v } R2 F m2 m fr root dep cnt ∧ Mv w h (w1.setCell ⟨h.p, 0, none⟩ v) { h with av := v } := by
  have sv1 := sv_grown hg
  have sv2 : Sv (fun k => k = h.p) w1 (w1.setCell ⟨h.p, 0, none⟩ v) := Sv.set (X := fun k => k = h.p) (Sv.refl _ _) (a := ⟨h.p, 0, none⟩) rfl _
  have hp := (Array.getElem?_eq_some_iff.1 t.box).1
  have hbox := t.box
  rw [← sv1.block h.p hp (fun e => t.ap e.symm)] at hbox
  have own : ∀ k, v.ownBlock = some k → h.av.ownBlock = some k ∨ k = w.heap.size := fun k hk => by
    rcases hat with e | e
    · exact .inl (e ▸ hk)
    · rw [e] at hk; injection hk with hk; exact .inr hk.symm
  have np : v.ownBlock ≠ some h.p := fun e => by
    rcases own _ e with e | e
    · exact t.ap e
    · omega
  refine ⟨⟨?_, ho.sv sv2 fun k hk e => np (e ▸ hk), ownsRow_sv (ownsRow_sv t.fill sv1 fun k hk e => t.af k e.symm hk) sv2 fun k hk e => t.fp (e ▸ hk), ownsRow_sv (ownsRow_sv t.free sv1 fun k hk e => t.ar k e.symm hk) sv2 fun k hk e => t.rp (e ▸ hk), np, t.fp, t.rp, fun k hk e => ?_, fun k hk e => ?_, t.fr'⟩, ⟨⟨?_, ?_, ?_, ?_, fun k hk hx => ?_⟩, rfl, fun k hk => ?_⟩⟩
  · exact heap_setCell_same w1 h.p 0 _ TT _ hbox
  · rcases own _ hk with e' | e'
    · exact t.af k e' e
    · have := (t.fill.lt k e).2; omega
  · rcases own _ hk with e' | e'
    · exact t.ar k e' e
    · have := (t.free.lt k e).2; omega
  · exact sv2.os.trans sv1.os
  · exact sv2.tape.trans sv1.tape
  · exact sv2.output.trans sv1.output
  · exact Nat.le_trans sv1.size sv2.size
  · exact (sv2.block k (Nat.lt_of_lt_of_le hk sv1.size) fun e => hx (.inl e)).trans (sv1.block k hk fun e => hx (.inr (.inl e.symm)))
  · rcases hk with e | e | e | e
    · exact .inl (.inl e)
    · rcases own _ e with e | e
      · exact .inl (.inr (.inl e))
      · exact .inr (by omega)
    · exact .inl (.inr (.inr (.inl e)))
    · exact .inl (.inr (.inr (.inr e)))

theorem run_append_zeros_in {P : Program} (w : World) (t tn ty e : TypeId) (i : TypeInfo) (z : Value) (kn : IntKind) (ht : P.underlying t = some (.slice e)) (htn : P.underlying tn = some (.int kn)) (hi : P.info? e = some i) (hz : i.zero = some z)
    (g n cap k : Nat) (hk : 0 < k) (hs : 0 < i.size) (hk2 : k ≤ 1000) (hb : i.bytes ≤ 1000) (cur : List Value) (hg : w.heap[g]? = some (.cells cur.toArray e (0, 0))) (h1 : ∀ u ∈ (Builtin.zeroCells z.cells k).toList, u.oneCell' = true)
    (hroom : n + k ≤ cap) (hfit : n * i.size + (Builtin.zeroCells z.cells k).toList.length ≤ cur.length) :
    (Builtin.append_ #[t, tn] ty #[.slice (some ⟨g, 0, none⟩) n cap, .int .i64 k]).run P w =
      .ok (.slice (some ⟨g, 0, none⟩) (n + k) cap) (w.setRow g (splice cur (n * i.size) (Builtin.zeroCells z.cells k).toList).toArray) := by
  have hst := run_storeCells_at P g (n * i.size) e (Builtin.zeroCells z.cells k).toList 0 cur.toArray w hg (by simpa using hfit) h1
  simp only [Nat.add_zero, List.append_assoc] at hst
  have hadd : (⟨g, 0, none⟩ : Addr).add (n * i.size) = ⟨g, n * i.size, none⟩ := by unfold Addr.add; split <;> simp_all
  have hw : IntKind.i64.wrap (k : Int) = k := by rw [IntKind.wrap_i64]; omega
  have hneg : ¬ ((k : Int) < 0) := by omega
  have hk0 : k ≠ 0 := by omega
  have hns : ¬ (k * i.size = 0) := Nat.mul_ne_zero hk0 (by omega)
  have h48 : k * i.bytes ≤ 1000 * 1000 := Nat.mul_le_mul hk2 hb
  have h48i : ¬ (281474976710656 < (k : Int) * (i.bytes : Int)) := by
    rw [← Int.natCast_mul]
    omega
  simp [Builtin.append_, run_underlying ht, run_underlying htn, sizeOf, typeInfo, zeroValue, hi, hz, asIntOf, asInt, hw, hneg, hns, h48i, hroom, hadd, hst, splice]
set_option maxRecDepth 100000 in
/-- The arena grown by a node. -/
theorem TMx.moreArena (t : TMx w h R F m m fr root dep cnt) (hm : m ≤ 1000000) (ty : TypeId) :
    ∃ v w1, (Builtin.append_ #[98, TN] ty #[h.av, .int .i64 5]).run Try.prog w = .ok v w1 ∧ Arena w1 v (upd R m []) (m + 1) ∧ w.grownBy w1 h.av.ownBlock ∧ (v.ownBlock = h.av.ownBlock ∨ v.ownBlock = some w.heap.size) := by
  obtain ⟨inf, hi1, hi2, hi3, hi4⟩ := info_I
  have hz5 := zeroI_length 5
  have hlen : ∀ cap, 5 ≤ cap → (Builtin.zeroCells It.zero.val.cells 5 ++ Builtin.zeroCells It.zero.val.cells (cap - 5)).toList.length = cap * 18 := fun cap hc => by
    rw [Array.toList_append, List.length_append, zeroI_length, zeroI_length]; omega
  have htn : Try.prog.underlying TN = some (.int .i64) := Try.underlying3
  rcases t.arena with ⟨e, h0⟩ | ⟨g, cap, cur, e, hg, hc1, hc2, hc3, hr⟩
  · subst h0
    have hr := Lib.run_append_nil_zeros (P := Try.prog) w 98 TN ty TI inf It.zero.val .i64 .i64 Try.underlying98 htn hi1 hi2 5 (by omega) (by omega) (by omega) (by omega)
    have hge := grownCap_ge w 5 0 TI
    have hcm := grownCap_le_maxLen w 5 0 TI (by decide)
    rw [e]
    refine ⟨_, _, hr, ?_, ?_, .inr rfl⟩
    rotate_left
    · exact ⟨rfl, rfl, rfl, by simp, fun k hk _ => heap_alloc_old w.drew _ hk⟩
    refine .inr ⟨w.heap.size, _, _, rfl, by rw [Array.toArray_toList]; exact heap_alloc_new w.drew _, by omega, hcm, hlen _ hge, fun n hn => ?_⟩
    obtain rfl : n = 0 := by omega
    rw [upd_same]; exact ⟨by simp, Seg.nil _ _⟩
  · have hsz : m * 5 * 18 ≤ cur.length := by rw [hc3]; omega
    by_cases hroom : m * 5 + 5 ≤ cap
    · have hfit : m * 5 * inf.size + (Builtin.zeroCells It.zero.val.cells 5).toList.length ≤ cur.length := by rw [hz5, hi3, hc3]; omega
      have hrun := run_append_zeros_in (P := Try.prog) w 98 TN ty TI inf It.zero.val .i64 Try.underlying98 htn hi1 hi2 g (m * 5) cap 5 (by omega) (by omega) (by omega) (by omega) cur hg (zeroI_one 5) hroom hfit
      rw [e]
      refine ⟨_, _, hrun, ?_, ⟨rfl, rfl, rfl, by simp, fun k _ hk => setRow_other w g k _ (fun e' => hk (by simp [Value.ownBlock, e']))⟩, .inl rfl⟩
      refine .inr ⟨g, cap, _, by rw [show (m + 1) * 5 = m * 5 + 5 by omega], setRow_heap w g _ _ _ _ hg, by omega, hc2, (length_splice _ _ _ hfit).trans hc3, fun n hn => ?_⟩
      by_cases c : n = m
      · subst c; rw [upd_same]; exact ⟨by simp, Seg.nil _ _⟩
      · rw [upd_other R _ c]
        have h5 := (hr n (by omega)).1
        refine ⟨h5, (hr n (by omega)).2.far hfit (.inl ?_)⟩
        rw [icells_length, hi3]; omega
    · have hold : ∀ j u, (cur.take (m * 5 * 18))[j]? = some u → w.drew.cell? ((⟨g, 0, none⟩ : Addr).add j) = some u := fun j u hj => by
        have hadd : (⟨g, 0, none⟩ : Addr).add j = ⟨g, j, none⟩ := by unfold Addr.add; split <;> simp_all
        rw [hadd]
        have hj' : cur[j]? = some u := by
          rw [List.getElem?_take] at hj
          split at hj
          · exact hj
          · cases hj
        show w.cell? ⟨g, j, none⟩ = some u
        simp [World.cell?, hg, hj']
      have hl : (cur.take (m * 5 * 18)).length = m * 5 * inf.size := by rw [List.length_take, hi3]; omega
      have hf := run_firstCells_some (P := Try.prog) w.drew inf.size (m * 5) ⟨g, 0, none⟩ (m * 5) cap (cur.take (m * 5 * 18)) hl hold
      have hrun := Lib.run_append_grow_zeros (P := Try.prog) w 98 TN ty TI inf It.zero.val .i64 .i64 Try.underlying98 htn hi1 hi2 (some ⟨g, 0, none⟩) (m * 5) cap (cur.take (m * 5 * 18)) hf 5 (by omega) (by omega) (by omega) (by omega) (by omega) (growslice_fits (by omega) (by rw [hi4]; omega))
      have hge := grownCap_ge w (m * 5 + 5) cap TI
      have hcm := grownCap_le_maxLen w (m * 5 + 5) cap TI (by unfold maxLen; omega)
      rw [e]
      refine ⟨_, _, hrun, ?_, ?_, .inr rfl⟩
      rotate_left
      · exact ⟨rfl, rfl, rfl, by simp, fun k hk _ => heap_alloc_old w.drew _ hk⟩
      refine .inr ⟨w.heap.size, _, (cur.take (m * 5 * 18)) ++ ((Builtin.zeroCells It.zero.val.cells 5).toList ++ (Builtin.zeroCells It.zero.val.cells (grownCap w (m * 5 + 5) cap TI - (m * 5 + 5))).toList), by rw [show (m + 1) * 5 = m * 5 + 5 by omega], ?_, by omega, hcm, ?_, fun n hn => ?_⟩
      · refine (heap_alloc_new w.drew _).trans ?_
        congr 2
        apply Array.toList_inj.1
        simp
      · rw [List.length_append, List.length_append, zeroI_length, zeroI_length, hl, hi3]; omega
      · by_cases c : n = m
        · subst c; rw [upd_same]; exact ⟨by simp, Seg.nil _ _⟩
        · rw [upd_other R _ c]
          have h5 := (hr n (by omega)).1
          refine ⟨h5, fun j u hj => ?_⟩
          have hj2 := (List.getElem?_eq_some_iff.1 hj).1
          rw [icells_length] at hj2
          rw [List.getElem?_append_left (by rw [hl, hi3]; omega), List.getElem?_take, if_pos (by omega)]
          exact (hr n (by omega)).2 j u hj
end
end Go.Proofs.Ytafkpfhhmmnpeaa.Val
/- What the tree's remove, give and take do. -/
namespace Go.Proofs.Ytafkpfhhmmnpeaa.Val
open Go Go.RowKit
set_option maxRecDepth 100000

theorem slice_hiN (w : World) (g o L c hi : Nat) (y : Int) (hy : y = hi) (h2 : hi ≤ c) :
    (Instr.slice 99 (.slice (some ⟨g, o, none⟩) L c) none (some (.int .i64 y)) none).run Try.prog w = .ok (.slice (some ⟨g, o, none⟩) hi c) w := by
  subst hy
  simp [Instr.slice, Instr.sliceBounds, Instr.sliceBound, run_underlying Try.underlying99, asIntOf, h2, Addr.add_lit]
theorem info_N : ∃ i, Try.prog.info? TN = some i ∧ i.zero = some (.int .i64 0) ∧ i.size = 1 ∧ i.bytes = 8 := ⟨_, rfl, rfl, rfl, rfl⟩
theorem fcells_more (F : Nat → Nat) (m q : Nat) : fcells F m ++ [.int .i64 (q : Int)] = fcells (upd F m q) (m + 1) := by
  unfold fcells
  rw [List.range_succ, List.map_append]
  congr 1
  · refine List.map_congr_left fun x hx => ?_
    have := List.mem_range.1 hx
    rw [upd_other F q (by omega)]
  · simp [upd]
theorem ncells_more (l : List Nat) (n : Nat) : ncells l ++ [.int .i64 (n : Int)] = ncells (l ++ [n]) := by simp
theorem owns_less {w : World} {v : Value} {l : List Nat} {n : Nat} (h : w.ownsRow 0 TN 1 v (l ++ [n]).length (ncells (l ++ [n]))) : ∃ g cap, v = .slice (some ⟨g, 0, none⟩) (l.length + 1) cap ∧ l.length + 1 ≤ cap ∧ cap ≤ maxLen ∧ w.cell? ⟨g, l.length, none⟩ = some (.int .i64 n) ∧ w.ownsRow 0 TN 1 (.slice (some ⟨g, 0, none⟩) l.length cap) l.length (ncells l) := by
  rcases h.2 with ⟨_, h0⟩ | ⟨g, cap, cur, e, hb, hg, hc, hm, hs, ht⟩
  · simp at h0
  · have hl : (l ++ [n]).length = l.length + 1 := by simp
    rw [hl] at e hc ht
    refine ⟨g, cap, e, hc, hm, ?_, ⟨by simp, .inr ⟨g, cap, cur, rfl, hb, hg, by omega, hm, hs, ?_⟩⟩⟩
    · have := h
      rw [e, hl] at this
      rw [World.ownsRow.cellAt this l.length (by omega)]
      simp
    · have := congrArg (List.take l.length) ht
      rw [List.take_take] at this
      simpa using this

section
variable {w : World} {h : Hd} {R : Nat → List It} {m : Nat} {fr : List Nat} {root dep cnt : Nat}
set_option maxHeartbeats 4000000 in
theorem remove_any (t : TL w h R m fr root dep cnt) (n i j : Nat) (hn : n < m) (hij : i ≤ j) (hj : j ≤ (R n).length) :
    Calls Try.prog 67 #[.pointer (some ⟨h.p, 0, none⟩), .int .i64 n, .int .i64 i, .int .i64 j] w fun e w' =>
      e = .returned (.tuple #[]) ∧ TL w' h (upd R n (delR (R n) i j)) m fr root dep cnt ∧ Mv w h w' h := by
  obtain ⟨g, cap, cur, hav, _⟩ := t.arenaAt (by omega)
  obtain ⟨gf, cf, hfv, _, _, _, hmx⟩ := t.fillAt n hn
  have H1 : Hid (∀ w1, Below w.heap.size w w1 → Calls Try.prog 53 #[.pointer (some ⟨h.p, 0, none⟩), .int .i64 n] w1 fun e w' => e = .returned (.slice (some ⟨g, n * 90, none⟩) (R n).length 5) ∧ Below w1.heap.size w1 w') :=
    fun w1 hb => row_any (t.below hb) n hn (t.len5 n hn) g cap hav
  have H2 : Hid (∀ w1, Below w.heap.size w w1 → Calls Try.prog 78 #[.slice (some ⟨g, n * 90, none⟩) (R n).length 5, .int .i64 i, .int .i64 j] w1 fun e w' =>
      e = .returned (.slice (some ⟨g, n * 90, none⟩) (i + ((R n).length - j)) 5) ∧ TM w' h (upd R n (delR (R n) i j)) (fun x => (R x).length) m fr root dep cnt ∧ Mv w1 h w' h) := fun w1 hb => delete_any (t.below hb) n i j hn hij hj g cap hav
  have FX : Hid (∀ w' R' F', TM w' h R' F' m fr root dep cnt → w'.cell? ⟨h.p, 1, none⟩ = some (.slice (some ⟨gf, 0, none⟩) m cf)) := fun w' R' F' ht => by
    obtain ⟨_, k1, _⟩ := ht.c
    rw [hfv] at k1
    exact k1
  have FY : Hid (∀ w' R', TM w' h R' (fun n => (R n).length) m fr root dep cnt → w'.cell? ⟨gf, n, none⟩ = some (.int .i64 (R n).length) ∧ w'.frozen? ⟨gf, n, none⟩ = false) := fun w' R' ht => by
    obtain ⟨g1, c1, e1, k2, k3, _, _⟩ := ht.fillAt n hn
    rw [hfv] at e1
    cases e1
    exact ⟨k2, k3⟩
  have W : Hid (∀ w4, TM w4 h (upd R n (delR (R n) i j)) (fun n => (R n).length) m fr root dep cnt → TL (w4.setCell ⟨gf, n, none⟩ (.int .i64 ((i + ((R n).length - j) : Nat) : Int))) h (upd R n (delR (R n) i j)) m fr root dep cnt ∧ Mv w4 h (w4.setCell ⟨gf, n, none⟩ (.int .i64 ((i + ((R n).length - j) : Nat) : Int))) h) := fun w4 h1 => by
    obtain ⟨k1, k3⟩ := h1.fillSet gf cf hfv n (i + ((R n).length - j))
    refine ⟨?_, k3⟩
    rw [← delR_length (R n) i j hij hj, ← upd_length] at k1
    rw [← delR_length (R n) i j hij hj]
    exact k1
  have T0 : Hid (TL w h R m fr root dep cnt) := t
  clear t hav hfv hij hj
  generalize delR (R n) i j = del at *
  generalize hL : (R n).length = L at *
  clear hL
  generalize i + (L - j) = Q at *
  have n0 : (0 : Int) ≤ (n : Int) := by omega
  have n1 : (n : Int) < (m : Int) := by omega
  go_enter Try.func67, Try.ntmps67
  go_wp2_with fail
  refine wp_region_held_drew (S := fun w' => w'.cell? ⟨h.p, 1, none⟩ = some (.slice (some ⟨gf, 0, none⟩) m cf)) (by kernel_rfl) ?_ (fun hHeld => ?_)
  · exact FX.out _ _ _ (T0.out.below (Below.refl _ _).drew)
  (try clear hK K)
  refine wpAnyH_take (i := 0) (v := ?_) rfl (by kernel_rfl) (by kernel_rfl) (by kernel_rfl) (fun _ _ _ h => h) (Or.inl ⟨by rfl, ?_⟩) (by assumption) ?_
  rotate_left
  · intro w hSw; (try dsimp only at hSw); go_simp; (try with_reducible rfl)
  (try simp only [Act.put, List.getElem_toArray, List.getElem_cons_zero, List.setIfInBounds_toArray, List.set_cons_zero, List.set_cons_succ])
  refine wpAnyH_take (i := 1) (v := ?_) rfl (by kernel_rfl) (by kernel_rfl) (by kernel_rfl) (fun _ _ _ h => h) (Or.inl ⟨by rfl, ?_⟩) (by assumption) ?_
  rotate_left
  · intro w hSw; (try dsimp only at hSw); go_simp; (try with_reducible rfl)
  (try simp only [Act.put, List.getElem_toArray, List.getElem_cons_succ, List.getElem_cons_zero, List.setIfInBounds_toArray, List.set_cons_zero, List.set_cons_succ])
  refine wpAnyH_take (i := 2) (v := ?_) rfl (by kernel_rfl) (by kernel_rfl) (by kernel_rfl) (fun _ _ _ h => h) (Or.inl ⟨by rfl, ?_⟩) (by assumption) ?_
  rotate_left
  · intro w hSw; (try dsimp only at hSw); go_simp; (try with_reducible rfl)
  (try simp only [Act.put, List.getElem_toArray, List.getElem_cons_succ, List.getElem_cons_zero, List.setIfInBounds_toArray, List.set_cons_zero, List.set_cons_succ])
  refine wpAnyH_take (i := 3) (v := ?_) rfl (by kernel_rfl) (by kernel_rfl) (by kernel_rfl) (fun _ _ _ h => h) (Or.inl ⟨by rfl, ?_⟩) (by assumption) ?_
  rotate_left
  · intro w hSw; (try dsimp only at hSw); go_simp; (try with_reducible rfl)
  (try simp only [Act.put, List.getElem_toArray, List.getElem_cons_succ, List.getElem_cons_zero, List.setIfInBounds_toArray, List.set_cons_zero, List.set_cons_succ])
  refine wpAnyH_take (i := 4) (v := ?_) rfl (by kernel_rfl) (by kernel_rfl) (by kernel_rfl) (fun _ _ _ h => h) (Or.inl ⟨by rfl, ?_⟩) (by assumption) ?_
  rotate_left
  · intro w hSw; (try dsimp only at hSw); go_simp; (try with_reducible rfl)
  (try simp only [Act.put, List.getElem_toArray, List.getElem_cons_succ, List.getElem_cons_zero, List.setIfInBounds_toArray, List.set_cons_zero, List.set_cons_succ])
  refine wpAnyH_take (i := 5) (v := ?_) rfl (by kernel_rfl) (by kernel_rfl) (by kernel_rfl) (fun _ _ _ h => h) (Or.inl ⟨by rfl, ?_⟩) (by assumption) ?_
  rotate_left
  · intro w hSw; (try dsimp only at hSw); go_simp; (try with_reducible rfl)
  (try simp only [Act.put, List.getElem_toArray, List.getElem_cons_succ, List.getElem_cons_zero, List.setIfInBounds_toArray, List.set_cons_zero, List.set_cons_succ])
  refine wpAnyH_take (i := 6) (v := ?_) rfl (by kernel_rfl) (by kernel_rfl) (by kernel_rfl) (fun _ _ _ h => h) (Or.inl ⟨by rfl, ?_⟩) (by assumption) ?_
  rotate_left
  · intro w hSw; (try dsimp only at hSw); go_simp; (try with_reducible rfl)
  (try simp only [Act.put, List.getElem_toArray, List.getElem_cons_succ, List.getElem_cons_zero, List.setIfInBounds_toArray, List.set_cons_zero, List.set_cons_succ])
  refine wpAnyH_take (i := 8) (v := ?_) rfl (by kernel_rfl) (by kernel_rfl) (by kernel_rfl) (fun _ _ _ h => h) (Or.inl ⟨by rfl, ?_⟩) (by assumption) ?_
  rotate_left
  · intro w hSw; (try dsimp only at hSw); go_simp; (try with_reducible rfl)
  (try simp only [Act.put, List.getElem_toArray, List.getElem_cons_succ, List.getElem_cons_zero, List.setIfInBounds_toArray, List.set_cons_zero, List.set_cons_succ])
  refine wpAnyH_take (i := 9) (v := ?_) rfl (by kernel_rfl) (by kernel_rfl) (by kernel_rfl) (fun _ _ _ h => h) (Or.inl ⟨by rfl, ?_⟩) (by assumption) ?_
  rotate_left
  · intro w hSw; (try dsimp only at hSw); go_simp; (try with_reducible rfl)
  (try simp only [Act.put, List.getElem_toArray, List.getElem_cons_succ, List.getElem_cons_zero, List.setIfInBounds_toArray, List.set_cons_zero, List.set_cons_succ])
  (try clear hK K)
  refine wpAnyH_ready (rs := [7]) (by kernel_rfl) (by simp) ?_
  refine AllReadyH.cons rfl (fun K hK => ?_) AllReadyH.nil
  go_simp
  (refine Calls.mono (H1.out _ (Below.refl _ _).drew) ?_; rintro e w1 ⟨rfl, hb⟩)
  refine hK.out _ _ ?_ (fun hHeld => ?_)
  · exact FX.out _ _ _ (T0.out.below ((Below.refl _ _).drew.trans hb))
  have HB : Hid (Below w.heap.size w w1) := (Below.refl _ _).drew.trans hb
  clear hb H1
  (try clear hK K)
  refine wpAnyH_ready (rs := [10]) (by kernel_rfl) (by simp) ?_
  refine AllReadyH.cons rfl (fun K hK => ?_) AllReadyH.nil
  go_simp
  (refine Calls.mono (H2.out _ HB.out) ?_; rintro e w2 ⟨rfl, hT, hM⟩)
  refine hK.out _ _ ?_ (fun hHeld => ?_)
  · exact FX.out _ _ _ hT
  have HT : Hid (TM w2 h (upd R n del) (fun x => (R x).length) m fr root dep cnt ∧ Mv w h w2 h) := ⟨hT, (Mv.of HB.out).trans hM⟩
  obtain ⟨y1, y2⟩ := FY.out _ _ hT
  clear hT hM H2 HB T0
  (try clear hK K)
  refine wpAnyH_take (i := 11) (v := ?_) rfl (by kernel_rfl) (by kernel_rfl) (by kernel_rfl) (fun _ _ _ h => h) (Or.inl ⟨by rfl, ?_⟩) (by assumption) ?_
  rotate_left
  · intro w hSw; (try dsimp only at hSw); go_simp; (try with_reducible rfl)
  (try simp only [Act.put, List.getElem_toArray, List.getElem_cons_succ, List.getElem_cons_zero, List.setIfInBounds_toArray, List.set_cons_zero, List.set_cons_succ])
  refine wpAnyH_take (i := 12) (v := ?_) rfl (by kernel_rfl) (by kernel_rfl) (by kernel_rfl) (fun _ _ _ h => h) (Or.inl ⟨by rfl, ?_⟩) (by assumption) ?_
  rotate_left
  · intro w hSw; (try dsimp only at hSw); go_simp; (try with_reducible rfl)
  (try simp only [Act.put, List.getElem_toArray, List.getElem_cons_succ, List.getElem_cons_zero, List.setIfInBounds_toArray, List.set_cons_zero, List.set_cons_succ])
  (try clear hK K)
  refine wpAnyH_ready (rs := [13]) (by kernel_rfl) (by simp) ?_
  refine AllReadyH.cons rfl (fun K hK => ?_) AllReadyH.nil
  go_simp
  refine hK.out _ _ ?_ (fun hHeld => ?_)
  · exact FX.out _ _ _ (W.out w2 HT.out.1).1
  have HE : Hid _ := W.out w2 HT.out.1
  (try clear hK K)
  refine wpAnyH_done (by kernel_rfl) ?_ _
  go_wp2_with fail
  go_end0
  exact ⟨rfl, HE.out.1, HT.out.2.trans HE.out.2⟩
end
end Go.Proofs.Ytafkpfhhmmnpeaa.Val
/- What the tree's give and take do. -/
namespace Go.Proofs.Ytafkpfhhmmnpeaa.Val
open Go Go.RowKit
set_option maxRecDepth 100000

theorem one_new (w : World) (v : Value) (t : TypeId) : ∀ j u, [v][j]? = some u → (w.alloc (.cells #[v] t (0, 0))).cell? ((⟨w.heap.size, 0, none⟩ : Addr).add j) = some u := fun j u hj => by
  match j, hj with
  | 0, hj => simp at hj; subst hj; simp [Addr.add, go_sem]
  | j + 1, hj => simp at hj
theorem owns_slice {w : World} {e : TypeId} {size n base : Nat} {v : Value} {xs : List Value} (h : w.ownsRow base e size v n xs) : ∃ a c, v = .slice a n c := by
  rcases h.2 with ⟨e, h0⟩ | ⟨g, cap, cur, e, _⟩
  · exact ⟨none, 0, by rw [e, h0]⟩
  · exact ⟨_, _, e⟩
theorem arena_slice {w : World} {v : Value} {R : Nat → List It} {m : Nat} (h : Arena w v R m) : ∃ a c, v = .slice a (m * 5) c := by
  rcases h with ⟨e, h0⟩ | ⟨g, cap, cur, e, _⟩
  · exact ⟨none, 0, by rw [e, h0]⟩
  · exact ⟨_, _, e⟩
section
variable {w : World} {h : Hd} {R : Nat → List It} {m : Nat} {fr : List Nat} {root dep cnt : Nat}
set_option maxHeartbeats 4000000 in
theorem give_any (t : TL w h R m fr root dep cnt) (n : Nat) (hn : n < m) (hm : fr.length ≤ 1000000) :
    Calls Try.prog 77 #[.pointer (some ⟨h.p, 0, none⟩), .int .i64 n] w fun e w' =>
      e = .returned (.tuple #[]) ∧ ∃ h', TL w' h' (upd R n []) m (fr ++ [n]) root dep cnt ∧ Mv w h w' h' := by
  obtain ⟨gf, cf, hfv, cl, _, _, hmx⟩ := t.fillAt n hn
  obtain ⟨inf, hi1, hi2, hi3, hi4⟩ := info_N
  obtain ⟨_, c1, _⟩ := t.c
  rw [hfv] at c1
  have H1 : Hid (Calls Try.prog 67 #[.pointer (some ⟨h.p, 0, none⟩), .int .i64 n, .int .i64 (0 : Nat), .int .i64 (R n).length] w fun e w' =>
      e = .returned (.tuple #[]) ∧ TL w' h (upd R n (delR (R n) 0 (R n).length)) m fr root dep cnt ∧ Mv w h w' h) := remove_any t n 0 (R n).length hn (Nat.zero_le _) (Nat.le_refl _)
  have hd : delR (R n) 0 (R n).length = [] := by simp [delR]
  rw [hd] at H1
  clear t hfv hd
  generalize (R n).length = L at *
  have n0 : (0 : Int) ≤ (n : Int) := by omega
  have n1 : (n : Int) < (m : Int) := by omega
  go_enter Try.func77, Try.ntmps77
  go_wp2_with fail
  refine Calls.mono H1.out ?_
  rintro e w1 ⟨rfl, hT, hM⟩
  obtain ⟨_, _, d2, _⟩ := hT.c
  have hp := (Array.getElem?_eq_some_iff.1 hT.box).1
  have HT : Hid (TL w1 h (upd R n []) m fr root dep cnt ∧ Mv w h w1 h) := ⟨hT, hM⟩
  obtain ⟨ra, rc, er⟩ := owns_slice hT.free
  rw [er] at d2
  have HR : Hid (h.rv = .slice ra fr.length rc) := er
  clear hT hM H1 c1 cl er
  go_wp2_with (at_builtin; refine wpList_append_own_at _ rfl _ _ _ rfl 0 TN inf _ 1 8 Try.underlying99 hi1 hi2 hi3 hi4 rfl (by decide) (.slice ra fr.length rc) fr.length (ncells fr) rfl (by rw [← HR.out]; exact HT.out.1.free.alloc _) ⟨w1.heap.size, 0, none⟩ 1 1 [.int .i64 n] rfl rfl (one_new w1 _ _) (by simp [Value.oneCell']) (by unfold maxLen; omega) (by omega) (Nat.zero_le _) ?_)
  intro v w2 hown hgrow _ hat
  rw [← HR.out] at hgrow hat
  rw [ncells_more, (by simp : fr.length + 1 = (fr ++ [n]).length)] at hown
  have HS : Hid _ := (HT.out.1.below (alloc1 w1 _)).setFree v (fr ++ [n]) hgrow hown (by simpa using hat)
  have x1 : w2.cell? ⟨h.p, 2, none⟩ = some (.slice ra fr.length rc) ∧ w2.frozen? ⟨h.p, 2, none⟩ = false := by
    have hs := sv_grown hgrow
    have ht := HT.out.1.below (alloc1 w1 (.cells #[.int .i64 n] TN (0, 0)))
    have hl := (Array.getElem?_eq_some_iff.1 ht.box).1
    exact ⟨by rw [hs.cell hl (fun e => ht.rp e.symm), ← HR.out]; exact ht.c.2.2.1, by rw [hs.frozen hl (fun e => ht.rp e.symm)]; exact ht.open 2⟩
  obtain ⟨x1, x2⟩ := x1
  obtain ⟨gv, cv, ev⟩ : ∃ g c, v = .slice (some ⟨g, 0, none⟩) (fr ++ [n]).length c := by
    rcases hown.2 with ⟨_, h0⟩ | ⟨g, cap, cur, e, _⟩
    · simp at h0
    · exact ⟨g, cap, e⟩
  clear hown hgrow hat d2
  rw [(by simp : (fr ++ [n]).length = fr.length + 1)] at ev
  subst ev
  go_wp2_with fail
  go_end0
  exact ⟨rfl, _, HS.out.1, HT.out.2.trans ((Mv.of (alloc1 w1 _)).trans HS.out.2)⟩
set_option maxHeartbeats 4000000 in
theorem take_old (n : Nat) (t : TL w h R m (fr ++ [n]) root dep cnt) :
    Calls Try.prog 60 #[.pointer (some ⟨h.p, 0, none⟩)] w fun e w' =>
      e = .returned (.int .i64 n) ∧ ∃ h', TL w' h' R m fr root dep cnt ∧ Mv w h w' h' := by
  obtain ⟨g, cap, hrv, hc1, hc2, hcl, hown⟩ := owns_less t.free
  obtain ⟨_, _, c2, _⟩ := t.c
  have c2f := t.open 2
  have HS : Hid _ := t.setFree (w1 := w) (.slice (some ⟨g, 0, none⟩) fr.length cap) fr ⟨rfl, rfl, rfl, Nat.le_refl _, fun _ _ _ => rfl⟩ hown (.inl (by rw [hrv]; rfl))
  rw [hrv] at c2
  clear t hrv hown
  unfold maxLen at hc2
  generalize fr.length = L at *
  have n0 : (0 : Int) ≤ (L : Int) := by omega
  have n1 : (L : Int) < ((L + 1 : Nat) : Int) := by omega
  have n2 : ((L + 1 : Nat) : Int) - 1 = (L : Int) := by omega
  have n3 : (L : Int) < (L : Int) + 1 := by omega
  have n4 : (L : Int) + 1 - 1 = (L : Int) := by omega
  have n5 : IntKind.i64.wrap (L : Int) = (L : Int) := by rw [IntKind.wrap_i64]; omega
  have hs : ∀ w', (Instr.slice 99 (.slice (some ⟨g, 0, none⟩) (L + 1) cap) none (some (.int .i64 (L : Int))) none).run Try.prog w' = .ok (.slice (some ⟨g, 0, none⟩) L cap) w' := fun w' => slice_hiN w' g 0 (L + 1) cap L _ rfl (by omega)
  go_enter Try.func60, Try.ntmps60
  go_wp2_with fail
  go_ret
  exact ⟨rfl, _, HS.out⟩
set_option maxHeartbeats 4000000 in
theorem take_new (t : TL w h R m [] root dep cnt) (hm : m ≤ 1000000) :
    Calls Try.prog 60 #[.pointer (some ⟨h.p, 0, none⟩)] w fun e w' =>
      e = .returned (.int .i64 m) ∧ ∃ h', TL w' h' (upd R m []) (m + 1) [] root dep cnt ∧ Mv w h w' h' := by
  obtain ⟨inf, hi1, hi2, hi3, hi4⟩ := info_N
  obtain ⟨c0, c1, c2, _⟩ := t.c
  obtain ⟨ra, rc, er⟩ := owns_slice t.free
  obtain ⟨fa, fc, ef⟩ := owns_slice t.fill
  obtain ⟨aa, ac, ea'⟩ := arena_slice t.arena
  obtain ⟨va, w1, hrun, harena, hga, hata⟩ := t.moreArena hm 98
  obtain ⟨ga, ca, ea⟩ : ∃ g c, va = .slice (some ⟨g, 0, none⟩) ((m + 1) * 5) c := by
    rcases harena with ⟨_, h0⟩ | ⟨g, cap, cur, e, _⟩
    · omega
    · exact ⟨g, cap, e⟩
  subst ea
  generalize (m + 1) * 5 = m5 at *
  obtain ⟨va, hva⟩ : ∃ va, va = Value.slice (some ⟨ga, 0, none⟩) m5 ca := ⟨_, rfl⟩
  rw [← hva] at harena hata
  obtain ⟨k1, k2⟩ := t.setArena va (upd R m []) (m + 1) hga harena hata
  have T1 : Hid (TMx (w1.setCell ⟨h.p, 0, none⟩ va) { h with av := va } (upd R m []) (fun n => (R n).length) (m + 1) m [] root dep cnt ∧ Mv w h (w1.setCell ⟨h.p, 0, none⟩ va) { h with av := va }) := ⟨k1, k2⟩
  have hpw := (Array.getElem?_eq_some_iff.1 t.box).1
  have x0 : w1.cell? ⟨h.p, 0, none⟩ = some h.av := by rw [(sv_grown hga).cell hpw (fun e => t.ap e.symm)]; exact c0
  have x1 : w1.frozen? ⟨h.p, 0, none⟩ = false := by rw [(sv_grown hga).frozen hpw (fun e => t.ap e.symm)]; exact t.open 0
  obtain ⟨_, y1, _⟩ := k1.c
  have TW : Hid (∀ (v : Value) (w3 : World), w3.ownsRow 0 TN 1 v (m + 1) (fcells (fun n => (R n).length) m ++ [.int .i64 0]) → ((w1.setCell ⟨h.p, 0, none⟩ va).alloc (.cells #[.int .i64 0] TN (0, 0))).grownBy w3 h.fv.ownBlock → (v.ownBlock = h.fv.ownBlock ∨ v.ownBlock = some ((w1.setCell ⟨h.p, 0, none⟩ va).alloc (.cells #[.int .i64 0] TN (0, 0))).heap.size) →
      w3.cell? ⟨h.p, 1, none⟩ = some h.fv ∧ w3.frozen? ⟨h.p, 1, none⟩ = false ∧ TL (w3.setCell ⟨h.p, 1, none⟩ v) ⟨h.p, va, v, h.rv⟩ (upd R m []) (m + 1) [] root dep cnt ∧ Mv w h (w3.setCell ⟨h.p, 1, none⟩ v) ⟨h.p, va, v, h.rv⟩) := fun v w3 ho hg hat => by
    have ht := T1.out.1.below (alloc1 _ (.cells #[.int .i64 0] TN (0, 0)))
    have hl := (Array.getElem?_eq_some_iff.1 ht.box).1
    have hs := sv_grown hg
    have he : fcells (fun n => (R n).length) m ++ [.int .i64 0] = fcells (fun x => (upd R m [] x).length) (m + 1) := by
      rw [upd_length]
      exact fcells_more _ m 0
    rw [he] at ho
    obtain ⟨z1, z2⟩ := ht.setFill v (fun x => (upd R m [] x).length) (m + 1) hg ho hat
    exact ⟨by rw [hs.cell hl (fun e => ht.fp e.symm)]; exact ht.c.2.1, by rw [hs.frozen hl (fun e => ht.fp e.symm)]; exact ht.open 1, z1, T1.out.2.trans ((Mv.of (alloc1 _ _)).trans z2)⟩
  have TF : Hid (∀ (v : Value) (w3 : World), w3.ownsRow 0 TN 1 v (m + 1) (fcells (fun n => (R n).length) m ++ [.int .i64 0]) → ∃ g c, v = .slice (some ⟨g, 0, none⟩) (m + 1) c) := fun v w3 ho => by
    rcases ho.2 with ⟨_, h0⟩ | ⟨g, cap, cur, e, _⟩
    · omega
    · exact ⟨g, cap, e⟩
  clear t k1 k2 harena hga hata c1
  subst hva
  have n2 : ((m + 1 : Nat) : Int) - 1 = (m : Int) := by omega
  have n4 : (m : Int) + 1 - 1 = (m : Int) := by omega
  rw [er] at c2
  rw [ef] at y1
  rw [ea'] at c0 hrun x0
  have HF : Hid (h.fv = .slice fa m fc) := ef
  clear er ef ea'
  go_enter Try.func60, Try.ntmps60
  have HN : Hid (∀ j u, [Value.int .i64 0][j]? = some u → ((w1.setCell ⟨h.p, 0, none⟩ (.slice (some ⟨ga, 0, none⟩) m5 ca)).alloc (.cells #[.int .i64 0] TN (0, 0))).cell? ((⟨w1.heap.size, 0, none⟩ : Addr).add j) = some u) := fun j u hj => by
    have := one_new (w1.setCell ⟨h.p, 0, none⟩ (.slice (some ⟨ga, 0, none⟩) m5 ca)) (.int .i64 0) TN j u hj
    rwa [World.size_setCell] at this
  go_wp2_with (first | (at_builtin; refine wpList_append_known rfl _ _ _ _ rfl _ _ rfl rfl _ _ hrun ?_) | (at_builtin; refine wpList_append_own_at _ rfl _ _ _ rfl 0 TN inf _ 1 8 Try.underlying99 hi1 hi2 hi3 hi4 rfl (by decide) (.slice fa m fc) m (fcells (fun n => (R n).length) m) rfl (by rw [← HF.out]; exact T1.out.1.fill.alloc _) ⟨w1.heap.size, 0, none⟩ 1 1 [.int .i64 0] rfl rfl HN.out (by simp [Value.oneCell']) (by unfold maxLen; omega) (by omega) (Nat.zero_le _) ?_))
  intro v w3 hown hgrow _ hat
  rw [← HF.out] at hgrow hat
  obtain ⟨z1, z2, z3, z4⟩ := TW.out v w3 hown hgrow (by simpa using hat)
  rw [HF.out] at z1
  obtain ⟨gv, cv, ev⟩ := TF.out v w3 hown
  have HZ : Hid (TL (w3.setCell ⟨h.p, 1, none⟩ v) ⟨h.p, (.slice (some ⟨ga, 0, none⟩) m5 ca), v, h.rv⟩ (upd R m []) (m + 1) [] root dep cnt ∧ Mv w h (w3.setCell ⟨h.p, 1, none⟩ v) ⟨h.p, (.slice (some ⟨ga, 0, none⟩) m5 ca), v, h.rv⟩) := ⟨z3, z4⟩
  clear hown hgrow hat z3 z4 TW TF T1 hrun
  subst ev
  go_wp2_with fail
  go_ret
  exact ⟨rfl, _, HZ.out⟩
end
end Go.Proofs.Ytafkpfhhmmnpeaa.Val
/- What the tree's take, split and join do. -/
namespace Go.Proofs.Ytafkpfhhmmnpeaa.Val
open Go Go.RowKit
set_option maxRecDepth 100000

/-- The node that is taken, and how many there are then. -/
def tkN (m : Nat) (fr : List Nat) : Nat := fr.getLast?.getD m
def tkM (m : Nat) (fr : List Nat) : Nat := if fr.isEmpty then m + 1 else m
theorem upd_self {α : Type} (R : Nat → α) (n : Nat) : upd R n (R n) = R := by funext x; unfold upd; split <;> simp_all
theorem upd_swap {α : Type} (R : Nat → α) {a b : Nat} (x y : α) (h : a ≠ b) : upd (upd R a x) b y = upd (upd R b y) a x := by
  funext z; unfold upd; split <;> split <;> simp_all
theorem insR_nil (l : List It) : insR [] 0 l = l := by simp [insR]
theorem tkN_cases (m : Nat) (fr : List Nat) : (fr = [] ∧ tkN m fr = m ∧ tkM m fr = m + 1) ∨ (fr = fr.dropLast ++ [tkN m fr] ∧ tkM m fr = m) := by
  rcases List.eq_nil_or_concat fr with rfl | ⟨l, n, rfl⟩
  · exact .inl ⟨rfl, rfl, rfl⟩
  · refine .inr ⟨?_, ?_⟩
    · simp [tkN]
    · simp [tkM]
section
variable {w : World} {h : Hd} {R : Nat → List It} {m : Nat} {fr : List Nat} {root dep cnt : Nat}
theorem take_any (t : TL w h R m fr root dep cnt) (hm : m ≤ 1000000) (he : ∀ x ∈ fr, R x = []) :
    Calls Try.prog 60 #[.pointer (some ⟨h.p, 0, none⟩)] w fun e w' =>
      e = .returned (.int .i64 (tkN m fr)) ∧ ∃ h', TL w' h' (upd R (tkN m fr) []) (tkM m fr) fr.dropLast root dep cnt ∧ Mv w h w' h' := by
  rcases tkN_cases m fr with ⟨rfl, e1, e2⟩ | ⟨e1, e2⟩
  · rw [e1, e2]; exact take_new t hm
  · generalize tkN m fr = n at *
    generalize fr.dropLast = l at *
    subst e1
    rw [e2, ← he n (by simp), upd_self]; exact take_old n t
theorem row_now {w1 : World} (t : TL w h R m fr root dep cnt) (n : Nat) (hn : n < m) : ∃ g cap, h.av = .slice (some ⟨g, 0, none⟩) (m * 5) cap ∧ RowAt w g (n * 90) (R n) ∧ (Below w.heap.size w w1 → Calls Try.prog 53 #[.pointer (some ⟨h.p, 0, none⟩), .int .i64 n] w1 fun e w' => e = .returned (.slice (some ⟨g, n * 90, none⟩) (R n).length 5) ∧ Below w1.heap.size w1 w') := by
  obtain ⟨g, cap, cur, hav, _⟩ := t.arenaAt (by omega)
  exact ⟨g, cap, hav, t.rowAt g _ cap hav n hn, fun hb => row_any (t.below hb) n hn (t.len5 n hn) g cap hav⟩
theorem RowAt.drop {w : World} {b o : Nat} {r : List It} (h : RowAt w b o r) (i : Nat) (hi : i ≤ r.length) : RowAt w b (o + i * 18) (r.drop i) := fun j u hj => by
  rw [Nat.add_assoc]
  refine h _ _ ?_
  rw [app_take_drop r i, List.getElem?_append_right (by rw [icells_length]; simp; omega), icells_length]
  simpa [Nat.min_eq_left hi] using hj
/-- The rows behind a split. -/
def splitR (R : Nat → List It) (at_ place c n : Nat) (k : Val) : Nat → List It :=
  upd (upd (upd R n ((R c).drop 2)) c ((R c).take 2)) at_ (insR (R at_) (place + 1) [⟨k, Pl.zero, n⟩])
theorem slice_two (w : World) (g o L : Nat) (h1 : 2 ≤ L) :
    (Instr.slice 98 (.slice (some ⟨g, o, none⟩) L 5) (some (.int .i64 2)) none none).run Try.prog w = .ok (.slice (some ⟨g, o + 2 * 18, none⟩) (L - 2) 3) w := slice_lo w g o L 5 2 2 rfl h1
theorem item_new (w : World) (x : It) (t : TypeId) : RowAt (w.alloc (.cells #[.bool x.k.t, .int .i64 x.k.n, .string x.k.s, .bool x.v.a.t, .int .i64 x.v.a.n, .string x.v.a.s, .bool x.v.b.t, .int .i64 x.v.b.n, .string x.v.b.s, .bool x.v.c.t, .int .i64 x.v.c.n, .string x.v.c.s, .bool x.v.d.t, .int .i64 x.v.d.n, .string x.v.d.s, .int .i64 x.v.w, .int .i64 x.v.m, .int .i64 x.d] t (0, 0))) w.heap.size 0 [x] := by
  refine RowAt.seg (cur := x.cells) (t := t) (heap_alloc_new _ _) fun j u hj => ?_
  simpa [icells] using hj
set_option maxHeartbeats 8000000 in
theorem split_any (t : TL w h R m fr root dep cnt) (hm : m ≤ 1000000) (he : ∀ x ∈ fr, x < m ∧ R x = []) (a p c : Nat) (ha : a < m) (x : It) (hx : (R a)[p]? = some x) (hxd : x.d = c) (hc : c < m) (hac : a ≠ c) (hfa : a ∉ fr) (hfc : c ∉ fr) (h4 : (R a).length ≤ 4)
    (y : It) (ys : List It) (hy : (R c).drop 2 = y :: ys) :
    Calls Try.prog 76 #[.pointer (some ⟨h.p, 0, none⟩), .int .i64 a, .int .i64 p] w fun e w' =>
      e = .returned (.tuple #[]) ∧ ∃ h', TL w' h' (splitR R a p c (tkN m fr) y.k) (tkM m fr) fr.dropLast root dep cnt ∧ Mv w h w' h' := by
  have H0 : Hid (Calls Try.prog 60 #[.pointer (some ⟨h.p, 0, none⟩)] w fun e w' => e = .returned (.int .i64 (tkN m fr)) ∧ ∃ h', TL w' h' (upd R (tkN m fr) []) (tkM m fr) fr.dropLast root dep cnt ∧ Mv w h w' h') := take_any t hm fun x hx => (he x hx).2
  have hn : tkN m fr < tkM m fr ∧ a < tkM m fr ∧ c < tkM m fr ∧ tkN m fr ≠ a ∧ tkN m fr ≠ c := by
    rcases tkN_cases m fr with ⟨_, e2, e3⟩ | ⟨e1, e2⟩
    · omega
    · have hmem : tkN m fr ∈ fr := by
        generalize tkN m fr = n at *
        rw [e1]; simp
      exact ⟨by rw [e2]; exact (he _ hmem).1, by omega, by omega, fun e => hfa (e ▸ hmem), fun e => hfc (e ▸ hmem)⟩
  generalize tkN m fr = n at *
  generalize tkM m fr = m1 at *
  generalize fr.dropLast = fr1 at *
  obtain ⟨hn, ha1, hc1, hna, hnc⟩ := hn
  have hpl : p < (R a).length := (List.getElem?_eq_some_iff.1 hx).1
  have hcl : (R c).length ≤ 5 := t.len5 c hc
  have hl2 : 2 < (R c).length := by
    have := congrArg List.length hy
    simp at this; omega
  have hdl : ((R c).drop 2).length = (R c).length - 2 := by simp
  obtain ⟨l, hl⟩ : ∃ l, (R c).drop 2 = l := ⟨_, rfl⟩
  rw [hl] at hy hdl
  -- the worlds
  have A1 : Hid (∀ w1 h1, TL w1 h1 (upd R n []) m1 fr1 root dep cnt → Mv w h w1 h1 → ∃ g cap, h1.av = .slice (some ⟨g, 0, none⟩) (m1 * 5) cap ∧ (∀ w2, Below w1.heap.size w1 w2 → Calls Try.prog 53 #[.pointer (some ⟨h.p, 0, none⟩), .int .i64 a] w2 fun e w' => e = .returned (.slice (some ⟨g, a * 90, none⟩) (R a).length 5) ∧ Below w2.heap.size w2 w') ∧
      (∀ w2, Below w1.heap.size w1 w2 → w2.cell? ⟨g, a * 90 + p * 18 + 17, none⟩ = some (.int .i64 c)) ∧
      (∀ w2, Below w1.heap.size w1 w2 → Calls Try.prog 53 #[.pointer (some ⟨h.p, 0, none⟩), .int .i64 c] w2 fun e w' => e = .returned (.slice (some ⟨g, c * 90, none⟩) (R c).length 5) ∧ Below w2.heap.size w2 w') ∧
      (∀ w2, Below w1.heap.size w1 w2 → Calls Try.prog 63 #[.pointer (some ⟨h.p, 0, none⟩), .int .i64 n, .int .i64 (0 : Nat), .slice (some ⟨g, c * 90 + 2 * 18, none⟩) l.length 3] w2 fun e w' => e = .returned (.tuple #[]) ∧ TL w' h1 (upd R n l) m1 fr1 root dep cnt ∧ Mv w2 h1 w' h1)) := fun w1 h1 T1 M1 => by
    have ep := M1.p
    have era : upd R n [] a = R a := upd_other R [] (Ne.symm hna)
    have erc : upd R n [] c = R c := upd_other R [] (Ne.symm hnc)
    obtain ⟨g, cap, cur, hav, _⟩ := T1.arenaAt (by omega)
    have rA := T1.rowAt g _ cap hav a ha1
    have rC := T1.rowAt g _ cap hav c hc1
    rw [era] at rA
    rw [erc] at rC
    refine ⟨g, cap, hav, fun w2 hb => ?_, fun w2 hb => ?_, fun w2 hb => ?_, fun w2 hb => ?_⟩
    · have := row_any (T1.below hb) a ha1 (by rw [era]; omega) g cap hav
      rwa [era, ep] at this
    · have := ((rA.below hb).at p hpl).c17
      rw [(List.getElem?_eq_some_iff.1 hx).2, hxd] at this
      exact this
    · have := row_any (T1.below hb) c hc1 (by rw [erc]; omega) g cap hav
      rwa [erc, ep] at this
    · have hs := (rC.below hb).drop 2 (by omega)
      rw [hl] at hs
      have := insert_any (T1.below hb) n 0 hn (Nat.zero_le _) l (by omega) (by rw [upd_same]; simp; omega) g (c * 90 + 2 * 18) 3 hs (.inr ⟨by rw [hav]; rfl, by omega⟩)
      rwa [upd_same, insR_nil, upd_upd, ep] at this
  have A2 : Hid (∀ w2 h1, TL w2 h1 (upd R n l) m1 fr1 root dep cnt → Mv w h w2 h1 → ∃ gf cf, w2.cell? ⟨h.p, 1, none⟩ = some (.slice (some ⟨gf, 0, none⟩) m1 cf) ∧ w2.cell? ⟨gf, c, none⟩ = some (.int .i64 (R c).length) ∧
      Calls Try.prog 67 #[.pointer (some ⟨h.p, 0, none⟩), .int .i64 c, .int .i64 (2 : Nat), .int .i64 (R c).length] w2 fun e w' => e = .returned (.tuple #[]) ∧ TL w' h1 (upd (upd R n l) c ((R c).take 2)) m1 fr1 root dep cnt ∧ Mv w2 h1 w' h1) := fun w2 h1 T2 M2 => by
    have ep := M2.p
    have erc : upd R n l c = R c := upd_other R l (Ne.symm hnc)
    obtain ⟨gf, cf, hfv, cl, _⟩ := T2.fillAt c hc1
    obtain ⟨_, k1, _⟩ := T2.c
    rw [hfv, ep] at k1
    rw [erc] at cl
    refine ⟨gf, cf, k1, cl, ?_⟩
    have := remove_any T2 c 2 (R c).length hc1 (by omega) (by rw [erc]; exact Nat.le_refl _)
    rw [erc, ep] at this
    rwa [show delR (R c) 2 (R c).length = (R c).take 2 by simp [delR]] at this
  have A3 : Hid (∀ w3 h1, TL w3 h1 (upd (upd R n l) c ((R c).take 2)) m1 fr1 root dep cnt → Mv w h w3 h1 → Calls Try.prog 75 #[.pointer (some ⟨h.p, 0, none⟩), .int .i64 n] w3 fun e w' => e = .returned (It.mk y.k Pl.zero n).val ∧ Below w3.heap.size w3 w') := fun w3 h1 T3 M3 => by
    have := link_any T3 n hn y ys (by rw [upd_other _ _ hnc, upd_same]; exact hy)
    rwa [M3.p] at this
  have A4 : Hid (∀ w4 h1, TL w4 h1 (upd (upd R n l) c ((R c).take 2)) m1 fr1 root dep cnt → Mv w h w4 h1 → Calls Try.prog 63 #[.pointer (some ⟨h.p, 0, none⟩), .int .i64 a, .int .i64 ((p : Int) + 1), .slice (some ⟨w4.heap.size, 0, none⟩) 1 1] (w4.alloc (.cells #[.bool y.k.t, .int .i64 y.k.n, .string y.k.s, .bool false, .int .i64 0, .string ⟨#[]⟩, .bool false, .int .i64 0, .string ⟨#[]⟩, .bool false, .int .i64 0, .string ⟨#[]⟩, .bool false, .int .i64 0, .string ⟨#[]⟩, .int .i64 0, .int .i64 0, .int .i64 n] TI (0, 0))) fun e w' => e = .returned (.tuple #[]) ∧ TL w' h1 (splitR R a p c n y.k) m1 fr1 root dep cnt ∧ Mv w h w' h1) := fun w4 h1 T4 M4 => by
    have era : upd (upd R n l) c ((R c).take 2) a = R a := by rw [upd_other _ _ hac, upd_other _ _ (Ne.symm hna)]
    have T5 := T4.below (alloc1 w4 (.cells #[.bool y.k.t, .int .i64 y.k.n, .string y.k.s, .bool false, .int .i64 0, .string ⟨#[]⟩, .bool false, .int .i64 0, .string ⟨#[]⟩, .bool false, .int .i64 0, .string ⟨#[]⟩, .bool false, .int .i64 0, .string ⟨#[]⟩, .int .i64 0, .int .i64 0, .int .i64 n] TI (0, 0)))
    have := insert_any T5 a (p + 1) ha1 (by rw [era]; omega) [⟨y.k, Pl.zero, n⟩] (by simp) (by rw [era]; simp; omega) w4.heap.size 0 1 (item_new w4 ⟨y.k, Pl.zero, n⟩ TI) (.inl fun hh => by have := T4.lt _ hh; omega)
    rw [era, M4.p, show ((p + 1 : Nat) : Int) = (p : Int) + 1 by omega] at this
    refine Calls.mono this ?_
    rintro e w' ⟨h1, h2, h3⟩
    exact ⟨h1, by unfold splitR; rw [hl]; exact h2, M4.trans ((Mv.of (alloc1 w4 _)).trans h3)⟩
  clear t he hx hxd hfa hfc hm hy hl
  generalize splitR R a p c n y.k = RS at *
  generalize (R c).take 2 = tc at *
  obtain ⟨Lc, hLc⟩ : ∃ Lc, (R c).length = Lc := ⟨_, rfl⟩
  obtain ⟨La, hLa⟩ : ∃ La, (R a).length = La := ⟨_, rfl⟩
  rw [hLc] at A1 A2 hl2 hcl hdl
  rw [hLa] at A1 hpl h4
  clear hLc hLa
  obtain ⟨ll, hll⟩ : ∃ ll, l.length = ll := ⟨_, rfl⟩
  rw [hll] at A1 hdl
  clear hll
  subst hdl
  have p0 : (0 : Int) ≤ (p : Int) := by omega
  have p1 : (p : Int) < (La : Int) := by omega
  have c0 : (0 : Int) ≤ (c : Int) := by omega
  have c1 : (c : Int) < (m1 : Int) := by omega
  have hp5 : p ≤ 5 := by omega
  go_enter Try.func76, Try.ntmps76
  go_wp2_with fail
  refine Calls.mono H0.out ?_
  rintro e w1 ⟨rfl, h1, T1, M1⟩
  obtain ⟨g, cap, _, B1, B2, B3, B4⟩ := A1.out w1 h1 T1 M1
  have HB1 : Hid _ := B1
  have HB2 : Hid _ := B2
  have HB3 : Hid _ := B3
  have HB4 : Hid _ := B4
  have HM1 : Hid (Mv w h w1 h1) := M1
  have hs := fun w' => slice_two w' g (c * 90) Lc (by omega)
  clear A1 H0 B1 B2 B3 B4 T1 M1
  go_wp2_with fail
  refine Calls.mono (HB1.out _ (Below.refl _ _)) ?_
  rintro e w2 ⟨rfl, hb⟩
  have HC1 : Hid (Below w1.heap.size w1 w2) := hb
  have q1 := HB2.out _ hb
  clear hb HB1
  go_wp2_with fail
  refine Calls.mono (HB3.out _ HC1.out) ?_
  rintro e w3 ⟨rfl, hb⟩
  have HC2 : Hid (Below w1.heap.size w1 w3) := HC1.out.trans (hb.mono HC1.out.size)
  clear hb HC1 HB3 HB2 q1
  go_wp2_with fail
  refine Calls.mono (HB4.out _ HC2.out) ?_
  rintro e w4 ⟨rfl, T2, M2⟩
  have HM2 : Hid (Mv w h w4 h1) := HM1.out.trans ((Mv.of HC2.out).trans M2)
  obtain ⟨gf, cf, f1, f2, B5⟩ := A2.out w4 h1 T2 HM2.out
  have HB5 : Hid _ := B5
  clear B5 A2 T2 M2 HC2 HM1 HB4 hs
  go_wp2_with fail
  refine Calls.mono HB5.out ?_
  rintro e w5 ⟨rfl, T3, M3⟩
  have HT3 : Hid (TL w5 h1 (upd (upd R n l) c tc) m1 fr1 root dep cnt ∧ Mv w h w5 h1) := ⟨T3, HM2.out.trans M3⟩
  clear T3 M3 HB5 HM2 f1 f2
  go_wp2_with fail
  refine Calls.mono (A3.out w5 h1 HT3.out.1 HT3.out.2) ?_
  rintro e w6 ⟨rfl, hb⟩
  have HT4 : Hid (TL w6 h1 (upd (upd R n l) c tc) m1 fr1 root dep cnt ∧ Mv w h w6 h1) := ⟨HT3.out.1.below hb, HT3.out.2.trans (Mv.of hb)⟩
  clear hb HT3 A3
  go_wp2_with fail
  refine Calls.mono (A4.out w6 h1 HT4.out.1 HT4.out.2) ?_
  rintro e w7 ⟨rfl, T5, M5⟩
  have HT5 : Hid (TL w7 h1 RS m1 fr1 root dep cnt ∧ Mv w h w7 h1) := ⟨T5, M5⟩
  clear T5 M5 HT4 A4
  go_wp2_with fail
  go_end0
  exact ⟨rfl, h1, HT5.out⟩
end
end Go.Proofs.Ytafkpfhhmmnpeaa.Val
/- What the tree's join does. -/
namespace Go.Proofs.Ytafkpfhhmmnpeaa.Val
open Go Go.RowKit
set_option maxRecDepth 100000

/-- The rows behind a join. -/
def joinR (R : Nat → List It) (a p c d : Nat) : Nat → List It := upd (upd (upd R c (R c ++ R d)) a (delR (R a) (p + 1) (p + 2))) d []
theorem insR_end (r l : List It) : insR r r.length l = r ++ l := by simp [insR]
section
variable {w : World} {h : Hd} {R : Nat → List It} {m : Nat} {fr : List Nat} {root dep cnt : Nat}
set_option maxHeartbeats 8000000 in
theorem join_any (t : TL w h R m fr root dep cnt) (hm : fr.length ≤ 1000000) (a p c d : Nat) (ha : a < m) (x y : It) (hx : (R a)[p]? = some x) (hxd : x.d = c) (hy : (R a)[p + 1]? = some y) (hyd : y.d = d) (hc : c < m) (hd : d < m) (hac : a ≠ c) (hcd : c ≠ d) (h5 : (R c).length + (R d).length ≤ 5) (h0 : 0 < (R d).length) :
    Calls Try.prog 84 #[.pointer (some ⟨h.p, 0, none⟩), .int .i64 a, .int .i64 p] w fun e w' =>
      e = .returned (.tuple #[]) ∧ ∃ h', TL w' h' (joinR R a p c d) m (fr ++ [d]) root dep cnt ∧ Mv w h w' h' := by
  have hpl : p + 1 < (R a).length := (List.getElem?_eq_some_iff.1 hy).1
  have hal : (R a).length ≤ 5 := t.len5 a ha
  obtain ⟨g, cap, cur, hav, _⟩ := t.arenaAt (by omega)
  obtain ⟨gf, cf, hfv, fl, _⟩ := t.fillAt c hc
  have H1 : Hid (∀ w2, Below w.heap.size w w2 → Calls Try.prog 53 #[.pointer (some ⟨h.p, 0, none⟩), .int .i64 a] w2 fun e w' => e = .returned (.slice (some ⟨g, a * 90, none⟩) (R a).length 5) ∧ Below w2.heap.size w2 w') := fun w2 hb => row_any (t.below hb) a ha hal g cap hav
  have H2 : Hid (∀ w2, Below w.heap.size w w2 → Calls Try.prog 53 #[.pointer (some ⟨h.p, 0, none⟩), .int .i64 d] w2 fun e w' => e = .returned (.slice (some ⟨g, d * 90, none⟩) (R d).length 5) ∧ Below w2.heap.size w2 w') := fun w2 hb => row_any (t.below hb) d hd (by omega) g cap hav
  have Q1 : Hid (∀ w2, Below w.heap.size w w2 → w2.cell? ⟨g, a * 90 + p * 18 + 17, none⟩ = some (.int .i64 c) ∧ w2.cell? ⟨g, a * 90 + (p + 1) * 18 + 17, none⟩ = some (.int .i64 d) ∧ w2.cell? ⟨h.p, 1, none⟩ = some (.slice (some ⟨gf, 0, none⟩) m cf) ∧ w2.cell? ⟨gf, c, none⟩ = some (.int .i64 (R c).length)) := fun w2 hb => by
    have rA := (t.rowAt g _ cap hav a ha).below hb
    have q1 := (rA.at p (by omega)).c17
    have q2 := (rA.at (p + 1) hpl).c17
    rw [(List.getElem?_eq_some_iff.1 hx).2, hxd] at q1
    rw [(List.getElem?_eq_some_iff.1 hy).2, hyd] at q2
    obtain ⟨_, k1, _⟩ := (t.below hb).c
    rw [hfv] at k1
    exact ⟨q1, q2, k1, by rw [hb.cell (World.block_lt_of_cell? w _ fl)]; exact fl⟩
  have H3 : Hid (∀ w2, Below w.heap.size w w2 → Calls Try.prog 63 #[.pointer (some ⟨h.p, 0, none⟩), .int .i64 c, .int .i64 (R c).length, .slice (some ⟨g, d * 90, none⟩) (R d).length 5] w2 fun e w' => e = .returned (.tuple #[]) ∧ TL w' h (upd R c (R c ++ R d)) m fr root dep cnt ∧ Mv w h w' h) := fun w2 hb => by
    have := insert_any (t.below hb) c (R c).length hc (Nat.le_refl _) (R d) h0 h5 g (d * 90) 5 ((t.rowAt g _ cap hav d hd).below hb) (.inr ⟨by rw [hav]; rfl, by omega⟩)
    rw [insR_end] at this
    refine Calls.mono this ?_
    rintro e w' ⟨h1, h2, h3⟩
    exact ⟨h1, h2, (Mv.of hb).trans h3⟩
  have H4 : Hid (∀ w2, TL w2 h (upd R c (R c ++ R d)) m fr root dep cnt → Calls Try.prog 67 #[.pointer (some ⟨h.p, 0, none⟩), .int .i64 a, .int .i64 ((p : Int) + 1), .int .i64 ((p : Int) + 2)] w2 fun e w' => e = .returned (.tuple #[]) ∧ TL w' h (upd (upd R c (R c ++ R d)) a (delR (R a) (p + 1) (p + 2))) m fr root dep cnt ∧ Mv w2 h w' h) := fun w2 T2 => by
    have era : upd R c (R c ++ R d) a = R a := upd_other _ _ hac
    have := remove_any T2 a (p + 1) (p + 2) ha (by omega) (by rw [era]; omega)
    rw [era] at this
    rwa [show ((p + 1 : Nat) : Int) = (p : Int) + 1 by omega, show ((p + 2 : Nat) : Int) = (p : Int) + 2 by omega] at this
  have H5 : Hid (∀ w2, TL w2 h (upd (upd R c (R c ++ R d)) a (delR (R a) (p + 1) (p + 2))) m fr root dep cnt → Calls Try.prog 77 #[.pointer (some ⟨h.p, 0, none⟩), .int .i64 d] w2 fun e w' => e = .returned (.tuple #[]) ∧ ∃ h', TL w' h' (joinR R a p c d) m (fr ++ [d]) root dep cnt ∧ Mv w2 h w' h') := fun w2 T2 => give_any T2 d hd hm
  have FC : Hid (∀ w2 R', TL w2 h R' m fr root dep cnt → w2.cell? ⟨h.p, 1, none⟩ = some (.slice (some ⟨gf, 0, none⟩) m cf)) := fun w2 R' ht => by
    obtain ⟨_, k1, _⟩ := ht.c
    rw [hfv] at k1
    exact k1
  clear t hav hfv fl hx hxd hy hyd hm
  generalize joinR R a p c d = RJ at *
  generalize upd (upd R c (R c ++ R d)) a (delR (R a) (p + 1) (p + 2)) = R2 at *
  generalize upd R c (R c ++ R d) = R1 at *
  obtain ⟨La, hLa⟩ : ∃ La, (R a).length = La := ⟨_, rfl⟩
  obtain ⟨Lc, hLc⟩ : ∃ Lc, (R c).length = Lc := ⟨_, rfl⟩
  obtain ⟨Ld, hLd⟩ : ∃ Ld, (R d).length = Ld := ⟨_, rfl⟩
  rw [hLa] at hpl hal H1
  rw [hLd] at H2 H3 h0 h5
  rw [hLc] at H3 h5 Q1
  clear hLa hLd hLc
  have p0 : (0 : Int) ≤ (p : Int) := by omega
  have p1 : (p : Int) < (La : Int) := by omega
  have p2 : (0 : Int) ≤ (p : Int) + 1 := by omega
  have p3 : (p : Int) + 1 < (La : Int) := by omega
  have p4 : ((p : Int) + 1).toNat = p + 1 := by omega
  have c0 : (0 : Int) ≤ (c : Int) := by omega
  have c1 : (c : Int) < (m : Int) := by omega
  have hp5 : p ≤ 5 := by omega
  have p6 : IntKind.i64.wrap ((p : Int) + 1) = (p : Int) + 1 := by rw [IntKind.wrap_i64]; omega
  have p7 : IntKind.i64.wrap ((p : Int) + 2) = (p : Int) + 2 := by rw [IntKind.wrap_i64]; omega
  go_enter Try.func84, Try.ntmps84
  go_wp2_with fail
  refine Calls.mono (H1.out _ (Below.refl _ _)) ?_
  rintro e w1 ⟨rfl, hb⟩
  have HB1 : Hid (Below w.heap.size w w1) := hb
  obtain ⟨q1, q2, q3, q4⟩ := Q1.out _ hb
  clear hb H1
  go_wp2_with fail
  refine wp_region_held_drew (S := fun w' => w'.cell? ⟨g, a * 90 + p * 18 + 17, none⟩ = some (.int .i64 c) ∧ w'.cell? ⟨g, a * 90 + (p + 1) * 18 + 17, none⟩ = some (.int .i64 d)) (by kernel_rfl) ?_ (fun hHeld => ?_)
  · exact ⟨q1, q2⟩
  (try clear hK K)
  refine wpAnyH_take (i := 0) (v := ?_) rfl (by kernel_rfl) (by kernel_rfl) (by kernel_rfl) (fun _ _ _ h => h) (Or.inl ⟨by rfl, ?_⟩) (by assumption) ?_
  rotate_left
  · intro w hSw; (try dsimp only at hSw); go_simp; (try with_reducible rfl)
  (try simp only [Act.put, List.getElem_toArray, List.getElem_cons_zero, List.setIfInBounds_toArray, List.set_cons_zero, List.set_cons_succ])
  refine wpAnyH_take (i := 1) (v := ?_) rfl (by kernel_rfl) (by kernel_rfl) (by kernel_rfl) (fun _ _ _ h => h) (Or.inl ⟨by rfl, ?_⟩) (by assumption) ?_
  rotate_left
  · intro w hSw; (try dsimp only at hSw); go_simp; (try with_reducible rfl)
  (try simp only [Act.put, List.getElem_toArray, List.getElem_cons_succ, List.getElem_cons_zero, List.setIfInBounds_toArray, List.set_cons_zero, List.set_cons_succ])
  refine wpAnyH_take (i := 2) (v := ?_) rfl (by kernel_rfl) (by kernel_rfl) (by kernel_rfl) (fun _ _ _ h => h) (Or.inl ⟨by rfl, ?_⟩) (by assumption) ?_
  rotate_left
  · intro w hSw; (try dsimp only at hSw); go_simp; (try with_reducible rfl)
  (try simp only [Act.put, List.getElem_toArray, List.getElem_cons_succ, List.getElem_cons_zero, List.setIfInBounds_toArray, List.set_cons_zero, List.set_cons_succ])
  refine wpAnyH_take (i := 3) (v := ?_) rfl (by kernel_rfl) (by kernel_rfl) (by kernel_rfl) (fun _ _ _ h => h) (Or.inl ⟨by rfl, ?_⟩) (by assumption) ?_
  rotate_left
  · intro w hSw; (try dsimp only at hSw); go_simp; (try with_reducible rfl)
  (try simp only [Act.put, List.getElem_toArray, List.getElem_cons_succ, List.getElem_cons_zero, List.setIfInBounds_toArray, List.set_cons_zero, List.set_cons_succ])
  refine wpAnyH_take (i := 4) (v := ?_) rfl (by kernel_rfl) (by kernel_rfl) (by kernel_rfl) (fun _ _ _ h => h) (Or.inl ⟨by rfl, ?_⟩) (by assumption) ?_
  rotate_left
  · intro w hSw; (try dsimp only at hSw); go_simp; (try with_reducible rfl)
  (try simp only [Act.put, List.getElem_toArray, List.getElem_cons_succ, List.getElem_cons_zero, List.setIfInBounds_toArray, List.set_cons_zero, List.set_cons_succ])
  refine wpAnyH_take (i := 5) (v := ?_) rfl (by kernel_rfl) (by kernel_rfl) (by kernel_rfl) (fun _ _ _ h => h) (Or.inl ⟨by rfl, ?_⟩) (by assumption) ?_
  rotate_left
  · intro w hSw; (try dsimp only at hSw); go_simp; (try with_reducible rfl)
  (try simp only [Act.put, List.getElem_toArray, List.getElem_cons_succ, List.getElem_cons_zero, List.setIfInBounds_toArray, List.set_cons_zero, List.set_cons_succ])
  refine wpAnyH_take (i := 6) (v := ?_) rfl (by kernel_rfl) (by kernel_rfl) (by kernel_rfl) (fun _ _ _ h => h) (Or.inl ⟨by rfl, ?_⟩) (by assumption) ?_
  rotate_left
  · intro w hSw; (try dsimp only at hSw); go_simp; (try with_reducible rfl)
  (try simp only [Act.put, List.getElem_toArray, List.getElem_cons_succ, List.getElem_cons_zero, List.setIfInBounds_toArray, List.set_cons_zero, List.set_cons_succ])
  refine wpAnyH_take (i := 7) (v := ?_) rfl (by kernel_rfl) (by kernel_rfl) (by kernel_rfl) (fun _ _ _ h => h) (Or.inl ⟨by rfl, ?_⟩) (by assumption) ?_
  rotate_left
  · intro w hSw; (try dsimp only at hSw); go_simp; (try with_reducible rfl)
  (try simp only [Act.put, List.getElem_toArray, List.getElem_cons_succ, List.getElem_cons_zero, List.setIfInBounds_toArray, List.set_cons_zero, List.set_cons_succ])
  refine wpAnyH_take (i := 8) (v := ?_) rfl (by kernel_rfl) (by kernel_rfl) (by kernel_rfl) (fun _ _ _ h => h) (Or.inl ⟨by rfl, ?_⟩) (by assumption) ?_
  rotate_left
  · intro w hSw; (try dsimp only at hSw); go_simp; (try with_reducible rfl)
  (try simp only [Act.put, List.getElem_toArray, List.getElem_cons_succ, List.getElem_cons_zero, List.setIfInBounds_toArray, List.set_cons_zero, List.set_cons_succ])
  refine wpAnyH_take (i := 9) (v := ?_) rfl (by kernel_rfl) (by kernel_rfl) (by kernel_rfl) (fun _ _ _ h => h) (Or.inl ⟨by rfl, ?_⟩) (by assumption) ?_
  rotate_left
  · intro w hSw; (try dsimp only at hSw); go_simp; (try with_reducible rfl)
  (try simp only [Act.put, List.getElem_toArray, List.getElem_cons_succ, List.getElem_cons_zero, List.setIfInBounds_toArray, List.set_cons_zero, List.set_cons_succ])
  refine wpAnyH_take (i := 10) (v := ?_) rfl (by kernel_rfl) (by kernel_rfl) (by kernel_rfl) (fun _ _ _ h => h) (Or.inl ⟨by rfl, ?_⟩) (by assumption) ?_
  rotate_left
  · intro w hSw; (try dsimp only at hSw); go_simp; (try with_reducible rfl)
  (try simp only [Act.put, List.getElem_toArray, List.getElem_cons_succ, List.getElem_cons_zero, List.setIfInBounds_toArray, List.set_cons_zero, List.set_cons_succ])
  refine wpAnyH_take (i := 11) (v := ?_) rfl (by kernel_rfl) (by kernel_rfl) (by kernel_rfl) (fun _ _ _ h => h) (Or.inl ⟨by rfl, ?_⟩) (by assumption) ?_
  rotate_left
  · intro w hSw; (try dsimp only at hSw); go_simp; (try with_reducible rfl)
  (try simp only [Act.put, List.getElem_toArray, List.getElem_cons_succ, List.getElem_cons_zero, List.setIfInBounds_toArray, List.set_cons_zero, List.set_cons_succ])
  refine wpAnyH_take (i := 12) (v := ?_) rfl (by kernel_rfl) (by kernel_rfl) (by kernel_rfl) (fun _ _ _ h => h) (Or.inl ⟨by rfl, ?_⟩) (by assumption) ?_
  rotate_left
  · intro w hSw; (try dsimp only at hSw); go_simp; (try with_reducible rfl)
  (try simp only [Act.put, List.getElem_toArray, List.getElem_cons_succ, List.getElem_cons_zero, List.setIfInBounds_toArray, List.set_cons_zero, List.set_cons_succ])
  (try clear hK K)
  refine wpAnyH_done (by kernel_rfl) ?_ _
  clear q1 q2 q3 q4
  go_wp2_with fail
  refine wp_region_held_drew (S := fun w' => w'.cell? ⟨h.p, 1, none⟩ = some (.slice (some ⟨gf, 0, none⟩) m cf)) (by kernel_rfl) ?_ (fun hHeld => ?_)
  · exact (Q1.out _ HB1.out).2.2.1
  (try clear hK K)
  refine wpAnyH_take (i := 0) (v := ?_) rfl (by kernel_rfl) (by kernel_rfl) (by kernel_rfl) (fun _ _ _ h => h) (Or.inl ⟨by rfl, ?_⟩) (by assumption) ?_
  rotate_left
  · intro w hSw; (try dsimp only at hSw); go_simp; (try with_reducible rfl)
  (try simp only [Act.put, List.getElem_toArray, List.getElem_cons_zero, List.setIfInBounds_toArray, List.set_cons_zero, List.set_cons_succ])
  refine wpAnyH_take (i := 1) (v := ?_) rfl (by kernel_rfl) (by kernel_rfl) (by kernel_rfl) (fun _ _ _ h => h) (Or.inl ⟨by rfl, ?_⟩) (by assumption) ?_
  rotate_left
  · intro w hSw; (try dsimp only at hSw); go_simp; (try with_reducible rfl)
  (try simp only [Act.put, List.getElem_toArray, List.getElem_cons_succ, List.getElem_cons_zero, List.setIfInBounds_toArray, List.set_cons_zero, List.set_cons_succ])
  refine wpAnyH_take (i := 2) (v := ?_) rfl (by kernel_rfl) (by kernel_rfl) (by kernel_rfl) (fun _ _ _ h => h) (Or.inl ⟨by rfl, ?_⟩) (by assumption) ?_
  rotate_left
  · intro w hSw; (try dsimp only at hSw); go_simp; (try with_reducible rfl)
  (try simp only [Act.put, List.getElem_toArray, List.getElem_cons_succ, List.getElem_cons_zero, List.setIfInBounds_toArray, List.set_cons_zero, List.set_cons_succ])
  refine wpAnyH_take (i := 3) (v := ?_) rfl (by kernel_rfl) (by kernel_rfl) (by kernel_rfl) (fun _ _ _ h => h) (Or.inl ⟨by rfl, ?_⟩) (by assumption) ?_
  rotate_left
  · intro w hSw; (try dsimp only at hSw); go_simp; (try with_reducible rfl)
  (try simp only [Act.put, List.getElem_toArray, List.getElem_cons_succ, List.getElem_cons_zero, List.setIfInBounds_toArray, List.set_cons_zero, List.set_cons_succ])
  refine wpAnyH_take (i := 4) (v := ?_) rfl (by kernel_rfl) (by kernel_rfl) (by kernel_rfl) (fun _ _ _ h => h) (Or.inl ⟨by rfl, ?_⟩) (by assumption) ?_
  rotate_left
  · intro w hSw; (try dsimp only at hSw); go_simp; (try with_reducible rfl)
  (try simp only [Act.put, List.getElem_toArray, List.getElem_cons_succ, List.getElem_cons_zero, List.setIfInBounds_toArray, List.set_cons_zero, List.set_cons_succ])
  refine wpAnyH_take (i := 5) (v := ?_) rfl (by kernel_rfl) (by kernel_rfl) (by kernel_rfl) (fun _ _ _ h => h) (Or.inl ⟨by rfl, ?_⟩) (by assumption) ?_
  rotate_left
  · intro w hSw; (try dsimp only at hSw); go_simp; (try with_reducible rfl)
  (try simp only [Act.put, List.getElem_toArray, List.getElem_cons_succ, List.getElem_cons_zero, List.setIfInBounds_toArray, List.set_cons_zero, List.set_cons_succ])
  refine wpAnyH_take (i := 6) (v := ?_) rfl (by kernel_rfl) (by kernel_rfl) (by kernel_rfl) (fun _ _ _ h => h) (Or.inl ⟨by rfl, ?_⟩) (by assumption) ?_
  rotate_left
  · intro w hSw; (try dsimp only at hSw); go_simp; (try with_reducible rfl)
  (try simp only [Act.put, List.getElem_toArray, List.getElem_cons_succ, List.getElem_cons_zero, List.setIfInBounds_toArray, List.set_cons_zero, List.set_cons_succ])
  refine wpAnyH_take (i := 7) (v := ?_) rfl (by kernel_rfl) (by kernel_rfl) (by kernel_rfl) (fun _ _ _ h => h) (Or.inl ⟨by rfl, ?_⟩) (by assumption) ?_
  rotate_left
  · intro w hSw; (try dsimp only at hSw); go_simp; (try with_reducible rfl)
  (try simp only [Act.put, List.getElem_toArray, List.getElem_cons_succ, List.getElem_cons_zero, List.setIfInBounds_toArray, List.set_cons_zero, List.set_cons_succ])
  refine wpAnyH_take (i := 9) (v := ?_) rfl (by kernel_rfl) (by kernel_rfl) (by kernel_rfl) (fun _ _ _ h => h) (Or.inl ⟨by rfl, ?_⟩) (by assumption) ?_
  rotate_left
  · intro w hSw; (try dsimp only at hSw); go_simp; (try with_reducible rfl)
  (try simp only [Act.put, List.getElem_toArray, List.getElem_cons_succ, List.getElem_cons_zero, List.setIfInBounds_toArray, List.set_cons_zero, List.set_cons_succ])
  refine wpAnyH_take (i := 10) (v := ?_) rfl (by kernel_rfl) (by kernel_rfl) (by kernel_rfl) (fun _ _ _ h => h) (Or.inl ⟨by rfl, ?_⟩) (by assumption) ?_
  rotate_left
  · intro w hSw; (try dsimp only at hSw); go_simp; (try with_reducible rfl)
  (try simp only [Act.put, List.getElem_toArray, List.getElem_cons_succ, List.getElem_cons_zero, List.setIfInBounds_toArray, List.set_cons_zero, List.set_cons_succ])
  (try clear hK K)
  refine wpAnyH_ready (rs := [8, 11]) (by kernel_rfl) (by simp) ?_
  refine AllReadyH.cons rfl (fun K hK => ?_) (AllReadyH.cons rfl (fun K hK => ?_) AllReadyH.nil)
  · obtain ⟨_, _, _, q4⟩ := Q1.out _ HB1.out
    go_simp
    refine hK.out _ _ ?_ (fun hHeld => ?_)
    · exact (Q1.out _ HB1.out).2.2.1
    clear q4
    (try clear hK K)
    refine wpAnyH_ready (rs := [11]) (by kernel_rfl) (by simp) ?_
    refine AllReadyH.cons rfl (fun K hK => ?_) AllReadyH.nil
    go_simp
    (refine Calls.mono (H2.out _ HB1.out.drew.drew) ?_; rintro e w2 ⟨rfl, hb⟩)
    refine hK.out _ _ ?_ (fun hHeld => ?_)
    · exact (Q1.out _ (HB1.out.drew.drew.trans (hb.mono HB1.out.drew.drew.size))).2.2.1
    have HB2 : Hid (Below w.heap.size w w2) := HB1.out.drew.drew.trans (hb.mono HB1.out.drew.drew.size)
    clear hb H2
    (try clear hK K)
    refine wpAnyH_ready (rs := [12]) (by kernel_rfl) (by simp) ?_
    refine AllReadyH.cons rfl (fun K hK => ?_) AllReadyH.nil
    (go_simp; refine Calls.mono (H3.out _ HB2.out) ?_; rintro e w3 ⟨rfl, T3, M3⟩; refine hK.out _ _ ?_ (fun hHeld => ?_))
    · exact FC.out _ _ T3
    have HT3 : Hid (TL w3 h R1 m fr root dep cnt ∧ Mv w h w3 h) := ⟨T3, M3⟩
    clear T3 M3 H3 HB2
    (try clear hK K)
    refine wpAnyH_done (by kernel_rfl) ?_ _
    go_wp2_with fail
    refine Calls.mono (H4.out _ HT3.out.1) ?_
    rintro e w4 ⟨rfl, T4, M4⟩
    have HT4 : Hid (TL w4 h R2 m fr root dep cnt ∧ Mv w h w4 h) := ⟨T4, HT3.out.2.trans M4⟩
    clear T4 M4 H4 HT3
    go_wp2_with fail
    refine Calls.mono (H5.out _ HT4.out.1) ?_
    rintro e w5 ⟨rfl, h', T5, M5⟩
    have HT5 : Hid (TL w5 h' RJ m (fr ++ [d]) root dep cnt ∧ Mv w h w5 h') := ⟨T5, HT4.out.2.trans M5⟩
    clear T5 M5 H5 HT4
    go_wp2_with fail
    go_end0
    exact ⟨rfl, h', HT5.out⟩
  · go_simp
    refine Calls.mono (H2.out _ HB1.out.drew.drew) ?_
    rintro e w2 ⟨rfl, hb⟩
    refine hK.out _ _ ?_ (fun hHeld => ?_)
    · exact (Q1.out _ (HB1.out.drew.drew.trans (hb.mono HB1.out.drew.drew.size))).2.2.1
    have HB2 : Hid (Below w.heap.size w w2) := HB1.out.drew.drew.trans (hb.mono HB1.out.drew.drew.size)
    clear hb H2
    obtain ⟨_, _, _, q4⟩ := Q1.out _ HB2.out
    (try clear hK K)
    refine wpAnyH_ready (rs := [8]) (by kernel_rfl) (by simp) ?_
    refine AllReadyH.cons rfl (fun K hK => ?_) AllReadyH.nil
    go_simp
    refine hK.out _ _ ?_ (fun hHeld => ?_)
    · exact (Q1.out _ HB2.out).2.2.1
    clear q4
    (try clear hK K)
    refine wpAnyH_ready (rs := [12]) (by kernel_rfl) (by simp) ?_
    refine AllReadyH.cons rfl (fun K hK => ?_) AllReadyH.nil
    (go_simp; refine Calls.mono (H3.out _ HB2.out) ?_; rintro e w3 ⟨rfl, T3, M3⟩; refine hK.out _ _ ?_ (fun hHeld => ?_))
    · exact FC.out _ _ T3
    have HT3 : Hid (TL w3 h R1 m fr root dep cnt ∧ Mv w h w3 h) := ⟨T3, M3⟩
    clear T3 M3 H3 HB2
    (try clear hK K)
    refine wpAnyH_done (by kernel_rfl) ?_ _
    go_wp2_with fail
    refine Calls.mono (H4.out _ HT3.out.1) ?_
    rintro e w4 ⟨rfl, T4, M4⟩
    have HT4 : Hid (TL w4 h R2 m fr root dep cnt ∧ Mv w h w4 h) := ⟨T4, HT3.out.2.trans M4⟩
    clear T4 M4 H4 HT3
    go_wp2_with fail
    refine Calls.mono (H5.out _ HT4.out.1) ?_
    rintro e w5 ⟨rfl, h', T5, M5⟩
    have HT5 : Hid (TL w5 h' RJ m (fr ++ [d]) root dep cnt ∧ Mv w h w5 h') := ⟨T5, HT4.out.2.trans M5⟩
    clear T5 M5 H5 HT4
    go_wp2_with fail
    go_end0
    exact ⟨rfl, h', HT5.out⟩
end
end Go.Proofs.Ytafkpfhhmmnpeaa.Val
