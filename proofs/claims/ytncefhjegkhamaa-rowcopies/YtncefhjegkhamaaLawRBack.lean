/- The law RowBack answers true for any key and any two numbers of 64 bits. -/
import Derived.Test.YtncefhjegkhamaaLawSame
import Derived.Test.YtncefhjegkhamaaTurnPlain
import Derived.Test.YtncefhjegkhamaaOwnSets
namespace Go.Proofs.Ytncefhjegkhamaa.Val
open Go.RowKit

abbrev num (n : Int) : Val := ⟨false, n, ⟨#[]⟩⟩
def bCols (key : Val) : List Bool := [key.t, false, false]
def bRow (key : Val) (a b : Int) : List Val := [key, num a, num b]
def bAdd (b : Int) : List SetP := [⟨1, 3, 1, 0, num b⟩]
def bSub (b : Int) : List SetP := [⟨1, 4, 1, 0, num b⟩]
def bBoth : List SetP := [⟨1, 2, 2, 0, num 0⟩, ⟨2, 2, 1, 0, num 0⟩]
theorem right_num (n : Int) : rightV false n ⟨#[]⟩ = true := by simp [rightV, ByteArray.toList_eq]
theorem b_fits (key : Val) (a b : Int) : fitsRow (bCols key) (bRow key a b) = rightV key.t key.n key.s := by
  simp [fitsRow, mayT, bCols, bRow, fitsL, suitV, right_num]
theorem b_add_sets (key : Val) (b : Int) : setsB (bCols key) (bAdd b) = true := by
  simp [setsB, bAdd, setsFrom, setOk, isCol, bCols, goesB, isNum, colAt, suitV, right_num]
theorem b_sub_sets (key : Val) (b : Int) : setsB (bCols key) (bSub b) = true := by
  simp [setsB, bSub, setsFrom, setOk, isCol, bCols, goesB, isNum, colAt, suitV, right_num]
theorem b_both_sets (key : Val) : setsB (bCols key) bBoth = true := by
  simp [setsB, bBoth, setsFrom, setOk, isCol, bCols, goesB, colAt]
theorem b_bad (key : Val) (a b : Int) (h : rightV key.t key.n key.s = false) : upd (bCols key) (bRow key a b) (bAdd b) = ([], 1) := upd_unfit (by rw [b_fits]; exact h)
theorem b_over (key : Val) (a b : Int) (h : rightV key.t key.n key.s = true) (hf : fits (a + b) = false) : upd (bCols key) (bRow key a b) (bAdd b) = ([], 21) :=
  upd_over (by rw [b_fits]; exact h) (b_add_sets key b) (by simp [runSets, bAdd, bRow, comes, hf])
theorem b_add (key : Val) (a b : Int) (h : rightV key.t key.n key.s = true) (hf : fits (a + b) = true) : upd (bCols key) (bRow key a b) (bAdd b) = (bRow key (a + b) b, 0) :=
  upd_ok (by rw [b_fits]; exact h) (b_add_sets key b) (by simp [runSets, bAdd, bRow, comes, hf, val_of hf])
theorem b_sub (key : Val) (a b : Int) (h : rightV key.t key.n key.s = true) (hf : fits a = true) : upd (bCols key) (bRow key (a + b) b) (bSub b) = (bRow key a b, 0) :=
  upd_ok (by rw [b_fits]; exact h) (b_sub_sets key b) (by simp [runSets, bSub, bRow, comes, hf, Int.add_sub_cancel, val_of hf])
theorem b_both (key : Val) (a b : Int) (h : rightV key.t key.n key.s = true) : upd (bCols key) (bRow key a b) bBoth = (bRow key b a, 0) :=
  upd_ok (by rw [b_fits]; exact h) (b_both_sets key) (by simp [runSets, bBoth, bRow, comes])
theorem b_rowOk {key : Val} {a b : Int} (hk : fits key.n = true ∧ key.s.size ≤ maxLen) (ha : fits a = true) (hb : fits b = true) : RowOk (bRow key a b) := by
  intro x hx
  simp only [bRow, List.mem_cons, List.not_mem_nil, or_false] at hx
  rcases hx with rfl | rfl | rfl
  · exact hk
  · exact ⟨ha, Nat.zero_le _⟩
  · exact ⟨hb, Nat.zero_le _⟩
theorem b_addOk {b : Int} (hb : fits b = true) : SetsOk (bAdd b) := by intro x hx; simp only [bAdd, List.mem_cons, List.not_mem_nil, or_false] at hx; subst hx; exact ⟨hb, Nat.zero_le _⟩
theorem b_subOk {b : Int} (hb : fits b = true) : SetsOk (bSub b) := by intro x hx; simp only [bSub, List.mem_cons, List.not_mem_nil, or_false] at hx; subst hx; exact ⟨hb, Nat.zero_le _⟩
theorem b_bothOk : SetsOk bBoth := by intro x hx; simp only [bBoth, List.mem_cons, List.not_mem_nil, or_false] at hx; rcases hx with rfl | rfl <;> exact ⟨by decide, by decide⟩
/-- What the law lays out. -/
def BW (W : World) (n : Nat) (key : Val) (a b : Int) : Prop :=
  BoolsIn W (.slice (some ⟨n, 0, none⟩) 3 3) (bCols key) ∧ W.cell? ⟨n + 1, 0, none⟩ = some (.slice (some ⟨n, 0, none⟩) 3 3) ∧ RowIn W (.slice (some ⟨n + 1 + 1, 0, none⟩) 3 3) (bRow key a b) ∧
  SetsIn W (.slice (some ⟨n + 1 + 1 + 1, 0, none⟩) 1 1) (bAdd b) ∧ SetsIn W (.slice (some ⟨n + 1 + 1 + 1 + 1, 0, none⟩) 1 1) (bSub b) ∧ SetsIn W (.slice (some ⟨n + 1 + 1 + 1 + 1 + 1, 0, none⟩) 2 2) bBoth
theorem BW.next {W W' : World} {n : Nat} {key : Val} {a b : Int} (h : BW W n key a b) (hb : Below W.heap.size W W') : BW W' n key a b :=
  ⟨h.1.below hb, by rw [hb.cell (World.block_lt_of_cell? _ _ h.2.1)]; exact h.2.1, h.2.2.1.below hb, h.2.2.2.1.below hb, h.2.2.2.2.1.below hb, h.2.2.2.2.2.below hb⟩
theorem BW.new (w : World) (key : Val) (a b : Int) (T1 T2 T3 T4 : TypeId) :
    BW ((((((w.alloc (.cells #[.bool key.t, .bool false, .bool false] T1)).alloc (.cells #[.slice (some ⟨w.heap.size, 0, none⟩) 3 3] T2)).alloc (.cells ((bRow key a b).flatMap Val.cells).toArray T3)).alloc (.cells ((bAdd b).flatMap SetP.cells).toArray T4)).alloc (.cells ((bSub b).flatMap SetP.cells).toArray T4)).alloc (.cells (bBoth.flatMap SetP.cells).toArray T4)) w.heap.size key a b := by
  refine ⟨?_, ?_, ?_, ?_, ?_, ?_⟩
  · exact (((((lies_new w _ rfl [.bool key.t, .bool false, .bool false] 3 _ (by decide)).alloc _).alloc _).alloc _).alloc _).alloc _
  · simp [go_sem]
  · exact (((lies_new _ _ (by simp) ((bRow key a b).flatMap Val.cells) 3 _ (by decide)).alloc _).alloc _).alloc _
  · exact ((lies_new _ _ (by simp) ((bAdd b).flatMap SetP.cells) 1 _ (by decide)).alloc _).alloc _
  · exact (lies_new _ _ (by simp) ((bSub b).flatMap SetP.cells) 1 _ (by decide)).alloc _
  · exact lies_new _ _ (by simp) (bBoth.flatMap SetP.cells) 2 _ (by decide)
theorem six (w : World) (o1 o2 o3 o4 o5 o6 : Obj) : Below w.heap.size w ((((((w.alloc o1).alloc o2).alloc o3).alloc o4).alloc o5).alloc o6) :=
  (((three_boxes w o1 o2 o3).alloc (by simp; omega) _).alloc (by simp; omega) _).alloc (by simp; omega) _
set_option maxHeartbeats 2000000 in
theorem rback_walk (key : Val) (a b : Int) (w : World) (hk : fits key.n = true ∧ key.s.size ≤ maxLen) (ha : fits a = true) (hb : fits b = true) :
    Calls Try.prog 8 #[V key.t key.n key.s, .int .i64 a, .int .i64 b] w fun e w' => e = .returned (.bool true) ∧ Below w.heap.size w w' := by
  have H0 : Hid (∀ w1, Calls Try.prog 10 #[] w1 fun e w' => e = .returned (.bool true) ∧ Below w1.heap.size w1 w') := awake_any
  have HK : Hid (fits key.n = true ∧ key.s.size ≤ maxLen) := hk
  have HFA : Hid (fits a = true) := ha
  have HFB : Hid (fits b = true) := hb
  clear hk ha hb
  go_enter Try.func8, Try.ntmps8
  go_wp2_with fail
  refine Calls.mono (H0.out _) ?_
  rintro e w1 ⟨rfl, hb⟩
  have HK1 : Hid _ := kept_V hb
  have hv := HK1.out.1
  have hz : w.heap.size < w1.heap.size := World.block_lt_of_cell? _ _ hv.1
  clear hb
  go_wp2_with fail
  have HBW := BW.new w1 key a b 4 24 40 44
  cases hr : rightV key.t key.n key.s
  · refine Calls.mono (update_any _ _ _ (bCols key) (bRow key a b) (bAdd b) _ (by exact HBW.1) (by exact HBW.2.2.1) (by exact HBW.2.2.2.1) (b_rowOk HK.out HFA.out HFB.out) (b_addOk HFB.out)) ?_
    rintro e w2 ⟨vx, rfl, hown, hb2⟩
    have HW2 : Hid (BW w2 w1.heap.size key a b) := BW.next HBW hb2
    have HB2 : Hid (Below w.heap.size w w2) := HK1.out.2.trans (((six w1 _ _ _ _ _ _).trans (hb2.mono (by simp; omega))).mono HK1.out.2.size)
    rw [b_bad key a b hr]
    have hf := fits_any _ _ (bCols key) (bRow key a b) w2 HW2.out.1 HW2.out.2.2.1 (b_rowOk HK.out HFA.out HFB.out)
    rw [b_fits, hr] at hf
    have HF : Hid _ := hf
    have c2 := HW2.out.2.1
    clear hb2 hown hf HBW hv hz hr
    go_wp2_with fail
    refine Calls.mono HF.out ?_
    rintro e w3 ⟨rfl, hb3⟩
    have HB3 : Hid (Below w.heap.size w w3) := HB2.out.trans (hb3.mono HB2.out.size)
    clear hb3
    go_wp2_with fail
    go_ret
    exact ⟨rfl, HB3.out⟩
  · have HRI : Hid (rightV key.t key.n key.s = true) := hr
    obtain ⟨u, hu⟩ : ∃ u, upd (bCols key) (bRow key a b) (bAdd b) = u := ⟨_, rfl⟩
    have HU : Hid (upd (bCols key) (bRow key a b) (bAdd b) = u) := hu
    refine Calls.mono (update_any _ _ _ (bCols key) (bRow key a b) (bAdd b) _ (by exact HBW.1) (by exact HBW.2.2.1) (by exact HBW.2.2.2.1) (b_rowOk HK.out HFA.out HFB.out) (b_addOk HFB.out)) ?_
    rintro e w2 ⟨vx, rfl, hown, hb2⟩
    have HW2 : Hid (BW w2 w1.heap.size key a b) := BW.next HBW hb2
    have HB2 : Hid (Below w.heap.size w w2) := HK1.out.2.trans (((six w1 _ _ _ _ _ _).trans (hb2.mono (by simp; omega))).mono HK1.out.2.size)
    rw [hu] at hown ⊢
    have HX2 : Hid (RowIn w2 vx u.1) := hown.isIn
    have hf := fits_any _ _ (bCols key) (bRow key a b) w2 HW2.out.1 HW2.out.2.2.1 (b_rowOk HK.out HFA.out HFB.out)
    rw [b_fits, hr] at hf
    have HF : Hid _ := hf
    have c2 := HW2.out.2.1
    clear hb2 hown hf HBW hv hz hr hu
    go_wp2_with fail
    refine Calls.mono HF.out ?_
    rintro e w3 ⟨rfl, hb3⟩
    have HB3 : Hid (Below w.heap.size w w3) := HB2.out.trans (hb3.mono HB2.out.size)
    have HW3 : Hid (BW w3 w1.heap.size key a b) := HW2.out.next hb3
    have HX3 : Hid (RowIn w3 vx u.1) := HX2.out.below hb3
    have c3 := HW3.out.2.1
    clear hb3 HF c2
    have hup := update_any _ _ _ (bCols key) (bRow key a b) bBoth w3 HW3.out.1 HW3.out.2.2.1 HW3.out.2.2.2.2.2 (b_rowOk HK.out HFA.out HFB.out) b_bothOk
    rw [b_both key a b HRI.out] at hup
    have HUP : Hid _ := hup
    clear hup
    go_wp2_with fail
    refine Calls.mono HUP.out ?_
    rintro e w4 ⟨vy, rfl, hown, hb4⟩
    have HB4 : Hid (Below w.heap.size w w4) := HB3.out.trans (hb4.mono HB3.out.size)
    have HW4 : Hid (BW w4 w1.heap.size key a b) := HW3.out.next hb4
    have HX4 : Hid (RowIn w4 vx u.1) := HX3.out.below hb4
    have c4 := HW4.out.2.1
    obtain ⟨g, cap, rfl, _, _⟩ := hown.place (by show 0 < 3; omega)
    obtain ⟨y0, y1, y2⟩ := own_here hown 1 (by show 1 < 3; omega)
    obtain ⟨z0, z1, z2⟩ := own_here hown 2 (by show 2 < 3; omega)
    have g1 : w4.cell? ⟨g, 4, none⟩ = some (.int .i64 b) := y1
    have g2 : w4.cell? ⟨g, 7, none⟩ = some (.int .i64 a) := z1
    have HL3 : Hid ((bRow key b a).length = 3) := rfl
    clear hb4 hown HUP y0 y1 y2 z0 z1 z2 c3
    cases hab : fits (a + b)
    · have hu := HU.out
      rw [b_over key a b HRI.out hab] at hu
      subst hu
      go_wp2_with fail
      go_ret
      exact ⟨rfl, HB4.out⟩
    · have hu := HU.out
      rw [b_add key a b HRI.out hab] at hu
      subst hu
      have hup := update_any _ _ _ (bCols key) (bRow key (a + b) b) (bSub b) w4 HW4.out.1 HX4.out HW4.out.2.2.2.2.1 (b_rowOk HK.out hab HFB.out) (b_subOk HFB.out)
      rw [b_sub key a b HRI.out HFA.out] at hup
      have HUP : Hid _ := hup
      clear hup hab
      go_wp2_with fail
      refine Calls.mono HUP.out ?_
      rintro e w5 ⟨vz, rfl, hown, hb5⟩
      have HB5 : Hid (Below w.heap.size w w5) := HB4.out.trans (hb5.mono HB4.out.size)
      have HW5 : Hid (BW w5 w1.heap.size key a b) := HW4.out.next hb5
      have hsm := rsame_any vz _ (bRow key a b) (bRow key a b) w5 hown.isIn HW5.out.2.2.1
      rw [eqRow_self] at hsm
      have HSM : Hid _ := hsm
      clear hb5 hown hsm HUP
      go_wp2_with fail
      refine Calls.mono HSM.out ?_
      rintro e w6 ⟨rfl, hb6⟩
      have HB6 : Hid (Below w.heap.size w w6) := HB5.out.trans (hb6.mono HB5.out.size)
      clear hb6
      go_wp2_with fail
      go_ret
      exact ⟨rfl, HB6.out⟩
end Go.Proofs.Ytncefhjegkhamaa.Val
