/- The law ValueCompares answers true for any two values, in a world that holds the table of digits. -/
import Derived.Test.YtmgkjojifhchkaaDoorRefCmp
import Derived.Test.YtmgkjojifhchkaaDoorCmp
import Derived.Test.YtmgkjojifhchkaaDoorRightAny
import Derived.Test.YtmgkjojifhchkaaDoorAwake
namespace Go.Proofs.YtmgkjojifhchkaaDoor.Val
open Go.RowKit

theorem rright_any (t : Bool) (n : Int) (s : ByteArray) (w : World) (hs : s.size ≤ maxLen) :
    Calls Tryd.prog 14 #[V t n s] w fun e w' => e = .returned (.bool (rightV t n s)) ∧ Below w.heap.size w w' := by
  cases t
  · exact rright_number n s w
  · exact rright_text n s w hs _ rfl
theorem kept2c {w w1 : World} {x0 x1 x2 y0 y1 y2 : Value} {T : TypeId} (h1 : Below ((w.alloc (.cells #[x0, x1, x2] T)).alloc (.cells #[y0, y1, y2] T)).heap.size ((w.alloc (.cells #[x0, x1, x2] T)).alloc (.cells #[y0, y1, y2] T)) w1) :
    (w1.cell? ⟨w.heap.size, 0, none⟩ = some x0 ∧ w1.cell? ⟨w.heap.size, 1, none⟩ = some x1 ∧ w1.cell? ⟨w.heap.size, 2, none⟩ = some x2 ∧
    w1.cell? ⟨w.heap.size + 1, 0, none⟩ = some y0 ∧ w1.cell? ⟨w.heap.size + 1, 1, none⟩ = some y1 ∧ w1.cell? ⟨w.heap.size + 1, 2, none⟩ = some y2) ∧ w.heap.size + 1 < w1.heap.size ∧ Below w.heap.size w w1 := by
  have k := h1.size
  simp at k
  refine ⟨?_, by omega, ((((Below.refl _ _).alloc (Nat.le_refl _) _).alloc (by simp) _)).trans (h1.mono (by simp; omega))⟩
  refine ⟨?_, ?_, ?_, ?_, ?_, ?_⟩ <;> rw [h1.cell (by simp; try omega)] <;> simp
theorem undrew {w w2 : World} (h : Below w.drew.heap.size w.drew w2) : Below w.heap.size w w2 := ⟨h.os, h.tape, h.output, h.size, h.block⟩
theorem next2 {B : Nat} {w w1 w2 : World} (hB : B + 1 < w1.heap.size) (hb : Below w.heap.size w w1) (hw : w.heap.size ≤ B) (h : Below w1.heap.size w1 w2) : B + 1 < w2.heap.size ∧ Below w.heap.size w w2 :=
  ⟨Nat.lt_of_lt_of_le hB h.size, hb.trans (h.mono (by omega))⟩

set_option maxHeartbeats 1000000 in
theorem compares_walk (ta : Bool) (na : Int) (sa : ByteArray) (tb : Bool) (nb : Int) (sb : ByteArray) (w : World) (ha : sa.size ≤ maxLen) (hb : sb.size ≤ maxLen) (hT : HasTab w) (hg : 0 < w.heap.size) :
    Calls Tryd.prog 3 #[V ta na sa, V tb nb sb] w fun e w' => e = .returned (.bool true) ∧ Below w.heap.size w w' := by
  have H0 : Hid (∀ w1 : World, Below w.heap.size w w1 → Calls Tryd.prog 10 #[] w1 fun e w' => e = .returned (.bool true) ∧ Below w1.heap.size w1 w') := fun w1 hb => awake_any w1 (hT.below hb hg) (Nat.lt_of_lt_of_le hg hb.size)
  have H1 : Hid (∀ w1 : World, Calls Tryd.prog 11 #[V ta na sa, V tb nb sb] w1 fun e w' => e = .returned (.int .i64 (cmpV ta na sa tb nb sb)) ∧ Below w1.heap.size w1 w') := fun w1 => cmp_any ta na sa tb nb sb w1
  have H2 : Hid (∀ w1 : World, Calls Tryd.prog 12 #[V ta na sa, V tb nb sb] w1 fun e w' => e = .returned (.int .i64 (cmpV ta na sa tb nb sb)) ∧ Below w1.heap.size w1 w') := fun w1 => rcmp_any ta na sa tb nb sb w1 ha hb
  have H3 : Hid (∀ w1 : World, Calls Tryd.prog 13 #[V ta na sa] w1 fun e w' => e = .returned (.bool (rightV ta na sa)) ∧ Below w1.heap.size w1 w') := fun w1 => right_any ta na sa w1 ha
  have H4 : Hid (∀ w1 : World, Calls Tryd.prog 14 #[V ta na sa] w1 fun e w' => e = .returned (.bool (rightV ta na sa)) ∧ Below w1.heap.size w1 w') := fun w1 => rright_any ta na sa w1 ha
  clear hT hg ha hb
  generalize cmpV ta na sa tb nb sb = x at *
  generalize rightV ta na sa = y at *
  go_enter Tryd.func3, Tryd.ntmps3
  go_wp2_with fail
  refine Calls.mono (H0.out _ (((Below.refl _ _).alloc (Nat.le_refl _) _).alloc (by simp) _)) ?_
  rintro e w1 ⟨rfl, hb⟩
  obtain ⟨hc1, hz1, hb1⟩ := kept2c hb
  have HB1 : Hid (Below w.heap.size w w1) := hb1
  clear hb H0 hb1
  go_wp2_with fail
  go_region_held3 (fun w' => w'.cell? ⟨w.heap.size, 0, none⟩ = some (.bool ta) ∧ w'.cell? ⟨w.heap.size, 1, none⟩ = some (.int .i64 na) ∧ w'.cell? ⟨w.heap.size, 2, none⟩ = some (.string sa) ∧ w'.cell? ⟨w.heap.size + 1, 0, none⟩ = some (.bool tb) ∧ w'.cell? ⟨w.heap.size + 1, 1, none⟩ = some (.int .i64 nb) ∧ w'.cell? ⟨w.heap.size + 1, 2, none⟩ = some (.string sb)) (go_keep)
    ((first
    | (go_at_call 11; refine Calls.mono (H1.out _) ?_; rintro e w2 ⟨rfl, hb⟩; have hb' := undrew hb; have hc2 := kept2b hz1 hc1 hb'; obtain ⟨hz2, hb2⟩ := next2 hz1 HB1.out (Nat.le_refl _) hb'; have HB2 : Hid (Below w.heap.size w w2) := hb2; clear hb hb' hb2)
    | (go_at_call 12; refine Calls.mono (H2.out _) ?_; rintro e w3 ⟨rfl, hb⟩; have hc3 := kept2b hz2 hc2 hb; obtain ⟨hz3, hb2⟩ := next2 hz2 HB2.out (Nat.le_refl _) hb; have HB3 : Hid (Below w.heap.size w w3) := hb2; clear hb hb2)
    | (go_at_call 13; refine Calls.mono (H3.out _) ?_; rintro e w4 ⟨rfl, hb⟩; have hc4 := kept2b hz3 hc3 hb; obtain ⟨hz4, hb2⟩ := next2 hz3 HB3.out (Nat.le_refl _) hb; have HB4 : Hid (Below w.heap.size w w4) := hb2; clear hb hb2)
    | (go_at_call 14; refine Calls.mono (H4.out _) ?_; rintro e w5 ⟨rfl, hb⟩; have hc5 := kept2b hz4 hc4 hb; obtain ⟨hz5, hb2⟩ := next2 hz4 HB4.out (Nat.le_refl _) hb; have HB5 : Hid (Below w.heap.size w w5) := hb2; clear hb hb2)))
  go_wp2
  go_ret
  exact ⟨rfl, HB5.out⟩
end Go.Proofs.YtmgkjojifhchkaaDoor.Val
