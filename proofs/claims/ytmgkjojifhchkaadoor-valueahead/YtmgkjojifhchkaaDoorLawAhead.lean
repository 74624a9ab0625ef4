/- The law ValueAhead answers true for any two texts and any number, in a world that holds the table of digits. -/
import Derived.Test.YtmgkjojifhchkaaDoorRefCmpPlain
import Derived.Test.YtmgkjojifhchkaaDoorCmp
import Derived.Test.YtmgkjojifhchkaaDoorAwake
namespace Go.Proofs.YtmgkjojifhchkaaDoor.Val
open Go.RowKit

theorem append_toList (s m : ByteArray) : (s ++ m).toList = s.toList ++ m.toList := by
  rw [ByteArray.toList_eq, ByteArray.toList_eq, ByteArray.toList_eq]; simp
theorem ahead_cmp (s m : ByteArray) : cmpS s.toList (s ++ m).toList = if m.toList.isEmpty = true then 0 else -1 := by
  rw [append_toList]
  cases hm : m.toList with
  | nil => simp [cmpS_self]
  | cons c r =>
    rw [cmpS_of_less]
    · rfl
    · have := less_append s.toList [] (c :: r)
      simpa [Op.bytesLess] using this

theorem kept2d {w w1 : World} {x0 x1 x2 : Value} {o : Obj} {T : TypeId} (h1 : Below ((w.alloc (.cells #[x0, x1, x2] T)).alloc o).heap.size ((w.alloc (.cells #[x0, x1, x2] T)).alloc o) w1) :
    (w1.cell? ⟨w.heap.size, 0, none⟩ = some x0 ∧ w1.cell? ⟨w.heap.size, 1, none⟩ = some x1 ∧ w1.cell? ⟨w.heap.size, 2, none⟩ = some x2) ∧ Below w.heap.size w w1 ∧ w.heap.size < w1.heap.size := by
  have k := h1.size
  simp at k
  refine ⟨?_, ((((Below.refl _ _).alloc (Nat.le_refl _) _).alloc (by simp) _)).trans (h1.mono (by simp; omega)), by omega⟩
  refine ⟨?_, ?_, ?_⟩ <;> rw [h1.cell (by simp; try omega)] <;> simp
set_option maxHeartbeats 1000000 in
theorem ahead_long1 (s m : ByteArray) (n : Int) (w : World) (hs : s.size ≤ maxLen) (hl : 1000 < s.size) (hT : HasTab w) (hg : 0 < w.heap.size) :
    Calls Tryd.prog 9 #[.string s, .string m, .int .i64 n] w fun e w' => e = .returned (.bool true) ∧ Below w.heap.size w w' := by
  unfold maxLen at hs
  have H0 : Hid _ := awake_any w hT hg
  clear hT hg
  go_enter Tryd.func9, Tryd.ntmps9
  go_wp2_with fail
  refine Calls.mono H0.out ?_
  rintro e w1 ⟨rfl, hb⟩
  go_wp2
  go_ret
  exact ⟨rfl, hb⟩
set_option maxHeartbeats 1000000 in
theorem ahead_long2 (s m : ByteArray) (n : Int) (w : World) (hs : m.size ≤ maxLen) (hl : s.size ≤ 1000) (hl2 : 1000 < m.size) (hT : HasTab w) (hg : 0 < w.heap.size) :
    Calls Tryd.prog 9 #[.string s, .string m, .int .i64 n] w fun e w' => e = .returned (.bool true) ∧ Below w.heap.size w w' := by
  unfold maxLen at hs
  have H0 : Hid _ := awake_any w hT hg
  clear hT hg
  go_enter Tryd.func9, Tryd.ntmps9
  go_wp2_with fail
  refine Calls.mono H0.out ?_
  rintro e w1 ⟨rfl, hb⟩
  go_wp2
  go_ret
  exact ⟨rfl, hb⟩
set_option maxHeartbeats 1000000 in
theorem ahead_main (s m : ByteArray) (n : Int) (w : World) (hl : s.size ≤ 1000) (hl2 : m.size ≤ 1000) (b : Bool) (hm : m.toList.isEmpty = b) (hT : HasTab w) (hg : 0 < w.heap.size) :
    Calls Tryd.prog 9 #[.string s, .string m, .int .i64 n] w fun e w' => e = .returned (.bool true) ∧ Below w.heap.size w w' := by
  have d1 : decide (1000 < (s.size : Int)) = false := by simp; omega
  have d2 : decide (1000 < (m.size : Int)) = false := by simp; omega
  have H0 : Hid _ := awake_any w hT hg
  have H1 : Hid (∀ w1 : World, Calls Tryd.prog 11 #[V true 0 s, V true 0 (s ++ m)] w1 fun e w' => e = .returned (.int .i64 (if b = true then 0 else -1)) ∧ Below w1.heap.size w1 w') := fun w1 => by
    have := cmp_any true 0 s true 0 (s ++ m) w1
    simp only [cmpV, ahead_cmp, hm] at this
    exact this
  clear hT hg
  cases b
  all_goals
    go_enter Tryd.func9, Tryd.ntmps9
    go_wp2_with fail
    refine Calls.mono H0.out ?_
    rintro e w1 ⟨rfl, hb⟩
    have HB1 : Hid (Below w.heap.size w w1) := hb
    have hz1 := hb.size
    clear hb
    go_wp2_with fail
    refine Calls.mono (H1.out _) ?_
    rintro e w2 ⟨rfl, hb⟩
    obtain ⟨⟨c0, c1, c2⟩, HB2, hz2⟩ := kept2d hb
    clear hb
    go_wp2_with fail
    refine (cmp_nt _ _ _ _ _).mono ?_
    rintro e w3 ⟨rfl, hb⟩
    have HB3 : Hid (Below w.heap.size w w3) := HB1.out.trans ((HB2.trans (hb.mono (by omega))).mono hz1)
    clear hb HB2
    go_wp2
    go_ret
    exact ⟨rfl, HB3.out⟩
theorem ahead_walk (s m : ByteArray) (n : Int) (w : World) (hs : s.size ≤ maxLen) (hm : m.size ≤ maxLen) (hT : HasTab w) (hg : 0 < w.heap.size) :
    Calls Tryd.prog 9 #[.string s, .string m, .int .i64 n] w fun e w' => e = .returned (.bool true) ∧ Below w.heap.size w w' := by
  by_cases h1 : 1000 < s.size
  · exact ahead_long1 s m n w hs h1 hT hg
  · by_cases h2 : 1000 < m.size
    · exact ahead_long2 s m n w hm (by omega) h2 hT hg
    · exact ahead_main s m n w (by omega) (by omega) _ rfl hT hg
end Go.Proofs.YtmgkjojifhchkaaDoor.Val
