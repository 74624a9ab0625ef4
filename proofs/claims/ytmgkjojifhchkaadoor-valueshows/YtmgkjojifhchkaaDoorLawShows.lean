/- The law ValueShows answers true for any value and any text, in a world that holds what the rows list. -/
import Derived.Test.YtmgkjojifhchkaaDoorRefReadAny
import Derived.Test.YtmgkjojifhchkaaDoorAwake
namespace Go.Proofs.YtmgkjojifhchkaaDoor.Val
open Go.RowKit

theorem ansOf_form (o : Option (Bool × Int × List UInt8)) : ∃ t n s k, ansOf o = .tuple #[V t n s, .int .i64 k] := by
  cases o with
  | none => exact ⟨_, _, _, _, rfl⟩
  | some x => obtain ⟨t, n, l⟩ := x; exact ⟨_, _, _, _, rfl⟩
/-- Three blocks of three cells. -/
theorem keep9 {a b c : Nat} {a0 a1 a2 b0 b1 b2 c0 c1 c2 : Value} {W W' : World} (hb : Below W.heap.size W W')
    (h : W.cell? ⟨a, 0, none⟩ = some a0 ∧ W.cell? ⟨a, 1, none⟩ = some a1 ∧ W.cell? ⟨a, 2, none⟩ = some a2 ∧ W.cell? ⟨b, 0, none⟩ = some b0 ∧ W.cell? ⟨b, 1, none⟩ = some b1 ∧ W.cell? ⟨b, 2, none⟩ = some b2 ∧ W.cell? ⟨c, 0, none⟩ = some c0 ∧ W.cell? ⟨c, 1, none⟩ = some c1 ∧ W.cell? ⟨c, 2, none⟩ = some c2) :
    W'.cell? ⟨a, 0, none⟩ = some a0 ∧ W'.cell? ⟨a, 1, none⟩ = some a1 ∧ W'.cell? ⟨a, 2, none⟩ = some a2 ∧ W'.cell? ⟨b, 0, none⟩ = some b0 ∧ W'.cell? ⟨b, 1, none⟩ = some b1 ∧ W'.cell? ⟨b, 2, none⟩ = some b2 ∧ W'.cell? ⟨c, 0, none⟩ = some c0 ∧ W'.cell? ⟨c, 1, none⟩ = some c1 ∧ W'.cell? ⟨c, 2, none⟩ = some c2 := by
  have hl : ∀ p v, W.cell? p = some v → W'.cell? p = some v := fun p v hv => (hb.cell (World.block_lt_of_cell? W p hv)).trans hv
  obtain ⟨h1, h2, h3, h4, h5, h6, h7, h8, h9⟩ := h
  exact ⟨hl _ _ h1, hl _ _ h2, hl _ _ h3, hl _ _ h4, hl _ _ h5, hl _ _ h6, hl _ _ h7, hl _ _ h8, hl _ _ h9⟩
theorem cells3 (w : World) (x0 x1 x2 : Value) (T : TypeId) : (w.alloc (.cells #[x0, x1, x2] T)).cell? ⟨w.heap.size, 0, none⟩ = some x0 ∧ (w.alloc (.cells #[x0, x1, x2] T)).cell? ⟨w.heap.size, 1, none⟩ = some x1 ∧ (w.alloc (.cells #[x0, x1, x2] T)).cell? ⟨w.heap.size, 2, none⟩ = some x2 := by
  refine ⟨?_, ?_, ?_⟩ <;> simp
theorem keep3 {a : Nat} {a0 a1 a2 : Value} {W W' : World} (hb : Below W.heap.size W W') (h : W.cell? ⟨a, 0, none⟩ = some a0 ∧ W.cell? ⟨a, 1, none⟩ = some a1 ∧ W.cell? ⟨a, 2, none⟩ = some a2) :
    W'.cell? ⟨a, 0, none⟩ = some a0 ∧ W'.cell? ⟨a, 1, none⟩ = some a1 ∧ W'.cell? ⟨a, 2, none⟩ = some a2 := by
  have hl : ∀ p v, W.cell? p = some v → W'.cell? p = some v := fun p v hv => (hb.cell (World.block_lt_of_cell? W p hv)).trans hv
  exact ⟨hl _ _ h.1, hl _ _ h.2.1, hl _ _ h.2.2⟩
theorem alloc_below (w : World) (o : Obj) : Below w.heap.size w (w.alloc o) := (Below.refl _ _).alloc (Nat.le_refl _) _

set_option maxHeartbeats 1000000 in
theorem shows_long1 (t : Bool) (n : Int) (sv s : ByteArray) (w : World) (hs : s.size ≤ maxLen) (hl : 1000 < s.size) (E : Env w) :
    Calls Tryd.prog 5 #[V t n sv, .string s] w fun e w' => e = .returned (.bool true) ∧ Below w.heap.size w w' := by
  unfold maxLen at hs
  have H0 : Hid (∀ w1 : World, Below w.heap.size w w1 → Calls Tryd.prog 10 #[] w1 fun e w' => e = .returned (.bool true) ∧ Below w1.heap.size w1 w') := fun w1 hb => awake_any w1 (E.below hb (Nat.le_refl _)).tab (E.below hb (Nat.le_refl _)).lt
  clear E
  go_enter Tryd.func5, Tryd.ntmps5
  go_wp2_with fail
  refine Calls.mono (H0.out _ (alloc_below _ _)) ?_
  rintro e w1 ⟨rfl, hb⟩
  go_wp2
  go_ret
  exact ⟨rfl, (alloc_below _ _).trans (hb.mono (by simp))⟩
set_option maxHeartbeats 1000000 in
theorem shows_long2 (t : Bool) (n : Int) (sv s : ByteArray) (w : World) (hs : sv.size ≤ maxLen) (la : s.size ≤ 1000) (hl : 1000 < sv.size) (E : Env w) :
    Calls Tryd.prog 5 #[V t n sv, .string s] w fun e w' => e = .returned (.bool true) ∧ Below w.heap.size w w' := by
  unfold maxLen at hs
  have H0 : Hid (∀ w1 : World, Below w.heap.size w w1 → Calls Tryd.prog 10 #[] w1 fun e w' => e = .returned (.bool true) ∧ Below w1.heap.size w1 w') := fun w1 hb => awake_any w1 (E.below hb (Nat.le_refl _)).tab (E.below hb (Nat.le_refl _)).lt
  clear E
  go_enter Tryd.func5, Tryd.ntmps5
  go_wp2_with fail
  refine Calls.mono (H0.out _ (alloc_below _ _)) ?_
  rintro e w1 ⟨rfl, hb⟩
  obtain ⟨v0, v1, v2⟩ := keep3 hb (cells3 _ _ _ _ _)
  go_wp2
  go_ret
  exact ⟨rfl, (alloc_below _ _).trans (hb.mono (by simp))⟩
set_option maxHeartbeats 1000000 in
theorem shows_main (t : Bool) (n : Int) (sv s q : ByteArray) (tx : Bool) (nx : Int) (sx : ByteArray) (k : Int) (w : World) (la : s.size ≤ 1000) (lb : sv.size ≤ 1000) (E : Env w)
    (hR : ∀ w1 : World, Env w1 → Calls Tryd.prog 21 #[.string s] w1 fun e w' => e = .returned (.tuple #[V tx nx sx, .int .i64 k]) ∧ Below w1.heap.size w1 w')
    (hR2 : ∀ w1 : World, Calls Tryd.prog 22 #[.string s] w1 fun e w' => e = .returned (.tuple #[V tx nx sx, .int .i64 k]) ∧ Below w1.heap.size w1 w')
    (hS : ∀ w1 : World, Env w1 → Calls Tryd.prog 23 #[V t n sv] w1 fun e w' => e = .returned (.string q) ∧ Below w1.heap.size w1 w')
    (hS2 : ∀ w1 : World, Calls Tryd.prog 24 #[V t n sv] w1 fun e w' => e = .returned (.string q) ∧ Below w1.heap.size w1 w') :
    Calls Tryd.prog 5 #[V t n sv, .string s] w fun e w' => e = .returned (.bool true) ∧ Below w.heap.size w w' := by
  have d1 : decide (1000 < (s.size : Int)) = false := by simp; omega
  have d2 : decide (1000 < (sv.size : Int)) = false := by simp; omega
  have H0 : Hid (∀ w1 : World, Below w.heap.size w w1 → Calls Tryd.prog 10 #[] w1 fun e w' => e = .returned (.bool true) ∧ Below w1.heap.size w1 w') := fun w1 hb => awake_any w1 (E.below hb (Nat.le_refl _)).tab (E.below hb (Nat.le_refl _)).lt
  have H1 : Hid (∀ w1 : World, Below w.heap.size w w1 → Calls Tryd.prog 21 #[.string s] w1 fun e w' => e = .returned (.tuple #[V tx nx sx, .int .i64 k]) ∧ Below w1.heap.size w1 w') := fun w1 hb => hR w1 (E.below hb (Nat.le_refl _))
  have H2 : Hid (∀ w1 : World, _) := hR2
  have H3 : Hid (∀ w1 : World, Below w.heap.size w w1 → Calls Tryd.prog 23 #[V t n sv] w1 fun e w' => e = .returned (.string q) ∧ Below w1.heap.size w1 w') := fun w1 hb => hS w1 (E.below hb (Nat.le_refl _))
  have H4 : Hid (∀ w1 : World, _) := hS2
  clear E hR hR2 hS hS2 la lb
  go_enter Tryd.func5, Tryd.ntmps5
  go_wp2_with fail
  refine Calls.mono (H0.out _ (alloc_below _ _)) ?_
  rintro e w1 ⟨rfl, hb⟩
  have B1 : Hid (Below w.heap.size w w1) := (alloc_below _ _).trans (hb.mono (by simp))
  have v1 := keep3 hb (cells3 _ _ _ _ _)
  clear hb
  go_wp2_with fail
  refine Calls.mono (H1.out _ B1.out) ?_
  rintro e w2 ⟨rfl, hb⟩
  have B2 : Hid (Below w.heap.size w w2) := B1.out.trans (hb.mono B1.out.size)
  have v2 := keep3 hb v1
  clear hb v1
  go_wp2_with fail
  refine Calls.mono (H2.out _) ?_
  rintro e w3 ⟨rfl, hb⟩
  have x3 := keep3 hb (cells3 _ _ _ _ _)
  have v3 := keep3 hb (keep3 (alloc_below _ _) v2)
  have B3 : Hid (Below w.heap.size w w3) := (B2.out.trans ((alloc_below _ _).mono B2.out.size)).trans (hb.mono (by have := B2.out.size; simp; omega))
  clear hb v2
  have n9 : Hid (∀ Y, _) := fun Y => And.intro (keep3 (alloc_below w3 Y) v3) (keep3 (alloc_below w3 Y) x3)
  go_wp2_with fail
  obtain ⟨⟨p0, p1, p2⟩, r0, r1, r2⟩ := n9.out (.cells #[.bool tx, .int .i64 nx, .string sx] 23)
  obtain ⟨y0, y1, y2⟩ := cells3 w3 (.bool tx) (.int .i64 nx) (.string sx) 23
  have B4 : Hid (Below w.heap.size w (w3.alloc (.cells #[.bool tx, .int .i64 nx, .string sx] 23))) := B3.out.alloc B3.out.size _
  clear v3 x3
  have s3 := And.intro p0 (And.intro p1 (And.intro p2 (And.intro r0 (And.intro r1 (And.intro r2 (And.intro y0 (And.intro y1 y2)))))))
  have hz4 := B4.out.size
  go_region_held3 (fun w' => w'.cell? ⟨w.heap.size, 0, none⟩ = some (.bool t) ∧ w'.cell? ⟨w.heap.size, 1, none⟩ = some (.int .i64 n) ∧ w'.cell? ⟨w.heap.size, 2, none⟩ = some (.string sv) ∧ w'.cell? ⟨w2.heap.size, 0, none⟩ = some (.bool tx) ∧ w'.cell? ⟨w2.heap.size, 1, none⟩ = some (.int .i64 nx) ∧ w'.cell? ⟨w2.heap.size, 2, none⟩ = some (.string sx) ∧ w'.cell? ⟨w3.heap.size, 0, none⟩ = some (.bool tx) ∧ w'.cell? ⟨w3.heap.size, 1, none⟩ = some (.int .i64 nx) ∧ w'.cell? ⟨w3.heap.size, 2, none⟩ = some (.string sx)) (go_keep)
    ((first
      | (go_at_call 23; refine Calls.mono (H3.out _ B4.out.drew) ?_; rintro e w4 ⟨rfl, hb⟩; have hb' := undrew hb; have s4 := keep9 hb' s3; have B5 : Hid (Below w.heap.size w w4) := B4.out.trans (hb'.mono hz4); have hz5 := hb'.size; clear hb hb')
      | (go_at_call 24; refine Calls.mono (H4.out _) ?_; rintro e w5 ⟨rfl, hb⟩; have s5 := keep9 hb s4; have B6 : Hid (Below w.heap.size w w5) := B5.out.trans (hb.mono B5.out.size); clear hb)
      | fail))
  all_goals
    go_wp2
    go_ret
    exact ⟨rfl, B6.out⟩
theorem shows_walk (t : Bool) (n : Int) (sv s : ByteArray) (w : World) (fn : fits n = true) (hv : sv.size ≤ maxLen) (hs : s.size ≤ maxLen) (E : Env w) :
    Calls Tryd.prog 5 #[V t n sv, .string s] w fun e w' => e = .returned (.bool true) ∧ Below w.heap.size w w' := by
  by_cases l1 : 1000 < s.size
  · exact shows_long1 t n sv s w hs l1 E
  · by_cases l2 : 1000 < sv.size
    · exact shows_long2 t n sv s w hv (by omega) l2 E
    · obtain ⟨tx, nx, sx, k, hk⟩ := ansOf_form (readOf s)
      refine shows_main t n sv s ⟨(showL t n sv).toArray⟩ tx nx sx k w (by omega) (by omega) E (fun w1 E1 => ?_) (fun w1 => ?_) (fun w1 E1 => show_any t n sv w1 fn hv E1) (fun w1 => rshow_any t n sv w1 fn hv)
      · rw [← hk]; exact read_any s w1 (by omega) E1
      · rw [← hk]; exact rread_any s w1 (by omega)
end Go.Proofs.YtmgkjojifhchkaaDoor.Val
