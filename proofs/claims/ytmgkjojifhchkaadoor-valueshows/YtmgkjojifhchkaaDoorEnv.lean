/- Numbers told and read: the library's contracts in a world that holds what the rows list. -/
import Derived.Test.YtmgkjojifhchkaaDoorShelf
import Derived.Test.YtmgkjojifhchkaaDoorShowRead
import Derived.Test.YtmgkjojifhchkaaDoorNumPlain
import Derived.Lib.LaidTab
import Derived.Lib.SmallJoins
import Derived.Lib.ParseIntBTie
import Derived.WalkSmall
namespace Go.Proofs.YtmgkjojifhchkaaDoor.Val
open Go.RowKit

theorem gPow : Tryd.prog.globalNamed "internal/strconv.uint64pow10" = some 1 := by kernel_rfl
theorem gSyn : Tryd.prog.globalNamed "strconv.ErrSyntax" = some 2 := by kernel_rfl
theorem gRng : Tryd.prog.globalNamed "strconv.ErrRange" = some 3 := by kernel_rfl
/-- What a world holds of the package-level variables. -/
structure Env (w : World) : Prop where
  tab : HasTab w
  pow : Lib.TabIs Tryd.prog w "internal/strconv.uint64pow10" .u64 Lib.pow10Tab
  syn : ∃ tp p, w.var? Tryd.prog "strconv.ErrSyntax" = some #[.iface tp p]
  rng : ∃ tp p, w.var? Tryd.prog "strconv.ErrRange" = some #[.iface tp p]
  size : 0 < w.heap.size ∧ 1 < w.heap.size ∧ 2 < w.heap.size ∧ 3 < w.heap.size
theorem Env.below {w w' : World} {B : Nat} (h : Env w) (hb : Below B w w') (hB : w.heap.size ≤ B) : Env w' := by
  have hz := h.size
  refine ⟨h.tab.below hb (by omega), var?_below hb gPow (by omega) h.pow, ?_, ?_, by have := hb.size; omega⟩
  · obtain ⟨tp, p, hv⟩ := h.syn
    exact ⟨tp, p, var?_below hb gSyn (by omega) hv⟩
  · obtain ⟨tp, p, hv⟩ := h.rng
    exact ⟨tp, p, var?_below hb gRng (by omega) hv⟩
theorem Env.lt {w : World} (h : Env w) : 0 < w.heap.size := by have := h.size; omega

theorem below_grow (w : World) (k : Nat) (os : Array Obj) : Below w.heap.size w (Sort.grow (w.drewN k) os) :=
  ⟨rfl, rfl, rfl, by show _ ≤ (w.heap ++ os).size; simp, fun j hj => by show (w.heap ++ os)[j]? = _; rw [Array.getElem?_append_left hj]⟩
theorem format_any (n : Int) (w : World) (hn : fits n = true) (E : Env w) :
    Calls Tryd.prog 32 #[.int .i64 n, .int .i64 10] w fun e w' => e = .returned (.string ⟨(Lib.itoa n).toArray⟩) ∧ Below w.heap.size w w' := by
  rw [fits_iff] at hn
  refine (Any.strconv_FormatInt_10 Tryd.laysM173 n hn.1 hn.2 w E.pow).mono ?_
  rintro e w' ⟨he, k, os, rfl⟩
  exact ⟨he, below_grow w k os⟩
theorem parse_ok (s : ByteArray) (v : Int) (w : World) (hs : s.size ≤ 281474976710656) (h : Lib.parseIntB 64 s.data.toList = .ok v) :
    Calls Tryd.prog 36 #[.string s, .int .i64 10, .int .i64 64] w fun e w' => e = .returned (.tuple #[.int .i64 v, .nilIface]) ∧ Below w.heap.size w w' := by
  refine (Any.strconv_ParseInt_10_at64_ok Tryd.laysC174 s (by omega) v h w).mono ?_
  rintro e w' ⟨he, hw⟩
  refine ⟨he, ?_⟩
  rcases hw with rfl | ⟨t, rfl⟩
  · exact Below.refl _ _
  · exact Joins.below_bytesWorld _ w _ t (Nat.le_refl _)
theorem parse_bad (s : ByteArray) (w : World) (hs : s.size ≤ 281474976710656) (h : ∀ v, Lib.parseIntB 64 s.data.toList ≠ .ok v) (E : Env w) :
    Calls Tryd.prog 36 #[.string s, .int .i64 10, .int .i64 64] w fun e w' => (∃ (m : Int) (N : Nat), e = .returned (.tuple #[.int .i64 m, .iface 64 (.pointer (some ⟨N, 0, none⟩))])) ∧ Below w.heap.size w w' := by
  rcases hp : Lib.parseIntB 64 s.data.toList with v | _ | _
  · exact absurd hp (h v)
  · obtain ⟨tp, p, hv⟩ := E.syn
    refine (Any.strconv_ParseInt_10_at64_syntax_var Tryd.laysC174 s hs hp tp p w hv).mono ?_
    rintro e w' ⟨N, he, _, _, hb⟩
    exact ⟨⟨_, N, he⟩, hb⟩
  · obtain ⟨tp, p, hv⟩ := E.rng
    refine (Any.strconv_ParseInt_10_at64_range_var Tryd.laysC174 s hs hp tp p w hv).mono ?_
    rintro e w' ⟨N, he, _, _, hb⟩
    exact ⟨⟨_, N, he⟩, hb⟩

set_option maxHeartbeats 400000 in
theorem show_number (n : Int) (w : World) (hn : fits n = true) (E : Env w) :
    Calls Tryd.prog 23 #[V false n ⟨#[]⟩] w fun e w' => e = .returned (.string ⟨(Lib.itoa n).toArray⟩) ∧ Below w.heap.size w w' := by
  have HF : Hid (∀ w1 : World, Below w.heap.size w w1 → Calls Tryd.prog 32 #[.int .i64 n, .int .i64 10] w1 fun e w' => e = .returned (.string ⟨(Lib.itoa n).toArray⟩) ∧ Below w1.heap.size w1 w') := fun w1 hb => format_any n w1 hn (E.below hb (Nat.le_refl _))
  clear hn E
  generalize (⟨(Lib.itoa n).toArray⟩ : ByteArray) = q at *
  go_enter Tryd.func23, Tryd.ntmps23
  go_wp2_with fail
  refine (right_number_yes _ _).mono ?_
  rintro e w1 ⟨rfl, hb1⟩
  have HB : Hid (Below w.heap.size w w1) := ((Below.refl _ _).alloc (Nat.le_refl _) _).trans (hb1.mono (by simp))
  obtain ⟨⟨c0, c1, c2⟩, -, hz⟩ := kept1 (hb1.mono (by simp))
  clear hb1
  go_wp2_with fail
  refine Calls.mono (HF.out _ HB.out) ?_
  rintro e w2 ⟨rfl, hb2⟩
  go_wp2
  go_ret
  exact ⟨rfl, HB.out.trans (hb2.mono (by omega))⟩
end Go.Proofs.YtmgkjojifhchkaaDoor.Val
