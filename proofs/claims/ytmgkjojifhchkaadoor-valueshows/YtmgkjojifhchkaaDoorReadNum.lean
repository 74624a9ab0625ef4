/- What readNumber of package value answers, and Read of any text, Show of any value. -/
import Derived.Test.YtmgkjojifhchkaaDoorEnv
namespace Go.Proofs.YtmgkjojifhchkaaDoor.Val
open Go.RowKit

/-- What is answered, told by the number that is read. -/
def numAns (o : Option Int) : Value := match o with | some n => .tuple #[V false n ⟨#[]⟩, .int .i64 0] | none => .tuple #[V false 0 ⟨#[]⟩, .int .i64 10]

set_option maxHeartbeats 400000 in
theorem rn_bad (s : ByteArray) (w : World) (hs : s.size ≤ 281474976710656) (h : ∀ v, Lib.parseIntB 64 s.data.toList ≠ .ok v) (E : Env w) :
    Calls Tryd.prog 29 #[.string s] w fun e w' => e = .returned (.tuple #[V false 0 ⟨#[]⟩, .int .i64 10]) ∧ Below w.heap.size w w' := by
  have HP : Hid (∀ o : Obj, _) := fun o => parse_bad s (w.alloc o) hs h (E.below ((Below.refl w.heap.size w).alloc (Nat.le_refl _) o) (Nat.le_refl _))
  clear hs h E
  go_enter Tryd.func29, Tryd.ntmps29
  go_wp2_with fail
  refine Calls.mono (HP.out _) ?_
  rintro e w1 ⟨⟨m, N, rfl⟩, hb1⟩
  have HB : Hid (Below (w.heap.size + 1) _ w1) := kept_end hb1
  obtain ⟨⟨c0, c1, c2⟩, ⟨f0, f1, f2⟩, hz⟩ := kept1 HB.out
  clear hb1
  go_wp2
  exact bodyPost_ret (v := .tuple #[V false 0 ⟨#[]⟩, .int .i64 10]) (by simp [results, Tryd.results29, go_sem, c0, c1, c2, hz]) rfl ⟨rfl, (below_end HB.out).alloc (by simp [World.setCell]; omega) _⟩

set_option maxHeartbeats 400000 in
theorem rn_no (s q : ByteArray) (v : Int) (w : World) (hs : s.size ≤ 281474976710656) (h : Lib.parseIntB 64 s.data.toList = .ok v) (hq : (q.toList == s.toList) = false) (E : Env w)
    (hw : ∀ w1 : World, Env w1 → Calls Tryd.prog 23 #[V false v ⟨#[]⟩] w1 fun e w' => e = .returned (.string q) ∧ Below w1.heap.size w1 w') :
    Calls Tryd.prog 29 #[.string s] w fun e w' => e = .returned (.tuple #[V false 0 ⟨#[]⟩, .int .i64 10]) ∧ Below w.heap.size w w' := by
  have HP : Hid (∀ o : Obj, _) := fun o => parse_ok s v (w.alloc o) hs h
  have HE : Hid (Env w) := E
  have HS : Hid (∀ w1 : World, Env w1 → _) := hw
  clear hs h E hw
  go_enter Tryd.func29, Tryd.ntmps29
  go_wp2_with fail
  refine Calls.mono (HP.out _) ?_
  rintro e w1 ⟨rfl, hb1⟩
  have HB : Hid (Below (w.heap.size + 1) _ w1) := kept_end hb1
  have hz1 := hb1.size
  clear hb1
  simp at hz1
  go_wp2_with fail
  refine Calls.mono (HS.out _ (HE.out.below ((((Below.refl w.heap.size w).alloc (Nat.le_refl _) _).trans (HB.out.mono (by omega))).alloc (by omega) _) (Nat.le_refl _))) ?_
  rintro e w2 ⟨rfl, hb2⟩
  have HB2 : Hid (Below (w.heap.size + 1) _ w2) := (HB.out.alloc (by omega) _).trans (hb2.mono (by simp; omega))
  obtain ⟨⟨c0, c1, c2⟩, ⟨f0, f1, f2⟩, hz⟩ := kept1 HB2.out
  clear hb2
  go_wp2
  exact bodyPost_ret (v := .tuple #[V false 0 ⟨#[]⟩, .int .i64 10]) (by simp [results, Tryd.results29, go_sem, c0, c1, c2]) rfl ⟨rfl, below_end HB2.out⟩
set_option maxHeartbeats 400000 in
theorem rn_yes (s q : ByteArray) (v : Int) (w : World) (hs : s.size ≤ 281474976710656) (h : Lib.parseIntB 64 s.data.toList = .ok v) (hq : (q.toList == s.toList) = true) (E : Env w)
    (hw : ∀ w1 : World, Env w1 → Calls Tryd.prog 23 #[V false v ⟨#[]⟩] w1 fun e w' => e = .returned (.string q) ∧ Below w1.heap.size w1 w') :
    Calls Tryd.prog 29 #[.string s] w fun e w' => e = .returned (.tuple #[V false v ⟨#[]⟩, .int .i64 0]) ∧ Below w.heap.size w w' := by
  have HP : Hid (∀ o : Obj, _) := fun o => parse_ok s v (w.alloc o) hs h
  have HE : Hid (Env w) := E
  have HS : Hid (∀ w1 : World, Env w1 → _) := hw
  clear hs h E hw
  go_enter Tryd.func29, Tryd.ntmps29
  go_wp2_with fail
  refine Calls.mono (HP.out _) ?_
  rintro e w1 ⟨rfl, hb1⟩
  have HB : Hid (Below (w.heap.size + 1) _ w1) := kept_end hb1
  have hz1 := hb1.size
  clear hb1
  simp at hz1
  go_wp2_with fail
  refine Calls.mono (HS.out _ (HE.out.below ((((Below.refl w.heap.size w).alloc (Nat.le_refl _) _).trans (HB.out.mono (by omega))).alloc (by omega) _) (Nat.le_refl _))) ?_
  rintro e w2 ⟨rfl, hb2⟩
  have HB2 : Hid (Below (w.heap.size + 1) _ w2) := (HB.out.alloc (by omega) _).trans (hb2.mono (by simp; omega))
  obtain ⟨⟨c0, c1, c2⟩, ⟨f0, f1, f2⟩, hz⟩ := kept1 HB2.out
  obtain ⟨⟨d0, d1, d2⟩, -, hz2⟩ := kept1 (kept_end hb2)
  clear hb2
  go_wp2
  exact bodyPost_ret (v := .tuple #[V false v ⟨#[]⟩, .int .i64 0]) (by simp [results, Tryd.results29, go_sem, c0, c1, c2]) rfl ⟨rfl, below_end HB2.out⟩
theorem toList_mk (l : List UInt8) : (⟨l.toArray⟩ : ByteArray).toList = l := by rw [ByteArray.toList_eq]
theorem readNumber_any (s : ByteArray) (w : World) (hs : s.size ≤ 281474976710656) (E : Env w) :
    Calls Tryd.prog 29 #[.string s] w fun e w' => e = .returned (numAns (numOf s.data.toList)) ∧ Below w.heap.size w w' := by
  rcases hp : Lib.parseIntB 64 s.data.toList with v | _ | _
  · have hv : fits v = true := by
      have := Lib.parseIntB_bounds hp
      rw [fits_iff]
      have e : (((2 ^ (64 - 1) : Nat)) : Int) = 9223372036854775808 := by decide
      rw [e] at this
      omega
    have hw : ∀ w1 : World, Env w1 → Calls Tryd.prog 23 #[V false v ⟨#[]⟩] w1 fun e w' => e = .returned (.string ⟨(Lib.itoa v).toArray⟩) ∧ Below w1.heap.size w1 w' := fun w1 E1 => show_number v w1 hv E1
    by_cases he : Lib.itoa v = s.data.toList
    · have hn : numOf s.data.toList = some v := by unfold numOf; rw [hp]; simp [he]
      rw [hn]
      exact rn_yes s _ v w hs hp (by rw [toList_mk, ByteArray.toList_eq, beq_iff_eq]; exact he) E hw
    · have hn : numOf s.data.toList = none := by unfold numOf; rw [hp]; simp [he]
      rw [hn]
      exact rn_no s _ v w hs hp (by rw [toList_mk, ByteArray.toList_eq, beq_eq_false_iff_ne]; exact he) E hw
  · have hn : numOf s.data.toList = none := by unfold numOf; rw [hp]
    rw [hn]
    exact rn_bad s w hs (fun v => by rw [hp]; exact fun e => by cases e) E
  · have hn : numOf s.data.toList = none := by unfold numOf; rw [hp]
    rw [hn]
    exact rn_bad s w hs (fun v => by rw [hp]; exact fun e => by cases e) E
end Go.Proofs.YtmgkjojifhchkaaDoor.Val
