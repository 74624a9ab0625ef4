/- The walk of UndoSaves. -/
import Derived.Test.YtbfoplaccalegaaUndoAwake
import Derived.Test.YtbfoplaccalegaaOpenEnt
namespace Go.Proofs.Ytbfoplaccalegaa.Val
open Go Go.RowKit

theorem push_facts (L : Lg) (e : En) (h : L.es.length < L.room) : (L.push e).es = L.es ++ [e] ∧ (L.push e).room = L.room ∧ ∀ n, (L.push e).get n = L.get n := by
  rw [Lg.push, if_pos h]
  have hm := meet_es L (e.t, e.k)
  exact ⟨rfl, hm.2.1, fun n => by simp [Lg.get, hm.2.2.1, hm.2.2.2.1, hm.2.2.2.2]⟩
theorem push_met (L : Lg) (e : En) : (L.push e).met.length ≤ L.met.length + 1 := by
  unfold Lg.push
  split
  · show (L.meet (e.t, e.k)).met.length ≤ _
    unfold Lg.meet
    split
    · omega
    · simp
  · omega
theorem get_put (L : Lg) (n : Int) (hn : okn n = true) (o : Option Nat) : (L.put n o).get n = o := by
  rcases okn_cases hn with rfl | rfl | rfl <;> simp [Lg.put, Lg.get]
theorem get_put_ne (L : Lg) (n m : Int) (hn : okn n = true) (hm : okn m = true) (hne : m ≠ n) (o : Option Nat) : (L.put m o).get n = L.get n := by
  rcases okn_cases hn with rfl | rfl | rfl <;> rcases okn_cases hm with rfl | rfl | rfl <;> simp [Lg.put, Lg.get] at hne ⊢
theorem get_back (L : Lg) (a : Nat) (n : Int) : (L.back a).get n = clr a (L.get n) := by
  unfold Lg.get Lg.back
  split
  · rfl
  · split <;> rfl
theorem okn_no {n : Int} (h : okn n = false) : n < 1 ∨ 3 < n := by
  simp [okn] at h
  omega
theorem okn_yes {n : Int} (h : okn n = true) : 1 ≤ n ∧ n ≤ 3 := by
  simpa [okn] using h
theorem box_of {W : World} {e : En} (ge : GoodE W e) : EB (W.alloc (eobj e)) W.heap.size e ∧ GoodE (W.alloc (eobj e)) e ∧ Below W.heap.size W (W.alloc (eobj e)) := ⟨EB.new W e, ⟨ge.1, ge.2.1.below (alloc1 _ _), ge.2.2⟩, alloc1 _ _⟩
theorem new_get (n : Int) : (newL 10).get n = none := by
  unfold Lg.get newL
  split
  · rfl
  · split <;> rfl
theorem saves_a1 (n m : Int) (e : En) (W : World) (ge : GoodE W e) (ho : okn n = false) (hn : n < 1) : Calls Try.prog 6 #[.int .i64 n, .int .i64 m, e.val] W fun x w' => x = .returned (.bool true) ∧ Below W.heap.size W w' := by
  have HA : Hid (∀ w1, Calls Try.prog 8 #[] w1 fun e w' => e = .returned (.bool true) ∧ Below w1.heap.size w1 w') := awake_any
  have HE : Hid _ := box_of ge
  have HO : Hid (okn n = false) := ho
  clear ho
  clear ge
  go_enter Try.func6, Try.ntmps6
  go_wp2_with fail
  generalize W.alloc (eobj e) = W1 at *
  refine Calls.mono (HA.out _) ?_
  rintro x w1 ⟨rfl, hb⟩
  have HB1 : Hid (Below W1.heap.size W1 w1) := hb
  clear hb HA
  go_wp2_with fail
  refine Calls.mono (new_q W1 w1 10 HB1.out) ?_
  rintro x w2 ⟨p, rfl, q⟩
  have HQ2 : Hid (QU W1 w2 p (newL 10) []) := q
  clear q HB1
  go_wp2_with fail
  refine Calls.mono (back_qn HQ2.out n (fun _ => new_get n)) ?_
  rintro x w3 ⟨rfl, q⟩
  have HQ3 : Hid (QU W1 w3 p (newL 10) []) := q
  clear q HQ2
  go_wp2_with fail
  refine Calls.mono (save_qn HQ3.out n HO.out) ?_
  rintro x w4 ⟨rfl, q⟩
  have HZ : Hid (Below W.heap.size W w4) := HE.out.2.2.trans (q.blw.mono HE.out.2.2.size)
  clear q HQ3 HE
  go_wp2_with fail
  go_ret
  exact ⟨rfl, HZ.out⟩
theorem saves_a2 (n m : Int) (e : En) (W : World) (ge : GoodE W e) (ho : okn n = false) (hn : 3 < n) : Calls Try.prog 6 #[.int .i64 n, .int .i64 m, e.val] W fun x w' => x = .returned (.bool true) ∧ Below W.heap.size W w' := by
  have HA : Hid (∀ w1, Calls Try.prog 8 #[] w1 fun e w' => e = .returned (.bool true) ∧ Below w1.heap.size w1 w') := awake_any
  have HE : Hid _ := box_of ge
  have HO : Hid (okn n = false) := ho
  have h1 : ¬ n < 1 := by omega
  clear ho
  clear ge
  go_enter Try.func6, Try.ntmps6
  go_wp2_with fail
  generalize W.alloc (eobj e) = W1 at *
  refine Calls.mono (HA.out _) ?_
  rintro x w1 ⟨rfl, hb⟩
  have HB1 : Hid (Below W1.heap.size W1 w1) := hb
  clear hb HA
  go_wp2_with fail
  refine Calls.mono (new_q W1 w1 10 HB1.out) ?_
  rintro x w2 ⟨p, rfl, q⟩
  have HQ2 : Hid (QU W1 w2 p (newL 10) []) := q
  clear q HB1
  go_wp2_with fail
  refine Calls.mono (back_qn HQ2.out n (fun _ => new_get n)) ?_
  rintro x w3 ⟨rfl, q⟩
  have HQ3 : Hid (QU W1 w3 p (newL 10) []) := q
  clear q HQ2
  go_wp2_with fail
  refine Calls.mono (save_qn HQ3.out n HO.out) ?_
  rintro x w4 ⟨rfl, q⟩
  have HZ : Hid (Below W.heap.size W w4) := HE.out.2.2.trans (q.blw.mono HE.out.2.2.size)
  clear q HQ3 HE
  go_wp2_with fail
  go_ret
  exact ⟨rfl, HZ.out⟩
theorem saves_b1 (n m : Int) (e : En) (W : World) (ge : GoodE W e) (ho : okn n = true) (hm : m < 1) : Calls Try.prog 6 #[.int .i64 n, .int .i64 m, e.val] W fun x w' => x = .returned (.bool true) ∧ Below W.heap.size W w' := by
  have HA : Hid (∀ w1, Calls Try.prog 8 #[] w1 fun e w' => e = .returned (.bool true) ∧ Below w1.heap.size w1 w') := awake_any
  have HE : Hid _ := box_of ge
  have HO : Hid (okn n = true) := ho
  have h1 : ¬ n < 1 := by have := okn_yes ho; omega
  have h2 : ¬ 3 < n := by have := okn_yes ho; omega
  clear ho
  clear ge
  go_enter Try.func6, Try.ntmps6
  go_wp2_with fail
  generalize W.alloc (eobj e) = W1 at *
  refine Calls.mono (HA.out _) ?_
  rintro x w1 ⟨rfl, hb⟩
  have HB1 : Hid (Below W1.heap.size W1 w1) := hb
  clear hb HA
  go_wp2_with fail
  refine Calls.mono (new_q W1 w1 10 HB1.out) ?_
  rintro x w2 ⟨p, rfl, q⟩
  have HQ2 : Hid (QU W1 w2 p (newL 10) []) := q
  clear q HB1
  go_wp2_with fail
  refine Calls.mono (back_qn HQ2.out n (fun _ => new_get n)) ?_
  rintro x w3 ⟨rfl, q⟩
  have HQ3 : Hid (QU W1 w3 p (newL 10) []) := q
  clear q HQ2
  go_wp2_with fail
  refine Calls.mono (save_q HQ3.out n HO.out) ?_
  rintro x w4 ⟨rfl, q⟩
  have HZ : Hid (Below W.heap.size W w4) := HE.out.2.2.trans (q.blw.mono HE.out.2.2.size)
  clear q HQ3 HE
  go_wp2_with fail
  go_ret
  exact ⟨rfl, HZ.out⟩
theorem saves_b2 (n m : Int) (e : En) (W : World) (ge : GoodE W e) (ho : okn n = true) (hm : 3 < m) : Calls Try.prog 6 #[.int .i64 n, .int .i64 m, e.val] W fun x w' => x = .returned (.bool true) ∧ Below W.heap.size W w' := by
  have HA : Hid (∀ w1, Calls Try.prog 8 #[] w1 fun e w' => e = .returned (.bool true) ∧ Below w1.heap.size w1 w') := awake_any
  have HE : Hid _ := box_of ge
  have HO : Hid (okn n = true) := ho
  have h1 : ¬ n < 1 := by have := okn_yes ho; omega
  have h2 : ¬ 3 < n := by have := okn_yes ho; omega
  have h3 : ¬ m < 1 := by omega
  clear ho
  clear ge
  go_enter Try.func6, Try.ntmps6
  go_wp2_with fail
  generalize W.alloc (eobj e) = W1 at *
  refine Calls.mono (HA.out _) ?_
  rintro x w1 ⟨rfl, hb⟩
  have HB1 : Hid (Below W1.heap.size W1 w1) := hb
  clear hb HA
  go_wp2_with fail
  refine Calls.mono (new_q W1 w1 10 HB1.out) ?_
  rintro x w2 ⟨p, rfl, q⟩
  have HQ2 : Hid (QU W1 w2 p (newL 10) []) := q
  clear q HB1
  go_wp2_with fail
  refine Calls.mono (back_qn HQ2.out n (fun _ => new_get n)) ?_
  rintro x w3 ⟨rfl, q⟩
  have HQ3 : Hid (QU W1 w3 p (newL 10) []) := q
  clear q HQ2
  go_wp2_with fail
  refine Calls.mono (save_q HQ3.out n HO.out) ?_
  rintro x w4 ⟨rfl, q⟩
  have HZ : Hid (Below W.heap.size W w4) := HE.out.2.2.trans (q.blw.mono HE.out.2.2.size)
  clear q HQ3 HE
  go_wp2_with fail
  go_ret
  exact ⟨rfl, HZ.out⟩
theorem saves_b3 (n m : Int) (e : En) (W : World) (ge : GoodE W e) (ho : okn n = true) (hm : m = n) : Calls Try.prog 6 #[.int .i64 n, .int .i64 m, e.val] W fun x w' => x = .returned (.bool true) ∧ Below W.heap.size W w' := by
  have HA : Hid (∀ w1, Calls Try.prog 8 #[] w1 fun e w' => e = .returned (.bool true) ∧ Below w1.heap.size w1 w') := awake_any
  have HE : Hid _ := box_of ge
  have HO : Hid (okn n = true) := ho
  have h1 : ¬ n < 1 := by have := okn_yes ho; omega
  have h2 : ¬ 3 < n := by have := okn_yes ho; omega
  obtain rfl := hm.symm
  clear ho
  clear ge
  go_enter Try.func6, Try.ntmps6
  go_wp2_with fail
  generalize W.alloc (eobj e) = W1 at *
  refine Calls.mono (HA.out _) ?_
  rintro x w1 ⟨rfl, hb⟩
  have HB1 : Hid (Below W1.heap.size W1 w1) := hb
  clear hb HA
  go_wp2_with fail
  refine Calls.mono (new_q W1 w1 10 HB1.out) ?_
  rintro x w2 ⟨p, rfl, q⟩
  have HQ2 : Hid (QU W1 w2 p (newL 10) []) := q
  clear q HB1
  go_wp2_with fail
  refine Calls.mono (back_qn HQ2.out n (fun _ => new_get n)) ?_
  rintro x w3 ⟨rfl, q⟩
  have HQ3 : Hid (QU W1 w3 p (newL 10) []) := q
  clear q HQ2
  go_wp2_with fail
  refine Calls.mono (save_q HQ3.out n HO.out) ?_
  rintro x w4 ⟨rfl, q⟩
  have HZ : Hid (Below W.heap.size W w4) := HE.out.2.2.trans (q.blw.mono HE.out.2.2.size)
  clear q HQ3 HE
  go_wp2_with fail
  go_ret
  exact ⟨rfl, HZ.out⟩
def sv1 (n : Int) : Lg := (newL 10).put n (some 0)
def sv2 (n m : Int) : Lg := (sv1 n).put m (some 0)
def sv3 (n m : Int) (e : En) : Lg := (sv2 n m).push e
def sv4 (n m : Int) (e : En) : Lg := (sv3 n m e).back 0
def sv5 (n m : Int) (e : En) : Lg := (sv4 n m e).back 0
def sv6 (n m : Int) (e : En) : Lg := (sv5 n m e).push e
def sv7 (n m : Int) (e : En) : Lg := (sv6 n m e).put m (some 1)
def sv8 (n m : Int) (e : En) : Lg := (sv7 n m e).push e
def sv9 (n m : Int) (e : En) : Lg := (sv8 n m e).back 0
/-- What the log holds, step by step. -/
structure SvF (n m : Int) (e : En) : Prop where
  e1 : (sv1 n).es.length = 0
  g3 : (sv3 n m e).get n = some 0
  e3 : (sv3 n m e).es = [e]
  g4 : (sv4 n m e).get m = some 0
  e4 : (sv4 n m e).es = []
  e6 : (sv6 n m e).es.length = 1
  g8 : (sv8 n m e).get n = some 0
  e8 : (sv8 n m e).es = [e, e]
  g9 : (sv9 n m e).get m = none
  m2 : (sv2 n m).met.length ≤ 1000
  m5 : (sv5 n m e).met.length ≤ 1000
  m7 : (sv7 n m e).met.length ≤ 1000
theorem sv_facts (n m : Int) (e : En) (hn : okn n = true) (hm : okn m = true) (hne : m ≠ n) : SvF n m e := by
  have hne' : n ≠ m := fun e => hne e.symm
  have z1 : (sv1 n).es = [] ∧ (sv1 n).room = 10 ∧ (sv1 n).met = [] := by
    obtain ⟨a, b, c⟩ := Lg.put_es (newL 10) n (some 0)
    exact ⟨a, c, b⟩
  have z2 : (sv2 n m).es = [] ∧ (sv2 n m).room = 10 ∧ (sv2 n m).met = [] := by
    obtain ⟨a, b, c⟩ := Lg.put_es (sv1 n) m (some 0)
    exact ⟨a.trans z1.1, c.trans z1.2.1, b.trans z1.2.2⟩
  have k2 : (sv2 n m).get n = some 0 ∧ (sv2 n m).get m = some 0 := ⟨(get_put_ne _ n m hn hm hne _).trans (get_put _ n hn _), get_put _ m hm _⟩
  obtain ⟨a3, b3, c3⟩ := push_facts (sv2 n m) e (by rw [z2.1, z2.2.1]; decide)
  have e3 : (sv3 n m e).es = [e] := a3.trans (by rw [z2.1]; rfl)
  have m3 := push_met (sv2 n m) e
  rw [z2.2.2] at m3
  have k3 : (sv3 n m e).get n = some 0 ∧ (sv3 n m e).get m = some 0 := ⟨(c3 n).trans k2.1, (c3 m).trans k2.2⟩
  have k4 : (sv4 n m e).get n = some 0 ∧ (sv4 n m e).get m = some 0 := ⟨(get_back _ _ _).trans (by rw [k3.1]; rfl), (get_back _ _ _).trans (by rw [k3.2]; rfl)⟩
  have k5 : (sv5 n m e).get n = some 0 ∧ (sv5 n m e).get m = some 0 := ⟨(get_back _ _ _).trans (by rw [k4.1]; rfl), (get_back _ _ _).trans (by rw [k4.2]; rfl)⟩
  have z5 : (sv5 n m e).es = [] ∧ (sv5 n m e).room = 10 := ⟨by simp [sv5, sv4, Lg.back], b3.trans z2.2.1⟩
  obtain ⟨a6, b6, c6⟩ := push_facts (sv5 n m e) e (by rw [z5.1, z5.2]; decide)
  have e6 : (sv6 n m e).es = [e] := a6.trans (by rw [z5.1]; rfl)
  have m6 := push_met (sv5 n m e) e
  have m5 : (sv5 n m e).met = (sv3 n m e).met := rfl
  rw [m5] at m6
  have m3' : (sv3 n m e).met.length ≤ 1 := m3
  obtain ⟨e7, m7, r7⟩ := Lg.put_es (sv6 n m e) m (some 1)
  have r6 : (sv6 n m e).room = 10 := b6.trans z5.2
  have k7 : (sv7 n m e).get n = some 0 ∧ (sv7 n m e).get m = some 1 := ⟨(get_put_ne _ n m hn hm hne _).trans ((c6 n).trans k5.1), get_put _ m hm _⟩
  have es7 : (sv7 n m e).es = [e] := e7.trans e6
  have hr7 : (sv7 n m e).room = 10 := r7.trans r6
  obtain ⟨a8, b8, c8⟩ := push_facts (sv7 n m e) e (by rw [es7, hr7]; simp)
  have m6' : (sv6 n m e).met.length ≤ 2 := by have : (sv6 n m e).met.length ≤ (sv3 n m e).met.length + 1 := m6; omega
  have m7' : (sv7 n m e).met.length ≤ 2 := by have : (sv7 n m e).met = (sv6 n m e).met := m7; rw [this]; exact m6'
  refine ⟨by rw [z1.1]; rfl, k3.1, e3, k4.2, by simp [sv4, Lg.back], by rw [e6]; rfl, (c8 n).trans k7.1, a8.trans (by rw [es7]; rfl), (get_back _ _ _).trans ?_, by rw [z2.2.2]; simp, by rw [m5]; omega, by omega⟩
  rw [show (sv8 n m e).get m = some 1 from (c8 m).trans k7.2]; rfl
theorem saves_c (n m : Int) (e : En) (W : World) (ge : GoodE W e) (ho : okn n = true) (hm : okn m = true) (hne : m ≠ n) : Calls Try.prog 6 #[.int .i64 n, .int .i64 m, e.val] W fun x w' => x = .returned (.bool true) ∧ Below W.heap.size W w' := by
  have HA : Hid (∀ w1, Calls Try.prog 8 #[] w1 fun e w' => e = .returned (.bool true) ∧ Below w1.heap.size w1 w') := awake_any
  have HE : Hid _ := box_of ge
  have HO : Hid (okn n = true) := ho
  have h1 : ¬ n < 1 := by have := okn_yes ho; omega
  have h2 : ¬ 3 < n := by have := okn_yes ho; omega
  have HM : Hid (okn m = true) := hm
  have h3 : ¬ m < 1 := by have := okn_yes hm; omega
  have h4 : ¬ 3 < m := by have := okn_yes hm; omega
  have HF : Hid _ := sv_facts n m e ho hm hne
  have h5 : (m == n) = false := by simpa using hne
  clear ho hm hne
  clear ge
  go_enter Try.func6, Try.ntmps6
  go_wp2_with fail
  generalize W.alloc (eobj e) = W1 at *
  refine Calls.mono (HA.out _) ?_
  rintro x w1 ⟨rfl, hb⟩
  have HB1 : Hid (Below W1.heap.size W1 w1) := hb
  clear hb HA
  go_wp2_with fail
  refine Calls.mono (new_q W1 w1 10 HB1.out) ?_
  rintro x w2 ⟨p, rfl, q⟩
  have HQ2 : Hid (QU W1 w2 p (newL 10) []) := q
  clear q HB1
  go_wp2_with fail
  refine Calls.mono (back_qn HQ2.out n (fun _ => new_get n)) ?_
  rintro x w3 ⟨rfl, q⟩
  have HQ3 : Hid (QU W1 w3 p (newL 10) []) := q
  clear q HQ2
  go_wp2_with fail
  refine Calls.mono (save_q HQ3.out n HO.out) ?_
  rintro x w4 ⟨rfl, q⟩
  have HQ4 : Hid (QU W1 w4 p (sv1 n) []) := q
  clear q HQ3
  go_wp2_with fail
  refine Calls.mono (save_q HQ4.out m HM.out) ?_
  rintro x w5 ⟨rfl, q⟩
  rw [HF.out.e1] at q
  have HQ5 : Hid (QU W1 w5 p (sv2 n m) []) := q
  obtain ⟨d0, d1, d2, d3, d4⟩ := (HE.out.1.below q.blw).cells
  clear q HQ4
  go_wp2_with fail
  refine Calls.mono (push_q HQ5.out e HE.out.2.1.1 HE.out.2.1.2.1 HE.out.2.1.2.2 HF.out.m2) ?_
  rintro x w6 ⟨rfl, q⟩
  have HQ6 : Hid (QU W1 w6 p (sv3 n m e) []) := q
  clear q HQ5 d0 d1 d2 d3 d4
  go_wp2_with fail
  refine Calls.mono (back_q HQ6.out n HO.out 0 HF.out.g3 (Nat.zero_le _)) ?_
  rintro x w7 ⟨v1, rfl, q⟩
  rw [HF.out.e3] at q
  obtain ⟨a1, c1, rfl, -⟩ := q.slice (v := v1) (l := ([e].drop 0).reverse) (by simp)
  have HQ7 : Hid (QU W1 w7 p (sv4 n m e) []) := q.less (by simp)
  simp only [List.drop_zero, List.reverse_cons, List.reverse_nil, List.nil_append, List.length_cons, List.length_nil]
  clear q HQ6
  go_wp2_with fail
  refine Calls.mono (back_q HQ7.out m HM.out 0 HF.out.g4 (Nat.zero_le _)) ?_
  rintro x w8 ⟨v2, rfl, q⟩
  rw [HF.out.e4] at q
  obtain ⟨a2, c2, rfl, -⟩ := q.slice (v := v2) (l := (([] : List En).drop 0).reverse) (by simp)
  have HQ8 : Hid (QU W1 w8 p (sv5 n m e) []) := q.less (by simp)
  simp only [List.drop_nil, List.reverse_nil, List.length_nil]
  obtain ⟨d0, d1, d2, d3, d4⟩ := (HE.out.1.below q.blw).cells
  clear q HQ7
  go_wp2_with fail
  refine Calls.mono (push_q HQ8.out e HE.out.2.1.1 HE.out.2.1.2.1 HE.out.2.1.2.2 HF.out.m5) ?_
  rintro x w9 ⟨rfl, q⟩
  have HQ9 : Hid (QU W1 w9 p (sv6 n m e) []) := q
  clear q HQ8 d0 d1 d2 d3 d4
  go_wp2_with fail
  refine Calls.mono (save_q HQ9.out m HM.out) ?_
  rintro x w10 ⟨rfl, q⟩
  rw [HF.out.e6] at q
  have HQ10 : Hid (QU W1 w10 p (sv7 n m e) []) := q
  obtain ⟨d0, d1, d2, d3, d4⟩ := (HE.out.1.below q.blw).cells
  clear q HQ9
  go_wp2_with fail
  refine Calls.mono (push_q HQ10.out e HE.out.2.1.1 HE.out.2.1.2.1 HE.out.2.1.2.2 HF.out.m7) ?_
  rintro x w11 ⟨rfl, q⟩
  have HQ11 : Hid (QU W1 w11 p (sv8 n m e) []) := q
  clear q HQ10 d0 d1 d2 d3 d4
  go_wp2_with fail
  refine Calls.mono (back_q HQ11.out n HO.out 0 HF.out.g8 (Nat.zero_le _)) ?_
  rintro x w12 ⟨v3, rfl, q⟩
  rw [HF.out.e8] at q
  obtain ⟨a3, c3, rfl, -⟩ := q.slice (v := v3) (l := ([e, e].drop 0).reverse) (by simp)
  have HQ12 : Hid (QU W1 w12 p (sv9 n m e) []) := q.less (by simp)
  simp only [List.drop_zero, List.reverse_cons, List.reverse_nil, List.nil_append, List.length_cons, List.length_nil, List.cons_append]
  clear q HQ11
  go_wp2_with fail
  refine Calls.mono (back_qn HQ12.out m (fun _ => HF.out.g9)) ?_
  rintro x w13 ⟨rfl, q⟩
  have HZ : Hid (Below W.heap.size W w13) := HE.out.2.2.trans (q.blw.mono HE.out.2.2.size)
  clear q HQ12 HE HF
  go_wp2_with fail
  go_ret
  exact ⟨rfl, HZ.out⟩
theorem saves_law (n m : Int) (e : En) (W : World) (ge : GoodE W e) : Calls Try.prog 6 #[.int .i64 n, .int .i64 m, e.val] W fun x w' => x = .returned (.bool true) ∧ Below W.heap.size W w' := by
  cases ho : okn n
  · rcases okn_no ho with h | h
    · exact saves_a1 n m e W ge ho h
    · exact saves_a2 n m e W ge ho h
  · cases hm : okn m
    · rcases okn_no hm with h | h
      · exact saves_b1 n m e W ge ho h
      · exact saves_b2 n m e W ge ho h
    · by_cases he : m = n
      · exact saves_b3 n m e W ge ho he
      · exact saves_c n m e W ge ho hm he
end Go.Proofs.Ytbfoplaccalegaa.Val
