/- What slices.IndexFunc, ContainsFunc and pred.all answer of a list of predicates, whatever function they are handed. -/
import Derived.Test.YtfkhfplibhnceaaDoorPredPlain
namespace Go.Proofs.YtfkhfplibhnceaaDoor.Val
open Go.RowKit

/-- A function value. -/
abbrev FV (f : FuncId) (first cap : Array Value) : Value := .func (.func f) first cap
/-- A function of the program's that is entered where it is called. -/
def Enters (f : FuncId) : Prop := ∀ args w, (callFunc f args).run Tryd.prog w = .ok (.enter f args) w
theorem enters_of {f : FuncId} {fn : Func} {c : Code} (hf : Tryd.prog.funcs[f]? = some fn) (hname : (fn.name == "runtime.NumGoroutine") = false) (hb : fn.body = some c) : Enters f := fun args w => by
  have h1 : fn.name ≠ "runtime.NumGoroutine" := by simpa using hname
  simp [callFunc, hf, h1, hb]
set_option maxHeartbeats 1000000 in
theorem index_any (f : FuncId) (first cap : Array Value) (lv : Value) (l : List PT) (w : World) (X : Nat → Prop) (I : Nat → World → Prop) (g : Nat → Bool) (hI : I 0 w) (hE : Enters f)
    (hl : ∀ i w1, I i w1 → Lies w1 lv l.length (l.flatMap PT.cells))
    (hc : ∀ (i : Nat) (hi : i < l.length) (w1 : World), I i w1 → Calls Tryd.prog f (first.push l[i].val ++ cap) w1 fun e w2 => e = .returned (.bool (g i)) ∧ I (i + 1) w2 ∧ Sv X w1 w2) :
    Calls Tryd.prog 72 #[lv, FV f first cap] w fun e w' => Sv X w w' ∧
      ((∃ k : Nat, k < l.length ∧ g k = true ∧ (∀ j, j < k → g j = false) ∧ e = .returned (.int .i64 k) ∧ I (k + 1) w') ∨ ((∀ j, j < l.length → g j = false) ∧ e = .returned (.int .i64 (-1)) ∧ I l.length w')) := by
  obtain ⟨ao, c, rfl, hn⟩ := (hl 0 w hI).slice
  have HL : Hid _ := hl
  have HC : Hid _ := hc
  clear hl hc
  go_enter Tryd.func72, Tryd.ntmps72
  go_wp2_with fail
  go_loopw [8] (fun i wr => ∃ k : Nat, k ≤ l.length ∧ i = .int .i64 k ∧ Hid (∀ j, j < k → g j = false) ∧ Hid (I k wr) ∧ Hid (Sv X w wr))
    (fun i _ => l.length - (intOf i).toNat)
  case atStart => exact ⟨0, Nat.zero_le _, rfl, fun j hj => by omega, hI, Sv.refl _ _⟩
  case round =>
    clear hI
    obtain ⟨k, hk, rfl, HG, HI, HS⟩ := hrel
    by_cases h1 : k < l.length
    · have i0 : (0 : Int) ≤ (k : Int) := by omega
      have i1 : (k : Int) < (l.length : Int) := by omega
      obtain ⟨b, o, rfl, hat⟩ := lies_at (HL.out k wr HI.out) k h1
      obtain ⟨c0, c1, c2, c3, c4, c5, c6, c7, c8⟩ := hat
      have HC1 : Hid _ := HC.out k h1 wr HI.out
      have hE' : ∀ args w, (callFunc f args).run Tryd.prog w = .ok (.enter f args) w := hE
      clear HC HL hE
      cases hg : g k
      · rw [hg] at HC1
        go_wp2_with fail
        refine Calls.mono HC1.out ?_
        rintro e w1 ⟨rfl, hI1, hs1⟩
        have HI1 : Hid (I (k + 1) w1) := hI1
        have HS1 : Hid (Sv X w w1) := HS.out.trans hs1
        have HG1 : Hid (∀ j, j < k + 1 → g j = false) := fun j hj => by
          rcases Nat.lt_succ_iff_lt_or_eq.1 hj with h | rfl
          · exact HG.out j h
          · exact hg
        clear hI1 hs1 HC1 HG HI HS hg hE'
        go_wp2_with fail
        go_roundw
        case rel => exact ⟨k + 1, by omega, by go_num, HG1, HI1, HS1⟩
        case measure => simp [intOf]; omega
      · rw [hg] at HC1
        go_wp2_with fail
        refine Calls.mono HC1.out ?_
        rintro e w1 ⟨rfl, hI1, hs1⟩
        have HI1 : Hid (I (k + 1) w1) := hI1
        have HS1 : Hid (Sv X w w1) := HS.out.trans hs1
        clear hI1 hs1 HC1 HI HS hE'
        go_wp2_with fail
        go_ret
        exact ⟨HS1.out, .inl ⟨k, h1, hg, HG.out, rfl, HI1.out⟩⟩
    · have i1 : decide ((k : Int) < (l.length : Int)) = false := by simp; omega
      obtain rfl : k = l.length := by omega
      clear HC HL hE
      go_wp2_with fail
      go_ret
      exact ⟨HS.out, .inr ⟨HG.out, rfl, HI.out⟩⟩
end Go.Proofs.YtfkhfplibhnceaaDoor.Val
