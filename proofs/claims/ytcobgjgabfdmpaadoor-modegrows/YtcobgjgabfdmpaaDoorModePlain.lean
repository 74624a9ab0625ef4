/- Modes as plain data: which is one, what may be held at once, what covers, joins, intents, names; and the tables in which the program keeps them. -/
import Derived.Test.YtcobgjgabfdmpaaDoorRows
import Derived.WalkKit
import Derived.WalkSpells
import Derived.WalkLawsBesides
import Derived.Below
import Derived.Outline
import Derived.Deep.QuietTactic
import Derived.Deep.RegionWith
import Derived.BigQuiet
namespace Go.Proofs.YtcobgjgabfdmpaaDoor.Val
open Go Go.RowKit

def rightM (a : Int) : Bool := decide (0 ≤ a) && decide (a ≤ 6)
/-- What may not be held at once with each mode, a bit each. -/
def clashT : List Int := [0, 64, 120, 84, 124, 116, 126]
def fitsN (a b : Nat) : Bool := !((clashT.getD a 0).toNat.testBit b)
def fitsM (a b : Int) : Bool := rightM a && rightM b && fitsN a.toNat b.toNat
def coversN (a b : Nat) : Bool := (List.range 7).all fun i => !fitsN a i || fitsN b i
def coversM (a b : Int) : Bool := rightM a && rightM b && coversN a.toNat b.toNat
/-- The least of the first n modes that covers both. -/
def joinTo (a b : Nat) : Nat → Nat
  | 0 => 6
  | n + 1 => if coversN n a && coversN n b && coversN (joinTo a b n) n then n else joinTo a b n
def joinN (a b : Nat) : Nat := joinTo a b 7
def joinM (a b : Int) : Int := if rightM a && rightM b then (joinN a.toNat b.toNat : Nat) else 0
def intentT : List Int := [0, 1, 2, 1, 4, 2, 2]
def intentM (a : Int) : Int := if rightM a then intentT.getD a.toNat 0 else 0
def nameT : List ByteArray := [⟨#[78, 76]⟩, ⟨#[73, 83]⟩, ⟨#[73, 88]⟩, ⟨#[83]⟩, ⟨#[83, 73, 88]⟩, ⟨#[85]⟩, ⟨#[88]⟩]
def nameM (a : Int) : ByteArray := if rightM a then nameT.getD a.toNat ⟨#[]⟩ else ⟨#[]⟩
/-- A number that is a mode. -/
theorem mode_of {a : Int} (h : rightM a = true) : ∃ k : Nat, k < 7 ∧ a = (k : Int) := by
  simp [rightM] at h
  exact ⟨a.toNat, by omega, by omega⟩
theorem right_iff {a : Int} : rightM a = true ↔ 0 ≤ a ∧ a ≤ 6 := by simp [rightM]
theorem right_nat {k : Nat} (h : k < 7) : rightM (k : Int) = true := by rw [right_iff]; omega
theorem fits_nat {k j : Nat} (hk : k < 7) (hj : j < 7) : fitsM (k : Int) (j : Int) = fitsN k j := by simp [fitsM, right_nat hk, right_nat hj]
theorem covers_nat {k j : Nat} (hk : k < 7) (hj : j < 7) : coversM (k : Int) (j : Int) = coversN k j := by simp [coversM, right_nat hk, right_nat hj]
theorem join_nat {k j : Nat} (hk : k < 7) (hj : j < 7) : joinM (k : Int) (j : Int) = (joinN k j : Nat) := by simp [joinM, right_nat hk, right_nat hj]

/-- The tables lie in memory. -/
def TabC (w : World) : Prop := ∀ k : Nat, k < 7 → w.cell? ⟨0, k, none⟩ = some (.int .u8 (clashT.getD k 0))
def TabN (w : World) : Prop := ∀ k : Nat, k < 7 → w.cell? ⟨1, k, none⟩ = some (.string (nameT.getD k ⟨#[]⟩))
def TabI (w : World) : Prop := ∀ k : Nat, k < 7 → w.cell? ⟨2, k, none⟩ = some (.int .i64 (intentT.getD k 0))
theorem TabC.below {w w' : World} (h : TabC w) (hb : Below w.heap.size w w') : TabC w' := fun i hi => by
  rw [hb.cell (World.block_lt_of_cell? w _ (h i hi))]; exact h i hi
theorem TabN.below {w w' : World} (h : TabN w) (hb : Below w.heap.size w w') : TabN w' := fun i hi => by
  rw [hb.cell (World.block_lt_of_cell? w _ (h i hi))]; exact h i hi
theorem TabI.below {w w' : World} (h : TabI w) (hb : Below w.heap.size w w') : TabI w' := fun i hi => by
  rw [hb.cell (World.block_lt_of_cell? w _ (h i hi))]; exact h i hi
theorem TabC.drewN {w : World} (h : TabC w) (n : Nat) : TabC (w.drewN n) := fun i hi => by simpa using h i hi
theorem TabN.drewN {w : World} (h : TabN w) (n : Nat) : TabN (w.drewN n) := fun i hi => by simpa using h i hi
theorem TabI.drewN {w : World} (h : TabI w) (n : Nat) : TabI (w.drewN n) := fun i hi => by simpa using h i hi
/-- A call that only reads answers v. -/
abbrev Reads (f : FuncId) (args : Array Value) (w : World) (v : Value) : Prop := Calls Tryd.prog f args w fun e w' => e = .returned v ∧ ∃ m, w' = w.drewN m
end Go.Proofs.YtcobgjgabfdmpaaDoor.Val
