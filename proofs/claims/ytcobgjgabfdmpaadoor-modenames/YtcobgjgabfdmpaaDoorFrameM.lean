/- What every law of this seat leans on: the tables of modes out of what the rows list; a world in which they lie as their initialisers lay them. -/
import Derived.Test.YtcobgjgabfdmpaaDoorCards
import Derived.Test.YtcobgjgabfdmpaaDoorTie
import Derived.Test.YtcobgjgabfdmpaaDoorModePlain
import Derived.ProofKit
import Derived.OpenShut
import Derived.Deep.DeepHandedRow
import Derived.Lib.LaidTab
import Derived.Lib.SmallJoins
import Derived.Stop.LaidErr
namespace Go.Proofs.YtcobgjgabfdmpaaDoor.Val
open Go.ChangeShapes Go.WideShapes Go.ChangeAt Go.RowKit

theorem own : ownKnob Tryd.prog.godebug = none := by kernel_rfl
theorem laidOut : laidOutB Tryd.prog = true := by kernel_rfl
theorem gCla : Tryd.prog.globalNamed "ratline/mode.clashes" = some 0 := by kernel_rfl
theorem gNam : Tryd.prog.globalNamed "ratline/mode.names" = some 1 := by kernel_rfl
theorem gInt : Tryd.prog.globalNamed "ratline/mode.intents" = some 2 := by kernel_rfl
theorem gClaType : (Tryd.prog.globals[0]?).map (·.type) = some 30 := by kernel_rfl
theorem gNamType : (Tryd.prog.globals[1]?).map (·.type) = some 32 := by kernel_rfl
theorem gIntType : (Tryd.prog.globals[2]?).map (·.type) = some 33 := by kernel_rfl
theorem cellsC7 : Tryd.prog.cellsOf 30 = 7 := by kernel_rfl
theorem cellsN7 : Tryd.prog.cellsOf 32 = 7 := by kernel_rfl
theorem cellsI7 : Tryd.prog.cellsOf 33 = 7 := by kernel_rfl
theorem cellsC1 : Tryd.prog.cellsOf 5 = 1 := by kernel_rfl
theorem cellsN1 : Tryd.prog.cellsOf 9 = 1 := by kernel_rfl
theorem cellsI1 : Tryd.prog.cellsOf 22 = 1 := by kernel_rfl
/-- A table of texts as a row lists it. -/
def textData {H : Type} (ss : List ByteArray) : DataW H := .agg (ss.map fun s => .lit (.string s.data.toList))
/-- An array of texts that reads as the table holds them. -/
theorem cells_of_texts {H : Type} {enc : TypeId × Value → H} {P : Program} {w : World} {base : Nat} {sp : Nat → Bool} {held : Bool} {fuel : Nat} {t e : TypeId} {n : Nat} {cs : List Value} {ss : List ByteArray} {p : List MemPlace}
    (ht : P.underlying t = some (.array n e)) (he : P.underlying e = some .string) (hce : P.cellsOf e = 1) (hct : P.cellsOf t = n)
    (h : DataW.trod enc P w base sp held fuel t cs = some (textData ss, p)) : cs = ss.map fun s => Value.string s := by
  cases fuel with
  | zero => simp [DataW.trod] at h
  | succ fuel =>
    simp only [DataW.trod, ht, hce, hct, Nat.mul_one] at h
    split at h
    · rename_i hl
      obtain ⟨xs, hm, hx⟩ := Option.map_eq_some_iff.1 h
      have hxs : xs.map (·.1) = ss.map fun s => (DataW.lit (.string s.data.toList) : DataW H) := by
        have := congrArg Prod.fst hx
        simpa [textData] using this
      have hxl : xs.length = n := by simpa using Lib.mapM_length hm
      have hzl : ss.length = n := by
        have := congrArg List.length hxs
        simp at this
        omega
      apply List.ext_getElem?
      intro i
      by_cases hi : i < n
      · obtain ⟨b, hb, hf⟩ := Lib.mapM_at hm i i (by simp [hi])
        obtain ⟨s, hc, rfl, _⟩ := DataW.trod_string he hf
        have h1 : cs[i]? = some (.string s) := by
          have := congrArg (·[0]?) hc
          simpa [List.getElem?_take, List.getElem?_drop] using this
        have h2 : (xs.map (·.1))[i]? = some (DataW.lit (.string s.data.toList) : DataW H) := by simp [hb]
        rw [hxs] at h2
        simp only [List.getElem?_map, Option.map_eq_some_iff, DataW.lit.injEq, Lit.string.injEq] at h2
        obtain ⟨s', hs', hq⟩ := h2
        have : s' = s := by
          cases s'; cases s
          congr 1
          exact Array.toList_inj.1 hq
        subst this
        simp [h1, hs']
      · rw [List.getElem?_eq_none (by omega), List.getElem?_eq_none (by simp; omega)]
    · cases h
theorem texts_of_head {P : Program} {W : World} {name : String} {ss : List ByteArray} {rest : List (String × DataW Unit)} {g : Nat} {t e : TypeId} {n : Nat}
    (hg : P.globalNamed name = some g) (hty : (P.globals[g]?).map (·.type) = some t) (ht : P.underlying t = some (.array n e)) (he : P.underlying e = some .string) (hce : P.cellsOf e = 1) (hct : P.cellsOf t = n)
    (h : laidMet P ((name, textData ss) :: rest) W) (i : Nat) (hi : i < ss.length) : W.cell? ⟨g, i, none⟩ = some (.string (ss.getD i ⟨#[]⟩)) := by
  obtain ⟨ps, ⟨g', t', cs, fuel, p, q, hg', ht', hvar, hd, _, _⟩, _⟩ := h
  obtain rfl := Option.some.inj (hg.symm.trans hg')
  obtain rfl := Option.some.inj (hty.symm.trans ht')
  have hv : W.var? P name = some (ss.map fun s => Value.string s).toArray := by rw [hvar, ← cells_of_texts ht he hce hct hd]
  have := World.var?_cell hg hv i
  simpa [List.getD, hi] using this
theorem claOf {W : World} {rest : List (String × DataW Unit)} (hm : laidMet Tryd.prog (("ratline/mode.clashes", Lib.tabData .u8 clashT) :: rest) W) : TabC W := by
  have t : Lib.TabIs Tryd.prog W "ratline/mode.clashes" .u8 clashT :=
    Lib.tabIs_of_head gCla gClaType Tryd.underlying30 Tryd.underlying5 cellsC1 cellsC7 hm
  exact fun i hi => t.cell gCla i hi
theorem intOfL {W : World} {rest : List (String × DataW Unit)} (hm : laidMet Tryd.prog (("ratline/mode.intents", Lib.tabData .i64 intentT) :: rest) W) : TabI W := by
  have t : Lib.TabIs Tryd.prog W "ratline/mode.intents" .i64 intentT :=
    Lib.tabIs_of_head gInt gIntType Tryd.underlying33 Tryd.underlying22 cellsI1 cellsI7 hm
  exact fun i hi => t.cell gInt i hi
theorem namOf {W : World} {rest : List (String × DataW Unit)} (hm : laidMet Tryd.prog (("ratline/mode.names", textData nameT) :: rest) W) : TabN W :=
  fun i hi => texts_of_head gNam gNamType Tryd.underlying32 Tryd.underlying9 cellsN1 cellsN7 hm i hi
/-- What the rows list, when a call begins. -/
theorem tabOf2 {W : World} (h : laidMetH Tryd.prog Rows.modePairsRow.laid W) : TabC W ∧ TabN W := by
  have hm : laidMet Tryd.prog Rows.modePairsRow.laid W := h
  exact ⟨claOf hm, namOf hm.tail⟩
theorem tabOf3 {W : World} (h : laidMetH Tryd.prog Rows.modeNamesRow.laid W) : TabC W ∧ TabN W ∧ TabI W := by
  have hm : laidMet Tryd.prog Rows.modeNamesRow.laid W := h
  exact ⟨claOf hm, namOf hm.tail.tail, intOfL hm.tail⟩
/-- A block's cells, put in the place of those that it has. -/
def putCells (cs : Array Value) : Obj → Obj
  | .cells _ t frozen => .cells cs t frozen
  | o => o
def dataCells (k : IntKind) (zs : List Int) : Array Value := (zs.map fun z => Value.int k z).toArray
def textCells (ss : List ByteArray) : Array Value := (ss.map fun s => Value.string s).toArray
end Go.Proofs.YtcobgjgabfdmpaaDoor.Val
