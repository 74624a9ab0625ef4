/-
  DERIVED. GIVEN WITH THE SEED: THE CARDS: each row of YtfkhfplibhnceaaDoorRows.lean that lists a variable, with what it lists TIED to the program's text (the seventh form; the later family's looks); each row that meets fmt, with fmt's text TOLD by the authors' own Lean function (tested against real Go, not proved from fmt's source: count such statements apart). THE CARD IS WHAT COUNTS. Prove the row's statement (the work); the ties are given (YtfkhfplibhnceaaDoorTie.lean); close each card by the builder's one call (the guide's Derived/Test/ToyasCard.lean, 'card_holds'). Laid BY PROGRAM, IN A SANDBOX (cutbox-door.mjs). By AI agents, Wed Nov 11 2026. No macro, syntax, notation, axiom, sorry.
-/
import Derived.Test.YtfkhfplibhnceaaDoorRows
import GoSem.ClaimSeven
namespace Go.Proofs.YtfkhfplibhnceaaDoor
namespace Rows

/-- THE TIED CARD OF 'ratlinelaw04.NormalTells'. -/
def normalTellsCard : Claim7 := { stood := { row := normalTellsRow, standIns := [], harness := (true, "10c01474ab92aec0e5b5d4f8534ae93a41ffa49651417c112876c27c974b1d55"), looks := false }, kinds := [], alts := [], laidByText := true, laidKinds := [.data], laidTests := true, laidLooks := .later }
def NormalTellsCardSaid : Prop := Claim7.holds Tryd.pinned (.plain (OpenSpec.ofChange normalTellsSpec)) normalTellsCard

/-- THE TIED CARD OF 'ratlinelaw04.NormalSpans'. -/
def normalSpansCard : Claim7 := { stood := { row := normalSpansRow, standIns := [], harness := (true, "10c01474ab92aec0e5b5d4f8534ae93a41ffa49651417c112876c27c974b1d55"), looks := false }, kinds := [], alts := [], laidByText := true, laidKinds := [.data], laidTests := true, laidLooks := .later }
def NormalSpansCardSaid : Prop := Claim7.holds Tryd.pinned (.plain (OpenSpec.ofChange normalSpansSpec)) normalSpansCard

/-- THE TIED CARD OF 'ratlinelaw04.NormalSays'. -/
def normalSaysCard : Claim7 := { stood := { row := normalSaysRow, standIns := [], harness := (true, "10c01474ab92aec0e5b5d4f8534ae93a41ffa49651417c112876c27c974b1d55"), looks := false }, kinds := [], alts := [], laidByText := true, laidKinds := [.data], laidTests := true, laidLooks := .later }
def NormalSaysCardSaid : Prop := Claim7.holds Tryd.pinned (.plain (OpenSpec.ofChange normalSaysSpec)) normalSaysCard

/-- THE TIED CARD OF 'ratlinelaw04.NormalKeys'. -/
def normalKeysCard : Claim7 := { stood := { row := normalKeysRow, standIns := [], harness := (true, "10c01474ab92aec0e5b5d4f8534ae93a41ffa49651417c112876c27c974b1d55"), looks := false }, kinds := [], alts := [], laidByText := true, laidKinds := [.data], laidTests := true, laidLooks := .later }
def NormalKeysCardSaid : Prop := Claim7.holds Tryd.pinned (.plain (OpenSpec.ofChange normalKeysSpec)) normalKeysCard

/-- THE TIED CARD OF 'ratlinelaw04.NormalMeets'. -/
def normalMeetsCard : Claim7 := { stood := { row := normalMeetsRow, standIns := [], harness := (true, "10c01474ab92aec0e5b5d4f8534ae93a41ffa49651417c112876c27c974b1d55"), looks := false }, kinds := [], alts := [], laidByText := true, laidKinds := [.data], laidTests := true, laidLooks := .later }
def NormalMeetsCardSaid : Prop := Claim7.holds Tryd.pinned (.plain (OpenSpec.ofChange normalMeetsSpec)) normalMeetsCard

/-- THE TIED CARD OF 'ratlinelaw04.NormalTwice'. -/
def normalTwiceCard : Claim7 := { stood := { row := normalTwiceRow, standIns := [], harness := (true, "10c01474ab92aec0e5b5d4f8534ae93a41ffa49651417c112876c27c974b1d55"), looks := false }, kinds := [], alts := [], laidByText := true, laidKinds := [.data], laidTests := true, laidLooks := .later }
def NormalTwiceCardSaid : Prop := Claim7.holds Tryd.pinned (.plain (OpenSpec.ofChange normalTwiceSpec)) normalTwiceCard

/-- THE TIED CARD OF 'ratlinelaw04.NormalSelf'. -/
def normalSelfCard : Claim7 := { stood := { row := normalSelfRow, standIns := [], harness := (true, "10c01474ab92aec0e5b5d4f8534ae93a41ffa49651417c112876c27c974b1d55"), looks := false }, kinds := [], alts := [], laidByText := true, laidKinds := [.data], laidTests := true, laidLooks := .later }
def NormalSelfCardSaid : Prop := Claim7.holds Tryd.pinned (.plain (OpenSpec.ofChange normalSelfSpec)) normalSelfCard

/-- THE SECOND FORM's CARD OF 'ratlinelaw04.NormalTells'. -/
def normalTellsUptoCard : Claim7 := { stood := { row := normalTellsUptoRow, standIns := [], harness := (true, "10c01474ab92aec0e5b5d4f8534ae93a41ffa49651417c112876c27c974b1d55"), looks := false }, kinds := [], alts := [], laidByText := true, laidKinds := [.data], laidTests := true, laidLooks := .later }
def NormalTellsUptoCardSaid : Prop := Claim7.holds Tryd.pinned (.plain (OpenSpec.upto normalTellsSpec)) normalTellsUptoCard

/-- THE SECOND FORM's CARD OF 'ratlinelaw04.NormalSpans'. -/
def normalSpansUptoCard : Claim7 := { stood := { row := normalSpansUptoRow, standIns := [], harness := (true, "10c01474ab92aec0e5b5d4f8534ae93a41ffa49651417c112876c27c974b1d55"), looks := false }, kinds := [], alts := [], laidByText := true, laidKinds := [.data], laidTests := true, laidLooks := .later }
def NormalSpansUptoCardSaid : Prop := Claim7.holds Tryd.pinned (.plain (OpenSpec.upto normalSpansSpec)) normalSpansUptoCard

/-- THE SECOND FORM's CARD OF 'ratlinelaw04.NormalSays'. -/
def normalSaysUptoCard : Claim7 := { stood := { row := normalSaysUptoRow, standIns := [], harness := (true, "10c01474ab92aec0e5b5d4f8534ae93a41ffa49651417c112876c27c974b1d55"), looks := false }, kinds := [], alts := [], laidByText := true, laidKinds := [.data], laidTests := true, laidLooks := .later }
def NormalSaysUptoCardSaid : Prop := Claim7.holds Tryd.pinned (.plain (OpenSpec.upto normalSaysSpec)) normalSaysUptoCard

/-- THE SECOND FORM's CARD OF 'ratlinelaw04.NormalKeys'. -/
def normalKeysUptoCard : Claim7 := { stood := { row := normalKeysUptoRow, standIns := [], harness := (true, "10c01474ab92aec0e5b5d4f8534ae93a41ffa49651417c112876c27c974b1d55"), looks := false }, kinds := [], alts := [], laidByText := true, laidKinds := [.data], laidTests := true, laidLooks := .later }
def NormalKeysUptoCardSaid : Prop := Claim7.holds Tryd.pinned (.plain (OpenSpec.upto normalKeysSpec)) normalKeysUptoCard

/-- THE SECOND FORM's CARD OF 'ratlinelaw04.NormalMeets'. -/
def normalMeetsUptoCard : Claim7 := { stood := { row := normalMeetsUptoRow, standIns := [], harness := (true, "10c01474ab92aec0e5b5d4f8534ae93a41ffa49651417c112876c27c974b1d55"), looks := false }, kinds := [], alts := [], laidByText := true, laidKinds := [.data], laidTests := true, laidLooks := .later }
def NormalMeetsUptoCardSaid : Prop := Claim7.holds Tryd.pinned (.plain (OpenSpec.upto normalMeetsSpec)) normalMeetsUptoCard

/-- THE SECOND FORM's CARD OF 'ratlinelaw04.NormalTwice'. -/
def normalTwiceUptoCard : Claim7 := { stood := { row := normalTwiceUptoRow, standIns := [], harness := (true, "10c01474ab92aec0e5b5d4f8534ae93a41ffa49651417c112876c27c974b1d55"), looks := false }, kinds := [], alts := [], laidByText := true, laidKinds := [.data], laidTests := true, laidLooks := .later }
def NormalTwiceUptoCardSaid : Prop := Claim7.holds Tryd.pinned (.plain (OpenSpec.upto normalTwiceSpec)) normalTwiceUptoCard

/-- THE SECOND FORM's CARD OF 'ratlinelaw04.NormalSelf'. -/
def normalSelfUptoCard : Claim7 := { stood := { row := normalSelfUptoRow, standIns := [], harness := (true, "10c01474ab92aec0e5b5d4f8534ae93a41ffa49651417c112876c27c974b1d55"), looks := false }, kinds := [], alts := [], laidByText := true, laidKinds := [.data], laidTests := true, laidLooks := .later }
def NormalSelfUptoCardSaid : Prop := Claim7.holds Tryd.pinned (.plain (OpenSpec.upto normalSelfSpec)) normalSelfUptoCard
end Rows
end Go.Proofs.YtfkhfplibhnceaaDoor
