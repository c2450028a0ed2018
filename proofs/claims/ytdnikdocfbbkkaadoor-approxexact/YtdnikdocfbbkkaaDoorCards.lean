/-
  DERIVED. GIVEN WITH THE SEED: THE CARDS: each row of YtdnikdocfbbkkaaDoorRows.lean that lists a variable, with what it lists TIED to the program's text (the seventh form; the later family's looks); each row that meets fmt, with fmt's text TOLD by the authors' own Lean function (tested against real Go, not proved from fmt's source: count such statements apart). THE CARD IS WHAT COUNTS. Prove the row's statement (the work); the ties are given (YtdnikdocfbbkkaaDoorTie.lean); close each card by the builder's one call (the guide's Derived/Test/ToyasCard.lean, 'card_holds'). Laid BY PROGRAM, IN A SANDBOX (cutbox-door.mjs). By AI agents, Wed Nov 11 2026. No macro, syntax, notation, axiom, sorry.
-/
import Derived.Test.YtdnikdocfbbkkaaDoorRows
import GoSem.ClaimSeven
namespace Go.Proofs.YtdnikdocfbbkkaaDoor
namespace Rows

/-- THE TIED CARD OF 'samphirelaw02.NatTexts'. -/
def natTextsCard : Claim7 := { stood := { row := natTextsRow, standIns := [], harness := (true, "579b64273eb868ce2ae55a8dd3eef1990804086b09750928090b5a45d242e52e"), looks := false }, kinds := [], alts := [], laidByText := true, laidKinds := [.data, .pinned], laidTests := true, laidLooks := .later }
def NatTextsCardSaid : Prop := Claim7.holds Tryd.pinned (.plain (OpenSpec.ofChange natTextsSpec)) natTextsCard

/-- THE TIED CARD OF 'samphirelaw02.NatWide'. -/
def natWideCard : Claim7 := { stood := { row := natWideRow, standIns := [], harness := (true, "579b64273eb868ce2ae55a8dd3eef1990804086b09750928090b5a45d242e52e"), looks := false }, kinds := [], alts := [], laidByText := true, laidKinds := [.data, .pinned], laidTests := true, laidLooks := .later }
def NatWideCardSaid : Prop := Claim7.holds Tryd.pinned (.plain (OpenSpec.ofChange natWideSpec)) natWideCard

/-- THE TIED CARD OF 'samphirelaw03.RatTells'. -/
def ratTellsCard : Claim7 := { stood := { row := ratTellsRow, standIns := [], harness := (true, "579b64273eb868ce2ae55a8dd3eef1990804086b09750928090b5a45d242e52e"), looks := false }, kinds := [], alts := [], laidByText := true, laidKinds := [.data, .pinned], laidTests := true, laidLooks := .later }
def RatTellsCardSaid : Prop := Claim7.holds Tryd.pinned (.plain (OpenSpec.ofChange ratTellsSpec)) ratTellsCard

/-- THE TIED CARD OF 'samphirelaw03.RatMakes'. -/
def ratMakesCard : Claim7 := { stood := { row := ratMakesRow, standIns := [], harness := (true, "579b64273eb868ce2ae55a8dd3eef1990804086b09750928090b5a45d242e52e"), looks := false }, kinds := [], alts := [], laidByText := true, laidKinds := [.data, .pinned], laidTests := true, laidLooks := .later }
def RatMakesCardSaid : Prop := Claim7.holds Tryd.pinned (.plain (OpenSpec.ofChange ratMakesSpec)) ratMakesCard

/-- THE TIED CARD OF 'samphirelaw04.ApproxFloats'. -/
def approxFloatsCard : Claim7 := { stood := { row := approxFloatsRow, standIns := [], harness := (true, "579b64273eb868ce2ae55a8dd3eef1990804086b09750928090b5a45d242e52e"), looks := false }, kinds := [], alts := [], laidByText := true, laidKinds := [.data, .pinned], laidTests := true, laidLooks := .later }
def ApproxFloatsCardSaid : Prop := Claim7.holds Tryd.pinned (.plain (OpenSpec.ofChange approxFloatsSpec)) approxFloatsCard

/-- THE TIED CARD OF 'samphirelaw04.ApproxExact'. -/
def approxExactCard : Claim7 := { stood := { row := approxExactRow, standIns := [], harness := (true, "579b64273eb868ce2ae55a8dd3eef1990804086b09750928090b5a45d242e52e"), looks := false }, kinds := [], alts := [], laidByText := true, laidKinds := [.data, .pinned], laidTests := true, laidLooks := .later }
def ApproxExactCardSaid : Prop := Claim7.holds Tryd.pinned (.plain (OpenSpec.ofChange approxExactSpec)) approxExactCard

/-- THE TIED CARD OF 'samphirelaw04.ApproxBack'. -/
def approxBackCard : Claim7 := { stood := { row := approxBackRow, standIns := [], harness := (true, "579b64273eb868ce2ae55a8dd3eef1990804086b09750928090b5a45d242e52e"), looks := false }, kinds := [], alts := [], laidByText := true, laidKinds := [.data, .pinned], laidTests := true, laidLooks := .later }
def ApproxBackCardSaid : Prop := Claim7.holds Tryd.pinned (.plain (OpenSpec.ofChange approxBackSpec)) approxBackCard

/-- THE TIED CARD OF 'samphirelaw04.ApproxRises'. -/
def approxRisesCard : Claim7 := { stood := { row := approxRisesRow, standIns := [], harness := (true, "579b64273eb868ce2ae55a8dd3eef1990804086b09750928090b5a45d242e52e"), looks := false }, kinds := [], alts := [], laidByText := true, laidKinds := [.data, .pinned], laidTests := true, laidLooks := .later }
def ApproxRisesCardSaid : Prop := Claim7.holds Tryd.pinned (.plain (OpenSpec.ofChange approxRisesSpec)) approxRisesCard

/-- THE TIED CARD OF 'samphirelaw04.ApproxNear'. -/
def approxNearCard : Claim7 := { stood := { row := approxNearRow, standIns := [], harness := (true, "579b64273eb868ce2ae55a8dd3eef1990804086b09750928090b5a45d242e52e"), looks := false }, kinds := [], alts := [], laidByText := true, laidKinds := [.data, .pinned], laidTests := true, laidLooks := .later }
def ApproxNearCardSaid : Prop := Claim7.holds Tryd.pinned (.plain (OpenSpec.ofChange approxNearSpec)) approxNearCard

/-- THE TIED CARD OF 'samphirelaw04.ApproxWhole'. -/
def approxWholeCard : Claim7 := { stood := { row := approxWholeRow, standIns := [], harness := (true, "579b64273eb868ce2ae55a8dd3eef1990804086b09750928090b5a45d242e52e"), looks := false }, kinds := [], alts := [], laidByText := true, laidKinds := [.data, .pinned], laidTests := true, laidLooks := .later }
def ApproxWholeCardSaid : Prop := Claim7.holds Tryd.pinned (.plain (OpenSpec.ofChange approxWholeSpec)) approxWholeCard

/-- THE TIED CARD OF 'samphirelaw04.ApproxTwice'. -/
def approxTwiceCard : Claim7 := { stood := { row := approxTwiceRow, standIns := [], harness := (true, "579b64273eb868ce2ae55a8dd3eef1990804086b09750928090b5a45d242e52e"), looks := false }, kinds := [], alts := [], laidByText := true, laidKinds := [.data, .pinned], laidTests := true, laidLooks := .later }
def ApproxTwiceCardSaid : Prop := Claim7.holds Tryd.pinned (.plain (OpenSpec.ofChange approxTwiceSpec)) approxTwiceCard

/-- THE SECOND FORM's CARD OF 'samphirelaw02.NatTexts'. -/
def natTextsUptoCard : Claim7 := { stood := { row := natTextsUptoRow, standIns := [], harness := (true, "579b64273eb868ce2ae55a8dd3eef1990804086b09750928090b5a45d242e52e"), looks := false }, kinds := [], alts := [], laidByText := true, laidKinds := [.data, .pinned], laidTests := true, laidLooks := .later }
def NatTextsUptoCardSaid : Prop := Claim7.holds Tryd.pinned (.plain (OpenSpec.upto natTextsSpec)) natTextsUptoCard

/-- THE SECOND FORM's CARD OF 'samphirelaw02.NatWide'. -/
def natWideUptoCard : Claim7 := { stood := { row := natWideUptoRow, standIns := [], harness := (true, "579b64273eb868ce2ae55a8dd3eef1990804086b09750928090b5a45d242e52e"), looks := false }, kinds := [], alts := [], laidByText := true, laidKinds := [.data, .pinned], laidTests := true, laidLooks := .later }
def NatWideUptoCardSaid : Prop := Claim7.holds Tryd.pinned (.plain (OpenSpec.upto natWideSpec)) natWideUptoCard

/-- THE SECOND FORM's CARD OF 'samphirelaw03.RatTells'. -/
def ratTellsUptoCard : Claim7 := { stood := { row := ratTellsUptoRow, standIns := [], harness := (true, "579b64273eb868ce2ae55a8dd3eef1990804086b09750928090b5a45d242e52e"), looks := false }, kinds := [], alts := [], laidByText := true, laidKinds := [.data, .pinned], laidTests := true, laidLooks := .later }
def RatTellsUptoCardSaid : Prop := Claim7.holds Tryd.pinned (.plain (OpenSpec.upto ratTellsSpec)) ratTellsUptoCard

/-- THE SECOND FORM's CARD OF 'samphirelaw03.RatMakes'. -/
def ratMakesUptoCard : Claim7 := { stood := { row := ratMakesUptoRow, standIns := [], harness := (true, "579b64273eb868ce2ae55a8dd3eef1990804086b09750928090b5a45d242e52e"), looks := false }, kinds := [], alts := [], laidByText := true, laidKinds := [.data, .pinned], laidTests := true, laidLooks := .later }
def RatMakesUptoCardSaid : Prop := Claim7.holds Tryd.pinned (.plain (OpenSpec.upto ratMakesSpec)) ratMakesUptoCard

/-- THE SECOND FORM's CARD OF 'samphirelaw04.ApproxFloats'. -/
def approxFloatsUptoCard : Claim7 := { stood := { row := approxFloatsUptoRow, standIns := [], harness := (true, "579b64273eb868ce2ae55a8dd3eef1990804086b09750928090b5a45d242e52e"), looks := false }, kinds := [], alts := [], laidByText := true, laidKinds := [.data, .pinned], laidTests := true, laidLooks := .later }
def ApproxFloatsUptoCardSaid : Prop := Claim7.holds Tryd.pinned (.plain (OpenSpec.upto approxFloatsSpec)) approxFloatsUptoCard

/-- THE SECOND FORM's CARD OF 'samphirelaw04.ApproxExact'. -/
def approxExactUptoCard : Claim7 := { stood := { row := approxExactUptoRow, standIns := [], harness := (true, "579b64273eb868ce2ae55a8dd3eef1990804086b09750928090b5a45d242e52e"), looks := false }, kinds := [], alts := [], laidByText := true, laidKinds := [.data, .pinned], laidTests := true, laidLooks := .later }
def ApproxExactUptoCardSaid : Prop := Claim7.holds Tryd.pinned (.plain (OpenSpec.upto approxExactSpec)) approxExactUptoCard

/-- THE SECOND FORM's CARD OF 'samphirelaw04.ApproxBack'. -/
def approxBackUptoCard : Claim7 := { stood := { row := approxBackUptoRow, standIns := [], harness := (true, "579b64273eb868ce2ae55a8dd3eef1990804086b09750928090b5a45d242e52e"), looks := false }, kinds := [], alts := [], laidByText := true, laidKinds := [.data, .pinned], laidTests := true, laidLooks := .later }
def ApproxBackUptoCardSaid : Prop := Claim7.holds Tryd.pinned (.plain (OpenSpec.upto approxBackSpec)) approxBackUptoCard

/-- THE SECOND FORM's CARD OF 'samphirelaw04.ApproxRises'. -/
def approxRisesUptoCard : Claim7 := { stood := { row := approxRisesUptoRow, standIns := [], harness := (true, "579b64273eb868ce2ae55a8dd3eef1990804086b09750928090b5a45d242e52e"), looks := false }, kinds := [], alts := [], laidByText := true, laidKinds := [.data, .pinned], laidTests := true, laidLooks := .later }
def ApproxRisesUptoCardSaid : Prop := Claim7.holds Tryd.pinned (.plain (OpenSpec.upto approxRisesSpec)) approxRisesUptoCard

/-- THE SECOND FORM's CARD OF 'samphirelaw04.ApproxNear'. -/
def approxNearUptoCard : Claim7 := { stood := { row := approxNearUptoRow, standIns := [], harness := (true, "579b64273eb868ce2ae55a8dd3eef1990804086b09750928090b5a45d242e52e"), looks := false }, kinds := [], alts := [], laidByText := true, laidKinds := [.data, .pinned], laidTests := true, laidLooks := .later }
def ApproxNearUptoCardSaid : Prop := Claim7.holds Tryd.pinned (.plain (OpenSpec.upto approxNearSpec)) approxNearUptoCard

/-- THE SECOND FORM's CARD OF 'samphirelaw04.ApproxWhole'. -/
def approxWholeUptoCard : Claim7 := { stood := { row := approxWholeUptoRow, standIns := [], harness := (true, "579b64273eb868ce2ae55a8dd3eef1990804086b09750928090b5a45d242e52e"), looks := false }, kinds := [], alts := [], laidByText := true, laidKinds := [.data, .pinned], laidTests := true, laidLooks := .later }
def ApproxWholeUptoCardSaid : Prop := Claim7.holds Tryd.pinned (.plain (OpenSpec.upto approxWholeSpec)) approxWholeUptoCard

/-- THE SECOND FORM's CARD OF 'samphirelaw04.ApproxTwice'. -/
def approxTwiceUptoCard : Claim7 := { stood := { row := approxTwiceUptoRow, standIns := [], harness := (true, "579b64273eb868ce2ae55a8dd3eef1990804086b09750928090b5a45d242e52e"), looks := false }, kinds := [], alts := [], laidByText := true, laidKinds := [.data, .pinned], laidTests := true, laidLooks := .later }
def ApproxTwiceUptoCardSaid : Prop := Claim7.holds Tryd.pinned (.plain (OpenSpec.upto approxTwiceSpec)) approxTwiceUptoCard
end Rows
end Go.Proofs.YtdnikdocfbbkkaaDoor
