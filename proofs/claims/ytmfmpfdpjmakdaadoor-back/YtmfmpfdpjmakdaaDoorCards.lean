/-
  DERIVED. GIVEN WITH THE SEED: THE CARDS: each row of YtmfmpfdpjmakdaaDoorRows.lean that lists a variable, with what it lists TIED to the program's text (the seventh form; the later family's looks); each row that meets fmt, with fmt's text TOLD by the authors' own Lean function (tested against real Go, not proved from fmt's source: count such statements apart). THE CARD IS WHAT COUNTS. Prove the row's statement (the work); the ties are given (YtmfmpfdpjmakdaaDoorTie.lean); close each card by the builder's one call (the guide's Derived/Test/ToyasCard.lean, 'card_holds'). Laid BY PROGRAM, IN A SANDBOX (cutbox-door.mjs). By AI agents, Wed Nov 11 2026. No macro, syntax, notation, axiom, sorry.
-/
import Derived.Test.YtmfmpfdpjmakdaaDoorRows
import GoSem.ClaimSeven
namespace Go.Proofs.YtmfmpfdpjmakdaaDoor
namespace Rows

/-- THE TIED CARD OF 'weavelaw.Transforms'. -/
def transformsCard : Claim7 := { stood := { row := transformsRow, standIns := [], harness := (true, "0490f590bc99de63684a8451cff95bea557d22da1c32fa35327ff823680f9367"), looks := false }, kinds := [], alts := [], laidByText := true, laidKinds := [.data, .data], laidTests := true, laidLooks := .later }
def TransformsCardSaid : Prop := Claim7.holds Tryd.pinned (.plain (OpenSpec.ofChange transformsSpec)) transformsCard

/-- THE TIED CARD OF 'weavelaw.Convolves'. -/
def convolvesCard : Claim7 := { stood := { row := convolvesRow, standIns := [], harness := (true, "0490f590bc99de63684a8451cff95bea557d22da1c32fa35327ff823680f9367"), looks := false }, kinds := [], alts := [], laidByText := true, laidKinds := [.data, .data], laidTests := true, laidLooks := .later }
def ConvolvesCardSaid : Prop := Claim7.holds Tryd.pinned (.plain (OpenSpec.ofChange convolvesSpec)) convolvesCard

/-- THE TIED CARD OF 'weavekeep.Back'. -/
def backCard : Claim7 := { stood := { row := backRow, standIns := [], harness := (true, "0490f590bc99de63684a8451cff95bea557d22da1c32fa35327ff823680f9367"), looks := false }, kinds := [], alts := [], laidByText := true, laidKinds := [.data, .data], laidTests := true, laidLooks := .later }
def BackCardSaid : Prop := Claim7.holds Tryd.pinned (.plain (OpenSpec.ofChange backSpec)) backCard

/-- THE SECOND FORM's CARD OF 'weavelaw.Transforms'. -/
def transformsUptoCard : Claim7 := { stood := { row := transformsUptoRow, standIns := [], harness := (true, "0490f590bc99de63684a8451cff95bea557d22da1c32fa35327ff823680f9367"), looks := false }, kinds := [], alts := [], laidByText := true, laidKinds := [.data, .data], laidTests := true, laidLooks := .later }
def TransformsUptoCardSaid : Prop := Claim7.holds Tryd.pinned (.plain (OpenSpec.upto transformsSpec)) transformsUptoCard

/-- THE SECOND FORM's CARD OF 'weavelaw.Convolves'. -/
def convolvesUptoCard : Claim7 := { stood := { row := convolvesUptoRow, standIns := [], harness := (true, "0490f590bc99de63684a8451cff95bea557d22da1c32fa35327ff823680f9367"), looks := false }, kinds := [], alts := [], laidByText := true, laidKinds := [.data, .data], laidTests := true, laidLooks := .later }
def ConvolvesUptoCardSaid : Prop := Claim7.holds Tryd.pinned (.plain (OpenSpec.upto convolvesSpec)) convolvesUptoCard

/-- THE SECOND FORM's CARD OF 'weavekeep.Back'. -/
def backUptoCard : Claim7 := { stood := { row := backUptoRow, standIns := [], harness := (true, "0490f590bc99de63684a8451cff95bea557d22da1c32fa35327ff823680f9367"), looks := false }, kinds := [], alts := [], laidByText := true, laidKinds := [.data, .data], laidTests := true, laidLooks := .later }
def BackUptoCardSaid : Prop := Claim7.holds Tryd.pinned (.plain (OpenSpec.upto backSpec)) backUptoCard
end Rows
end Go.Proofs.YtmfmpfdpjmakdaaDoor
