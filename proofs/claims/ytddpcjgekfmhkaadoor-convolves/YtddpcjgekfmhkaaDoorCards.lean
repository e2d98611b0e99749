/-
  DERIVED. GIVEN WITH THE SEED: THE CARDS: each row of YtddpcjgekfmhkaaDoorRows.lean that lists a variable, with what it lists TIED to the program's text (the seventh form; the later family's looks); each row that meets fmt, with fmt's text TOLD by the authors' own Lean function (tested against real Go, not proved from fmt's source: count such statements apart). THE CARD IS WHAT COUNTS. Prove the row's statement (the work); the ties are given (YtddpcjgekfmhkaaDoorTie.lean); close each card by the builder's one call (the guide's Derived/Test/ToyasCard.lean, 'card_holds'). Laid BY PROGRAM, IN A SANDBOX (cutbox-door.mjs). By AI agents, Wed Nov 11 2026. No macro, syntax, notation, axiom, sorry.
-/
import Derived.Test.YtddpcjgekfmhkaaDoorRows
import GoSem.ClaimSeven
namespace Go.Proofs.YtddpcjgekfmhkaaDoor
namespace Rows

/-- THE TIED CARD OF 'weavelaw.Transforms'. -/
def transformsCard : Claim7 := { stood := { row := transformsRow, standIns := [], harness := (true, "82d1291b38f88fe7434459f6a733600249e664a848602d98fb60b27eddf086b2"), looks := false }, kinds := [], alts := [], laidByText := true, laidKinds := [.data, .data], laidTests := true, laidLooks := .later }
def TransformsCardSaid : Prop := Claim7.holds Tryd.pinned (.plain (OpenSpec.ofChange transformsSpec)) transformsCard

/-- THE TIED CARD OF 'weavelaw.Convolves'. -/
def convolvesCard : Claim7 := { stood := { row := convolvesRow, standIns := [], harness := (true, "82d1291b38f88fe7434459f6a733600249e664a848602d98fb60b27eddf086b2"), looks := false }, kinds := [], alts := [], laidByText := true, laidKinds := [.data, .data], laidTests := true, laidLooks := .later }
def ConvolvesCardSaid : Prop := Claim7.holds Tryd.pinned (.plain (OpenSpec.ofChange convolvesSpec)) convolvesCard

/-- THE TIED CARD OF 'weavekeep.Back'. -/
def backCard : Claim7 := { stood := { row := backRow, standIns := [], harness := (true, "82d1291b38f88fe7434459f6a733600249e664a848602d98fb60b27eddf086b2"), looks := false }, kinds := [], alts := [], laidByText := true, laidKinds := [.data, .data], laidTests := true, laidLooks := .later }
def BackCardSaid : Prop := Claim7.holds Tryd.pinned (.plain (OpenSpec.ofChange backSpec)) backCard

/-- THE TIED CARD OF 'weavelaw.Filters'. -/
def filtersCard : Claim7 := { stood := { row := filtersRow, standIns := [], harness := (true, "82d1291b38f88fe7434459f6a733600249e664a848602d98fb60b27eddf086b2"), looks := false }, kinds := [], alts := [], laidByText := true, laidKinds := [.data, .data], laidTests := true, laidLooks := .later }
def FiltersCardSaid : Prop := Claim7.holds Tryd.pinned (.plain (OpenSpec.ofChange filtersSpec)) filtersCard

/-- THE SECOND FORM's CARD OF 'weavelaw.Transforms'. -/
def transformsUptoCard : Claim7 := { stood := { row := transformsUptoRow, standIns := [], harness := (true, "82d1291b38f88fe7434459f6a733600249e664a848602d98fb60b27eddf086b2"), looks := false }, kinds := [], alts := [], laidByText := true, laidKinds := [.data, .data], laidTests := true, laidLooks := .later }
def TransformsUptoCardSaid : Prop := Claim7.holds Tryd.pinned (.plain (OpenSpec.upto transformsSpec)) transformsUptoCard

/-- THE SECOND FORM's CARD OF 'weavelaw.Convolves'. -/
def convolvesUptoCard : Claim7 := { stood := { row := convolvesUptoRow, standIns := [], harness := (true, "82d1291b38f88fe7434459f6a733600249e664a848602d98fb60b27eddf086b2"), looks := false }, kinds := [], alts := [], laidByText := true, laidKinds := [.data, .data], laidTests := true, laidLooks := .later }
def ConvolvesUptoCardSaid : Prop := Claim7.holds Tryd.pinned (.plain (OpenSpec.upto convolvesSpec)) convolvesUptoCard

/-- THE SECOND FORM's CARD OF 'weavekeep.Back'. -/
def backUptoCard : Claim7 := { stood := { row := backUptoRow, standIns := [], harness := (true, "82d1291b38f88fe7434459f6a733600249e664a848602d98fb60b27eddf086b2"), looks := false }, kinds := [], alts := [], laidByText := true, laidKinds := [.data, .data], laidTests := true, laidLooks := .later }
def BackUptoCardSaid : Prop := Claim7.holds Tryd.pinned (.plain (OpenSpec.upto backSpec)) backUptoCard

/-- THE SECOND FORM's CARD OF 'weavelaw.Filters'. -/
def filtersUptoCard : Claim7 := { stood := { row := filtersUptoRow, standIns := [], harness := (true, "82d1291b38f88fe7434459f6a733600249e664a848602d98fb60b27eddf086b2"), looks := false }, kinds := [], alts := [], laidByText := true, laidKinds := [.data, .data], laidTests := true, laidLooks := .later }
def FiltersUptoCardSaid : Prop := Claim7.holds Tryd.pinned (.plain (OpenSpec.upto filtersSpec)) filtersUptoCard
end Rows
end Go.Proofs.YtddpcjgekfmhkaaDoor
