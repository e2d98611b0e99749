/-
  DERIVED. GIVEN WITH THE SEED: THE CARDS: each row of YtddpcjgekfmhkabDoorRows.lean that lists a variable, with what it lists TIED to the program's text (the seventh form; the later family's looks); each row that meets fmt, with fmt's text TOLD by the authors' own Lean function (tested against real Go, not proved from fmt's source: count such statements apart). THE CARD IS WHAT COUNTS. Prove the row's statement (the work); the ties are given (YtddpcjgekfmhkabDoorTie.lean); close each card by the builder's one call (the guide's Derived/Test/ToyasCard.lean, 'card_holds'). Laid BY PROGRAM, IN A SANDBOX (cutbox-door.mjs). By AI agents, Wed Nov 11 2026. No macro, syntax, notation, axiom, sorry.
-/
import Derived.Test.YtddpcjgekfmhkabDoorRows
import GoSem.ClaimSeven
namespace Go.Proofs.YtddpcjgekfmhkabDoor
namespace Rows

/-- THE TIED CARD OF 'weavekeep.Cut'. -/
def cutCard : Claim7 := { stood := { row := cutRow, standIns := [], harness := (true, "793fd90609c1c7ab9866de6624b66206487a014fd267dddd50776ac88a5c4e66"), looks := false }, kinds := [], alts := [], laidByText := true, laidKinds := [.data, .data], laidTests := true, laidLooks := .later }
def CutCardSaid : Prop := Claim7.holds Tryd.pinned (.plain (OpenSpec.ofChange cutSpec)) cutCard

/-- THE TIED CARD OF 'weavekeep.Unmoved'. -/
def unmovedCard : Claim7 := { stood := { row := unmovedRow, standIns := [], harness := (true, "793fd90609c1c7ab9866de6624b66206487a014fd267dddd50776ac88a5c4e66"), looks := false }, kinds := [], alts := [], laidByText := true, laidKinds := [.data, .data], laidTests := true, laidLooks := .later }
def UnmovedCardSaid : Prop := Claim7.holds Tryd.pinned (.plain (OpenSpec.ofChange unmovedSpec)) unmovedCard

/-- THE TIED CARD OF 'weavekeep.Ready'. -/
def readyCard : Claim7 := { stood := { row := readyRow, standIns := [], harness := (true, "793fd90609c1c7ab9866de6624b66206487a014fd267dddd50776ac88a5c4e66"), looks := false }, kinds := [], alts := [], laidByText := true, laidKinds := [.data, .data], laidTests := true, laidLooks := .later }
def ReadyCardSaid : Prop := Claim7.holds Tryd.pinned (.plain (OpenSpec.ofChange readySpec)) readyCard

/-- THE TIED CARD OF 'weavelaw.All'. -/
def allCard : Claim7 := { stood := { row := allRow, standIns := [], harness := (true, "793fd90609c1c7ab9866de6624b66206487a014fd267dddd50776ac88a5c4e66"), looks := false }, kinds := [], alts := [], laidByText := true, laidKinds := [.data, .data], laidTests := true, laidLooks := .later }
def AllCardSaid : Prop := Claim7.holds Tryd.pinned (.plain (OpenSpec.ofChange allSpec)) allCard

/-- THE SECOND FORM's CARD OF 'weavekeep.Cut'. -/
def cutUptoCard : Claim7 := { stood := { row := cutUptoRow, standIns := [], harness := (true, "793fd90609c1c7ab9866de6624b66206487a014fd267dddd50776ac88a5c4e66"), looks := false }, kinds := [], alts := [], laidByText := true, laidKinds := [.data, .data], laidTests := true, laidLooks := .later }
def CutUptoCardSaid : Prop := Claim7.holds Tryd.pinned (.plain (OpenSpec.upto cutSpec)) cutUptoCard

/-- THE SECOND FORM's CARD OF 'weavekeep.Unmoved'. -/
def unmovedUptoCard : Claim7 := { stood := { row := unmovedUptoRow, standIns := [], harness := (true, "793fd90609c1c7ab9866de6624b66206487a014fd267dddd50776ac88a5c4e66"), looks := false }, kinds := [], alts := [], laidByText := true, laidKinds := [.data, .data], laidTests := true, laidLooks := .later }
def UnmovedUptoCardSaid : Prop := Claim7.holds Tryd.pinned (.plain (OpenSpec.upto unmovedSpec)) unmovedUptoCard

/-- THE SECOND FORM's CARD OF 'weavekeep.Ready'. -/
def readyUptoCard : Claim7 := { stood := { row := readyUptoRow, standIns := [], harness := (true, "793fd90609c1c7ab9866de6624b66206487a014fd267dddd50776ac88a5c4e66"), looks := false }, kinds := [], alts := [], laidByText := true, laidKinds := [.data, .data], laidTests := true, laidLooks := .later }
def ReadyUptoCardSaid : Prop := Claim7.holds Tryd.pinned (.plain (OpenSpec.upto readySpec)) readyUptoCard

/-- THE SECOND FORM's CARD OF 'weavelaw.All'. -/
def allUptoCard : Claim7 := { stood := { row := allUptoRow, standIns := [], harness := (true, "793fd90609c1c7ab9866de6624b66206487a014fd267dddd50776ac88a5c4e66"), looks := false }, kinds := [], alts := [], laidByText := true, laidKinds := [.data, .data], laidTests := true, laidLooks := .later }
def AllUptoCardSaid : Prop := Claim7.holds Tryd.pinned (.plain (OpenSpec.upto allSpec)) allUptoCard
end Rows
end Go.Proofs.YtddpcjgekfmhkabDoor
