/-
  No cell of these rows narrows 'for every input' (looked for: loops, veiled, ifaces, maps, wideKeys, modest, calm, conditions, laid).
  DERIVED. THE GIVEN ROWS OF THIS SEAT. 6 by the template 'for every input the law returns true; each argument reads behind the call as it read before'; 0 by the template 'total and deterministic' (their statements: YtddpcjgekfmhkaaTotals.lean).
  GIVEN WITH THE SEED: the statements are not yours to turn. If you find one false, say at which input.
  Laid BY PROGRAM, IN A SANDBOX (cutbox-rows.mjs): the forced cells as the released guide's own fill.sh prints them over the translation 78f6320c6dcec293… (all of the seat's roots in one cut). By AI agents, Wed Nov 11 2026. No macro, syntax, notation, axiom, sorry.
-/
import Derived.Test.YtddpcjgekfmhkaaChecked
import GoSem.Claim
import GoSem.ClaimJoined
import GoSem.ClaimMapViews
import Derived.JoinedTies
import Derived.KernelRfl
namespace Go.Proofs.Ytddpcjgekfmhkaa
/- THE CELL 'sum', in the pinned program and in every row, IS THE sha256 OF THE DUMP (.gsa) THAT YtddpcjgekfmhkaaProg.lean LOADS. Nothing in Lean hashes anything: it is a label: what it is worth is what the hold of that sum in a sandbox is worth. -/
noncomputable def Try.pinned : Pinned := { name := "ytddpcjgekfmhkaa", sum := "78f6320c6dcec2931b2b356685f8d0d390ce537f753c52f30a6f1ac99097ba45", checked := Try.checked }
namespace Rows
def none {H : Type} : Left H := { results := [], args := [] }

/-- 'weavelaw.Numbers': WHATEVER THE INPUT: true; the input reads as it did. -/
def numbersSpec : ChangeSpec := { name := "numbers", fn := fun _ => fun
  | [d1, d2] => { results := [.lit (.bool true)], args := [d1, d2] }
  | _ => none }
def numbersRow : OpenClaim := { program := "ytddpcjgekfmhkaa", sum := "78f6320c6dcec2931b2b356685f8d0d390ce537f753c52f30a6f1ac99097ba45", func := "weave/weavelaw.Numbers", spec := "numbers", apart := false }
def NumbersSaid : Prop := numbersRow.holds Try.pinned (OpenSpec.ofChange numbersSpec)

/-- ITS FALSE NEIGHBOUR: 'it returns false'. Refute it at one input. -/
def numbersWrong : ChangeSpec := { name := "numbers", fn := fun _ => fun
  | [d1, d2] => { results := [.lit (.bool false)], args := [d1, d2] }
  | _ => none }
def NumbersWrongFalsely : Prop := numbersRow.holds Try.pinned (OpenSpec.ofChange numbersWrong)

/-- 'weavelaw.Powers': WHATEVER THE INPUT: true; the input reads as it did. -/
def powersSpec : ChangeSpec := { name := "powers", fn := fun _ => fun
  | [d1, d2] => { results := [.lit (.bool true)], args := [d1, d2] }
  | _ => none }
def powersRow : OpenClaim := { program := "ytddpcjgekfmhkaa", sum := "78f6320c6dcec2931b2b356685f8d0d390ce537f753c52f30a6f1ac99097ba45", func := "weave/weavelaw.Powers", spec := "powers", apart := false }
def PowersSaid : Prop := powersRow.holds Try.pinned (OpenSpec.ofChange powersSpec)

/-- ITS FALSE NEIGHBOUR: 'it returns false'. Refute it at one input. -/
def powersWrong : ChangeSpec := { name := "powers", fn := fun _ => fun
  | [d1, d2] => { results := [.lit (.bool false)], args := [d1, d2] }
  | _ => none }
def PowersWrongFalsely : Prop := powersRow.holds Try.pinned (OpenSpec.ofChange powersWrong)

/-- 'weavekeep.Laws': WHATEVER THE INPUT: true; the input reads as it did. -/
def lawsSpec : ChangeSpec := { name := "laws", fn := fun _ => fun
  | [d1, d2, d3] => { results := [.lit (.bool true)], args := [d1, d2, d3] }
  | _ => none }
def lawsRow : OpenClaim := { program := "ytddpcjgekfmhkaa", sum := "78f6320c6dcec2931b2b356685f8d0d390ce537f753c52f30a6f1ac99097ba45", func := "weave/weavekeep.Laws", spec := "laws", apart := false }
def LawsSaid : Prop := lawsRow.holds Try.pinned (OpenSpec.ofChange lawsSpec)

/-- ITS FALSE NEIGHBOUR: 'it returns false'. Refute it at one input. -/
def lawsWrong : ChangeSpec := { name := "laws", fn := fun _ => fun
  | [d1, d2, d3] => { results := [.lit (.bool false)], args := [d1, d2, d3] }
  | _ => none }
def LawsWrongFalsely : Prop := lawsRow.holds Try.pinned (OpenSpec.ofChange lawsWrong)

/-- 'weavekeep.Rooted': WHATEVER THE INPUT: true; the input reads as it did. -/
def rootedSpec : ChangeSpec := { name := "rooted", fn := fun _ => fun
  | [d] => { results := [.lit (.bool true)], args := [d] }
  | _ => none }
def rootedRow : OpenClaim := { program := "ytddpcjgekfmhkaa", sum := "78f6320c6dcec2931b2b356685f8d0d390ce537f753c52f30a6f1ac99097ba45", func := "weave/weavekeep.Rooted", spec := "rooted", apart := false }
def RootedSaid : Prop := rootedRow.holds Try.pinned (OpenSpec.ofChange rootedSpec)

/-- ITS FALSE NEIGHBOUR: 'it returns false'. Refute it at one input. -/
def rootedWrong : ChangeSpec := { name := "rooted", fn := fun _ => fun
  | [d] => { results := [.lit (.bool false)], args := [d] }
  | _ => none }
def RootedWrongFalsely : Prop := rootedRow.holds Try.pinned (OpenSpec.ofChange rootedWrong)

/-- 'weavelaw.Rings': WHATEVER THE INPUT: true; the input reads as it did. -/
def ringsSpec : ChangeSpec := { name := "rings", fn := fun _ => fun
  | [d1, d2, d3] => { results := [.lit (.bool true)], args := [d1, d2, d3] }
  | _ => none }
def ringsRow : OpenClaim := { program := "ytddpcjgekfmhkaa", sum := "78f6320c6dcec2931b2b356685f8d0d390ce537f753c52f30a6f1ac99097ba45", func := "weave/weavelaw.Rings", spec := "rings", apart := false }
def RingsSaid : Prop := ringsRow.holds Try.pinned (OpenSpec.ofChange ringsSpec)

/-- ITS FALSE NEIGHBOUR: 'it returns false'. Refute it at one input. -/
def ringsWrong : ChangeSpec := { name := "rings", fn := fun _ => fun
  | [d1, d2, d3] => { results := [.lit (.bool false)], args := [d1, d2, d3] }
  | _ => none }
def RingsWrongFalsely : Prop := ringsRow.holds Try.pinned (OpenSpec.ofChange ringsWrong)

/-- 'weavekeep.Queue': WHATEVER THE INPUT: true; the input reads as it did. -/
def queueSpec : ChangeSpec := { name := "queue", fn := fun _ => fun
  | [d1, d2, d3] => { results := [.lit (.bool true)], args := [d1, d2, d3] }
  | _ => none }
def queueRow : OpenClaim := { program := "ytddpcjgekfmhkaa", sum := "78f6320c6dcec2931b2b356685f8d0d390ce537f753c52f30a6f1ac99097ba45", func := "weave/weavekeep.Queue", spec := "queue", apart := false }
def QueueSaid : Prop := queueRow.holds Try.pinned (OpenSpec.ofChange queueSpec)

/-- ITS FALSE NEIGHBOUR: 'it returns false'. Refute it at one input. -/
def queueWrong : ChangeSpec := { name := "queue", fn := fun _ => fun
  | [d1, d2, d3] => { results := [.lit (.bool false)], args := [d1, d2, d3] }
  | _ => none }
def QueueWrongFalsely : Prop := queueRow.holds Try.pinned (OpenSpec.ofChange queueWrong)

/- THE SECOND FORM. 'bulk': how many values and letters a reading holds, each counted each time it is reached (what is shared counts as often as it is met; a slice's spare places count too). A statement '..UptoSaid' is the law's where the arguments, and the package variables that the reading takes, are together of bulk at most 1048576: NARROWER than '..Said'. Prove '..Said' where nothing that the law and all that it calls make is longer than what came in: it says more and counts as full. Else prove '..UptoSaid'. A law counts once. -/
mutual
def uptoBulk {H : Type} : DataW H → Nat
  | .lit (.string bytes) => bytes.length + 1
  | .lit _ => 1
  | .nil => 1
  | .ptr d => uptoBulk d + 1
  | .slice elems spare => uptoBulkAll elems + uptoBulkAll spare + 1
  | .agg parts => uptoBulkAll parts + 1
  | .iface _ d => uptoBulk d + 1
  | .map entries => uptoBulkEntries entries + 1
  | .held _ => 1
def uptoBulkAll {H : Type} : List (DataW H) → Nat
  | [] => 0
  | d :: r => uptoBulk d + uptoBulkAll r
def uptoBulkEntries {H : Type} : List (Lit × DataW H) → Nat
  | [] => 0
  | x :: r => uptoBulkEntry x + uptoBulkEntries r
def uptoBulkEntry {H : Type} : Lit × DataW H → Nat
  | (.string bytes, d) => bytes.length + uptoBulk d + 1
  | (_, d) => uptoBulk d + 1
 end
def uptoSmall : (H : Type) → List (DataW H) → Bool := fun _ ds => decide (uptoBulkAll ds ≤ 1048576)
def OpenSpec.upto (s : _root_.Go.ChangeSpec) : _root_.Go.OpenSpec := { _root_.Go.OpenSpec.ofChange s with cond := some uptoSmall }

/-- 'weavelaw.Numbers', WHERE WHAT IT READS IS OF BULK AT MOST 1048576: true; the input reads as it did. -/
def numbersUptoRow : OpenClaim := { program := "ytddpcjgekfmhkaa", sum := "78f6320c6dcec2931b2b356685f8d0d390ce537f753c52f30a6f1ac99097ba45", func := "weave/weavelaw.Numbers", spec := "numbers", apart := false, narrowed := true }
def NumbersUptoSaid : Prop := numbersUptoRow.holds Try.pinned (OpenSpec.upto numbersSpec)

/-- 'weavelaw.Powers', WHERE WHAT IT READS IS OF BULK AT MOST 1048576: true; the input reads as it did. -/
def powersUptoRow : OpenClaim := { program := "ytddpcjgekfmhkaa", sum := "78f6320c6dcec2931b2b356685f8d0d390ce537f753c52f30a6f1ac99097ba45", func := "weave/weavelaw.Powers", spec := "powers", apart := false, narrowed := true }
def PowersUptoSaid : Prop := powersUptoRow.holds Try.pinned (OpenSpec.upto powersSpec)

/-- 'weavekeep.Laws', WHERE WHAT IT READS IS OF BULK AT MOST 1048576: true; the input reads as it did. -/
def lawsUptoRow : OpenClaim := { program := "ytddpcjgekfmhkaa", sum := "78f6320c6dcec2931b2b356685f8d0d390ce537f753c52f30a6f1ac99097ba45", func := "weave/weavekeep.Laws", spec := "laws", apart := false, narrowed := true }
def LawsUptoSaid : Prop := lawsUptoRow.holds Try.pinned (OpenSpec.upto lawsSpec)

/-- 'weavekeep.Rooted', WHERE WHAT IT READS IS OF BULK AT MOST 1048576: true; the input reads as it did. -/
def rootedUptoRow : OpenClaim := { program := "ytddpcjgekfmhkaa", sum := "78f6320c6dcec2931b2b356685f8d0d390ce537f753c52f30a6f1ac99097ba45", func := "weave/weavekeep.Rooted", spec := "rooted", apart := false, narrowed := true }
def RootedUptoSaid : Prop := rootedUptoRow.holds Try.pinned (OpenSpec.upto rootedSpec)

/-- 'weavelaw.Rings', WHERE WHAT IT READS IS OF BULK AT MOST 1048576: true; the input reads as it did. -/
def ringsUptoRow : OpenClaim := { program := "ytddpcjgekfmhkaa", sum := "78f6320c6dcec2931b2b356685f8d0d390ce537f753c52f30a6f1ac99097ba45", func := "weave/weavelaw.Rings", spec := "rings", apart := false, narrowed := true }
def RingsUptoSaid : Prop := ringsUptoRow.holds Try.pinned (OpenSpec.upto ringsSpec)

/-- 'weavekeep.Queue', WHERE WHAT IT READS IS OF BULK AT MOST 1048576: true; the input reads as it did. -/
def queueUptoRow : OpenClaim := { program := "ytddpcjgekfmhkaa", sum := "78f6320c6dcec2931b2b356685f8d0d390ce537f753c52f30a6f1ac99097ba45", func := "weave/weavekeep.Queue", spec := "queue", apart := false, narrowed := true }
def QueueUptoSaid : Prop := queueUptoRow.holds Try.pinned (OpenSpec.upto queueSpec)

end Rows
end Go.Proofs.Ytddpcjgekfmhkaa
