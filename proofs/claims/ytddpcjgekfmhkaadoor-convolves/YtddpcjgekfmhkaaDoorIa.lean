/- Whole numbers in memory. -/
import Derived.Test.YtddpcjgekfmhkaaDoorPv
namespace Go.Proofs.YtddpcjgekfmhkaaDoor
open Go.RowKit
set_option linter.unusedVariables false

/-- len whole numbers lie in block b from off on. -/
def IArr (w : World) (b off len : Nat) (z : Nat → Int) : Prop := ∀ i, i < len → w.cell? ⟨b, off + i, none⟩ = some (.int .i64 (z i)) ∧ -9223372036854775808 ≤ z i ∧ z i ≤ 9223372036854775807
theorem IArr.gw {w w' : World} {b off len : Nat} {z : Nat → Int} (h : IArr w b off len z) (g : Gw w w') : IArr w' b off len z := fun i hi => ⟨g.at (h i hi).1, (h i hi).2⟩
/-- What elements makes of them. -/
def emb (len : Nat) (z : Nat → Int) (i : Nat) : Int := if i < len then z i % PP else 0
theorem emb_elems (n len : Nat) (z : Nat → Int) : Elems n (emb len z) := by
  intro i _
  unfold emb
  by_cases h : i < len
  · rw [if_pos h]; exact md_bd _
  · rw [if_neg h]; omega

theorem IArr.lt {w : World} {b off len : Nat} {z : Nat → Int} (h : IArr w b off len z) (hl : 0 < len) : b < w.heap.size := by
  refine Nat.lt_of_not_le fun hle => ?_
  have e : w.heap[b]? = none := Array.getElem?_eq_none hle
  have := (h 0 hl).1
  simp [World.cell?, e] at this

end Go.Proofs.YtddpcjgekfmhkaaDoor
