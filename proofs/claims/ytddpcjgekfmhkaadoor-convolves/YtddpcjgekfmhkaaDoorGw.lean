/- What a call may do to the world: it makes memory, and nothing old turns. -/
import Derived.WalkKit
import Derived.RowKit3
namespace Go.Proofs.YtddpcjgekfmhkaaDoor
open Go.RowKit

/-- Nothing old has turned; nothing is frozen anew. -/
def Gw (w w' : World) : Prop := Below w.heap.size w w' ∧ ∀ a, w'.frozen? a = w.frozen? a
theorem Gw.grown {w w' : World} (h : Gw w w') : Grown w w' := ⟨h.1.frame _, h.2, h.1.size⟩
theorem Gw.refl (w : World) : Gw w w := ⟨Below.refl _ _, fun _ => rfl⟩
theorem Gw.trans {a b c : World} (h : Gw a b) (k : Gw b c) : Gw a c := ⟨h.1.trans (k.1.mono h.1.size), fun x => (k.2 x).trans (h.2 x)⟩
theorem Gw.alloc {a w : World} (h : Gw a w) (c : Array Value) (t : TypeId) : Gw a (w.alloc (.cells c t)) :=
  ⟨h.1.alloc h.1.size _, fun x => (frozen?_alloc_cells w c t x).trans (h.2 x)⟩
theorem Gw.setCell {a w : World} (h : Gw a w) {p : Addr} (hp : a.heap.size ≤ p.block) (v : Value) : Gw a (w.setCell p v) :=
  ⟨h.1.setCell hp v, (h.grown.setCell hp v).2.1⟩
theorem Gw.drew {a w : World} (h : Gw a w) : Gw a w.drew := ⟨h.1.drew, h.2⟩
theorem Gw.cells {w w' : World} (h : Gw w w') : (∀ b o, b < w.heap.size → w'.cell? ⟨b, o, none⟩ = w.cell? ⟨b, o, none⟩) := fun b o hb => h.1.cell (p := ⟨b, o, none⟩) hb
theorem Gw.frozens {w w' : World} (h : Gw w w') : (∀ b o, w'.frozen? ⟨b, o, none⟩ = w.frozen? ⟨b, o, none⟩) := fun b o => h.2 ⟨b, o, none⟩

theorem Gw.at {w w' : World} (h : Gw w w') {b o : Nat} {v : Value} (hv : w.cell? ⟨b, o, none⟩ = some v) : w'.cell? ⟨b, o, none⟩ = some v := by
  refine (h.cells b o ?_).trans hv
  refine Nat.lt_of_not_le fun hle => ?_
  have e : w.heap[b]? = none := Array.getElem?_eq_none hle
  simp [World.cell?, e] at hv
theorem Gw.fz {w w' : World} (h : Gw w w') {b o : Nat} (hb : w.heap.size ≤ b) : w'.frozen? ⟨b, o, none⟩ = false := by
  rw [h.2]
  simp [World.frozen?, Array.getElem?_eq_none hb]
theorem Gw.size {w w' : World} (h : Gw w w') : w.heap.size ≤ w'.heap.size := h.1.size

end Go.Proofs.YtddpcjgekfmhkaaDoor
