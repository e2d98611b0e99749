/- The book between the rounds of a law. -/
import Derived.Test.YtddpcjgekfmhkaaDoorKp
import Derived.Test.YtddpcjgekfmhkaaDoorWh
namespace Go.Proofs.YtddpcjgekfmhkaaDoor
open Go Go.RowKit
set_option linter.unusedVariables false
set_option linter.unusedSimpArgs false

theorem own_block {w w' : World} {base : Nat} {e : TypeId} {v : Value} {n : Nat} {xs : List Value} (h : w.ownsRow base e 1 v n xs) (hg : ∀ g, v.ownBlock = some g → w'.heap[g]? = w.heap[g]?) : w'.ownsRow base e 1 v n xs := by
  refine ⟨h.1, ?_⟩
  rcases h.2 with h0 | ⟨g, cap, cur, hv, hb, hc, h1, h2, h3, h4⟩
  · exact .inl h0
  · exact .inr ⟨g, cap, cur, hv, hb, (hg g (by rw [hv]; rfl)).trans hc, h1, h2, h3, h4⟩

theorem own_cell {w : World} {base : Nat} {e : TypeId} {v : Value} {n : Nat} {xs : List Value} (h : w.ownsRow base e 1 v n xs) {g : Nat} (hg : v.ownBlock = some g) (i : Nat) (hi : i < n) : w.cell? ⟨g, i, none⟩ = xs[i]? := by
  rcases h.2 with ⟨rfl, _⟩ | ⟨g', cap, cur, rfl, hb, hc, h1, h2, h3, h4⟩
  · cases hg
  · obtain rfl : g' = g := Option.some.inj hg
    rw [← h4, List.getElem?_take, if_pos (by omega)]
    simp [World.cell?, hc]

theorem own_lt {w : World} {base : Nat} {e : TypeId} {v : Value} {n : Nat} {xs : List Value} (h : w.ownsRow base e 1 v n xs) {g : Nat} (hg : v.ownBlock = some g) : base ≤ g ∧ g < w.heap.size := by
  rcases h.2 with ⟨rfl, _⟩ | ⟨g', cap, cur, rfl, hb, hc, _⟩
  · cases hg
  · obtain rfl : g' = g := Option.some.inj hg
    refine ⟨hb, ?_⟩
    rcases Nat.lt_or_ge g' w.heap.size with h | h
    · exact h
    · rw [Array.getElem?_eq_none h] at hc; cases hc

/-- A row that the book holds: its own mark, in a block of its own. -/
def RowAt (B : Nat) (w : World) (bb : Nat) (IV : Value) (i : Nat) (v : Value) : Prop :=
  ∃ a len cap, v = .slice a len cap ∧ len ≤ 2048 ∧ (0 < len → ∃ g, a = some ⟨g, 0, none⟩ ∧ B ≤ g ∧ g ≠ bb ∧ IV.ownBlock ≠ some g ∧ ∀ j, j < len → w.cell? ⟨g, j, none⟩ = some (.int .i64 (-1000 - ((i / 4 * 4 : Nat) : Int))))

structure St (B : Nat) (w : World) (bb r : Nat) (IV : Value) (xs : List Value) : Prop where
  cell0 : w.cell? ⟨bb, 0, none⟩ = some IV
  cell1 : w.cell? ⟨bb, 1, none⟩ = some (.slice none 0 0)
  unf : w.frozen? ⟨bb, 0, none⟩ = false
  own : w.ownsRow B 22 1 IV (4 * r) xs
  apart : IV.ownBlock ≠ some bb
  bge : B ≤ bb
  rows : ∀ i v, xs[i]? = some v → RowAt B w bb IV i v

theorem RowAt.mono {B : Nat} {w w' : World} {bb : Nat} {IV : Value} {i : Nat} {v : Value} (h : RowAt B w bb IV i v) (hb : Below w.heap.size w w') : RowAt B w' bb IV i v := by
  obtain ⟨a, len, cap, rfl, hl, hr⟩ := h
  refine ⟨a, len, cap, rfl, hl, fun h0 => ?_⟩
  obtain ⟨g, ha, h1, h2, h3, hc⟩ := hr h0
  exact ⟨g, ha, h1, h2, h3, fun j hj => (hb.cell (p := ⟨g, j, none⟩) (World.block_lt_of_cell? w _ (hc j hj))).trans (hc j hj)⟩

theorem St.mono {B : Nat} {w w' : World} {bb r : Nat} {IV : Value} {xs : List Value} (h : St B w bb r IV xs) (hb : Below w.heap.size w w') : St B w' bb r IV xs := by
  have hlt := World.block_lt_of_cell? w _ h.cell0
  exact ⟨(hb.cell (p := ⟨bb, 0, none⟩) hlt).trans h.cell0, (hb.cell (p := ⟨bb, 1, none⟩) hlt).trans h.cell1, (World.frozen?_of_block (a := ⟨bb, 0, none⟩) (hb.block bb hlt)).trans h.unf, own_block h.own (fun g hg => hb.block g (own_lt h.own hg).2), h.apart, h.bge, fun i v hv => (h.rows i v hv).mono hb⟩

/-- What whole wants. -/
theorem St.rowed {B : Nat} {w : World} {bb r : Nat} {ia : Option Addr} {icap : Nat} {xs : List Value} (h : St B w bb r (.slice ia (4 * r) icap) xs) :
    ∃ gI Ra Rg Rl Rc, (0 < 4 * r → ia = some ⟨gI, 0, none⟩) ∧ Rowed w gI (4 * r) Ra Rg Rl Rc := by
  have hx : ∀ i, i < 4 * r → ∃ v, xs[i]? = some v := fun i hi => by
    have hl := h.own.1
    exact ⟨xs[i]'(by omega), List.getElem?_eq_getElem (by omega)⟩
  have hrow : ∀ i, ∃ a g len cap, i < 4 * r → xs[i]? = some (.slice a len cap) ∧ len ≤ 2048 ∧ (0 < len → a = some ⟨g, 0, none⟩) ∧ ∀ j, j < len → w.cell? ⟨g, j, none⟩ = some (.int .i64 (-1000 - ((i / 4 * 4 : Nat) : Int))) := by
    intro i
    by_cases hi : i < 4 * r
    · obtain ⟨v, hv⟩ := hx i hi
      obtain ⟨a, len, cap, rfl, hl, hr⟩ := h.rows i v hv
      by_cases h0 : 0 < len
      · obtain ⟨g, ha, _, _, _, hc⟩ := hr h0
        exact ⟨a, g, len, cap, fun _ => ⟨hv, hl, fun _ => ha, hc⟩⟩
      · exact ⟨a, 0, len, cap, fun _ => ⟨hv, hl, fun h => absurd h h0, fun j hj => by omega⟩⟩
    · exact ⟨none, 0, 0, 0, fun h => absurd h hi⟩
  obtain ⟨Ra, hRa⟩ := Classical.axiomOfChoice hrow
  obtain ⟨Rg, hRg⟩ := Classical.axiomOfChoice hRa
  obtain ⟨Rl, hRl⟩ := Classical.axiomOfChoice hRg
  obtain ⟨Rc, hR⟩ := Classical.axiomOfChoice hRl
  have hI : ∃ gI, 0 < 4 * r → ia = some ⟨gI, 0, none⟩ := by
    rcases h.own.2 with ⟨h0, h1⟩ | ⟨g, cap, cur, hv, _⟩
    · exact ⟨0, fun h => by omega⟩
    · exact ⟨g, fun _ => by cases hv; rfl⟩
  obtain ⟨gI, hgI⟩ := hI
  refine ⟨gI, Ra, Rg, Rl, Rc, hgI, ⟨fun i hi => ?_, fun i hi => (hR i hi).2.2.1, fun i hi => (hR i hi).2.1, fun i j hi hj => (hR i hi).2.2.2 j hj⟩⟩
  rw [own_cell h.own (g := gI) (by rw [hgI (by omega)]; rfl) i hi]
  exact (hR i hi).1

end Go.Proofs.YtddpcjgekfmhkaaDoor
