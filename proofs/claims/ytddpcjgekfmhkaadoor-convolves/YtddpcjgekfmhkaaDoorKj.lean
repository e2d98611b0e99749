/- The invariant of book.keep's last statement: what the slots hold, whatever has come up. -/
import Derived.Test.YtddpcjgekfmhkaaDoorIv
import Derived.Deep.RegionLawGrows
import Derived.Deep.AppendLies
import Derived.Maps.RangeWalk
namespace Go.Proofs.YtddpcjgekfmhkaaDoor
open Go
set_option linter.unusedVariables false

theorem wpOp_of {P : Program} {ops : Array Oper} {Q : Exit → Act → World → Prop} {i : Nat} {o : Oper} {K : Act → World → Prop} {a : Act} {w : World} (ho : ops[i]? = some o) (hg : o.guard = none) (h : o.wp P a w K Q) : wpOp P ops Q i K a w := by
  unfold wpOp
  rw [ho]
  simp only [Region.wanted, hg, if_true]
  exact .inl h

theorem dep {md : Region.Mode} {ops : Array Oper} {listed : Array Bool} {i : Nat} (d : Nat) (hi : i ∈ Region.ready md ops listed) (hd : ((ops[i]?).map fun o => o.after.any fun e => e.on == d && Region.binds md e) = some true) : listed.getD d false = true := by
  obtain ⟨_, o, ho, h⟩ := mem_ready.mp hi
  rw [ho] at hd
  simp only [Option.map_some, Option.some.injEq, Array.any_eq_true', Bool.and_eq_true, beq_iff_eq] at hd
  obtain ⟨e, he, rfl, hb⟩ := hd
  exact h e he hb

/-- Where every edge goes to a lesser number, all have come up when nothing is ready. -/
theorem all_listed {md : Region.Mode} {ops : Array Oper} {listed : Array Bool} (hn : listed.size = ops.size) (hr : Region.ready md ops listed = [])
    (hlow : ∀ i o, ops[i]? = some o → ∀ e ∈ o.after, Region.binds md e = true → e.on < i) : ∀ i, i < ops.size → listed.getD i false = true := by
  intro i
  induction i using Nat.strongRecOn with
  | ind i ih =>
    intro hi
    cases hb : listed.getD i false with
    | true => rfl
    | false =>
      exfalso
      have h1 : listed.getD i true = false := by
        rw [Array.getD_eq_getD_getElem?, Array.getElem?_eq_getElem (by omega)] at hb ⊢
        simpa using hb
      have : i ∈ Region.ready md ops listed := mem_ready.mpr ⟨h1, ops[i], Array.getElem?_eq_getElem hi, fun e he hb => ih e.on (hlow i _ (Array.getElem?_eq_getElem hi) e he hb) (by have := hlow i _ (Array.getElem?_eq_getElem hi) e he hb; omega)⟩
      rw [hr] at this
      exact absurd this (List.not_mem_nil)

/-- A row of n marks, made since. -/
def Marks (H : Nat) (M : Value) (n : Nat) (v : Value) (w : World) : Prop := ∃ g cap, v = .slice (some ⟨g, 0, none⟩) n cap ∧ H ≤ g ∧ ∀ j, j < n → w.cell? ⟨g, j, none⟩ = some M

structure Fours (H c : Nat) (L M v1 v2 v3 : Value) (w : World) : Prop where
  r1 : Marks H M (c + 1) v1 w
  r2 : Marks H M (c + 2) v2 w
  r3 : Marks H M (c + 3) v3 w

def Good (H bb c : Nat) (L IV M : Value) : Nat → Value → World → Prop
  | 0, v, _ | 1, v, _ | 2, v, _ | 3, v, _ | 23, v, _ | 24, v, _ => v = .pointer (some ⟨bb, 0, none⟩)
  | 4, v, _ => v = IV
  | 5, v, _ | 6, v, _ | 10, v, _ | 15, v, _ => v = L
  | 7, v, _ | 11, v, _ | 12, v, _ | 16, v, _ | 17, v, _ | 18, v, _ => v = M
  | 8, v, w => Marks H M 1 v w
  | 13, v, w => Marks H M 2 v w
  | 19, v, w => Marks H M 3 v w
  | 9, v, w => Marks H M (c + 1) v w
  | 14, v, w => Marks H M (c + 2) v w
  | 20, v, w => Marks H M (c + 3) v w
  | 21, v, w => ∃ g v1 v2 v3, v = .slice (some ⟨g, 0, none⟩) 4 4 ∧ H ≤ g ∧ Fours H c L M v1 v2 v3 w ∧ ∀ j u, [L, v1, v2, v3][j]? = some u → w.cell? ⟨g, j, none⟩ = some u
  | _, _, _ => True

theorem Marks.mono {H n : Nat} {M v : Value} {w w' : World} {row : Option Nat} (h : Marks H M n v w) (hg : w.grownBy w' row) (hrow : ∀ k, row = some k → k < H) : Marks H M n v w' := by
  obtain ⟨g, cap, rfl, hH, hc⟩ := h
  exact ⟨g, cap, rfl, hH, fun j hj => hg.cell (hc j hj) (fun e => by have := hrow g e.symm; omega)⟩
theorem Fours.mono {H c : Nat} {L M v1 v2 v3 : Value} {w w' : World} {row : Option Nat} (h : Fours H c L M v1 v2 v3 w) (hg : w.grownBy w' row) (hrow : ∀ k, row = some k → k < H) : Fours H c L M v1 v2 v3 w' :=
  ⟨h.r1.mono hg hrow, h.r2.mono hg hrow, h.r3.mono hg hrow⟩
theorem Good.mono {H bb c : Nat} {L IV M : Value} {k : Nat} {v : Value} {w w' : World} {row : Option Nat} (h : Good H bb c L IV M k v w) (hg : w.grownBy w' row) (hrow : ∀ k, row = some k → k < H) : Good H bb c L IV M k v w' := by
  unfold Good at h ⊢
  split <;> simp_all only
  all_goals first
    | exact Marks.mono h hg hrow
    | (obtain ⟨g, v1, v2, v3, rfl, hH, hF, hc⟩ := h
       exact ⟨g, v1, v2, v3, rfl, hH, hF.mono hg hrow, fun j u hu => hg.cell (hc j u hu) (fun e => by have := hrow g e.symm; omega)⟩)

/-- What is so while the region goes on, up to the append onto the book. -/
structure KJ (w0 : World) (bb c : Nat) (L IV M : Value) (listed : Array Bool) (a : Act) (w : World) : Prop where
  lsize : listed.size = 26
  defers : a.defers = []
  tsize : a.tmps.size = 47
  t0 : a.tmps.getD 0 undef = .pointer (some ⟨bb, 0, none⟩)
  t1 : a.tmps.getD 1 undef = L
  t4 : a.tmps.getD 4 undef = M
  vals : ∀ k, k < 26 → listed.getD k false = true → Good w0.heap.size bb c L IV M k (a.tmps.getD (22 + k) undef) w
  closed : listed.getD 22 false = true → ∀ k, 1 ≤ k → k < 22 → listed.getD k false = true
  c24 : listed.getD 24 false = true → listed.getD 23 false = true
  grown : w0.grownBy w IV.ownBlock
  pure : listed.getD 22 false = false → w0.grownBy w none

theorem KJ.put {w0 : World} {bb c : Nat} {L IV M : Value} {listed : Array Bool} {a : Act} {w : World} (h : KJ w0 bb c L IV M listed a w) (hrow : ∀ k, IV.ownBlock = some k → k < w0.heap.size) (k : Nat) (hk : k < 25) (v : Value) (w' : World)
    (hg : w.grownBy w' IV.ownBlock) (hgn : k ≠ 22 → w.grownBy w' none) (hgood : Good w0.heap.size bb c L IV M k v w') (h22 : k = 22 → ∀ j, 1 ≤ j → j < 22 → listed.getD j false = true) (h24 : k = 24 → listed.getD 23 false = true) : KJ w0 bb c L IV M (listed.setIfInBounds k true) (a.put (some (22 + k)) v) w' := by
  have hs := h.tsize
  have hl := h.lsize
  have far : ∀ j, j < 22 → (a.put (some (22 + k)) v).tmps.getD j undef = a.tmps.getD j undef := by
    intro j hj
    simp only [Act.put, Array.getD_eq_getD_getElem?]
    rw [Array.getElem?_setIfInBounds_ne (by omega)]
  refine ⟨by simp [hl], h.defers, by simp [Act.put, hs], (far 0 (by omega)).trans h.t0, (far 1 (by omega)).trans h.t1, (far 4 (by omega)).trans h.t4, ?_, ?_, ?_, h.grown.trans hg, ?_⟩
  · intro j hj hlj
    by_cases e : k = j
    · subst e
      have : (a.put (some (22 + k)) v).tmps.getD (22 + k) undef = v := by
        simp only [Act.put, Array.getD_eq_getD_getElem?]
        rw [Array.getElem?_setIfInBounds_self_of_lt (by omega)]; rfl
      rw [this]; exact hgood
    · rw [getD_set_ne false e] at hlj
      have : (a.put (some (22 + k)) v).tmps.getD (22 + j) undef = a.tmps.getD (22 + j) undef := by
        simp only [Act.put, Array.getD_eq_getD_getElem?]
        rw [Array.getElem?_setIfInBounds_ne (by omega)]
      rw [this]
      exact (h.vals j hj hlj).mono hg hrow
  · intro h1 j hj1 hj
    by_cases e : k = 22
    · exact getD_set_true (h22 e j hj1 hj)
    · rw [getD_set_ne false (by omega)] at h1
      exact getD_set_true (h.closed h1 j hj1 hj)
  · intro h1
    by_cases e : k = 24
    · exact getD_set_true (h24 e)
    · rw [getD_set_ne false (by omega)] at h1
      exact getD_set_true (h.c24 h1)
  · intro h1
    by_cases e : k = 22
    · subst e
      rw [Array.getD_eq_getD_getElem?, Array.getElem?_setIfInBounds_self_of_lt (by omega)] at h1
      cases h1
    · rw [getD_set_ne false e] at h1
      exact (h.pure h1).trans (hgn e)

/-- The book's longer list. -/
def Own (base : Nat) (T : TypeId) (H c ni : Nat) (L IV M : Value) (xs : List Value) (v : Value) (w : World) : Prop :=
  ∃ g cap v1 v2 v3, v = .slice (some ⟨g, 0, none⟩) (ni + 4) cap ∧ w.ownsRow base T 1 v (ni + 4) (xs ++ [L, v1, v2, v3]) ∧ Fours H c L M v1 v2 v3 w ∧ (IV.ownBlock = some g ∨ H ≤ g) ∧ v1.ownBlock ≠ some g ∧ v2.ownBlock ≠ some g ∧ v3.ownBlock ≠ some g

def KK (base : Nat) (T : TypeId) (ni : Nat) (xs : List Value) (w0 : World) (bb c : Nat) (L IV M : Value) (listed : Array Bool) (a : Act) (w : World) : Prop :=
  (listed.getD 25 false = false ∧ KJ w0 bb c L IV M listed a w ∧ (listed.getD 22 false = true → Own base T w0.heap.size c ni L IV M xs (a.tmps.getD 44 undef) w)) ∨
  ((∀ k, k < 26 → listed.getD k false = true) ∧ a.defers = [] ∧ ∃ w1 v, w0.grownBy w1 IV.ownBlock ∧ Own base T w0.heap.size c ni L IV M xs v w1 ∧ w = w1.setCell ⟨bb, 0, none⟩ v)

section
variable {base : Nat} {T : TypeId} {ni : Nat} {xs : List Value} {w0 : World} {bb c : Nat} {L IV M : Value} {listed : Array Bool} {a : Act} {w : World}

theorem KK.same (h : KJ w0 bb c L IV M listed a w) (hrow : ∀ k, IV.ownBlock = some k → k < w0.heap.size) (h25 : listed.getD 25 false = false) (hown : listed.getD 22 false = true → Own base T w0.heap.size c ni L IV M xs (a.tmps.getD 44 undef) w)
    (i : Nat) (hi : i < 25) (hne : i ≠ 22) (v : Value) (hgood : Good w0.heap.size bb c L IV M i v w) (h24 : i = 24 → listed.getD 23 false = true) : KK base T ni xs w0 bb c L IV M (listed.setIfInBounds i true) (a.put (some (22 + i)) v) w := by
  refine .inl ⟨by rw [getD_set_ne false (by omega)]; exact h25, h.put hrow i hi v w (World.grownBy.refl w _) (fun _ => World.grownBy.refl w _) hgood (fun e => absurd e hne) h24, fun h2 => ?_⟩
  rw [getD_set_ne false hne] at h2
  have : (a.put (some (22 + i)) v).tmps.getD 44 undef = a.tmps.getD 44 undef := by
    simp only [Act.put, Array.getD_eq_getD_getElem?]
    rw [Array.getElem?_setIfInBounds_ne (by omega)]
  rw [this]; exact hown h2

theorem KK.grow (h : KJ w0 bb c L IV M listed a w) (hrow : ∀ k, IV.ownBlock = some k → k < w0.heap.size) (h25 : listed.getD 25 false = false)
    (i : Nat) (hi1 : 1 ≤ i) (hi : i < 22) (hun : listed.getD i true = false) (v : Value) (w' : World) (hg : w.grownBy w' none) (hgood : Good w0.heap.size bb c L IV M i v w') : KK base T ni xs w0 bb c L IV M (listed.setIfInBounds i true) (a.put (some (22 + i)) v) w' := by
  refine .inl ⟨by rw [getD_set_ne false (by omega)]; exact h25, h.put hrow i (by omega) v w' (hg.but _) (fun _ => hg) hgood (fun e => by omega) (fun e => by omega), fun h2 => ?_⟩
  rw [getD_set_ne false (by omega)] at h2
  have := h.closed h2 i hi1 hi
  have hl := h.lsize
  rw [Array.getD_eq_getD_getElem?, Array.getElem?_eq_getElem (by omega)] at this hun
  simp at this hun
  rw [this] at hun; cases hun

theorem KK.own (h : KJ w0 bb c L IV M listed a w) (hrow : ∀ k, IV.ownBlock = some k → k < w0.heap.size) (h25 : listed.getD 25 false = false) (hall : ∀ j, 1 ≤ j → j < 22 → listed.getD j false = true)
    (v : Value) (w' : World) (hg : w.grownBy w' IV.ownBlock) (ho : Own base T w0.heap.size c ni L IV M xs v w') : KK base T ni xs w0 bb c L IV M (listed.setIfInBounds 22 true) (a.put (some 44) v) w' := by
  refine .inl ⟨by rw [getD_set_ne false (by omega)]; exact h25, h.put hrow 22 (by omega) v w' hg (fun e => absurd rfl e) trivial (fun _ => hall) (fun e => by omega), fun h2 => ?_⟩
  have : (a.put (some 44) v).tmps.getD 44 undef = v := by
    have hs := h.tsize
    simp only [Act.put, Array.getD_eq_getD_getElem?]
    rw [Array.getElem?_setIfInBounds_self_of_lt (by omega)]; rfl
  rw [this]; exact ho

theorem KK.stored {v : Value} (h : KJ w0 bb c L IV M listed a w) (hown : Own base T w0.heap.size c ni L IV M xs v w) (hall : ∀ j, j < 25 → listed.getD j false = true) : KK base T ni xs w0 bb c L IV M (listed.setIfInBounds 25 true) a (w.setCell ⟨bb, 0, none⟩ v) := by
  refine .inr ⟨fun k hk => ?_, h.defers, w, v, h.grown, hown, rfl⟩
  have hl := h.lsize
  by_cases e : k = 25
  · subst e
    rw [Array.getD_eq_getD_getElem?, Array.getElem?_setIfInBounds_self_of_lt (by omega)]; rfl
  · exact getD_set_true (hall k (by omega))
end

theorem wpOp_if {P : Program} {ops : Array Oper} {Q : Exit → Act → World → Prop} {i : Nat} {o : Oper} {K : Act → World → Prop} {a : Act} {w : World} (ho : ops[i]? = some o) (h : if Region.wanted o (yielded ops a.tmps) = true then o.wp P a w K Q else K (a.put o.dst undef) w) : wpOp P ops Q i K a w := by
  unfold wpOp
  rw [ho]
  simp only
  split
  · rename_i hw; rw [if_pos hw] at h; exact .inl h
  · rename_i hw; rw [if_neg hw] at h; exact h

end Go.Proofs.YtddpcjgekfmhkaaDoor
