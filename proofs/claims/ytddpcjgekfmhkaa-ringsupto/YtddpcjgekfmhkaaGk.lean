/- The statement that keeps what came out of a ring: its steps. -/
import Derived.Test.YtddpcjgekfmhkaaKg
import Derived.Test.YtddpcjgekfmhkaaGc
namespace Go.Proofs.Ytddpcjgekfmhkaa.kt
open Go Go.RowKit
set_option linter.unusedVariables false
set_option linter.unusedSimpArgs false

/-- A row of n marks, made since. -/
def Marks (H : Nat) (M : Int) (n : Nat) (v : Value) (w : World) : Prop := ∃ g cap, v = .slice (some ⟨g, 0, none⟩) n cap ∧ H ≤ g ∧ ∀ j, j < n → w.cell? ⟨g, j * 2, none⟩ = some (.int .i64 M) ∧ w.cell? ⟨g, j * 2 + 1, none⟩ = some (.string kept)

structure Fours (H c : Nat) (L : Value) (M : Int) (v1 v2 v3 : Value) (w : World) : Prop where
  r1 : Marks H M (c + 1) v1 w
  r2 : Marks H M (c + 2) v2 w
  r3 : Marks H M (c + 3) v3 w

def Good (H bb c : Nat) (L IV : Value) (M : Int) : Nat → Value → World → Prop
  | 0, v, _ | 1, v, _ | 2, v, _ | 23, v, _ => v = .pointer (some ⟨bb, 0, none⟩)
  | 3, v, _ | 24, v, _ => v = .pointer (some ⟨bb, 3, none⟩)
  | 4, v, _ => v = IV
  | 5, v, _ | 6, v, _ | 10, v, _ | 15, v, _ => v = L
  | 7, v, _ | 11, v, _ | 12, v, _ | 16, v, _ | 17, v, _ | 18, v, _ => v = .agg #[.int .i64 M, .string kept]
  | 8, v, w => Marks H M 1 v w
  | 13, v, w => Marks H M 2 v w
  | 19, v, w => Marks H M 3 v w
  | 9, v, w => Marks H M (c + 1) v w
  | 14, v, w => Marks H M (c + 2) v w
  | 20, v, w => Marks H M (c + 3) v w
  | 21, v, w => ∃ g v1 v2 v3, v = .slice (some ⟨g, 0, none⟩) 4 4 ∧ H ≤ g ∧ Fours H c L M v1 v2 v3 w ∧ ∀ j u, [L, v1, v2, v3][j]? = some u → w.cell? ⟨g, j, none⟩ = some u
  | _, _, _ => True

theorem Marks.mono {H n : Nat} {M : Int} {v : Value} {w w' : World} {row : Option Nat} (h : Marks H M n v w) (hg : w.grownBy w' row) (hrow : ∀ k, row = some k → k < H) : Marks H M n v w' := by
  obtain ⟨g, cap, rfl, hH, hc⟩ := h
  exact ⟨g, cap, rfl, hH, fun j hj => ⟨hg.cell (hc j hj).1 (fun e => by have := hrow g e.symm; omega), hg.cell (hc j hj).2 (fun e => by have := hrow g e.symm; omega)⟩⟩
theorem Fours.mono {H c : Nat} {L : Value} {M : Int} {v1 v2 v3 : Value} {w w' : World} {row : Option Nat} (h : Fours H c L M v1 v2 v3 w) (hg : w.grownBy w' row) (hrow : ∀ k, row = some k → k < H) : Fours H c L M v1 v2 v3 w' :=
  ⟨h.r1.mono hg hrow, h.r2.mono hg hrow, h.r3.mono hg hrow⟩
theorem Good.mono {H bb c : Nat} {L IV : Value} {M : Int} {k : Nat} {v : Value} {w w' : World} {row : Option Nat} (h : Good H bb c L IV M k v w) (hg : w.grownBy w' row) (hrow : ∀ k, row = some k → k < H) : Good H bb c L IV M k v w' := by
  unfold Good at h ⊢
  split <;> simp_all only
  all_goals first
    | exact Marks.mono h hg hrow
    | (obtain ⟨g, v1, v2, v3, rfl, hH, hF, hc⟩ := h
       exact ⟨g, v1, v2, v3, rfl, hH, hF.mono hg hrow, fun j u hu => hg.cell (hc j u hu) (fun e => by have := hrow g e.symm; omega)⟩)

/-- What is so while the region goes on, up to the append onto the book. -/
structure KJ (w0 : World) (mb bb c : Nat) (L IV : Value) (M : Int) (listed : Array Bool) (a : Act) (w : World) : Prop where
  lsize : listed.size = 26
  defers : a.defers = []
  tsize : a.tmps.size = 94
  t0 : a.tmps.getD 0 undef = .pointer (some ⟨bb, 0, none⟩)
  t1 : a.tmps.getD 5 undef = L
  t4 : a.tmps.getD 6 undef = .pointer (some ⟨mb, 0, none⟩)
  vals : ∀ k, k < 26 → listed.getD k false = true → Good w0.heap.size bb c L IV M k (a.tmps.getD (69 + k) undef) w
  closed : listed.getD 22 false = true → ∀ k, 1 ≤ k → k < 22 → listed.getD k false = true
  c24 : listed.getD 24 false = true → listed.getD 23 false = true
  grown : w0.grownBy w IV.ownBlock
  pure : listed.getD 22 false = false → w0.grownBy w none

theorem KJ.put {w0 : World} {mb bb c : Nat} {L IV : Value} {M : Int} {listed : Array Bool} {a : Act} {w : World} (h : KJ w0 mb bb c L IV M listed a w) (hrow : ∀ k, IV.ownBlock = some k → k < w0.heap.size) (k : Nat) (hk : k < 25) (v : Value) (w' : World)
    (hg : w.grownBy w' IV.ownBlock) (hgn : k ≠ 22 → w.grownBy w' none) (hgood : Good w0.heap.size bb c L IV M k v w') (h22 : k = 22 → ∀ j, 1 ≤ j → j < 22 → listed.getD j false = true) (h24 : k = 24 → listed.getD 23 false = true) : KJ w0 mb bb c L IV M (listed.setIfInBounds k true) (a.put (some (69 + k)) v) w' := by
  have hs := h.tsize
  have hl := h.lsize
  have far : ∀ j, j < 69 → (a.put (some (69 + k)) v).tmps.getD j undef = a.tmps.getD j undef := by
    intro j hj
    simp only [Act.put, Array.getD_eq_getD_getElem?]
    rw [Array.getElem?_setIfInBounds_ne (by omega)]
  refine ⟨by simp [hl], h.defers, by simp [Act.put, hs], (far 0 (by omega)).trans h.t0, (far 5 (by omega)).trans h.t1, (far 6 (by omega)).trans h.t4, ?_, ?_, ?_, h.grown.trans hg, ?_⟩
  · intro j hj hlj
    by_cases e : k = j
    · subst e
      have : (a.put (some (69 + k)) v).tmps.getD (69 + k) undef = v := by
        simp only [Act.put, Array.getD_eq_getD_getElem?]
        rw [Array.getElem?_setIfInBounds_self_of_lt (by omega)]; rfl
      rw [this]; exact hgood
    · rw [getD_set_ne false e] at hlj
      have : (a.put (some (69 + k)) v).tmps.getD (69 + j) undef = a.tmps.getD (69 + j) undef := by
        simp only [Act.put, Array.getD_eq_getD_getElem?]
        rw [Array.getElem?_setIfInBounds_ne (by omega)]
      rw [this]
      exact (h.vals j hj hlj).mono hg hrow
  · intro h1 j hj1 hj
    by_cases e : k = 22
    · exact getD_set_true (h22 e j hj1 hj)
    · rw [getD_set_ne false (by omega)] at h1
      exact getD_set_true (h.closed h1 j hj1 hj)
  · intro h1
    by_cases e : k = 24
    · exact getD_set_true (h24 e)
    · rw [getD_set_ne false (by omega)] at h1
      exact getD_set_true (h.c24 h1)
  · intro h1
    by_cases e : k = 22
    · subst e
      rw [Array.getD_eq_getD_getElem?, Array.getElem?_setIfInBounds_self_of_lt (by omega)] at h1
      cases h1
    · rw [getD_set_ne false e] at h1
      exact (h.pure h1).trans (hgn e)

/-- The book's longer list. -/
def Own (base : Nat) (T : TypeId) (H c ni : Nat) (L IV : Value) (M : Int) (xs : List Value) (v : Value) (w : World) : Prop :=
  ∃ g cap v1 v2 v3, v = .slice (some ⟨g, 0, none⟩) (ni + 4) cap ∧ w.ownsRow base T 1 v (ni + 4) (xs ++ [L, v1, v2, v3]) ∧ Fours H c L M v1 v2 v3 w ∧ (IV.ownBlock = some g ∨ H ≤ g) ∧ v1.ownBlock ≠ some g ∧ v2.ownBlock ≠ some g ∧ v3.ownBlock ≠ some g

def KK (base : Nat) (T : TypeId) (ni : Nat) (xs : List Value) (w0 : World) (mb bb c : Nat) (L IV : Value) (M : Int) (listed : Array Bool) (a : Act) (w : World) : Prop :=
  (listed.getD 25 false = false ∧ KJ w0 mb bb c L IV M listed a w ∧ (listed.getD 22 false = true → Own base T w0.heap.size c ni L IV M xs (a.tmps.getD 91 undef) w)) ∨
  ((∀ k, k < 26 → listed.getD k false = true) ∧ a.defers = [] ∧ a.tmps.size = 94 ∧ ∃ w1 v, w0.grownBy w1 IV.ownBlock ∧ Own base T w0.heap.size c ni L IV M xs v w1 ∧ w = w1.setCell ⟨bb, 3, none⟩ v)

section
variable {base : Nat} {T : TypeId} {ni : Nat} {xs : List Value} {w0 : World} {mb bb c : Nat} {L IV : Value} {M : Int} {listed : Array Bool} {a : Act} {w : World}

theorem KK.same (h : KJ w0 mb bb c L IV M listed a w) (hrow : ∀ k, IV.ownBlock = some k → k < w0.heap.size) (h25 : listed.getD 25 false = false) (hown : listed.getD 22 false = true → Own base T w0.heap.size c ni L IV M xs (a.tmps.getD 91 undef) w)
    (i : Nat) (hi : i < 25) (hne : i ≠ 22) (v : Value) (hgood : Good w0.heap.size bb c L IV M i v w) (h24 : i = 24 → listed.getD 23 false = true) : KK base T ni xs w0 mb bb c L IV M (listed.setIfInBounds i true) (a.put (some (69 + i)) v) w := by
  refine .inl ⟨by rw [getD_set_ne false (by omega)]; exact h25, h.put hrow i hi v w (World.grownBy.refl w _) (fun _ => World.grownBy.refl w _) hgood (fun e => absurd e hne) h24, fun h2 => ?_⟩
  rw [getD_set_ne false hne] at h2
  have : (a.put (some (69 + i)) v).tmps.getD 91 undef = a.tmps.getD 91 undef := by
    simp only [Act.put, Array.getD_eq_getD_getElem?]
    rw [Array.getElem?_setIfInBounds_ne (by omega)]
  rw [this]; exact hown h2

theorem KK.grow (h : KJ w0 mb bb c L IV M listed a w) (hrow : ∀ k, IV.ownBlock = some k → k < w0.heap.size) (h25 : listed.getD 25 false = false)
    (i : Nat) (hi1 : 1 ≤ i) (hi : i < 22) (hun : listed.getD i true = false) (v : Value) (w' : World) (hg : w.grownBy w' none) (hgood : Good w0.heap.size bb c L IV M i v w') : KK base T ni xs w0 mb bb c L IV M (listed.setIfInBounds i true) (a.put (some (69 + i)) v) w' := by
  refine .inl ⟨by rw [getD_set_ne false (by omega)]; exact h25, h.put hrow i (by omega) v w' (hg.but _) (fun _ => hg) hgood (fun e => by omega) (fun e => by omega), fun h2 => ?_⟩
  rw [getD_set_ne false (by omega)] at h2
  have := h.closed h2 i hi1 hi
  have hl := h.lsize
  rw [Array.getD_eq_getD_getElem?, Array.getElem?_eq_getElem (by omega)] at this hun
  simp at this hun
  rw [this] at hun; cases hun

theorem KK.own (h : KJ w0 mb bb c L IV M listed a w) (hrow : ∀ k, IV.ownBlock = some k → k < w0.heap.size) (h25 : listed.getD 25 false = false) (hall : ∀ j, 1 ≤ j → j < 22 → listed.getD j false = true)
    (v : Value) (w' : World) (hg : w.grownBy w' IV.ownBlock) (ho : Own base T w0.heap.size c ni L IV M xs v w') : KK base T ni xs w0 mb bb c L IV M (listed.setIfInBounds 22 true) (a.put (some 91) v) w' := by
  refine .inl ⟨by rw [getD_set_ne false (by omega)]; exact h25, h.put hrow 22 (by omega) v w' hg (fun e => absurd rfl e) trivial (fun _ => hall) (fun e => by omega), fun h2 => ?_⟩
  have : (a.put (some 91) v).tmps.getD 91 undef = v := by
    have hs := h.tsize
    simp only [Act.put, Array.getD_eq_getD_getElem?]
    rw [Array.getElem?_setIfInBounds_self_of_lt (by omega)]; rfl
  rw [this]; exact ho

theorem KK.stored {v : Value} (h : KJ w0 mb bb c L IV M listed a w) (hown : Own base T w0.heap.size c ni L IV M xs v w) (hall : ∀ j, j < 25 → listed.getD j false = true) : KK base T ni xs w0 mb bb c L IV M (listed.setIfInBounds 25 true) a (w.setCell ⟨bb, 3, none⟩ v) := by
  refine .inr ⟨fun k hk => ?_, h.defers, h.tsize, w, v, h.grown, hown, rfl⟩
  have hl := h.lsize
  by_cases e : k = 25
  · subst e
    rw [Array.getD_eq_getD_getElem?, Array.getElem?_setIfInBounds_self_of_lt (by omega)]; rfl
  · exact getD_set_true (hall k (by omega))
end


section
variable {P : Program} {ops : Array Oper} {Q : Exit → Act → World → Prop} {i : Nat} {K : Act → World → Prop} {a : Act} {w : World} {d : Option Tmp}
theorem step_field (x : Operand) (b : Nat) (hx : a.eval x = .pointer (some ⟨b, 0, none⟩)) (ho : Is ops i (.fieldAddr 49 x 3) d) (h : K (a.put d (.pointer (some ⟨b, 3, none⟩))) w) : wpOp Try.prog ops Q i K a w :=
  step_run ho (fun o e => by revert hx; generalize a.eval = ρ; intro hx; simp [execOp, e, hx, go_sem]) h
theorem step_load (x : Operand) (b : Nat) (v : Value) (hx : a.eval x = .pointer (some ⟨b, 3, none⟩)) (hc : w.cell? ⟨b, 3, none⟩ = some v) (ho : Is ops i (.load 47 x) d) (h : K (a.put d v) w) : wpOp Try.prog ops Q i K a w :=
  step_run ho (fun o e => by revert hx; generalize a.eval = ρ; intro hx; simp [execOp, e, hx, hc, go_sem]) h
theorem step_build1 (x : Operand) (m : Int) (hx : a.eval x = .agg #[.int .i64 m, .string kept]) (ho : Is ops i (.buildSlice 45 1 #[(0, x)]) d) (h : K (a.put d (.slice (some ⟨w.heap.size, 0, none⟩) 1 1)) (w.alloc (.cells #[.int .i64 m, .string kept] 44))) : wpOp Try.prog ops Q i K a w :=
  step_run ho (fun o e => by revert hx; generalize a.eval = ρ; intro hx; simp [execOp, e, hx, go_sem]) h
theorem step_build2 (x y : Operand) (m : Int) (hx : a.eval x = .agg #[.int .i64 m, .string kept]) (hy : a.eval y = .agg #[.int .i64 m, .string kept]) (ho : Is ops i (.buildSlice 45 2 #[(0, x), (1, y)]) d) (h : K (a.put d (.slice (some ⟨w.heap.size, 0, none⟩) 2 2)) (w.alloc (.cells #[.int .i64 m, .string kept, .int .i64 m, .string kept] 44))) : wpOp Try.prog ops Q i K a w :=
  step_run ho (fun o e => by revert hx hy; generalize a.eval = ρ; intro hx hy; simp [execOp, e, hx, hy, go_sem]) h
theorem step_build3 (x y z : Operand) (m : Int) (hx : a.eval x = .agg #[.int .i64 m, .string kept]) (hy : a.eval y = .agg #[.int .i64 m, .string kept]) (hz : a.eval z = .agg #[.int .i64 m, .string kept]) (ho : Is ops i (.buildSlice 45 3 #[(0, x), (1, y), (2, z)]) d) (h : K (a.put d (.slice (some ⟨w.heap.size, 0, none⟩) 3 3)) (w.alloc (.cells #[.int .i64 m, .string kept, .int .i64 m, .string kept, .int .i64 m, .string kept] 44))) : wpOp Try.prog ops Q i K a w :=
  step_run ho (fun o e => by revert hx hy hz; generalize a.eval = ρ; intro hx hy hz; simp [execOp, e, hx, hy, hz, go_sem]) h
theorem step_build4 (x y z u : Operand) (a0 a1 a2 a3 : Option Addr) (n0 n1 n2 n3 c0 c1 c2 c3 : Nat) (hx : a.eval x = .slice a0 n0 c0) (hy : a.eval y = .slice a1 n1 c1) (hz : a.eval z = .slice a2 n2 c2) (hu : a.eval u = .slice a3 n3 c3) (ho : Is ops i (.buildSlice 47 4 #[(0, x), (1, y), (2, z), (3, u)]) d)
    (h : K (a.put d (.slice (some ⟨w.heap.size, 0, none⟩) 4 4)) (w.alloc (.cells #[.slice a0 n0 c0, .slice a1 n1 c1, .slice a2 n2 c2, .slice a3 n3 c3] 45))) : wpOp Try.prog ops Q i K a w :=
  step_run ho (fun o e => by revert hx hy hz hu; generalize a.eval = ρ; intro hx hy hz hu; simp [execOp, e, hx, hy, hz, hu, go_sem]) h

theorem step_loadM (x : Operand) (b : Nat) (m : Int) (hx : a.eval x = .pointer (some ⟨b, 0, none⟩)) (h0 : w.cell? ⟨b, 0, none⟩ = some (.int .i64 m)) (h1 : w.cell? ⟨b, 1, none⟩ = some (.string kept)) (ho : Is ops i (.load 44 x) d) (h : K (a.put d (.agg #[.int .i64 m, .string kept])) w) : wpOp Try.prog ops Q i K a w :=
  step_run ho (fun o e => by revert hx; generalize a.eval = ρ; intro hx; simp [execOp, e, hx, h0, h1, go_sem]) h
theorem step_grow (s x : Operand) (ao : Option Addr) (c : Nat) (olds news : List Value) (ad : Addr) (m cx : Nat) (hs : a.eval s = .slice ao c c) (hx : a.eval x = .slice (some ad) m cx) (hm : 0 < m) (hc : c + m ≤ 1099511627776)
    (hnone : ao = none → c = 0) (hlo : olds.length = c * 2) (holds : ∀ b, ao = some b → ∀ j u, olds[j]? = some u → w.cell? (b.add j) = some u) (hn : news.length = m * 2) (hcn : ∀ j u, news[j]? = some u → w.cell? (ad.add j) = some u) (h1c : ∀ u ∈ news, u.oneCell' = true)
    (ho : Is ops i (.call { callee := .builtin .append, args := #[s, x], argTypes := #[45, 45] }) d)
    (hK : ∀ v' w', w'.ownsRow w.heap.size 44 2 v' (c + m) (olds ++ news) → w.grownBy w' none → K (a.put d v') w') : wpOp Try.prog ops Q i K a w := by
  obtain ⟨o, e, h1, h2, h3⟩ := is_some ho
  obtain ⟨i0, hi0, hz0, hz1, hz2⟩ := info_parts infoT
  refine wpOp_if e (step_append_grows h3 s x 45 h1 44 i0 _ 2 24 Try.underlying45 hi0 hz0 hz1 hz2 rfl (by omega) ao c c olds hs (fun h => ⟨hnone h, hnone h⟩) (by omega) holds ad m cx news hx (by omega) hcn h1c (by omega) (by unfold maxLen; omega) (by omega) ?_)
  rw [h2]; exact hK

theorem info_sl : (Try.prog.info? 45).map (fun i => (i.zero, i.size, i.bytes)) = some (some (.slice none 0 0), 1, 24) := by kernel_rfl

theorem step_lies (s x : Operand) (base : Nat) (v : Value) (n : Nat) (xs news : List Value) (ad : Addr) (hs : a.eval s = v) (hown : w.ownsRow base 45 1 v n xs) (hx : a.eval x = .slice (some ad) 4 4) (hn : n ≤ 16777216)
    (hl : news.length = 4) (hnews : ∀ j u, news[j]? = some u → w.cell? (ad.add j) = some u) (h1 : ∀ u ∈ news, u.oneCell' = true) (hbase : base ≤ w.heap.size)
    (ho : Is ops i (.call { callee := .builtin .append, args := #[s, x], argTypes := #[47, 47] }) d)
    (hK : ∀ g cap w', w'.ownsRow base 45 1 (.slice (some ⟨g, 0, none⟩) (n + 4) cap) (n + 4) (xs ++ news) → w.grownBy w' v.ownBlock → (v.ownBlock = some g ∨ g = w.heap.size) → K (a.put d (.slice (some ⟨g, 0, none⟩) (n + 4) cap)) w') : wpOp Try.prog ops Q i K a w := by
  obtain ⟨o, e, e1, e2, e3⟩ := is_some ho
  obtain ⟨i0, hi0, hz0, hz1, hz2⟩ := info_parts info_sl
  refine wpOp_of e e3 (wp_append_lies w s x 47 e1 base 45 i0 _ 1 24 Try.underlying47 hi0 hz0 hz1 hz2 rfl (by omega) v n xs hs hown ad 4 4 news hx (by omega) hnews h1 (by omega) (by unfold maxLen; omega) (by omega) hbase _ rfl ?_)
  intro g cap w' h1 h2 h3 h4
  rw [e2]; exact hK g cap w' h1 h2 h3

theorem step_store (x y : Operand) (b : Nat) (old : Value) (a0 : Option Addr) (n c : Nat) (hx : a.eval x = .pointer (some ⟨b, 3, none⟩)) (hy : a.eval y = .slice a0 n c) (hc : w.cell? ⟨b, 3, none⟩ = some old) (hf : w.frozen? ⟨b, 3, none⟩ = false) (ho : Is ops i (.store 47 x y) none) (h : K a (w.setCell ⟨b, 3, none⟩ (.slice a0 n c))) : wpOp Try.prog ops Q i K a w := by
  obtain ⟨o, e, e1, e2, e3⟩ := is_some ho
  refine wpOp_of e e3 ?_
  unfold Oper.wp
  have hr : (execOp a.eval o).run Try.prog w = .ok .skip (w.setCell ⟨b, 3, none⟩ (.slice a0 n c)) := by
    revert hx hy; generalize a.eval = ρ; intro hx hy
    simp [execOp, e1, hx, hy, hc, hf, go_sem]
  rw [hr]
  show K (a.put o.dst undef) _
  rw [e2]; exact h
end


/-- The cells of n marks. -/
def marksL (m : Int) (n : Nat) : List Value := (List.replicate n [Value.int .i64 m, .string kept]).flatten
theorem marksL_len (m : Int) (n : Nat) : (marksL m n).length = n * 2 := by simp [marksL]
theorem marksL_succ (m : Int) (n : Nat) : marksL m (n + 1) = [.int .i64 m, .string kept] ++ marksL m n := by simp [marksL, List.replicate_succ]
theorem marksL_at (m : Int) : ∀ n j, j < n → (marksL m n)[j * 2]? = some (.int .i64 m) ∧ (marksL m n)[j * 2 + 1]? = some (.string kept)
  | 0, j, h => by omega
  | n + 1, 0, _ => by rw [marksL_succ]; exact ⟨rfl, rfl⟩
  | n + 1, j + 1, h => by
    have := marksL_at m n j (by omega)
    rw [marksL_succ]
    have e1 : (j + 1) * 2 = j * 2 + 2 := by omega
    rw [e1]
    exact this
theorem marksL_add (m : Int) (a b : Nat) : marksL m a ++ marksL m b = marksL m (a + b) := by simp [marksL, ← List.flatten_append, List.replicate_append_replicate]
theorem marksL_one (m : Int) (n : Nat) : ∀ u ∈ marksL m n, u.oneCell' = true := by
  intro u hu
  obtain ⟨l, hl, hu⟩ := List.mem_flatten.1 hu
  rw [List.eq_of_mem_replicate hl] at hu
  simp at hu
  rcases hu with rfl | rfl <;> rfl
theorem marksL_some {m : Int} {n j : Nat} {u : Value} (h : (marksL m n)[j]? = some u) : ∃ i, i < n ∧ ((j = i * 2 ∧ u = .int .i64 m) ∨ (j = i * 2 + 1 ∧ u = .string kept)) := by
  have hl : j < n * 2 := by have := (List.getElem?_eq_some_iff.1 h).1; rw [marksL_len] at this; exact this
  have h2 := marksL_at m n (j / 2) (by omega)
  refine ⟨j / 2, by omega, ?_⟩
  rcases Nat.mod_two_eq_zero_or_one j with e | e
  · left
    have ej : j = j / 2 * 2 := by omega
    refine ⟨ej, ?_⟩
    have h3 := h2.1
    rw [← ej, h] at h3
    exact Option.some.inj h3
  · right
    have ej : j = j / 2 * 2 + 1 := by omega
    refine ⟨ej, ?_⟩
    have h3 := h2.2
    rw [← ej, h] at h3
    exact Option.some.inj h3
theorem marks_of_own {w : World} {H B c m' : Nat} {e : TypeId} {v : Value} {M : Int} (h : w.ownsRow B e 2 v (c + m') (marksL M c ++ marksL M m')) (hm : 0 < m') (hB : H ≤ B) : Marks H M (c + m') v w := by
  rcases h.2 with ⟨_, h0⟩ | ⟨g, cap, cur, hv, hb, hc, h1, h2, h3, h4⟩
  · omega
  · refine ⟨g, cap, hv, by omega, fun j hj => ?_⟩
    rw [marksL_add] at h4
    have h5 := marksL_at M (c + m') j hj
    rw [← h4, List.getElem?_take, if_pos (by omega), List.getElem?_take, if_pos (by omega)] at h5
    exact ⟨by simp [World.cell?, hc]; simpa using h5.1, by simp [World.cell?, hc]; simpa using h5.2⟩
theorem Marks.lt {w : World} {H n : Nat} {M : Int} {v : Value} (h : Marks H M n v w) (hn : 0 < n) : ∃ g cap, v = .slice (some ⟨g, 0, none⟩) n cap ∧ H ≤ g ∧ g < w.heap.size := by
  obtain ⟨g, cap, hv, hH, hc⟩ := h
  exact ⟨g, cap, hv, hH, World.block_lt_of_cell? w _ (hc 0 hn).1⟩
/-- Marks, just made. -/
theorem marks_new {w w' : World} {H n : Nat} {M : Int} {cs : Array Value} {t : TypeId} (hcs : cs = (marksL M n).toArray) (hw : w' = w.alloc (.cells cs t)) (hH : H ≤ w.heap.size) : Marks H M n (.slice (some ⟨w.heap.size, 0, none⟩) n n) w' := by
  subst hw hcs
  refine ⟨w.heap.size, n, rfl, hH, fun j hj => ?_⟩
  have := marksL_at M n j hj
  exact ⟨alloc_at w _ _ _ _ (by simpa using this.1), alloc_at w _ _ _ _ (by simpa using this.2)⟩

end Go.Proofs.Ytddpcjgekfmhkaa.kt
