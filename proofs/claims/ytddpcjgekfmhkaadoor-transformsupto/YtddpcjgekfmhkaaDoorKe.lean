/- book.keepElems, walked: as book.keep. -/
import Derived.Test.YtddpcjgekfmhkaaDoorKp
namespace Go.Proofs.YtddpcjgekfmhkaaDoor.ke
open Go Go.RowKit Go.Maps
set_option linter.unusedVariables false
set_option linter.unusedSimpArgs false

theorem info_u64 : (Tryd.prog.info? 42).map (fun i => (i.zero, i.size, i.bytes)) = some (some (.int .u64 0), 1, 8) := by kernel_rfl

def Good (H bb c : Nat) (L IV M : Value) : Nat → Value → World → Prop
  | 0, v, _ | 1, v, _ | 2, v, _ | 23, v, _ => v = .pointer (some ⟨bb, 0, none⟩)
  | 3, v, _ | 24, v, _ => v = .pointer (some ⟨bb, 1, none⟩)
  | 4, v, _ => v = IV
  | 5, v, _ | 6, v, _ | 10, v, _ | 15, v, _ => v = L
  | 7, v, _ | 11, v, _ | 12, v, _ | 16, v, _ | 17, v, _ | 18, v, _ => v = M
  | 8, v, w => Marks H M 1 v w
  | 13, v, w => Marks H M 2 v w
  | 19, v, w => Marks H M 3 v w
  | 9, v, w => Marks H M (c + 1) v w
  | 14, v, w => Marks H M (c + 2) v w
  | 20, v, w => Marks H M (c + 3) v w
  | 21, v, w => ∃ g v1 v2 v3, v = .slice (some ⟨g, 0, none⟩) 4 4 ∧ H ≤ g ∧ Fours H c L M v1 v2 v3 w ∧ ∀ j u, [L, v1, v2, v3][j]? = some u → w.cell? ⟨g, j, none⟩ = some u
  | _, _, _ => True

theorem Good.mono {H bb c : Nat} {L IV M : Value} {k : Nat} {v : Value} {w w' : World} {row : Option Nat} (h : Good H bb c L IV M k v w) (hg : w.grownBy w' row) (hrow : ∀ k, row = some k → k < H) : Good H bb c L IV M k v w' := by
  unfold Good at h ⊢
  split <;> simp_all only
  all_goals first
    | exact Marks.mono h hg hrow
    | (obtain ⟨g, v1, v2, v3, rfl, hH, hF, hc⟩ := h
       exact ⟨g, v1, v2, v3, rfl, hH, hF.mono hg hrow, fun j u hu => hg.cell (hc j u hu) (fun e => by have := hrow g e.symm; omega)⟩)

/-- What is so while the region goes on, up to the append onto the book. -/
structure KJ (w0 : World) (bb c : Nat) (L IV M : Value) (listed : Array Bool) (a : Act) (w : World) : Prop where
  lsize : listed.size = 26
  defers : a.defers = []
  tsize : a.tmps.size = 48
  t0 : a.tmps.getD 0 undef = .pointer (some ⟨bb, 0, none⟩)
  t1 : a.tmps.getD 1 undef = L
  t4 : a.tmps.getD 4 undef = M
  vals : ∀ k, k < 26 → listed.getD k false = true → Good w0.heap.size bb c L IV M k (a.tmps.getD (23 + k) undef) w
  closed : listed.getD 22 false = true → ∀ k, 1 ≤ k → k < 22 → listed.getD k false = true
  c24 : listed.getD 24 false = true → listed.getD 23 false = true
  grown : w0.grownBy w IV.ownBlock
  pure : listed.getD 22 false = false → w0.grownBy w none

theorem KJ.put {w0 : World} {bb c : Nat} {L IV M : Value} {listed : Array Bool} {a : Act} {w : World} (h : KJ w0 bb c L IV M listed a w) (hrow : ∀ k, IV.ownBlock = some k → k < w0.heap.size) (k : Nat) (hk : k < 25) (v : Value) (w' : World)
    (hg : w.grownBy w' IV.ownBlock) (hgn : k ≠ 22 → w.grownBy w' none) (hgood : Good w0.heap.size bb c L IV M k v w') (h22 : k = 22 → ∀ j, 1 ≤ j → j < 22 → listed.getD j false = true) (h24 : k = 24 → listed.getD 23 false = true) : KJ w0 bb c L IV M (listed.setIfInBounds k true) (a.put (some (23 + k)) v) w' := by
  have hs := h.tsize
  have hl := h.lsize
  have far : ∀ j, j < 22 → (a.put (some (23 + k)) v).tmps.getD j undef = a.tmps.getD j undef := by
    intro j hj
    simp only [Act.put, Array.getD_eq_getD_getElem?]
    rw [Array.getElem?_setIfInBounds_ne (by omega)]
  refine ⟨by simp [hl], h.defers, by simp [Act.put, hs], (far 0 (by omega)).trans h.t0, (far 1 (by omega)).trans h.t1, (far 4 (by omega)).trans h.t4, ?_, ?_, ?_, h.grown.trans hg, ?_⟩
  · intro j hj hlj
    by_cases e : k = j
    · subst e
      have : (a.put (some (23 + k)) v).tmps.getD (23 + k) undef = v := by
        simp only [Act.put, Array.getD_eq_getD_getElem?]
        rw [Array.getElem?_setIfInBounds_self_of_lt (by omega)]; rfl
      rw [this]; exact hgood
    · rw [getD_set_ne false e] at hlj
      have : (a.put (some (23 + k)) v).tmps.getD (23 + j) undef = a.tmps.getD (23 + j) undef := by
        simp only [Act.put, Array.getD_eq_getD_getElem?]
        rw [Array.getElem?_setIfInBounds_ne (by omega)]
      rw [this]
      exact (h.vals j hj hlj).mono hg hrow
  · intro h1 j hj1 hj
    by_cases e : k = 22
    · exact getD_set_true (h22 e j hj1 hj)
    · rw [getD_set_ne false (by omega)] at h1
      exact getD_set_true (h.closed h1 j hj1 hj)
  · intro h1
    by_cases e : k = 24
    · exact getD_set_true (h24 e)
    · rw [getD_set_ne false (by omega)] at h1
      exact getD_set_true (h.c24 h1)
  · intro h1
    by_cases e : k = 22
    · subst e
      rw [Array.getD_eq_getD_getElem?, Array.getElem?_setIfInBounds_self_of_lt (by omega)] at h1
      cases h1
    · rw [getD_set_ne false e] at h1
      exact (h.pure h1).trans (hgn e)

def KK (base : Nat) (T : TypeId) (ni : Nat) (xs : List Value) (w0 : World) (bb c : Nat) (L IV M : Value) (listed : Array Bool) (a : Act) (w : World) : Prop :=
  (listed.getD 25 false = false ∧ KJ w0 bb c L IV M listed a w ∧ (listed.getD 22 false = true → Own base T w0.heap.size c ni L IV M xs (a.tmps.getD 45 undef) w)) ∨
  ((∀ k, k < 26 → listed.getD k false = true) ∧ a.defers = [] ∧ ∃ w1 v, w0.grownBy w1 IV.ownBlock ∧ Own base T w0.heap.size c ni L IV M xs v w1 ∧ w = w1.setCell ⟨bb, 1, none⟩ v)

section
variable {base : Nat} {T : TypeId} {ni : Nat} {xs : List Value} {w0 : World} {bb c : Nat} {L IV M : Value} {listed : Array Bool} {a : Act} {w : World}

theorem KK.same (h : KJ w0 bb c L IV M listed a w) (hrow : ∀ k, IV.ownBlock = some k → k < w0.heap.size) (h25 : listed.getD 25 false = false) (hown : listed.getD 22 false = true → Own base T w0.heap.size c ni L IV M xs (a.tmps.getD 45 undef) w)
    (i : Nat) (hi : i < 25) (hne : i ≠ 22) (v : Value) (hgood : Good w0.heap.size bb c L IV M i v w) (h24 : i = 24 → listed.getD 23 false = true) : KK base T ni xs w0 bb c L IV M (listed.setIfInBounds i true) (a.put (some (23 + i)) v) w := by
  refine .inl ⟨by rw [getD_set_ne false (by omega)]; exact h25, h.put hrow i hi v w (World.grownBy.refl w _) (fun _ => World.grownBy.refl w _) hgood (fun e => absurd e hne) h24, fun h2 => ?_⟩
  rw [getD_set_ne false hne] at h2
  have : (a.put (some (23 + i)) v).tmps.getD 45 undef = a.tmps.getD 45 undef := by
    simp only [Act.put, Array.getD_eq_getD_getElem?]
    rw [Array.getElem?_setIfInBounds_ne (by omega)]
  rw [this]; exact hown h2

theorem KK.grow (h : KJ w0 bb c L IV M listed a w) (hrow : ∀ k, IV.ownBlock = some k → k < w0.heap.size) (h25 : listed.getD 25 false = false)
    (i : Nat) (hi1 : 1 ≤ i) (hi : i < 22) (hun : listed.getD i true = false) (v : Value) (w' : World) (hg : w.grownBy w' none) (hgood : Good w0.heap.size bb c L IV M i v w') : KK base T ni xs w0 bb c L IV M (listed.setIfInBounds i true) (a.put (some (23 + i)) v) w' := by
  refine .inl ⟨by rw [getD_set_ne false (by omega)]; exact h25, h.put hrow i (by omega) v w' (hg.but _) (fun _ => hg) hgood (fun e => by omega) (fun e => by omega), fun h2 => ?_⟩
  rw [getD_set_ne false (by omega)] at h2
  have := h.closed h2 i hi1 hi
  have hl := h.lsize
  rw [Array.getD_eq_getD_getElem?, Array.getElem?_eq_getElem (by omega)] at this hun
  simp at this hun
  rw [this] at hun; cases hun

theorem KK.own (h : KJ w0 bb c L IV M listed a w) (hrow : ∀ k, IV.ownBlock = some k → k < w0.heap.size) (h25 : listed.getD 25 false = false) (hall : ∀ j, 1 ≤ j → j < 22 → listed.getD j false = true)
    (v : Value) (w' : World) (hg : w.grownBy w' IV.ownBlock) (ho : Own base T w0.heap.size c ni L IV M xs v w') : KK base T ni xs w0 bb c L IV M (listed.setIfInBounds 22 true) (a.put (some 45) v) w' := by
  refine .inl ⟨by rw [getD_set_ne false (by omega)]; exact h25, h.put hrow 22 (by omega) v w' hg (fun e => absurd rfl e) trivial (fun _ => hall) (fun e => by omega), fun h2 => ?_⟩
  have : (a.put (some 45) v).tmps.getD 45 undef = v := by
    have hs := h.tsize
    simp only [Act.put, Array.getD_eq_getD_getElem?]
    rw [Array.getElem?_setIfInBounds_self_of_lt (by omega)]; rfl
  rw [this]; exact ho

theorem KK.stored {v : Value} (h : KJ w0 bb c L IV M listed a w) (hown : Own base T w0.heap.size c ni L IV M xs v w) (hall : ∀ j, j < 25 → listed.getD j false = true) : KK base T ni xs w0 bb c L IV M (listed.setIfInBounds 25 true) a (w.setCell ⟨bb, 1, none⟩ v) := by
  refine .inr ⟨fun k hk => ?_, h.defers, w, v, h.grown, hown, rfl⟩
  have hl := h.lsize
  by_cases e : k = 25
  · subst e
    rw [Array.getD_eq_getD_getElem?, Array.getElem?_setIfInBounds_self_of_lt (by omega)]; rfl
  · exact getD_set_true (hall k (by omega))
end


section
variable {P : Program} {ops : Array Oper} {Q : Exit → Act → World → Prop} {i : Nat} {K : Act → World → Prop} {a : Act} {w : World} {d : Option Tmp}
theorem step_field (x : Operand) (b : Nat) (hx : a.eval x = .pointer (some ⟨b, 0, none⟩)) (ho : Is ops i (.fieldAddr 34 x 1) d) (h : K (a.put d (.pointer (some ⟨b, 1, none⟩))) w) : wpOp Tryd.prog ops Q i K a w :=
  step_run ho (fun o e => by revert hx; generalize a.eval = ρ; intro hx; simp [execOp, e, hx, go_sem]) h
theorem step_load (x : Operand) (b : Nat) (v : Value) (hx : a.eval x = .pointer (some ⟨b, 1, none⟩)) (hc : w.cell? ⟨b, 1, none⟩ = some v) (ho : Is ops i (.load 32 x) d) (h : K (a.put d v) w) : wpOp Tryd.prog ops Q i K a w :=
  step_run ho (fun o e => by revert hx; generalize a.eval = ρ; intro hx; simp [execOp, e, hx, hc, go_sem]) h
theorem step_build1 (x : Operand) (m : Int) (hx : a.eval x = .int .u64 m) (ho : Is ops i (.buildSlice 35 1 #[(0, x)]) d) (h : K (a.put d (.slice (some ⟨w.heap.size, 0, none⟩) 1 1)) (w.alloc (.cells #[.int .u64 m] 42))) : wpOp Tryd.prog ops Q i K a w :=
  step_run ho (fun o e => by revert hx; generalize a.eval = ρ; intro hx; simp [execOp, e, hx, go_sem]) h
theorem step_build2 (x y : Operand) (m : Int) (hx : a.eval x = .int .u64 m) (hy : a.eval y = .int .u64 m) (ho : Is ops i (.buildSlice 35 2 #[(0, x), (1, y)]) d) (h : K (a.put d (.slice (some ⟨w.heap.size, 0, none⟩) 2 2)) (w.alloc (.cells #[.int .u64 m, .int .u64 m] 42))) : wpOp Tryd.prog ops Q i K a w :=
  step_run ho (fun o e => by revert hx hy; generalize a.eval = ρ; intro hx hy; simp [execOp, e, hx, hy, go_sem]) h
theorem step_build3 (x y z : Operand) (m : Int) (hx : a.eval x = .int .u64 m) (hy : a.eval y = .int .u64 m) (hz : a.eval z = .int .u64 m) (ho : Is ops i (.buildSlice 35 3 #[(0, x), (1, y), (2, z)]) d) (h : K (a.put d (.slice (some ⟨w.heap.size, 0, none⟩) 3 3)) (w.alloc (.cells #[.int .u64 m, .int .u64 m, .int .u64 m] 42))) : wpOp Tryd.prog ops Q i K a w :=
  step_run ho (fun o e => by revert hx hy hz; generalize a.eval = ρ; intro hx hy hz; simp [execOp, e, hx, hy, hz, go_sem]) h
theorem step_build4 (x y z u : Operand) (a0 a1 a2 a3 : Option Addr) (n0 n1 n2 n3 c0 c1 c2 c3 : Nat) (hx : a.eval x = .slice a0 n0 c0) (hy : a.eval y = .slice a1 n1 c1) (hz : a.eval z = .slice a2 n2 c2) (hu : a.eval u = .slice a3 n3 c3) (ho : Is ops i (.buildSlice 32 4 #[(0, x), (1, y), (2, z), (3, u)]) d)
    (h : K (a.put d (.slice (some ⟨w.heap.size, 0, none⟩) 4 4)) (w.alloc (.cells #[.slice a0 n0 c0, .slice a1 n1 c1, .slice a2 n2 c2, .slice a3 n3 c3] 35))) : wpOp Tryd.prog ops Q i K a w :=
  step_run ho (fun o e => by revert hx hy hz hu; generalize a.eval = ρ; intro hx hy hz hu; simp [execOp, e, hx, hy, hz, hu, go_sem]) h

theorem step_grow (s x : Operand) (ao : Option Addr) (c : Nat) (olds news : List Value) (ad : Addr) (m cx : Nat) (hs : a.eval s = .slice ao c c) (hx : a.eval x = .slice (some ad) m cx) (hm : 0 < m) (hc : c + m ≤ 2048)
    (hnone : ao = none → c = 0) (hlo : olds.length = c) (holds : ∀ b, ao = some b → ∀ j u, olds[j]? = some u → w.cell? (b.add j) = some u) (hn : news.length = m) (hcn : ∀ j u, news[j]? = some u → w.cell? (ad.add j) = some u) (h1c : ∀ u ∈ news, u.oneCell' = true)
    (ho : Is ops i (.call { callee := .builtin .append, args := #[s, x], argTypes := #[35, 35] }) d)
    (hK : ∀ v' w', w'.ownsRow w.heap.size 42 1 v' (c + m) (olds ++ news) → w.grownBy w' none → K (a.put d v') w') : wpOp Tryd.prog ops Q i K a w := by
  obtain ⟨o, e, h1, h2, h3⟩ := is_some ho
  obtain ⟨i0, hi0, hz0, hz1, hz2⟩ := info_parts info_u64
  refine wpOp_if e (step_append_grows h3 s x 35 h1 42 i0 _ 1 8 Tryd.underlying35 hi0 hz0 hz1 hz2 rfl (by omega) ao c c olds hs (fun h => ⟨hnone h, hnone h⟩) (by omega) holds ad m cx news hx (by omega) hcn h1c (by omega) (by unfold maxLen; omega) (by omega) ?_)
  rw [h2]; exact hK

theorem info_sl : (Tryd.prog.info? 35).map (fun i => (i.zero, i.size, i.bytes)) = some (some (.slice none 0 0), 1, 24) := by kernel_rfl

theorem step_lies (s x : Operand) (base : Nat) (v : Value) (n : Nat) (xs news : List Value) (ad : Addr) (hs : a.eval s = v) (hown : w.ownsRow base 35 1 v n xs) (hx : a.eval x = .slice (some ad) 4 4) (hn : n ≤ 1000)
    (hl : news.length = 4) (hnews : ∀ j u, news[j]? = some u → w.cell? (ad.add j) = some u) (h1 : ∀ u ∈ news, u.oneCell' = true) (hbase : base ≤ w.heap.size)
    (ho : Is ops i (.call { callee := .builtin .append, args := #[s, x], argTypes := #[32, 32] }) d)
    (hK : ∀ g cap w', w'.ownsRow base 35 1 (.slice (some ⟨g, 0, none⟩) (n + 4) cap) (n + 4) (xs ++ news) → w.grownBy w' v.ownBlock → (v.ownBlock = some g ∨ g = w.heap.size) → K (a.put d (.slice (some ⟨g, 0, none⟩) (n + 4) cap)) w') : wpOp Tryd.prog ops Q i K a w := by
  obtain ⟨o, e, e1, e2, e3⟩ := is_some ho
  obtain ⟨i0, hi0, hz0, hz1, hz2⟩ := info_parts info_sl
  refine wpOp_of e e3 (wp_append_lies w s x 32 e1 base 35 i0 _ 1 24 Tryd.underlying32 hi0 hz0 hz1 hz2 rfl (by omega) v n xs hs hown ad 4 4 news hx (by omega) hnews h1 (by omega) (by unfold maxLen; omega) (by omega) hbase _ rfl ?_)
  intro g cap w' h1 h2 h3 h4
  rw [e2]; exact hK g cap w' h1 h2 h3

theorem step_store (x y : Operand) (b : Nat) (old : Value) (a0 : Option Addr) (n c : Nat) (hx : a.eval x = .pointer (some ⟨b, 1, none⟩)) (hy : a.eval y = .slice a0 n c) (hc : w.cell? ⟨b, 1, none⟩ = some old) (hf : w.frozen? ⟨b, 1, none⟩ = false) (ho : Is ops i (.store 32 x y) none) (h : K a (w.setCell ⟨b, 1, none⟩ (.slice a0 n c))) : wpOp Tryd.prog ops Q i K a w := by
  obtain ⟨o, e, e1, e2, e3⟩ := is_some ho
  refine wpOp_of e e3 ?_
  unfold Oper.wp
  have hr : (execOp a.eval o).run Tryd.prog w = .ok .skip (w.setCell ⟨b, 1, none⟩ (.slice a0 n c)) := by
    revert hx hy; generalize a.eval = ρ; intro hx hy
    simp [execOp, e1, hx, hy, hc, hf, go_sem]
  rw [hr]
  show K (a.put o.dst undef) _
  rw [e2]; exact h
end


/-- What has become of it. -/
def KeepPost (base bb lb c ni : Nat) (ao : Option Addr) (IV : Value) (xs : List Value) (w w' : World) (e : Ending) : Prop :=
  e = .returned (.tuple #[]) ∧ ∃ wl w1 v, Arr wl lb c (fun _ => 1000 + (ni : Int)) ∧ Only lb w wl ∧ wl.grownBy w1 IV.ownBlock ∧ Own base 35 wl.heap.size c ni (.slice ao c c) IV (.int .u64 (1000 + (ni : Int))) xs v w1 ∧ w' = w1.setCell ⟨bb, 1, none⟩ v

set_option maxHeartbeats 4000000 in
theorem keepElems_any (bb lb c ni icap base : Nat) (ao ia : Option Addr) (f : Nat → Int) (xs : List Value) (w : World) (hc : c ≤ 1024) (hni : ni ≤ 1000) (hao : 0 < c → ao = some ⟨lb, 0, none⟩)
    (hb0 : w.cell? ⟨bb, 1, none⟩ = some (.slice ia ni icap)) (hbf : w.frozen? ⟨bb, 1, none⟩ = false) (hown : w.ownsRow base 35 1 (.slice ia ni icap) ni xs) (hl : Arr w lb c f) (hne : lb ≠ bb) (hIl : (Value.slice ia ni icap).ownBlock ≠ some lb) (hIb : (Value.slice ia ni icap).ownBlock ≠ some bb) (hnil : ao = none → c = 0) (hbase : base ≤ w.heap.size) :
    Calls Tryd.prog 14 #[.pointer (some ⟨bb, 0, none⟩), .slice ao c c] w fun e w' => KeepPost base bb lb c ni ao (.slice ia ni icap) xs w w' e := by
  have HA : Hid (Arr w lb c f) := hl
  have HAO : Hid (0 < c → ao = some ⟨lb, 0, none⟩) := hao
  have HO : Hid (w.ownsRow base 35 1 (.slice ia ni icap) ni xs) := hown
  clear hl hao hown
  have hne1 : ¬ lb = bb := hne
  have hne2 : ¬ bb = lb := fun e => hne e.symm
  obtain ⟨m, hm⟩ : ∃ m : Int, m = 1000 + (ni : Int) := ⟨_, rfl⟩
  go_enter Tryd.func14, Tryd.ntmps14
  go_wp2
  rw [← hm]
  have HM : Hid (m = 1000 + (ni : Int)) := hm
  clear hm
  go_loopw [5] (fun ti wr => ∃ (k : Nat) (g : Nat → Int), k ≤ c ∧ ti = .int .i64 k ∧ Hid (Arr wr lb c g ∧ (∀ i, i < k → g i = m) ∧ Only lb w wr)) (fun ti _ => c - (intOf ti).toNat)
  case atStart => exact ⟨0, f, Nat.zero_le _, rfl, HA.out, fun i hi => by omega, Only.refl _ _⟩
  case round =>
    obtain ⟨k, g, hk, rfl, HR⟩ := hrel
    by_cases hlt : k < c
    · obtain rfl : ao = some ⟨lb, 0, none⟩ := HAO.out (by omega)
      obtain ⟨hA, hU, hO⟩ := HR.out
      have c1 := (hA k hlt).1
      have f1 := (hA k hlt).2
      have i1 : (k : Int) < (c : Int) := by omega
      clear hA hU hO
      go_wp2
      go_roundw
      case rel =>
        refine ⟨k + 1, upd g k m, by omega, by go_num, ?_⟩
        obtain ⟨hA, hU, hO⟩ := HR.out
        refine ⟨hA.set hlt m, fun i hi => ?_, hO.setCell rfl _⟩
        by_cases e : i = k
        · subst e; rw [upd_same]
        · rw [upd_other e]; exact hU i (by omega)
      case measure => simp [intOf]; omega
    · obtain rfl : k = c := by omega
      have cb := (HR.out.2.2.cell hne2).trans hb0
      go_wp2
      have hfb := (HR.out.2.2.frozen ⟨bb, 1, none⟩).trans hbf
      have hA := HR.out.1.congr HR.out.2.1
      have hOnly := HR.out.2.2
      have hm := HM.out
      obtain ⟨w0, hw0⟩ : ∃ w0 : World, w0 = { wr with drawn := wr.drawn + 1 } := ⟨_, rfl⟩
      have hO0 : w0.ownsRow base 35 1 (.slice ia ni icap) ni xs := by
        rw [hw0]
        refine ⟨HO.out.1, ?_⟩
        rcases HO.out.2 with h0 | ⟨g, cap, cur, hv, hb, hcu, h1, h2, h3, h4⟩
        · exact .inl h0
        · refine .inr ⟨g, cap, cur, hv, hb, ?_, h1, h2, h3, h4⟩
          refine (hOnly.block g ?_).trans hcu
          intro e
          exact hIl (by rw [hv, e]; rfl)
      have hsz : w0.heap.size = wr.heap.size := by rw [hw0]
      have hbase0 : base ≤ w0.heap.size := by rw [hsz, hOnly.size]; exact hbase
      have hrow : ∀ j, (Value.slice ia ni icap).ownBlock = some j → j < w0.heap.size := by
        intro j hj
        rcases hO0.2 with ⟨h0, _⟩ | ⟨g, cap, cur, hv, hb, hcu, _⟩
        · rw [h0] at hj; cases hj
        · rw [hv] at hj
          obtain rfl : g = j := Option.some.inj hj
          rcases Nat.lt_or_ge g w0.heap.size with h | h
          · exact h
          · rw [Array.getElem?_eq_none h] at hcu; cases hcu
      have hbb : ∀ w : World, w0.grownBy w (Value.slice ia ni icap).ownBlock → w.cell? ⟨bb, 1, none⟩ = some (.slice ia ni icap) ∧ w.frozen? ⟨bb, 1, none⟩ = false := by
        intro w2 hg
        have c0 : w0.cell? ⟨bb, 1, none⟩ = some (.slice ia ni icap) := by rw [hw0]; exact cb
        have f0 : w0.frozen? ⟨bb, 1, none⟩ = false := by rw [hw0]; exact hfb
        exact ⟨hg.cell c0 (fun e => hIb e.symm), (hg.frozen_far _ (World.block_lt_of_cell? w0 _ c0) (fun e => hIb e.symm)).trans f0⟩
      have hlc : ∀ w : World, w0.grownBy w (Value.slice ia ni icap).ownBlock → ∀ b, ao = some b → ∀ (j : Nat) u, (List.replicate k (Value.int .u64 m))[j]? = some u → w.cell? (b.add j) = some u := by
        intro w2 hg b hb j u hu
        obtain ⟨hj, rfl⟩ := rep_some hu
        obtain rfl : b = ⟨lb, 0, none⟩ := Option.some.inj (hb.symm.trans (HAO.out (by omega)))
        have c0 : w0.cell? ⟨lb, j, none⟩ = some (.int .u64 m) := by rw [hw0]; exact (hA j hj).1
        rw [add_at]; exact hg.cell c0 (fun e => hIl e.symm)
      clear HA HR cb hfb HO
      refine wp_region_inv (by kernel_rfl) (KK base 35 ni xs w0 bb k (.slice ao k k) (.slice ia ni icap) (.int .u64 m)) ?_ ?_ ?_
      · refine .inl ⟨rep_false _ _, ⟨by simp, rfl, rfl, rfl, rfl, rfl, fun j hj h => ?_, fun h => ?_, fun h => ?_, ?_, ?_⟩, fun h => ?_⟩
        · rw [rep_false] at h; cases h
        · rw [rep_false] at h; cases h
        · rw [rep_false] at h; cases h
        · rw [← hw0]; exact World.grownBy.refl _ _
        · intro _; rw [← hw0]; exact World.grownBy.refl _ _
        · rw [rep_false] at h; cases h
      · intro listed a w i hdown hKK hi
        have hun := (mem_ready.mp hi).1
        have hlt : i < 26 := by obtain ⟨_, o, ho, _⟩ := mem_ready.mp hi; exact (Array.getElem?_eq_some_iff.mp ho).1
        rcases hKK with ⟨h25, hJ, hown⟩ | ⟨hall, _⟩
        case inr => exact absurd (hall i hlt) (fun h => getD_tt h hun)
        rcases (show i = 0 ∨ i = 1 ∨ i = 2 ∨ i = 3 ∨ i = 4 ∨ i = 5 ∨ i = 6 ∨ i = 7 ∨ i = 8 ∨ i = 9 ∨ i = 10 ∨ i = 11 ∨ i = 12 ∨ i = 13 ∨ i = 14 ∨ i = 15 ∨ i = 16 ∨ i = 17 ∨ i = 18 ∨ i = 19 ∨ i = 20 ∨ i = 21 ∨ i = 22 ∨ i = 23 ∨ i = 24 ∨ i = 25 by omega) with rfl | rfl | rfl | rfl | rfl | rfl | rfl | rfl | rfl | rfl | rfl | rfl | rfl | rfl | rfl | rfl | rfl | rfl | rfl | rfl | rfl | rfl | rfl | rfl | rfl | rfl
        · exact step_move (.tmp 0) rfl (KK.same hJ hrow h25 hown 0 (by omega) (by omega) _ hJ.t0 (fun e => by omega))
        · exact step_move (.tmp 0) rfl (KK.same hJ hrow h25 hown 1 (by omega) (by omega) _ hJ.t0 (fun e => by omega))
        · exact step_nil (.tmp 24) ⟨bb, 0, none⟩ (hJ.vals 1 (by omega) (dep 1 hi (by kernel_rfl))) rfl (KK.same hJ hrow h25 hown 2 (by omega) (by omega) _ rfl (fun e => by omega))
        · exact step_field (.tmp 25) bb (hJ.vals 2 (by omega) (dep 2 hi (by kernel_rfl))) rfl (KK.same hJ hrow h25 hown 3 (by omega) (by omega) _ rfl (fun e => by omega))
        · exact step_load (.tmp 26) bb _ (hJ.vals 3 (by omega) (dep 3 hi (by kernel_rfl))) (hbb w hJ.grown).1 rfl (KK.same hJ hrow h25 hown 4 (by omega) (by omega) _ rfl (fun e => by omega))
        · exact step_move (.tmp 1) rfl (KK.same hJ hrow h25 hown 5 (by omega) (by omega) _ hJ.t1 (fun e => by omega))
        · exact step_move (.tmp 1) rfl (KK.same hJ hrow h25 hown 6 (by omega) (by omega) _ hJ.t1 (fun e => by omega))
        · exact step_move (.tmp 4) rfl (KK.same hJ hrow h25 hown 7 (by omega) (by omega) _ hJ.t4 (fun e => by omega))
        · exact step_build1 (.tmp 30) m (hJ.vals 7 (by omega) (dep 7 hi (by kernel_rfl))) rfl (KK.grow hJ hrow h25 8 (by omega) (by omega) hun _ _ (World.grownBy_alloc w _ _) ⟨w.heap.size, 1, rfl, hJ.grown.size, fun j hj => alloc_at w _ _ j _ (marks_at 1 (.int .u64 m) j hj)⟩)
        · obtain ⟨gn, cn, hv, hH, hcn⟩ := (hJ.vals 8 (by omega) (dep 8 hi (by kernel_rfl)))
          refine step_grow (.tmp 29) (.tmp 31) ao k (List.replicate k (.int .u64 m)) (List.replicate 1 (.int .u64 m)) ⟨gn, 0, none⟩ 1 cn (hJ.vals 6 (by omega) (dep 6 hi (by kernel_rfl))) hv (by omega) (by omega) hnil (by simp) (hlc w hJ.grown) (by simp) ?_ ?_ rfl ?_
          · intro j u hu
            obtain ⟨hj, rfl⟩ := rep_some hu
            rw [add_at]; exact hcn j hj
          · intro u hu
            rw [List.eq_of_mem_replicate hu]; rfl
          · intro v' w' ho hg
            exact KK.grow hJ hrow h25 9 (by omega) (by omega) hun v' w' hg (marks_of_own ho (by omega) hJ.grown.size)
        · exact step_move (.tmp 1) rfl (KK.same hJ hrow h25 hown 10 (by omega) (by omega) _ hJ.t1 (fun e => by omega))
        · exact step_move (.tmp 4) rfl (KK.same hJ hrow h25 hown 11 (by omega) (by omega) _ hJ.t4 (fun e => by omega))
        · exact step_move (.tmp 4) rfl (KK.same hJ hrow h25 hown 12 (by omega) (by omega) _ hJ.t4 (fun e => by omega))
        · exact step_build2 (.tmp 34) (.tmp 35) m (hJ.vals 11 (by omega) (dep 11 hi (by kernel_rfl))) (hJ.vals 12 (by omega) (dep 12 hi (by kernel_rfl))) rfl (KK.grow hJ hrow h25 13 (by omega) (by omega) hun _ _ (World.grownBy_alloc w _ _) ⟨w.heap.size, 2, rfl, hJ.grown.size, fun j hj => alloc_at w _ _ j _ (marks_at 2 (.int .u64 m) j hj)⟩)
        · obtain ⟨gn, cn, hv, hH, hcn⟩ := (hJ.vals 13 (by omega) (dep 13 hi (by kernel_rfl)))
          refine step_grow (.tmp 33) (.tmp 36) ao k (List.replicate k (.int .u64 m)) (List.replicate 2 (.int .u64 m)) ⟨gn, 0, none⟩ 2 cn (hJ.vals 10 (by omega) (dep 10 hi (by kernel_rfl))) hv (by omega) (by omega) hnil (by simp) (hlc w hJ.grown) (by simp) ?_ ?_ rfl ?_
          · intro j u hu
            obtain ⟨hj, rfl⟩ := rep_some hu
            rw [add_at]; exact hcn j hj
          · intro u hu
            rw [List.eq_of_mem_replicate hu]; rfl
          · intro v' w' ho hg
            exact KK.grow hJ hrow h25 14 (by omega) (by omega) hun v' w' hg (marks_of_own ho (by omega) hJ.grown.size)
        · exact step_move (.tmp 1) rfl (KK.same hJ hrow h25 hown 15 (by omega) (by omega) _ hJ.t1 (fun e => by omega))
        · exact step_move (.tmp 4) rfl (KK.same hJ hrow h25 hown 16 (by omega) (by omega) _ hJ.t4 (fun e => by omega))
        · exact step_move (.tmp 4) rfl (KK.same hJ hrow h25 hown 17 (by omega) (by omega) _ hJ.t4 (fun e => by omega))
        · exact step_move (.tmp 4) rfl (KK.same hJ hrow h25 hown 18 (by omega) (by omega) _ hJ.t4 (fun e => by omega))
        · exact step_build3 (.tmp 39) (.tmp 40) (.tmp 41) m (hJ.vals 16 (by omega) (dep 16 hi (by kernel_rfl))) (hJ.vals 17 (by omega) (dep 17 hi (by kernel_rfl))) (hJ.vals 18 (by omega) (dep 18 hi (by kernel_rfl))) rfl (KK.grow hJ hrow h25 19 (by omega) (by omega) hun _ _ (World.grownBy_alloc w _ _) ⟨w.heap.size, 3, rfl, hJ.grown.size, fun j hj => alloc_at w _ _ j _ (marks_at 3 (.int .u64 m) j hj)⟩)
        · obtain ⟨gn, cn, hv, hH, hcn⟩ := (hJ.vals 19 (by omega) (dep 19 hi (by kernel_rfl)))
          refine step_grow (.tmp 38) (.tmp 42) ao k (List.replicate k (.int .u64 m)) (List.replicate 3 (.int .u64 m)) ⟨gn, 0, none⟩ 3 cn (hJ.vals 15 (by omega) (dep 15 hi (by kernel_rfl))) hv (by omega) (by omega) hnil (by simp) (hlc w hJ.grown) (by simp) ?_ ?_ rfl ?_
          · intro j u hu
            obtain ⟨hj, rfl⟩ := rep_some hu
            rw [add_at]; exact hcn j hj
          · intro u hu
            rw [List.eq_of_mem_replicate hu]; rfl
          · intro v' w' ho hg
            exact KK.grow hJ hrow h25 20 (by omega) (by omega) hun v' w' hg (marks_of_own ho (by omega) hJ.grown.size)
        · have r1 := (hJ.vals 9 (by omega) (dep 9 hi (by kernel_rfl)))
          have r2 := (hJ.vals 14 (by omega) (dep 14 hi (by kernel_rfl)))
          have r3 := (hJ.vals 20 (by omega) (dep 20 hi (by kernel_rfl)))
          obtain ⟨g1, c1, hv1, hH1, hc1⟩ := (show Marks w0.heap.size (.int .u64 m) (k + 1) (a.tmps.getD 32 undef) w from r1)
          obtain ⟨g2, c2, hv2, hH2, hc2⟩ := (show Marks w0.heap.size (.int .u64 m) (k + 2) (a.tmps.getD 37 undef) w from r2)
          obtain ⟨g3, c3, hv3, hH3, hc3⟩ := (show Marks w0.heap.size (.int .u64 m) (k + 3) (a.tmps.getD 43 undef) w from r3)
          refine step_build4 (.tmp 28) (.tmp 32) (.tmp 37) (.tmp 43) _ _ _ _ _ _ _ _ _ _ _ _ (hJ.vals 5 (by omega) (dep 5 hi (by kernel_rfl))) hv1 hv2 hv3 rfl (KK.grow hJ hrow h25 21 (by omega) (by omega) hun _ _ (World.grownBy_alloc w _ _) ⟨w.heap.size, .slice (some ⟨g1, 0, none⟩) (k + 1) c1, .slice (some ⟨g2, 0, none⟩) (k + 2) c2, .slice (some ⟨g3, 0, none⟩) (k + 3) c3, rfl, hJ.grown.size, ?_, ?_⟩)
          · have F : Fours w0.heap.size k (.slice ao k k) (.int .u64 m) (.slice (some ⟨g1, 0, none⟩) (k + 1) c1) (.slice (some ⟨g2, 0, none⟩) (k + 2) c2) (.slice (some ⟨g3, 0, none⟩) (k + 3) c3) w := ⟨⟨g1, c1, rfl, hH1, hc1⟩, ⟨g2, c2, rfl, hH2, hc2⟩, ⟨g3, c3, rfl, hH3, hc3⟩⟩
            exact F.mono (World.grownBy_alloc w _ none) (fun _ h => by cases h)
          · intro j u hu
            exact alloc_at w _ _ j u (by simpa using hu)
        · obtain ⟨gn, v1, v2, v3, hv, hH, hF, hcn⟩ := (hJ.vals 21 (by omega) (dep 21 hi (by kernel_rfl)))
          have hall : ∀ j, 1 ≤ j → j < 22 → listed.getD j false = true := ready_reach hdown hi 12 22 1 (by kernel_rfl)
          have h22 : listed.getD 22 false = false := by
            cases e : listed.getD 22 false with
            | false => rfl
            | true => exact (getD_tt e hun).elim
          refine step_lies (.tmp 27) (.tmp 44) base (.slice ia ni icap) ni xs [.slice ao k k, v1, v2, v3] ⟨gn, 0, none⟩ (hJ.vals 4 (by omega) (dep 4 hi (by kernel_rfl))) (own_mono hO0 (hJ.pure h22)) hv hni rfl ?_ ?_ (Nat.le_trans hbase0 hJ.grown.size) rfl ?_
          · intro j u hu
            rw [add_at]; exact hcn j u hu
          · intro u hu
            obtain ⟨g1, c1, e1, _⟩ := hF.r1
            obtain ⟨g2, c2, e2, _⟩ := hF.r2
            obtain ⟨g3, c3, e3, _⟩ := hF.r3
            subst e1 e2 e3
            simp at hu
            rcases hu with rfl | rfl | rfl | rfl <;> rfl
          · intro g cap w' ho hg hat
            obtain ⟨g1, c1, e1, b1, l1⟩ := hF.r1.lt (by omega)
            obtain ⟨g2, c2, e2, b2, l2⟩ := hF.r2.lt (by omega)
            obtain ⟨g3, c3, e3, b3, l3⟩ := hF.r3.lt (by omega)
            have hsep : ∀ x, w0.heap.size ≤ x → x < w.heap.size → x ≠ g := by
              intro x h1 h2 e
              subst e
              rcases hat with h | h
              · have := hrow _ h; omega
              · omega
            refine KK.own hJ hrow h25 hall _ w' hg ⟨g, cap, v1, v2, v3, rfl, ho, hF.mono hg hrow, hat.imp id (fun h => by have := hJ.grown.size; omega), ?_, ?_, ?_⟩
            · rw [e1]; intro h; exact hsep g1 b1 l1 (Option.some.inj h)
            · rw [e2]; intro h; exact hsep g2 b2 l2 (Option.some.inj h)
            · rw [e3]; intro h; exact hsep g3 b3 l3 (Option.some.inj h)
        · exact step_nil (.tmp 23) ⟨bb, 0, none⟩ (hJ.vals 0 (by omega) (dep 0 hi (by kernel_rfl))) rfl (KK.same hJ hrow h25 hown 23 (by omega) (by omega) _ rfl (fun e => by omega))
        · exact step_field (.tmp 46) bb (hJ.vals 23 (by omega) (dep 23 hi (by kernel_rfl))) rfl (KK.same hJ hrow h25 hown 24 (by omega) (by omega) _ rfl (fun e => dep 23 hi (by kernel_rfl)))
        · have h22 := dep 22 hi (by kernel_rfl)
          have h24 := dep 24 hi (by kernel_rfl)
          have hO := hown h22
          obtain ⟨g, cap, v1, v2, v3, hv, hrest⟩ := hO
          refine step_store (.tmp 47) (.tmp 45) bb _ _ _ _ (hJ.vals 24 (by omega) h24) hv (hbb w hJ.grown).1 (hbb w hJ.grown).2 rfl ?_
          exact KK.stored hJ ⟨g, cap, v1, v2, v3, rfl, hv ▸ hrest⟩ (fun j hj => ready_reach hdown hi 2 25 0 (by kernel_rfl) j (Nat.zero_le _) hj)
      · intro listed a w2 hKK hr
        rcases hKK with ⟨h25, hJ, _⟩ | ⟨_, hd, w1, v, hg, hO, hw2⟩
        · exfalso
          have := all_listed hJ.lsize hr (low_of (by kernel_rfl)) 25 (by decide)
          rw [this] at h25; cases h25
        · refine bodyPost_end (results_none rfl _ _ _) hd ?_
          subst hm
          exact ⟨rfl, wr, w1, v, hA, hOnly, ⟨by rw [hg.os, hw0], by rw [hg.tape, hw0], by rw [hg.output, hw0], by rw [← hsz]; exact hg.size, fun q hq hne => by rw [hg.block q (by omega) hne, hw0]⟩, by rw [← hsz]; exact hO, hw2⟩

end Go.Proofs.YtddpcjgekfmhkaaDoor.ke
