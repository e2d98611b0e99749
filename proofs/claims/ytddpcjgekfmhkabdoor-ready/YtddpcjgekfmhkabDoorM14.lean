/- Texts joined: Kj Fn Fo Na. -/
import Derived.Test.YtddpcjgekfmhkabDoorM12
import Derived.Deep.RegionLawGrows
import Derived.Deep.AppendLies
import Derived.Maps.RangeWalk
import Derived.Test.YtddpcjgekfmhkabDoorM06
import Derived.Test.YtddpcjgekfmhkabDoorM03

/- The invariant of book.keep's last statement: what the slots hold, whatever has come up. -/
namespace Go.Proofs.YtddpcjgekfmhkabDoor
open Go
set_option linter.unusedVariables false

theorem wpOp_of {P : Program} {ops : Array Oper} {Q : Exit → Act → World → Prop} {i : Nat} {o : Oper} {K : Act → World → Prop} {a : Act} {w : World} (ho : ops[i]? = some o) (hg : o.guard = none) (h : o.wp P a w K Q) : wpOp P ops Q i K a w := by
  unfold wpOp
  rw [ho]
  simp only [Region.wanted, hg, if_true]
  exact .inl h

theorem dep {md : Region.Mode} {ops : Array Oper} {listed : Array Bool} {i : Nat} (d : Nat) (hi : i ∈ Region.ready md ops listed) (hd : ((ops[i]?).map fun o => o.after.any fun e => e.on == d && Region.binds md e) = some true) : listed.getD d false = true := by
  obtain ⟨_, o, ho, h⟩ := mem_ready.mp hi
  rw [ho] at hd
  simp only [Option.map_some, Option.some.injEq, Array.any_eq_true', Bool.and_eq_true, beq_iff_eq] at hd
  obtain ⟨e, he, rfl, hb⟩ := hd
  exact h e he hb

/-- Where every edge goes to a lesser number, all have come up when nothing is ready. -/
theorem all_listed {md : Region.Mode} {ops : Array Oper} {listed : Array Bool} (hn : listed.size = ops.size) (hr : Region.ready md ops listed = [])
    (hlow : ∀ i o, ops[i]? = some o → ∀ e ∈ o.after, Region.binds md e = true → e.on < i) : ∀ i, i < ops.size → listed.getD i false = true := by
  intro i
  induction i using Nat.strongRecOn with
  | ind i ih =>
    intro hi
    cases hb : listed.getD i false with
    | true => rfl
    | false =>
      exfalso
      have h1 : listed.getD i true = false := by
        rw [Array.getD_eq_getD_getElem?, Array.getElem?_eq_getElem (by omega)] at hb ⊢
        simpa using hb
      have : i ∈ Region.ready md ops listed := mem_ready.mpr ⟨h1, ops[i], Array.getElem?_eq_getElem hi, fun e he hb => ih e.on (hlow i _ (Array.getElem?_eq_getElem hi) e he hb) (by have := hlow i _ (Array.getElem?_eq_getElem hi) e he hb; omega)⟩
      rw [hr] at this
      exact absurd this (List.not_mem_nil)

/-- A row of n marks, made since. -/
def Marks (H : Nat) (M : Value) (n : Nat) (v : Value) (w : World) : Prop := ∃ g cap, v = .slice (some ⟨g, 0, none⟩) n cap ∧ H ≤ g ∧ ∀ j, j < n → w.cell? ⟨g, j, none⟩ = some M

structure Fours (H c : Nat) (L M v1 v2 v3 : Value) (w : World) : Prop where
  r1 : Marks H M (c + 1) v1 w
  r2 : Marks H M (c + 2) v2 w
  r3 : Marks H M (c + 3) v3 w

def Good (H bb c : Nat) (L IV M : Value) : Nat → Value → World → Prop
  | 0, v, _ | 1, v, _ | 2, v, _ | 3, v, _ | 23, v, _ | 24, v, _ => v = .pointer (some ⟨bb, 0, none⟩)
  | 4, v, _ => v = IV
  | 5, v, _ | 6, v, _ | 10, v, _ | 15, v, _ => v = L
  | 7, v, _ | 11, v, _ | 12, v, _ | 16, v, _ | 17, v, _ | 18, v, _ => v = M
  | 8, v, w => Marks H M 1 v w
  | 13, v, w => Marks H M 2 v w
  | 19, v, w => Marks H M 3 v w
  | 9, v, w => Marks H M (c + 1) v w
  | 14, v, w => Marks H M (c + 2) v w
  | 20, v, w => Marks H M (c + 3) v w
  | 21, v, w => ∃ g v1 v2 v3, v = .slice (some ⟨g, 0, none⟩) 4 4 ∧ H ≤ g ∧ Fours H c L M v1 v2 v3 w ∧ ∀ j u, [L, v1, v2, v3][j]? = some u → w.cell? ⟨g, j, none⟩ = some u
  | _, _, _ => True

theorem Marks.mono {H n : Nat} {M v : Value} {w w' : World} {row : Option Nat} (h : Marks H M n v w) (hg : w.grownBy w' row) (hrow : ∀ k, row = some k → k < H) : Marks H M n v w' := by
  obtain ⟨g, cap, rfl, hH, hc⟩ := h
  exact ⟨g, cap, rfl, hH, fun j hj => hg.cell (hc j hj) (fun e => by have := hrow g e.symm; omega)⟩
theorem Fours.mono {H c : Nat} {L M v1 v2 v3 : Value} {w w' : World} {row : Option Nat} (h : Fours H c L M v1 v2 v3 w) (hg : w.grownBy w' row) (hrow : ∀ k, row = some k → k < H) : Fours H c L M v1 v2 v3 w' :=
  ⟨h.r1.mono hg hrow, h.r2.mono hg hrow, h.r3.mono hg hrow⟩
theorem Good.mono {H bb c : Nat} {L IV M : Value} {k : Nat} {v : Value} {w w' : World} {row : Option Nat} (h : Good H bb c L IV M k v w) (hg : w.grownBy w' row) (hrow : ∀ k, row = some k → k < H) : Good H bb c L IV M k v w' := by
  unfold Good at h ⊢
  split <;> simp_all only
  all_goals first
    | exact Marks.mono h hg hrow
    | (obtain ⟨g, v1, v2, v3, rfl, hH, hF, hc⟩ := h
       exact ⟨g, v1, v2, v3, rfl, hH, hF.mono hg hrow, fun j u hu => hg.cell (hc j u hu) (fun e => by have := hrow g e.symm; omega)⟩)

/-- What is so while the region goes on, up to the append onto the book. -/
structure KJ (w0 : World) (bb c : Nat) (L IV M : Value) (listed : Array Bool) (a : Act) (w : World) : Prop where
  lsize : listed.size = 26
  defers : a.defers = []
  tsize : a.tmps.size = 47
  t0 : a.tmps.getD 0 undef = .pointer (some ⟨bb, 0, none⟩)
  t1 : a.tmps.getD 1 undef = L
  t4 : a.tmps.getD 4 undef = M
  vals : ∀ k, k < 26 → listed.getD k false = true → Good w0.heap.size bb c L IV M k (a.tmps.getD (22 + k) undef) w
  closed : listed.getD 22 false = true → ∀ k, 1 ≤ k → k < 22 → listed.getD k false = true
  c24 : listed.getD 24 false = true → listed.getD 23 false = true
  grown : w0.grownBy w IV.ownBlock
  pure : listed.getD 22 false = false → w0.grownBy w none

theorem KJ.put {w0 : World} {bb c : Nat} {L IV M : Value} {listed : Array Bool} {a : Act} {w : World} (h : KJ w0 bb c L IV M listed a w) (hrow : ∀ k, IV.ownBlock = some k → k < w0.heap.size) (k : Nat) (hk : k < 25) (v : Value) (w' : World)
    (hg : w.grownBy w' IV.ownBlock) (hgn : k ≠ 22 → w.grownBy w' none) (hgood : Good w0.heap.size bb c L IV M k v w') (h22 : k = 22 → ∀ j, 1 ≤ j → j < 22 → listed.getD j false = true) (h24 : k = 24 → listed.getD 23 false = true) : KJ w0 bb c L IV M (listed.setIfInBounds k true) (a.put (some (22 + k)) v) w' := by
  have hs := h.tsize
  have hl := h.lsize
  have far : ∀ j, j < 22 → (a.put (some (22 + k)) v).tmps.getD j undef = a.tmps.getD j undef := by
    intro j hj
    simp only [Act.put, Array.getD_eq_getD_getElem?]
    rw [Array.getElem?_setIfInBounds_ne (by omega)]
  refine ⟨by simp [hl], h.defers, by simp [Act.put, hs], (far 0 (by omega)).trans h.t0, (far 1 (by omega)).trans h.t1, (far 4 (by omega)).trans h.t4, ?_, ?_, ?_, h.grown.trans hg, ?_⟩
  · intro j hj hlj
    by_cases e : k = j
    · subst e
      have : (a.put (some (22 + k)) v).tmps.getD (22 + k) undef = v := by
        simp only [Act.put, Array.getD_eq_getD_getElem?]
        rw [Array.getElem?_setIfInBounds_self_of_lt (by omega)]; rfl
      rw [this]; exact hgood
    · rw [getD_set_ne false e] at hlj
      have : (a.put (some (22 + k)) v).tmps.getD (22 + j) undef = a.tmps.getD (22 + j) undef := by
        simp only [Act.put, Array.getD_eq_getD_getElem?]
        rw [Array.getElem?_setIfInBounds_ne (by omega)]
      rw [this]
      exact (h.vals j hj hlj).mono hg hrow
  · intro h1 j hj1 hj
    by_cases e : k = 22
    · exact getD_set_true (h22 e j hj1 hj)
    · rw [getD_set_ne false (by omega)] at h1
      exact getD_set_true (h.closed h1 j hj1 hj)
  · intro h1
    by_cases e : k = 24
    · exact getD_set_true (h24 e)
    · rw [getD_set_ne false (by omega)] at h1
      exact getD_set_true (h.c24 h1)
  · intro h1
    by_cases e : k = 22
    · subst e
      rw [Array.getD_eq_getD_getElem?, Array.getElem?_setIfInBounds_self_of_lt (by omega)] at h1
      cases h1
    · rw [getD_set_ne false e] at h1
      exact (h.pure h1).trans (hgn e)

/-- The book's longer list. -/
def Own (base : Nat) (T : TypeId) (H c ni : Nat) (L IV M : Value) (xs : List Value) (v : Value) (w : World) : Prop :=
  ∃ g cap v1 v2 v3, v = .slice (some ⟨g, 0, none⟩) (ni + 4) cap ∧ w.ownsRow base T 1 v (ni + 4) (xs ++ [L, v1, v2, v3]) ∧ Fours H c L M v1 v2 v3 w ∧ (IV.ownBlock = some g ∨ H ≤ g) ∧ v1.ownBlock ≠ some g ∧ v2.ownBlock ≠ some g ∧ v3.ownBlock ≠ some g

def KK (base : Nat) (T : TypeId) (ni : Nat) (xs : List Value) (w0 : World) (bb c : Nat) (L IV M : Value) (listed : Array Bool) (a : Act) (w : World) : Prop :=
  (listed.getD 25 false = false ∧ KJ w0 bb c L IV M listed a w ∧ (listed.getD 22 false = true → Own base T w0.heap.size c ni L IV M xs (a.tmps.getD 44 undef) w)) ∨
  ((∀ k, k < 26 → listed.getD k false = true) ∧ a.defers = [] ∧ ∃ w1 v, w0.grownBy w1 IV.ownBlock ∧ Own base T w0.heap.size c ni L IV M xs v w1 ∧ w = w1.setCell ⟨bb, 0, none⟩ v)

section
variable {base : Nat} {T : TypeId} {ni : Nat} {xs : List Value} {w0 : World} {bb c : Nat} {L IV M : Value} {listed : Array Bool} {a : Act} {w : World}

theorem KK.same (h : KJ w0 bb c L IV M listed a w) (hrow : ∀ k, IV.ownBlock = some k → k < w0.heap.size) (h25 : listed.getD 25 false = false) (hown : listed.getD 22 false = true → Own base T w0.heap.size c ni L IV M xs (a.tmps.getD 44 undef) w)
    (i : Nat) (hi : i < 25) (hne : i ≠ 22) (v : Value) (hgood : Good w0.heap.size bb c L IV M i v w) (h24 : i = 24 → listed.getD 23 false = true) : KK base T ni xs w0 bb c L IV M (listed.setIfInBounds i true) (a.put (some (22 + i)) v) w := by
  refine .inl ⟨by rw [getD_set_ne false (by omega)]; exact h25, h.put hrow i hi v w (World.grownBy.refl w _) (fun _ => World.grownBy.refl w _) hgood (fun e => absurd e hne) h24, fun h2 => ?_⟩
  rw [getD_set_ne false hne] at h2
  have : (a.put (some (22 + i)) v).tmps.getD 44 undef = a.tmps.getD 44 undef := by
    simp only [Act.put, Array.getD_eq_getD_getElem?]
    rw [Array.getElem?_setIfInBounds_ne (by omega)]
  rw [this]; exact hown h2

theorem KK.grow (h : KJ w0 bb c L IV M listed a w) (hrow : ∀ k, IV.ownBlock = some k → k < w0.heap.size) (h25 : listed.getD 25 false = false)
    (i : Nat) (hi1 : 1 ≤ i) (hi : i < 22) (hun : listed.getD i true = false) (v : Value) (w' : World) (hg : w.grownBy w' none) (hgood : Good w0.heap.size bb c L IV M i v w') : KK base T ni xs w0 bb c L IV M (listed.setIfInBounds i true) (a.put (some (22 + i)) v) w' := by
  refine .inl ⟨by rw [getD_set_ne false (by omega)]; exact h25, h.put hrow i (by omega) v w' (hg.but _) (fun _ => hg) hgood (fun e => by omega) (fun e => by omega), fun h2 => ?_⟩
  rw [getD_set_ne false (by omega)] at h2
  have := h.closed h2 i hi1 hi
  have hl := h.lsize
  rw [Array.getD_eq_getD_getElem?, Array.getElem?_eq_getElem (by omega)] at this hun
  simp at this hun
  rw [this] at hun; cases hun

theorem KK.own (h : KJ w0 bb c L IV M listed a w) (hrow : ∀ k, IV.ownBlock = some k → k < w0.heap.size) (h25 : listed.getD 25 false = false) (hall : ∀ j, 1 ≤ j → j < 22 → listed.getD j false = true)
    (v : Value) (w' : World) (hg : w.grownBy w' IV.ownBlock) (ho : Own base T w0.heap.size c ni L IV M xs v w') : KK base T ni xs w0 bb c L IV M (listed.setIfInBounds 22 true) (a.put (some 44) v) w' := by
  refine .inl ⟨by rw [getD_set_ne false (by omega)]; exact h25, h.put hrow 22 (by omega) v w' hg (fun e => absurd rfl e) trivial (fun _ => hall) (fun e => by omega), fun h2 => ?_⟩
  have : (a.put (some 44) v).tmps.getD 44 undef = v := by
    have hs := h.tsize
    simp only [Act.put, Array.getD_eq_getD_getElem?]
    rw [Array.getElem?_setIfInBounds_self_of_lt (by omega)]; rfl
  rw [this]; exact ho

theorem KK.stored {v : Value} (h : KJ w0 bb c L IV M listed a w) (hown : Own base T w0.heap.size c ni L IV M xs v w) (hall : ∀ j, j < 25 → listed.getD j false = true) : KK base T ni xs w0 bb c L IV M (listed.setIfInBounds 25 true) a (w.setCell ⟨bb, 0, none⟩ v) := by
  refine .inr ⟨fun k hk => ?_, h.defers, w, v, h.grown, hown, rfl⟩
  have hl := h.lsize
  by_cases e : k = 25
  · subst e
    rw [Array.getD_eq_getD_getElem?, Array.getElem?_setIfInBounds_self_of_lt (by omega)]; rfl
  · exact getD_set_true (hall k (by omega))
end

theorem wpOp_if {P : Program} {ops : Array Oper} {Q : Exit → Act → World → Prop} {i : Nat} {o : Oper} {K : Act → World → Prop} {a : Act} {w : World} (ho : ops[i]? = some o) (h : if Region.wanted o (yielded ops a.tmps) = true then o.wp P a w K Q else K (a.put o.dst undef) w) : wpOp P ops Q i K a w := by
  unfold wpOp
  rw [ho]
  simp only
  split
  · rename_i hw; rw [if_pos hw] at h; exact .inl h
  · rename_i hw; rw [if_neg hw] at h; exact h

end Go.Proofs.YtddpcjgekfmhkabDoor

/- The document's filter: Pull. -/
namespace Go.Proofs.YtddpcjgekfmhkabDoor
open Go.RowKit
set_option linter.unusedSimpArgs false
set_option linter.unusedVariables false

theorem outs_succ (s : FlS) (i : Nat) : s.outs (i + 1) = s.outs i ++ [s.y (s.pulled + i)] := by
  unfold FlS.outs
  rw [List.range_succ, List.map_append]; rfl
theorem outs_len (s : FlS) (i : Nat) : (s.outs i).length = i := by simp [FlS.outs]

/-- The state of a round: i were taken. -/
structure PullI (w : World) (base fb : Nat) (vx vp : Value) (tv : List Value) (s : FlS) (i : Nat) (vo : Value) (wr : World) : Prop where
  ref : RefAt wr base fb vx vp tv (s.took i)
  out : Lst wr w.heap.size 3 1 vo (ints (s.outs i))
  bt : Bt (fun k => k = fb) w wr
theorem PullI.drewN {w : World} {base fb : Nat} {vx vp : Value} {tv : List Value} {s : FlS} {i : Nat} {vo : Value} {wr : World} (h : PullI w base fb vx vp tv s i vo wr) (m : Nat) : PullI w base fb vx vp tv s i vo (wr.drewN m) :=
  ⟨h.ref.bt ((Bt.refl (fun _ => False) wr).drewN m) (fun _ _ x => x), h.out.bt ((Bt.refl (fun _ => False) wr).drewN m) (fun _ _ x => x), h.bt.drewN m⟩
theorem PullI.next {w : World} {base fb : Nat} {vx vp : Value} {tv : List Value} {s : FlS} {i : Nat} {vo v8 : Value} {wr w8 w9 : World} (h : PullI w base fb vx vp tv s i vo wr) (hlo : ∀ k, rfoot fb vx vp tv k → k < w.heap.size) (b8 : Bt (fun _ => False) wr w8)
    (h9 : Lst w9 w.heap.size 3 1 v8 (ints (s.outs i ++ [s.y (s.pulled + i)]))) (b9 : Bt (fun k => vo.ownBlock = some k) w8 w9) (p : Int) (hp : p = (s.pulled + i + 1 : Nat)) : PullI w base fb vx vp tv s (i + 1) v8 (w9.setCell ⟨fb, 5, none⟩ (.int .i64 p)) := by
  have hvo : ∀ k, rfoot fb vx vp tv k → ¬ vo.ownBlock = some k := fun k hk e => by have := hlo k hk; have := (h.out.ge e).1; omega
  have bc : Bt (fun k => k = fb) w9 (w9.setCell ⟨fb, 5, none⟩ (.int .i64 p)) := (Bt.refl (fun k => k = fb) w9).setCell (p := ⟨fb, 5, none⟩) (fun _ => rfl) _
  have r9 := (h.ref.bt b8 (fun _ _ x => x)).bt b9 hvo
  subst hp
  refine ⟨⟨r9.blk.set5 (s.pulled + i + 1), r9.x.bt bc (fun g hg e => r9.n1.1 (e ▸ hg)), r9.p.bt bc (fun g hg e => r9.n1.2 (e ▸ hg)), r9.len, fun j q v hq hv => (r9.taps j q v hq hv).bt bc (fun g hg e => (r9.n3 v (List.mem_of_getElem? hv) g hg).1 e), r9.ge, r9.n1, r9.n2, r9.n3⟩, ?_, ?_⟩
  · rw [outs_succ]
    exact h9.bt bc (fun g hg e => by have := (h9.ge hg).1; have := hlo fb (.inl rfl); omega)
  · exact ((h.bt.trans b8 (fun _ _ x => x.elim)).trans b9 (fun k hk e => by have := (h.out.ge e).1; omega)).trans bc (fun _ _ x => x)

/-- What Pull gives. -/
def PullQ (base fb : Nat) (s : FlS) (n : Int) (w : World) (F : Nat → Prop) (e : Ending) (w' : World) : Prop :=
  ∃ vo, e = .returned vo ∧ Lst w' w.heap.size 3 1 vo (ints (s.outs (s.can n))) ∧ RF base fb (s.took (s.can n)) w' F ∧ Stp w F w' F
theorem PullI.done {w : World} {base fb : Nat} {vx vp : Value} {tv : List Value} {s : FlS} {n : Int} {i : Nat} {vo : Value} {wr : World} {F : Nat → Prop} (h : PullI w base fb vx vp tv s i vo wr) (hF : ∀ k, F k ↔ rfoot fb vx vp tv k) (hi : i = s.can n) : PullQ base fb s n w F (.returned vo) wr := by
  subst hi
  exact ⟨vo, rfl, h.out, ⟨vx, vp, tv, h.ref, hF⟩, ⟨h.bt.mono (fun k _ e => (hF k).2 (.inl e)), fun _ q => .inl q⟩⟩

set_option maxHeartbeats 2000000 in
set_option maxRecDepth 20000 in
theorem pull_ref {w : World} {base fb : Nat} {s : FlS} {F : Nat → Prop} (h : RF base fb s w F) (n : Int) (hn0 : -9223372036854775808 ≤ n) (hn1 : n ≤ 9223372036854775807)
    (hx : s.X.length ≤ 549755813888) (hpw : s.pulled ≤ s.whole) (hB0 : 0 < s.B) (hB : s.B ≤ 256) (h1 : s.parts.length ≤ 1099511627776) (h0 : ∃ l ps, s.parts = (0, l) :: ps) (hf : ∀ p ∈ s.parts, p.1 ≤ 2199023255552) (ht : ∀ p ∈ s.parts, okTaps p.2) (hsm : ∀ v ∈ s.X, okSample v) :
    Calls Tryd.prog 64 #[.pointer (some ⟨fb, 0, none⟩), .int .i64 n] w fun e w' => PullQ base fb s n w F e w' := by
  obtain ⟨vx, vp, tv, h, hF⟩ := h
  have hwx : s.whole ≤ s.X.length := Nat.div_mul_le_self _ _
  have HD : Hid (∀ i vo wr, PullI w base fb vx vp tv s i vo wr → i = s.can n → PullQ base fb s n w F (.returned vo) wr) := fun i vo wr q hi => q.done hF hi
  have HN : Hid (∀ (i : Nat) (vo v8 : Value) (wr w8 w9 : World), PullI w base fb vx vp tv s i vo wr → Bt (fun _ => False) wr w8 → Lst w9 w.heap.size 3 1 v8 (ints (s.outs i ++ [s.y (s.pulled + i)])) → Bt (fun k => vo.ownBlock = some k) w8 w9 → ∀ p : Int, p = (s.pulled + i + 1 : Nat) → PullI w base fb vx vp tv s (i + 1) v8 (w9.setCell ⟨fb, 5, none⟩ (.int .i64 p))) :=
    fun i vo v8 wr w8 w9 q b8 h9 b9 p hp => q.next (fun k hk => (h.lt hk).2) b8 h9 b9 p hp
  have CW : ∀ (i : Nat) (vo : Value) (wr w' : World), PullI w base fb vx vp tv s i vo wr → Bt (fun _ => False) wr w' → Calls Tryd.prog 88 #[.pointer (some ⟨fb, 0, none⟩)] w' fun e w'' => e = .returned (.int .i64 (s.whole : Nat)) ∧ ∃ m : Nat, w'' = w'.drewN m :=
    fun i vo wr w' q b => whole_ref (s := s.took i) (q.ref.bt b (fun _ _ x => x)) (by show s.X.length ≤ _; omega) hB0 hB
  have CY : ∀ (i : Nat) (vo : Value) (wr w' : World), PullI w base fb vx vp tv s i vo wr → Bt (fun _ => False) wr w' → s.pulled + i < s.X.length → ∀ k : Int, k = (s.pulled + i : Nat) → Calls Tryd.prog 90 #[.pointer (some ⟨fb, 0, none⟩), .int .i64 k] w' fun e w'' => e = .returned (.int .i64 (s.y (s.pulled + i))) ∧ ∃ m : Nat, w'' = w'.drewN m := by
    intro i vo wr w' q b hlt k hk
    subst hk
    exact y_ref (s := s.took i) (q.ref.bt b (fun _ _ x => x)) (by show s.X.length ≤ _; omega) h1 h0 hf ht hsm (s.pulled + i) hlt
  have HST : Hid (PullI w base fb vx vp tv s 0 (.slice none 0 0) w) := ⟨h, Lst.nil _ _ _ _, Bt.refl _ _⟩
  have HAP : Hid (∀ (i : Nat) (vo : Value) (wr : World) (m : Nat) (y : Int), PullI w base fb vx vp tv s i vo wr → s.pulled + i < s.X.length →
      ∃ v9 w9, (Builtin.append_ #[24, 24] 24 #[vo, .slice (some ⟨wr.heap.size, 0, none⟩) 1 1]).run Tryd.prog ((wr.drewN m).alloc (.cells #[.int .i64 y] 3)) = .ok v9 w9 ∧ Lst w9 w.heap.size 3 1 v9 (ints (s.outs i ++ [y])) ∧ Bt (fun k => vo.ownBlock = some k) ((wr.drewN m).alloc (.cells #[.int .i64 y] 3)) w9) := by
    intro i vo wr m y q hlt
    have b : Bt (fun _ => False) wr ((wr.drewN m).alloc (.cells #[.int .i64 y] 3)) := ((Bt.refl _ _).drewN m).alloc _
    obtain ⟨v9, w9, hr, h9, b9, _⟩ := append_nums (w := (wr.drewN m).alloc (.cells #[.int .i64 y] 3)) 24 w.heap.size vo (s.outs i) (q.out.bt b (fun _ _ x => x)) (some ⟨wr.heap.size, 0, none⟩) 1 1 [y] rfl (Src.of_int (fun j x hj => by
      have hj0 : j = 0 := by
        rcases Nat.eq_zero_or_pos j with e | e
        · exact e
        · rw [List.getElem?_eq_none (by simp; omega)] at hj; cases hj
      subst hj0
      simp at hj
      subst hj
      exact (World.cell?_alloc_at (w := wr.drewN m) _ _ _ _ rfl))) (by rw [outs_len]; omega) (Nat.le_trans q.bt.size b.size)
    exact ⟨v9, w9, hr, h9, b9⟩
  have HC : Hid (s.can n = min n.toNat (s.whole - s.pulled)) := rfl
  have HRF : Hid (∀ (i : Nat) (vo : Value) (wr : World), PullI w base fb vx vp tv s i vo wr → wr.cell? ⟨fb, 5, none⟩ = some (.int .i64 ((s.pulled + i : Nat) : Int)) ∧ RFB wr fb s.B s.R s.W vx vp (s.pulled + i) ∧ fb < w.heap.size) := fun i vo wr q => ⟨q.ref.blk.c5, q.ref.blk, h.blk.lt⟩
  generalize s.whole = wl at *
  generalize s.pulled = p0 at *
  clear h hF
  go_enter Tryd.func64, Tryd.ntmps64
  go_wp2
  go_loopw [1, 5] (fun tn to wr => ∃ (i : Nat) (vo : Value), vo = to ∧ tn = .int .i64 (n - i) ∧ p0 + i ≤ wl ∧ (i = 0 ∨ (i : Int) ≤ n) ∧ Hid (PullI w base fb vx vp tv s i vo wr)) (fun tn _ _ => (intOf tn).toNat)
  case atStart => exact ⟨0, _, rfl, by simp, by omega, .inl rfl, HST.out⟩
  case round =>
    obtain ⟨i, vo, hvo, rfl, hi, hin, HI⟩ := hrel
    subst hvo
    have c5 := (HRF.out i vo wr HI.out).1
    by_cases hpos : (i : Int) < n
    · have CW1 := fun m => CW i vo wr _ HI.out ((Bt.refl _ wr).drewN m)
      by_cases hlt : p0 + i < wl
      · have hlt1 : ((p0 + i : Nat) : Int) < (wl : Int) := by omega
        go_wp2
        go_quiet ((go_at_call 88; exact Calls.quiet_of (CW1 _)))
        clear CW1
        go_wp2_with (first
          | (go_at_call 90; refine (CY i vo wr _ HI.out ((Bt.refl _ wr).drewN _) (by omega) _ (by first | rfl | omega)).mono ?_; rintro e w' ⟨rfl, m2, hw⟩; rw [drewN_add] at hw; subst hw; obtain ⟨v9, w9, hr9, h9, b9⟩ := HAP.out i vo wr (nq + m2) (s.y (p0 + i)) HI.out (by omega); have H9 : Hid (Lst w9 w.heap.size 3 1 v9 (ints (s.outs i ++ [s.y (p0 + i)])) ∧ Bt (fun k => vo.ownBlock = some k) ((wr.drewN (nq + m2)).alloc (.cells #[.int .i64 (s.y (p0 + i))] 3)) w9 ∧ (∃ a n c, v9 = .slice a n c)) := ⟨h9, b9, (by obtain ⟨a, c, e, _, _⟩ := h9.form; exact ⟨_, _, _, e⟩)⟩; have c59 := ((((HRF.out i vo wr HI.out).2.1.bt ((Bt.refl (fun _ => False) wr).drewN (nq + m2)) (fun x => x)).bt ((Bt.refl (fun _ => False) _).alloc _) (fun x => x)).bt b9 (fun e => by have := (HI.out.out.ge e).1; have := (HRF.out i vo wr HI.out).2.2; omega)).c5; have f59 := ((((HRF.out i vo wr HI.out).2.1.bt ((Bt.refl (fun _ => False) wr).drewN (nq + m2)) (fun x => x)).bt ((Bt.refl (fun _ => False) _).alloc _) (fun x => x)).bt b9 (fun e => by have := (HI.out.out.ge e).1; have := (HRF.out i vo wr HI.out).2.2; omega)).fr 5; clear h9 b9)
          | (at_builtin; refine wpList_append_run rfl _ _ 24 24 rfl _ _ _ _ rfl rfl hr9 ?_))
        go_roundw
        case rel =>
          refine ⟨i + 1, v9, rfl, by go_num, by omega, .inr (by omega), ?_⟩
          exact HN.out i vo v9 wr _ w9 HI.out (((Bt.refl (fun _ => False) wr).drewN _).alloc _) H9.out.1 H9.out.2.1 _ (by first | rfl | (push_cast; omega) | go_num)
        case measure => simp [intOf]; omega
      · have hlt1 : ¬ ((p0 + i : Nat) : Int) < (wl : Int) := by omega
        go_wp2
        go_quiet ((go_at_call 88; exact Calls.quiet_of (CW1 _)))
        go_wp2
        go_ret
        exact HD.out i vo _ (HI.out.drewN _) (by rw [HC.out]; omega)
    · have hpos2 : n ≤ (i : Int) := by omega
      have hpos3 : decide ((i : Int) < n) = false := decide_eq_false hpos
      go_wp2
      go_quiet (fail)
      go_wp2
      go_ret
      exact HD.out i vo _ (HI.out.drewN _) (by rw [HC.out]; omega)
end Go.Proofs.YtddpcjgekfmhkabDoor

/- The document's filter: State. -/
namespace Go.Proofs.YtddpcjgekfmhkabDoor
open Go.RowKit
set_option linter.unusedSimpArgs false
set_option linter.unusedVariables false

/-- What a cell holds. -/
def cellIn (W : World) (a : Addr) : Value := (W.cell? a).getD undef
theorem in_of_some {W : World} {a : Addr} (h : ∃ u, W.cell? a = some u) : W.cell? a = some (cellIn W a) := by
  obtain ⟨u, h⟩ := h
  unfold cellIn; rw [h]; rfl
theorem set_in {W : World} {a p : Addr} {v : Value} (h : ∃ u, W.cell? a = some u) : ∃ u, (W.setCell p v).cell? a = some u := by
  obtain ⟨u, h⟩ := h
  by_cases e : p = a
  · subst e; exact ⟨v, World.cell?_setCell_same _ _ _ h⟩
  · exact ⟨u, by rw [World.cell?_setCell_other _ _ _ _ (by intro he; exact e he), h]⟩
/-- Nothing but what was drawn has turned. -/
structure Al (W w' : World) : Prop where
  heap : w'.heap = W.heap
  bt : Bt (fun _ => False) W w'
theorem Al.drewN (W : World) (m : Nat) : Al W (W.drewN m) := ⟨rfl, (Bt.refl _ _).drewN m⟩
theorem Al.cell {W w' : World} (h : Al W w') (a : Addr) : w'.cell? a = W.cell? a := by
  have e : ∀ u : World, u.heap = W.heap → u.cell? a = W.cell? a := by
    intro u hu
    unfold World.cell?
    rw [hu]
  exact e w' h.heap
theorem Al.at {W w' : World} {a : Addr} {v : Value} (h : Al W w') (k : W.cell? a = some v) : w'.cell? a = some v := (h.cell a).trans k
theorem Al.or {W w' : World} {a : Addr} (h : Al W w') (k : W.cell? a = some (cellIn W a)) : w'.cell? a = some (cellIn w' a) := in_of_some ⟨_, h.at k⟩
theorem Al.fr {W w' : World} {a : Addr} (h : Al W w') (k : W.frozen? a = false) : w'.frozen? a = false := by
  rw [← k]
  unfold World.frozen?
  rw [h.heap]

def stateV (s : FlS) : Value := .agg #[.int .i64 (s.X.length : Nat), .int .i64 (s.pulled : Nat), .int .i64 ((s.whole - s.pulled : Nat) : Int), .int .i64 s.pending]

set_option maxHeartbeats 4000000 in
theorem state_ref {w : World} {base fb : Nat} {s : FlS} {F : Nat → Prop} (h : RF base fb s w F)
    (hx : s.X.length ≤ 549755813888) (hpw : s.pulled ≤ s.whole) (hB0 : 0 < s.B) (hB : s.B ≤ 256) (h0 : 0 < s.parts.length) (hp : s.parts.length ≤ 1099511627) (hfr : s.from ≤ 2199023255552) :
    Calls Tryd.prog 63 #[.pointer (some ⟨fb, 0, none⟩)] w fun e w' => e = .returned (stateV s) ∧ Bt (fun _ => False) w w' := by
  obtain ⟨vx, vp, tv, h, hF⟩ := h
  have hwx : s.whole ≤ s.X.length := Nat.div_mul_le_self _ _
  have CW : ∀ w', Bt (fun _ => False) w w' → Calls Tryd.prog 88 #[.pointer (some ⟨fb, 0, none⟩)] w' fun e w'' => e = .returned (.int .i64 (s.whole : Nat)) ∧ ∃ m : Nat, w'' = w'.drewN m :=
    fun w' b => whole_ref (h.bt b (fun _ _ x => x)) (by omega) hB0 hB
  have CP : ∀ w', Bt (fun _ => False) w w' → Calls Tryd.prog 89 #[.pointer (some ⟨fb, 0, none⟩)] w' fun e w'' => e = .returned (.int .i64 s.pending) ∧ ∃ m : Nat, w'' = w'.drewN m :=
    fun w' b => pending_ref (h.bt b (fun _ _ x => x)) (by omega) h0 (by omega) hfr
  have c3 := h.blk.c3
  have c5 := h.blk.c5
  obtain ⟨ax, cx, hvx, _, _⟩ := h.x.form
  rw [hvx, ints_len] at c3
  unfold stateV
  have e1 : ((s.whole - s.pulled : Nat) : Int) = (s.whole : Int) - (s.pulled : Int) := by omega
  rw [e1]
  have hfb := h.blk.lt
  have BA : ∀ o, Bt (fun _ => False) w (w.alloc o) := fun o => (Bt.refl _ _).alloc o
  have hne : ¬ w.heap.size = fb := by omega
  have hne2 : ¬ fb = w.heap.size := by omega
  generalize s.whole = wl at *
  generalize s.pulled = p0 at *
  generalize s.X.length = NX at *
  generalize s.pending = pe at *
  clear h hF hvx e1
  go_enter Tryd.func63, Tryd.ntmps63
  go_wp2
  refine wp_region_quiet_last 19 (by kernel_rfl) (by kernel_rfl) (by kernel_rfl) ?_
  repeat (quiet_step ((first
    | (go_at_call 88; exact Calls.quiet_of (CW _ ((BA _).drewN _)))
    | (go_at_call 89; exact Calls.quiet_of (CP _ ((BA _).drewN _))))))
  refine wpQuiet_nil ?_
  rintro _ ⟨nq, rfl⟩
  go_wp2
  exact bodyPost_ret (v := .agg #[.int .i64 NX, .int .i64 p0, .int .i64 ((wl : Int) - (p0 : Int)), .int .i64 pe]) (by simp [results, Tryd.results63, go_sem]) rfl ⟨rfl, (by repeat (first | assumption | exact Bt.refl _ _ | apply Bt.drewN | apply Bt.drew | apply Bt.alloc | refine Bt.setCell ?_ (by first | (simp; done) | (simp; omega) | (intro h; simp at h; omega)) _))⟩
end Go.Proofs.YtddpcjgekfmhkabDoor

/- The law's own lists: lentInts, stillInts, same, num, conf. -/
namespace Go.Proofs.YtddpcjgekfmhkabDoor
open Go.RowKit
set_option linter.unusedSimpArgs false
set_option linter.unusedVariables false

/-- n numbers lie in block b from its beginning on, and may be written. -/
def Jr (w : World) (b n : Nat) (f : Nat → Int) : Prop := ∀ i, i < n → w.cell? ⟨b, i, none⟩ = some (.int .i64 (f i)) ∧ w.frozen? ⟨b, i, none⟩ = false
theorem Jr.congr {w : World} {b n : Nat} {f g : Nat → Int} (h : Jr w b n f) (e : ∀ i, i < n → f i = g i) : Jr w b n g := fun i hi => by rw [← e i hi]; exact h i hi
theorem Jr.set {w : World} {b n : Nat} {f : Nat → Int} (h : Jr w b n f) {k : Nat} (hk : k < n) (v : Int) : Jr (w.setCell ⟨b, k, none⟩ (.int .i64 v)) b n (upd f k v) := by
  intro i hi
  obtain ⟨h1, h2⟩ := h i hi
  refine ⟨?_, (World.frozen?_setCell _ _ _ _).trans h2⟩
  by_cases e : i = k
  · subst e; rw [upd_same]; exact World.cell?_setCell_same _ _ _ h1
  · rw [upd_other e, World.cell?_setCell_other _ _ _ _ (by intro he; exact e (by injection he with _ e2 _; exact e2.symm)), h1]
theorem Jr.bt {w w' : World} {b n : Nat} {f : Nat → Int} {S : Nat → Prop} (h : Jr w b n f) (k : Bt S w w') (hs : ¬ S b) : Jr w' b n f := by
  intro i hi
  obtain ⟨h1, h2⟩ := h i hi
  refine ⟨k.cell hs h1, ?_⟩
  have hlt : b < w.heap.size := World.block_lt_of_cell? w _ h1
  have e := k.block b hlt hs
  rw [← h2]
  unfold World.frozen?
  rw [e]
theorem Jr.lt {w : World} {b n : Nat} {f : Nat → Int} (h : Jr w b n f) (hn : 0 < n) : b < w.heap.size := World.block_lt_of_cell? w _ (h 0 hn).1
theorem Jr.src {w : World} {b n : Nat} {f : Nat → Int} (h : Jr w b n f) (l : List Int) (hl : l.length ≤ n) (e : ∀ i, i < l.length → at0 l i = f i) : Src w (some ⟨b, 0, none⟩) (ints l) := by
  refine Src.of_int fun i x hi => ?_
  have hlt : i < l.length := by
    rcases Nat.lt_or_ge i l.length with q | q
    · exact q
    · rw [List.getElem?_eq_none q] at hi; cases hi
  rw [at0_some hlt] at hi
  rw [Nat.zero_add, ← Option.some.inj hi, e i hlt]
  exact (h i (by omega)).1
theorem Jr.of_rw {w : World} {b n : Nat} (h : Rw w b 3 (List.replicate n [.int .i64 0])) : Jr w b n (fun _ => 0) := by
  intro i hi
  unfold Rw at h
  have e : (List.replicate n [Value.int .i64 0]).flatten = List.replicate n (.int .i64 0) := by simp
  rw [e] at h
  refine ⟨?_, ?_⟩
  · simp [World.cell?, h, hi]
  · simp [World.frozen?, h]

/-- The list l and eight marks. -/
def lentR (l : List Int) (i : Nat) : Int := if i < l.length then at0 l i else 77
/-- What lentInts has made: nothing, or a row of its own. -/
def LentQ (w : World) (l : List Int) (e : Ending) (w' : World) : Prop :=
  (l.length = 0 ∧ e = .returned (.slice none 0 0) ∧ w' = w) ∨ (0 < l.length ∧ e = .returned (.slice (some ⟨w.heap.size, 0, none⟩) l.length (l.length + 8)) ∧ Jr w' w.heap.size (l.length + 8) (lentR l) ∧ Bt (fun _ => False) w w' ∧ w'.heap.size = w.heap.size + 1)

set_option maxHeartbeats 1000000 in
theorem lent_law (a : Option Addr) (c : Nat) (l : List Int) (w : World) (hs : Src w a (ints l)) (hl : l.length ≤ 1048576) :
    Calls Tryd.prog 53 #[.slice a l.length c] w fun e w' => LentQ w l e w' := by
  by_cases h0 : l.length = 0
  · have HQ : Hid (∀ e w', e = .returned (.slice none 0 0) → w' = w → LentQ w l e w') := fun e w' h1 h2 => .inl ⟨h0, h1, h2⟩
    rw [h0]
    go_enter Tryd.func53, Tryd.ntmps53
    go_wp2
    go_ret
    exact HQ.out _ _ rfl rfl
  · have HQ : Hid (∀ e w', e = .returned (.slice (some ⟨w.heap.size, 0, none⟩) l.length (l.length + 8)) → Jr w' w.heap.size (l.length + 8) (lentR l) ∧ Bt (fun _ => False) w w' ∧ w'.heap.size = w.heap.size + 1 → LentQ w l e w') := fun e w' h1 h2 => .inr ⟨by omega, h1, h2⟩
    have HS : Hid (∀ i, i < l.length → ∃ b o, a = some ⟨b, o, none⟩ ∧ w.cell? ⟨b, o + i, none⟩ = some (.int .i64 (at0 l i)) ∧ lentR l i = at0 l i) := fun i hi => by
      obtain ⟨b, o, e, q⟩ := hs.int (at0_some hi)
      exact ⟨b, o, e, q, by unfold lentR; rw [if_pos hi]⟩
    have HR : Hid (∀ i, ¬ i < l.length → lentR l i = 77) := fun i hi => by unfold lentR; rw [if_neg hi]
    obtain ⟨len, hlen⟩ : ∃ len, l.length = len := ⟨_, rfl⟩
    rw [hlen] at HQ HS HR hl h0 ⊢
    clear hs hlen
    have HSB : Hid (∀ b o, a = some ⟨b, o, none⟩ → b < w.heap.size) := fun b o e => by
      obtain ⟨b', o', e', q, _⟩ := HS.out 0 (by omega)
      rw [e] at e'
      simp at e'
      obtain ⟨rfl, rfl⟩ := e'
      exact World.block_lt_of_cell? w _ q
    obtain ⟨n, hn⟩ : ∃ n, n = len + 8 := ⟨_, rfl⟩
    have HN : Hid (n = len + 8) := hn
    have hni : (len : Int) + 8 = (n : Int) := by omega
    have hln : len ≤ n := by omega
    have hn2 : n ≤ 1048584 := by omega
    rw [← hn] at HQ
    have h00 : ¬ (len : Int) = 0 := by omega
    clear hn
    go_enter Tryd.func53, Tryd.ntmps53
    go_wp2_with (at_make; refine wpList_make_el rfl _ _ 24 3 rfl Tryd.underlying24 (.int .i64 0) [.int .i64 0] 1 8 info_num rfl rfl n _ rfl rfl (by first | rfl | omega) (by omega) (by omega) ?_; intro w1 H1)
    have HR0 : Hid (Jr w1 w.heap.size n (fun _ => 0) ∧ (∀ i, i < 0 → (0 : Int) = lentR l i) ∧ Bt (fun _ => False) w w1 ∧ w1.heap.size = w.heap.size + 1) := ⟨Jr.of_rw H1.out.1, fun i hi => by omega, H1.out.2.1, H1.out.2.2⟩
    clear H1
    go_loopw [4] (fun ti wr => ∃ (k : Nat) (g : Nat → Int), k ≤ n ∧ ti = .int .i64 k ∧ Hid (Jr wr w.heap.size n g ∧ (∀ i, i < k → g i = lentR l i) ∧ Bt (fun _ => False) w wr ∧ wr.heap.size = w.heap.size + 1)) (fun ti _ => n - (intOf ti).toNat)
    case atStart => exact ⟨0, fun _ => 0, Nat.zero_le _, rfl, HR0⟩
    case round =>
      obtain ⟨k, g, hk, rfl, HRR⟩ := hrel
      by_cases hlt : k < n
      · obtain ⟨hA, hU, hG, hZ⟩ := HRR.out
        have c1 := (hA k hlt).1
        have f1 := (hA k hlt).2
        by_cases hkl : k < len
        · obtain ⟨b, o, rfl, cz, hv⟩ := HS.out k hkl
          have hb0 := HSB.out b o rfl
          have hb1 : ¬ b = w.heap.size := by omega
          have hb2 : ¬ w.heap.size = b := by omega
          have cz1 := hG.cell (fun x => x) cz
          obtain ⟨v, hv0⟩ : ∃ v, at0 l k = v := ⟨_, rfl⟩
          rw [hv0] at cz1 hv
          have HU : Hid (lentR l k = v) := hv
          clear hv hv0 hA hU hG hZ cz
          go_wp2
          go_roundw
          case rel =>
            refine ⟨k + 1, upd (upd g k 77) k v, by omega, by go_num, ?_⟩
            obtain ⟨hA, hU, hG, hZ⟩ := HRR.out
            refine ⟨(hA.set hlt 77).set hlt v, fun i hi => ?_, (hG.setCell (fun h => absurd h (Nat.lt_irrefl _)) _).setCell (fun h => absurd h (Nat.lt_irrefl _)) _, by simpa [World.setCell] using hZ⟩
            by_cases e : i = k
            · subst e; rw [upd_same]; exact HU.out.symm
            · rw [upd_other e, upd_other e]; exact hU i (by omega)
          case measure => simp [intOf]; omega
        · have HU : Hid (lentR l k = 77) := HR.out k hkl
          clear hA hU hG hZ
          go_wp2
          go_roundw
          case rel =>
            refine ⟨k + 1, upd g k 77, by omega, by go_num, ?_⟩
            obtain ⟨hA, hU, hG, hZ⟩ := HRR.out
            refine ⟨hA.set hlt 77, fun i hi => ?_, hG.setCell (fun h => absurd h (Nat.lt_irrefl _)) _, by simpa [World.setCell] using hZ⟩
            by_cases e : i = k
            · subst e; rw [upd_same]; exact HU.out.symm
            · rw [upd_other e]; exact hU i (by omega)
          case measure => simp [intOf]; omega
      · obtain rfl : k = n := by omega
        go_wp2
        go_ret
        obtain ⟨hA, hU, hG, hZ⟩ := HRR.out
        exact HQ.out _ _ rfl ⟨hA.congr hU, hG, hZ⟩

set_option maxHeartbeats 1000000 in
theorem still_law (hb : Nat) (a : Option Addr) (c : Nat) (l : List Int) (w : World) (h0 : 0 < l.length) (hs : Src w a (ints l)) (hl : l.length ≤ 1048576) (hh : Jr w hb (l.length + 8) (lentR l)) (hne : ∀ b o, a = some ⟨b, o, none⟩ → b ≠ hb) :
    Calls Tryd.prog 55 #[.slice (some ⟨hb, 0, none⟩) l.length (l.length + 8), .slice a l.length c] w fun e w' => e = .returned (.bool true) ∧ Bt (fun k => k = hb) w w' := by
  have HS : Hid (∀ i, i < l.length → ∃ b o, a = some ⟨b, o, none⟩ ∧ b ≠ hb ∧ w.cell? ⟨b, o + i, none⟩ = some (.int .i64 (at0 l i)) ∧ lentR l i = at0 l i) := fun i hi => by
    obtain ⟨b, o, e, q⟩ := hs.int (at0_some hi)
    exact ⟨b, o, e, hne b o e, q, by unfold lentR; rw [if_pos hi]⟩
  have HR : Hid (∀ i, ¬ i < l.length → lentR l i = 77) := fun i hi => by unfold lentR; rw [if_neg hi]
  obtain ⟨len, hlen⟩ : ∃ len, l.length = len := ⟨_, rfl⟩
  rw [hlen] at HS HR hl h0 hh ⊢
  clear hs hlen hne
  obtain ⟨n, hn⟩ : ∃ n, n = len + 8 := ⟨_, rfl⟩
  have hni : (len : Int) + 8 = (n : Int) := by omega
  have hln : len ≤ n := by omega
  have hn2 : n ≤ 1048584 := by omega
  have h00 : ¬ (len : Int) = 0 := by omega
  rw [← hn] at hh ⊢
  have HH : Hid (Jr w hb n (lentR l)) := hh
  clear hn hh
  go_enter Tryd.func55, Tryd.ntmps55
  go_wp2
  go_loopw [6, 7] (fun tk ti wr => ∃ (k : Nat) (g : Nat → Int), k ≤ n ∧ tk = .bool true ∧ ti = .int .i64 k ∧ Hid (Jr wr hb n g ∧ (∀ i, k ≤ i → g i = lentR l i) ∧ Bt (fun k => k = hb) w wr)) (fun _ ti _ => n - (intOf ti).toNat)
  case atStart => exact ⟨0, _, Nat.zero_le _, rfl, rfl, HH.out, fun _ _ => rfl, Bt.refl _ _⟩
  case round =>
    obtain ⟨k, g, hk, rfl, rfl, HRR⟩ := hrel
    by_cases hlt : k < n
    · obtain ⟨hA, hU, hO⟩ := HRR.out
      have c1 := (hA k hlt).1
      have f1 := (hA k hlt).2
      rw [hU k (Nat.le_refl _)] at c1
      have i1 : (k : Int) < (n : Int) := by omega
      by_cases hkl : k < len
      · obtain ⟨b, o, rfl, hne, cz, hv⟩ := HS.out k hkl
        have hne1 : ¬ b = hb := hne
        have hne2 : ¬ hb = b := fun e => hne e.symm
        have cz1 := hO.cell hne cz
        rw [hv] at c1
        generalize at0 l k = v at *
        clear hv hA hU hO cz hne
        go_wp2
        go_quiet (fail)
        go_wp2
        go_roundw
        case rel =>
          refine ⟨k + 1, upd g k 5, by omega, rfl, by go_num, ?_⟩
          obtain ⟨hA, hU, hO⟩ := HRR.out
          exact ⟨(Jr.set (w := wr.drewN _) hA hlt 5), fun i hi => by rw [upd_other (by omega)]; exact hU i (by omega), (hO.drewN _).setCell (fun _ => rfl) _⟩
        case measure => simp [intOf]; omega
      · rw [HR.out k hkl] at c1
        clear hA hU hO
        go_wp2
        go_roundw
        case rel =>
          refine ⟨k + 1, upd g k 5, by omega, rfl, by go_num, ?_⟩
          obtain ⟨hA, hU, hO⟩ := HRR.out
          exact ⟨hA.set hlt 5, fun i hi => by rw [upd_other (by omega)]; exact hU i (by omega), hO.setCell (fun _ => rfl) _⟩
        case measure => simp [intOf]; omega
    · obtain rfl : k = n := by omega
      go_wp2
      go_ret
      exact ⟨rfl, HRR.out.2.2⟩

theorem still_none (h : Value) (a : Option Addr) (c : Nat) (w : World) :
    Calls Tryd.prog 55 #[h, .slice a 0 c] w fun e w' => e = .returned (.bool true) ∧ w' = w := by
  go_enter Tryd.func55, Tryd.ntmps55
  go_wp2
  go_ret
  exact ⟨rfl, rfl⟩

set_option maxHeartbeats 1000000 in
theorem same_law (a b : Option Addr) (c d : Nat) (l : List Int) (w : World) (h1 : Src w a (ints l)) (h2 : Src w b (ints l)) (hl : l.length ≤ 1048576) :
    Calls Tryd.prog 65 #[.slice a l.length c, .slice b l.length d] w fun e w' => e = .returned (.bool true) ∧ ∃ m : Nat, w' = w.drewN m := by
  have HS : Hid (∀ i, i < l.length → (∃ b o, a = some ⟨b, o, none⟩ ∧ w.cell? ⟨b, o + i, none⟩ = some (.int .i64 (at0 l i))) ∧ ∃ b' o, b = some ⟨b', o, none⟩ ∧ w.cell? ⟨b', o + i, none⟩ = some (.int .i64 (at0 l i))) := fun i hi => ⟨h1.int (at0_some hi), h2.int (at0_some hi)⟩
  obtain ⟨n, hn⟩ : ∃ n, l.length = n := ⟨_, rfl⟩
  rw [hn] at HS hl ⊢
  clear h1 h2 hn
  go_enter Tryd.func65, Tryd.ntmps65
  go_wp2
  go_loopw [5] (fun ti wr => ∃ (k m : Nat), k ≤ n ∧ ti = .int .i64 k ∧ wr = w.drewN m) (fun ti _ => n - (intOf ti).toNat)
  case atStart => exact ⟨0, 0, Nat.zero_le _, rfl, rfl⟩
  case round =>
    obtain ⟨k, m, hk, rfl, rfl⟩ := hrel
    by_cases hlt : k < n
    · obtain ⟨⟨b1, o1, rfl, c1⟩, b2, o2, rfl, c2⟩ := HS.out k hlt
      generalize at0 l k = v at *
      have i1 : (k : Int) < (n : Int) := by omega
      go_wp2
      go_quiet (fail)
      go_wp2
      go_roundw
      case rel => exact ⟨k + 1, _, by omega, by go_num, rfl⟩
      case measure => simp [intOf]; omega
    · obtain rfl : k = n := by omega
      go_wp2
      go_ret
      exact ⟨rfl, m, rfl⟩

theorem num_law (n : Int) (w : World) : Calls Tryd.prog 57 #[.int .i64 n] w fun e w' => e = .returned (.int .i64 n) ∧ w' = w := by
  go_enter Tryd.func57, Tryd.ntmps57
  go_wp2
  go_ret
  exact ⟨rfl, rfl⟩

theorem conf_law (B R W : Int) (w : World) : Calls Tryd.prog 54 #[.agg #[.int .i64 B, .int .i64 R, .int .i64 W]] w fun e w' => e = .returned (.agg #[.int .i64 B, .int .i64 R, .int .i64 W]) ∧ Bt (fun _ => False) w w' := by
  go_enter Tryd.func54, Tryd.ntmps54
  go_wp2
  exact bodyPost_ret (v := .agg #[.int .i64 B, .int .i64 R, .int .i64 W]) (by simp [results, Tryd.results54, go_sem]) rfl ⟨rfl, by repeat (first | exact Bt.refl _ _ | apply Bt.drewN | apply Bt.drew | apply Bt.alloc | refine Bt.setCell ?_ (by first | (simp; done) | (simp; omega) | (intro h; simp at h; omega)) _)⟩
end Go.Proofs.YtddpcjgekfmhkabDoor
