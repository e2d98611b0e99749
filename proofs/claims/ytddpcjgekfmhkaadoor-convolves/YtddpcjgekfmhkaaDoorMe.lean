/- What lies in memory: rows of numbers in a block; what has turned. -/
import Derived.Test.YtddpcjgekfmhkaaDoorTm
import Derived.WalkKit
import Derived.Test.YtddpcjgekfmhkaaDoorGw
import Derived.Deep.QuietTactic
import Derived.BigQuiet
namespace Go.Proofs.YtddpcjgekfmhkaaDoor
open Go.RowKit

/-- Of what was there only block b has turned; nothing was made. -/
structure Only (b : Nat) (w w' : World) : Prop where
  os : w'.os = w.os
  tape : w'.tape = w.tape
  output : w'.output = w.output
  size : w'.heap.size = w.heap.size
  block : ∀ k, k ≠ b → w'.heap[k]? = w.heap[k]?
  frozen : ∀ a, w'.frozen? a = w.frozen? a
theorem Only.refl (b : Nat) (w : World) : Only b w w := ⟨rfl, rfl, rfl, rfl, fun _ _ => rfl, fun _ => rfl⟩
theorem Only.trans {b : Nat} {u v w : World} (h : Only b u v) (k : Only b v w) : Only b u w :=
  ⟨k.os.trans h.os, k.tape.trans h.tape, k.output.trans h.output, k.size.trans h.size, fun i hi => (k.block i hi).trans (h.block i hi), fun a => (k.frozen a).trans (h.frozen a)⟩
theorem Only.drew {b : Nat} {u w : World} (h : Only b u w) : Only b u w.drew := ⟨h.os, h.tape, h.output, h.size, h.block, h.frozen⟩
theorem Only.drewN {b : Nat} {u w : World} (h : Only b u w) (n : Nat) : Only b u (w.drewN n) := ⟨h.os, h.tape, h.output, h.size, h.block, h.frozen⟩
theorem Only.setCell {b : Nat} {u w : World} (h : Only b u w) {p : Addr} (hp : p.block = b) (v : Value) : Only b u (w.setCell p v) :=
  ⟨h.os, h.tape, h.output, by simpa [World.setCell] using h.size, fun k hk => (Below.heap_setCell _ _ _ _ (by omega)).trans (h.block k hk), fun a => (World.frozen?_setCell _ _ _ _).trans (h.frozen a)⟩
theorem Only.cell {b : Nat} {w w' : World} (h : Only b w w') {k o : Nat} (hk : k ≠ b) : w'.cell? ⟨k, o, none⟩ = w.cell? ⟨k, o, none⟩ := World.cell?_of_block (w := w) (h.block k hk)

/-- n numbers of 64 bits lie in block b from its beginning on, and may be written. -/
def Arr (w : World) (b n : Nat) (f : Nat → Int) : Prop := ∀ i, i < n → w.cell? ⟨b, i, none⟩ = some (.int .u64 (f i)) ∧ w.frozen? ⟨b, i, none⟩ = false
/-- A list with one number turned. -/
def upd (f : Nat → Int) (k : Nat) (v : Int) : Nat → Int := fun i => if i = k then v else f i
theorem upd_same (f : Nat → Int) (k : Nat) (v : Int) : upd f k v k = v := if_pos rfl
theorem upd_other {f : Nat → Int} {k i : Nat} {v : Int} (h : i ≠ k) : upd f k v i = f i := if_neg h

theorem Arr.set {w : World} {b n : Nat} {f : Nat → Int} (h : Arr w b n f) {k : Nat} (hk : k < n) (v : Int) : Arr (w.setCell ⟨b, k, none⟩ (.int .u64 v)) b n (upd f k v) := by
  intro i hi
  obtain ⟨h1, h2⟩ := h i hi
  refine ⟨?_, (World.frozen?_setCell _ _ _ _).trans h2⟩
  by_cases e : i = k
  · subst e; rw [upd_same]; exact World.cell?_setCell_same _ _ _ h1
  · rw [upd_other e, World.cell?_setCell_other _ _ _ _ (by intro he; exact e (by injection he with _ e2 _; exact e2.symm)), h1]
theorem Arr.set_other {w : World} {b n : Nat} {f : Nat → Int} (h : Arr w b n f) {p : Addr} (hp : p.block ≠ b) (v : Value) : Arr (w.setCell p v) b n f := by
  intro i hi
  obtain ⟨h1, h2⟩ := h i hi
  exact ⟨by rw [World.cell?_setCell_other _ _ _ _ (by intro he; exact hp (by rw [he])), h1], (World.frozen?_setCell _ _ _ _).trans h2⟩
theorem Arr.drew {w : World} {b n : Nat} {f : Nat → Int} (h : Arr w b n f) : Arr w.drew b n f := h
theorem Arr.drewN {w : World} {b n : Nat} {f : Nat → Int} (h : Arr w b n f) (m : Nat) : Arr (w.drewN m) b n f := h
theorem Arr.only {w w' : World} {b n c : Nat} {f : Nat → Int} (h : Arr w b n f) (k : Only c w w') (hc : b ≠ c) : Arr w' b n f :=
  fun i hi => ⟨(k.cell hc).trans (h i hi).1, (k.frozen _).trans (h i hi).2⟩
theorem Arr.congr {w : World} {b n : Nat} {f g : Nat → Int} (h : Arr w b n f) (e : ∀ i, i < n → f i = g i) : Arr w b n g := fun i hi => ⟨e i hi ▸ (h i hi).1, (h i hi).2⟩
theorem Arr.lt {w : World} {b n : Nat} {f : Nat → Int} (h : Arr w b n f) (hn : 0 < n) : b < w.heap.size := by
  refine Nat.lt_of_not_le fun hle => ?_
  have e : w.heap[b]? = none := Array.getElem?_eq_none hle
  have := (h 0 hn).1
  simp [World.cell?, e] at this

theorem Arr.gw {w w' : World} {b n : Nat} {f : Nat → Int} (h : Arr w b n f) (g : Gw w w') : Arr w' b n f := fun i hi => ⟨g.at (h i hi).1, (g.2 _).trans (h i hi).2⟩
theorem Only.gw {b : Nat} {u w w' : World} (h : Gw u w) (k : Only b w w') (hb : u.heap.size ≤ b) : Gw u w' :=
  ⟨⟨k.os.trans h.1.os, k.tape.trans h.1.tape, k.output.trans h.1.output, by rw [k.size]; exact h.1.size, fun i hi => (k.block i (by omega)).trans (h.1.block i hi)⟩, fun a => (k.frozen a).trans (h.2 a)⟩
theorem Gw.drewN {a w : World} (h : Gw a w) (n : Nat) : Gw a (w.drewN n) := ⟨⟨h.1.os, h.1.tape, h.1.output, h.1.size, h.1.block⟩, h.2⟩

/-- Zeros, as make lays them. -/
def zeros (n : Nat) : Array Value := madeCells (Value.int .u64 0).cells n
theorem zeros_at {n i : Nat} (h : i < n) : (zeros n)[i]? = some (.int .u64 0) := by
  unfold zeros madeCells
  have hc : (Value.int .u64 0).cells = #[Value.int .u64 0] := rfl
  rw [hc]
  simp [h, Nat.mod_one]
theorem made_arr (w : World) (n : Nat) (e : TypeId) : Arr (w.alloc (.cells (zeros n) e)) w.heap.size n (fun _ => 0) := by
  intro i hi
  refine ⟨by rw [World.cell?_alloc_at _ _ _ _ rfl, zeros_at hi], ?_⟩
  rw [frozen?_alloc_cells]
  simp [World.frozen?]
theorem wpList_make_u64 {P : Program} (w : World) {ops : Array Oper} {rest : List Oper} {o : Oper} {a : Act} {Q : Exit → Act → World → Prop}
    (hg : o.guard = none) (l c : Operand) (t e : TypeId) (hop : o.op = Op.makeSlice t l c)
    (h1 : P.underlying t = some (.slice e)) (hinfo : (P.info? e).map (fun i => (i.zero, i.size, i.bytes)) = some (some (.int .u64 0), 1, 8))
    (n : Nat) (L : Int) (hl : a.eval l = .int .i64 L) (hc : a.eval c = .int .i64 L) (hL : L = n) (hn : n ≤ 2097152)
    (hK : ∀ w1, Arr w1 w.heap.size n (fun _ => 0) → Gw w w1 → w1.heap.size = w.heap.size + 1 → wpList P ops Q rest (a.put o.dst (.slice (some ⟨w.heap.size, 0, none⟩) n n)) w1) :
    wpList P ops Q (o :: rest) a w := by
  obtain ⟨i, hi, hz0, hz1, hz2⟩ := info_parts hinfo
  have hr := run_make (P := P) w t e i (.int .u64 0) h1 hi hz0 .i64 .i64 n n (by omega) (by omega) (by rw [hz2]; omega) (by omega)
  simp only [Int.toNat_natCast, hz1] at hr
  subst hL
  refine wpList_plain hg fun K hK' => ?_
  unfold Oper.wp
  simp [execOp, hop, hl, hc, hr, Result.andThen]
  exact hK' _ _ (hK _ (made_arr w n e) ((Gw.refl w).alloc _ _) (by simp))

/-- Numbers of 64 bits. -/
def Fits (n : Nat) (f : Nat → Int) : Prop := ∀ i, i < n → 0 ≤ f i ∧ f i ≤ 18446744073709551615
/-- Elements. -/
def Elems (n : Nat) (f : Nat → Int) : Prop := ∀ i, i < n → 0 ≤ f i ∧ f i ≤ 18446744069414584320
theorem Elems.fits {n : Nat} {f : Nat → Int} (h : Elems n f) : Fits n f := fun i hi => ⟨(h i hi).1, Int.le_trans (h i hi).2 (by omega)⟩
theorem Elems.md {n : Nat} {f : Nat → Int} (h : Elems n f) (i : Nat) (hi : i < n) : f i % PP = f i := md_small (h i hi).1 (h i hi).2
theorem Elems.upd {n : Nat} {f : Nat → Int} (h : Elems n f) (k : Nat) (v : Int) (hv : 0 ≤ v ∧ v ≤ 18446744069414584320) : Elems n (upd f k v) := by
  intro i hi
  by_cases e : i = k
  · subst e; rw [upd_same]; exact hv
  · rw [upd_other e]; exact h i hi

/-- Pairs of numbers, H apart, in groups of 2 H. -/
theorem group_le {c c0 H : Nat} (h : c < c0) : c * (2 * H) + 2 * H ≤ c0 * (2 * H) := by
  have := Nat.mul_le_mul_right (2 * H) (Nat.succ_le_of_lt h)
  rwa [Nat.succ_mul] at this
theorem group_ne {c c0 q q0 H : Nat} (hq : q < H) (hq0 : q0 < H) (h : ¬ (c = c0 ∧ q = q0)) :
    c * (2 * H) + q ≠ c0 * (2 * H) + q0 ∧ c * (2 * H) + q ≠ c0 * (2 * H) + q0 + H ∧ c * (2 * H) + q + H ≠ c0 * (2 * H) + q0 ∧ c * (2 * H) + q + H ≠ c0 * (2 * H) + q0 + H := by
  rcases Nat.lt_trichotomy c c0 with hc | hc | hc
  · have := group_le (H := H) hc; omega
  · subst hc; have : q ≠ q0 := fun e => h ⟨rfl, e⟩; omega
  · have := group_le (H := H) hc; omega
def Pair (H : Nat) (t : Nat → Int) (f g : Nat → Int) (c q : Nat) : Prop :=
  g (c * (2 * H) + q) = (f (c * (2 * H) + q) + (f (c * (2 * H) + q + H) * t q) % PP) % PP ∧
  g (c * (2 * H) + q + H) = (f (c * (2 * H) + q) - (f (c * (2 * H) + q + H) * t q) % PP) % PP
/-- All pairs ahead of (c0, q0) are merged, no other. -/
def Part (H C : Nat) (t f : Nat → Int) (c0 q0 : Nat) (g : Nat → Int) : Prop := ∀ c q, c < C → q < H →
  (c < c0 ∨ (c = c0 ∧ q < q0) → Pair H t f g c q) ∧ (¬ (c < c0 ∨ (c = c0 ∧ q < q0)) → g (c * (2 * H) + q) = f (c * (2 * H) + q) ∧ g (c * (2 * H) + q + H) = f (c * (2 * H) + q + H))
theorem Part.start (H C : Nat) (t f : Nat → Int) : Part H C t f 0 0 f := fun c q _ _ => ⟨fun h => by omega, fun _ => ⟨rfl, rfl⟩⟩
theorem Part.row {H C : Nat} {t f g : Nat → Int} {c0 : Nat} (h : Part H C t f c0 H g) : Part H C t f (c0 + 1) 0 g := fun c q hc hq =>
  ⟨fun k => (h c q hc hq).1 (by omega), fun k => (h c q hc hq).2 (by omega)⟩
theorem Part.done {H C : Nat} {t f g : Nat → Int} (h : Part H C t f C 0 g) (c q : Nat) (hc : c < C) (hq : q < H) : Pair H t f g c q := (h c q hc hq).1 (Or.inl hc)
theorem Part.step {H C : Nat} {t f g : Nat → Int} {c0 q0 : Nat} (h : Part H C t f c0 q0 g) (hc0 : c0 < C) (hq0 : q0 < H) :
    Part H C t f c0 (q0 + 1) (upd (upd g (c0 * (2 * H) + q0) ((g (c0 * (2 * H) + q0) + (g (c0 * (2 * H) + q0 + H) * t q0) % PP) % PP)) (c0 * (2 * H) + q0 + H) ((g (c0 * (2 * H) + q0) - (g (c0 * (2 * H) + q0 + H) * t q0) % PP) % PP)) := by
  intro c q hc hq
  by_cases e : c = c0 ∧ q = q0
  · obtain ⟨rfl, rfl⟩ := e
    obtain ⟨e1, e2⟩ := (h c q hc hq).2 (by omega)
    refine ⟨fun _ => ⟨?_, ?_⟩, fun k => absurd (Or.inr ⟨rfl, by omega⟩) k⟩
    · rw [upd_other (by omega), upd_same, e1, e2]
    · rw [upd_same, e1, e2]
  · obtain ⟨n1, n2, n3, n4⟩ := group_ne hq hq0 e
    constructor
    · intro k
      have := (h c q hc hq).1 (by omega)
      unfold Pair
      rw [upd_other n2, upd_other n1, upd_other n4, upd_other n3]
      exact this
    · intro k
      have := (h c q hc hq).2 (by omega)
      rw [upd_other n2, upd_other n1, upd_other n4, upd_other n3]
      exact this

end Go.Proofs.YtddpcjgekfmhkaaDoor
