/- Texts joined: Tm Gw Me Rv Rz. -/
import Derived.Test.YtddpcjgekfmhkabDoorM02
import Derived.WalkKit
import Derived.RowKit3
import Derived.Deep.QuietTactic
import Derived.BigQuiet
import Derived.Laws.Bits64b

/- The transform of a list of numbers below the prime, and how halves are merged. Plain mathematics. -/
namespace Go.Proofs.YtddpcjgekfmhkabDoor

/-- Sums. -/
def sm (f : Nat → Int) : Nat → Int
  | 0 => 0
  | n + 1 => sm f n + f n
theorem sm_congr {f g : Nat → Int} : ∀ n, (∀ i, i < n → f i = g i) → sm f n = sm g n
  | 0, _ => rfl
  | n + 1, h => by unfold sm; rw [sm_congr n (fun i hi => h i (by omega)), h n (by omega)]
theorem sm_md {f g : Nat → Int} : ∀ n, (∀ i, i < n → f i % PP = g i % PP) → sm f n % PP = sm g n % PP
  | 0, _ => rfl
  | n + 1, h => by unfold sm; rw [← md_add, sm_md n (fun i hi => h i (by omega)), h n (by omega), md_add]
theorem sm_two (f : Nat → Int) : ∀ n, sm f (2 * n) = sm (fun i => f (2 * i)) n + sm (fun i => f (2 * i + 1)) n
  | 0 => rfl
  | n + 1 => by
    rw [show 2 * (n + 1) = 2 * n + 1 + 1 by omega, show sm f (2 * n + 1 + 1) = sm f (2 * n) + f (2 * n) + f (2 * n + 1) from rfl, sm_two f n]
    show _ = sm (fun i => f (2 * i)) n + f (2 * n) + (sm (fun i => f (2 * i + 1)) n + f (2 * n + 1))
    omega
theorem sm_mul (c : Int) (f : Nat → Int) : ∀ n, c * sm f n = sm (fun i => c * f i) n
  | 0 => Int.mul_zero c
  | n + 1 => by unfold sm; rw [Int.mul_add, sm_mul c f n]
theorem sm_first (f : Nat → Int) : ∀ n, sm f (n + 1) = f 0 + sm (fun i => f (i + 1)) n
  | 0 => by unfold sm; unfold sm; omega
  | n + 1 => by
    rw [show sm f (n + 1 + 1) = sm f (n + 1) + f (n + 1) from rfl, sm_first f n]
    show _ = f 0 + (sm (fun i => f (i + 1)) n + f (n + 1))
    omega

theorem rootE_two {s : Nat} (h : s + 1 ≤ 32) : rootE (s + 1) * 2 = rootE s := by
  have a := rootE_mul (k := s + 1) h
  have b := rootE_mul (k := s) (by omega)
  rw [Nat.pow_succ, Nat.mul_comm (2 ^ s) 2, ← Nat.mul_assoc] at a
  exact Nat.eq_of_mul_eq_mul_right (Nat.two_pow_pos s) (a.trans b.symm)
theorem rootk_two {s : Nat} (h : s + 1 ≤ 32) (e : Nat) : pw (rootk (s + 1)) (2 * e) = pw (rootk s) e := by
  unfold rootk
  rw [← pw_mul, ← pw_mul, ← Nat.mul_assoc, rootE_two h]
theorem rootk_step {s : Nat} (K : Nat) (h : s ≤ K) (hK : K ≤ 32) (e : Nat) : pw (rootk K) (e * 2 ^ (K - s)) = pw (rootk s) e := by
  induction K with
  | zero => obtain rfl : s = 0 := by omega
            rw [Nat.sub_self, Nat.pow_zero, Nat.mul_one]
  | succ K ih =>
    by_cases hs : s = K + 1
    · subst hs; rw [Nat.sub_self, Nat.pow_zero, Nat.mul_one]
    · rw [show K + 1 - s = K - s + 1 by omega, Nat.pow_succ, show e * (2 ^ (K - s) * 2) = 2 * (e * 2 ^ (K - s)) by rw [← Nat.mul_assoc]; omega, rootk_two hK]
      exact ih (by omega) (by omega)

/-- The transform. -/
def dft (K : Nat) (x : Nat → Int) (j : Nat) : Int := sm (fun i => x i * pw (rootk K) (i * j)) (2 ^ K) % PP
/-- That of each 2^(K-s)-th thing, from the r-th on. -/
def sub (K s : Nat) (x : Nat → Int) (r j : Nat) : Int := sm (fun i => x (i * 2 ^ (K - s) + r) * pw (rootk s) (i * j)) (2 ^ s) % PP

theorem sub_zero (K : Nat) (x : Nat → Int) (r j : Nat) : sub K 0 x r j = x r % PP := by
  unfold sub
  show (0 + x (0 * 2 ^ (K - 0) + r) * pw (rootk 0) (0 * j)) % PP = _
  rw [Nat.zero_mul, Nat.zero_mul, Nat.zero_add, pw_zero, Int.mul_one, Int.zero_add]
theorem sub_last (K : Nat) (x : Nat → Int) (j : Nat) : sub K K x 0 j = dft K x j := by
  unfold sub dft
  rw [Nat.sub_self, Nat.pow_zero]
  congr 1
  exact sm_congr _ (fun i _ => by rw [Nat.mul_one, Nat.add_zero])
theorem sub_step {K s : Nat} (x : Nat → Int) (r j : Nat) (h : s + 1 ≤ K) (hK : K ≤ 32) :
    sub K (s + 1) x r j = (sub K s x r j + (sub K s x (r + 2 ^ (K - s - 1)) j * pw (rootk (s + 1)) j) % PP) % PP := by
  unfold sub
  rw [Nat.pow_succ, Nat.mul_comm (2 ^ s) 2, sm_two, md_mul_l, md_add, ← md_add]
  conv => rhs; rw [← md_add]
  congr 1
  congr 1
  · congr 1
    refine sm_congr _ fun i _ => ?_
    rw [show K - (s + 1) = K - s - 1 by omega, show i * 2 ^ (K - s) = 2 * i * 2 ^ (K - s - 1) by
      rw [show K - s = K - s - 1 + 1 by omega, Nat.pow_succ, Nat.add_sub_cancel]; rw [Nat.mul_comm 2 i, Nat.mul_assoc, Nat.mul_comm 2]]
    rw [Nat.mul_assoc 2 i j, rootk_two (by omega)]
  · rw [Int.mul_comm, sm_mul]
    refine sm_md _ fun i _ => ?_
    rw [show K - (s + 1) = K - s - 1 by omega, show (2 * i + 1) * 2 ^ (K - s - 1) + r = i * 2 ^ (K - s) + (r + 2 ^ (K - s - 1)) by
      rw [show K - s = K - s - 1 + 1 by omega, Nat.pow_succ, Nat.add_sub_cancel, Nat.add_mul, Nat.mul_comm 2 i, Nat.mul_assoc, Nat.mul_comm 2]; omega]
    rw [show (2 * i + 1) * j = 2 * (i * j) + j by rw [Nat.add_mul, Nat.mul_assoc]; omega, pw_add, rootk_two (by omega), md_mul_r]
    congr 1
    grind
theorem sub_period {K s : Nat} (x : Nat → Int) (r j : Nat) (hs : s ≤ 32) : sub K s x r (j + 2 ^ s) = sub K s x r j := by
  unfold sub
  refine sm_md _ fun i _ => ?_
  rw [Nat.mul_add, pw_add, Nat.mul_comm i (2 ^ s), pw_mul (rootk s) (2 ^ s) i, rootk_pw hs, pw_one_l, Int.mul_one, pw_pw_md]
theorem root_turn {s : Nat} (j : Nat) (h : s + 1 ≤ 32) : pw (rootk (s + 1)) (j + 2 ^ s) = (-pw (rootk (s + 1)) j) % PP := by
  rw [pw_add, rootk_half h]
  refine md_of (pw (rootk (s + 1)) j) ?_
  rw [PP_eq]; omega
theorem sub_turn {K s : Nat} (x : Nat → Int) (r j : Nat) (h : s + 1 ≤ K) (hK : K ≤ 32) :
    sub K (s + 1) x r (j + 2 ^ s) = (sub K s x r j - (sub K s x (r + 2 ^ (K - s - 1)) j * pw (rootk (s + 1)) j) % PP) % PP := by
  rw [sub_step x r _ h hK, sub_period x r j (by omega), sub_period x _ j (by omega), root_turn j (by omega), md_mul_r, md_add_r, md_sub_r]
  congr 1
  grind

/-- The mirror image of m bits. -/
def rev : Nat → Nat → Nat
  | 0, _ => 0
  | m + 1, b => b % 2 * 2 ^ m + rev m (b / 2)
theorem rev_lt : ∀ m b, rev m b < 2 ^ m
  | 0, _ => Nat.zero_lt_one
  | m + 1, b => by
    have h := rev_lt m (b / 2)
    unfold rev
    rw [Nat.pow_succ]
    rcases Nat.mod_two_eq_zero_or_one b with e | e <;> rw [e] <;> omega
theorem rev_even (m b : Nat) : rev (m + 1) (2 * b) = rev m b := by
  unfold rev
  rw [Nat.mul_mod_right, Nat.zero_mul, Nat.zero_add, Nat.mul_div_cancel_left b (by decide)]
  cases m <;> rfl
theorem rev_odd (m b : Nat) : rev (m + 1) (2 * b + 1) = rev m b + 2 ^ m := by
  rw [show rev (m + 1) (2 * b + 1) = (2 * b + 1) % 2 * 2 ^ m + rev m ((2 * b + 1) / 2) from rfl, show (2 * b + 1) % 2 = 1 by omega, show (2 * b + 1) / 2 = b by omega]; omega
theorem rev_rev10 : ∀ m : Fin 11, ∀ i : Fin (2 ^ m.val), rev m.val (rev m.val i.val) = i.val := by decide +kernel
theorem rev_rev {m i : Nat} (hm : m ≤ 10) (h : i < 2 ^ m) : rev m (rev m i) = i := by
  exact rev_rev10 ⟨m, by omega⟩ ⟨i, h⟩
theorem rev_inj {m i j : Nat} (hm : m ≤ 10) (hi : i < 2 ^ m) (hj : j < 2 ^ m) (h : rev m i = rev m j) : i = j := by
  rw [← rev_rev hm hi, h, rev_rev hm hj]

/-- How far merging has come: transforms of 2^s things. -/
def Stage (K s : Nat) (x f : Nat → Int) : Prop := ∀ b j, b < 2 ^ (K - s) → j < 2 ^ s → f (b * 2 ^ s + j) = sub K s x (rev (K - s) b) j
/-- One thing of a pair merged with the other. -/
def Merged (s C : Nat) (f g : Nat → Int) : Prop := ∀ c q, c < C → q < 2 ^ s →
  g (c * (2 * 2 ^ s) + q) = (f (c * (2 * 2 ^ s) + q) + (f (c * (2 * 2 ^ s) + q + 2 ^ s) * pw (rootk (s + 1)) q) % PP) % PP ∧
  g (c * (2 * 2 ^ s) + q + 2 ^ s) = (f (c * (2 * 2 ^ s) + q) - (f (c * (2 * 2 ^ s) + q + 2 ^ s) * pw (rootk (s + 1)) q) % PP) % PP

theorem Stage.start {K : Nat} {x f : Nat → Int} (hx : ∀ i, i < 2 ^ K → x i % PP = x i) (h : ∀ b, b < 2 ^ K → f b = x (rev K b)) : Stage K 0 x f := by
  intro b j hb hj
  obtain rfl : j = 0 := by simpa using hj
  rw [Nat.sub_zero] at hb ⊢
  rw [sub_zero, Nat.pow_zero, Nat.mul_one, Nat.add_zero, h b hb, hx _ (rev_lt K b)]
theorem Stage.done {K : Nat} {x f : Nat → Int} (h : Stage K K x f) (j : Nat) (hj : j < 2 ^ K) : f j = dft K x j := by
  have := h 0 j (Nat.two_pow_pos _) hj
  rw [Nat.zero_mul, Nat.zero_add, Nat.sub_self] at this
  rw [this, show rev 0 0 = 0 from rfl, sub_last]
theorem Stage.next {K s : Nat} {x f g : Nat → Int} (hs : s + 1 ≤ K) (hK : K ≤ 32) (h : Stage K s x f) (m : Merged s (2 ^ (K - (s + 1))) f g) : Stage K (s + 1) x g := by
  intro b j hb hj
  have hp : 2 ^ (K - s) = 2 * 2 ^ (K - (s + 1)) := by rw [show K - s = K - (s + 1) + 1 by omega, Nat.pow_succ]; omega
  have e1 : 2 * b < 2 ^ (K - s) := by omega
  have e2 : 2 * b + 1 < 2 ^ (K - s) := by omega
  have eK : K - s = K - (s + 1) + 1 := by omega
  have key : ∀ q, q < 2 ^ s → f (b * (2 * 2 ^ s) + q) = sub K s x (rev (K - (s + 1)) b) q ∧ f (b * (2 * 2 ^ s) + q + 2 ^ s) = sub K s x (rev (K - (s + 1)) b + 2 ^ (K - s - 1)) q := by
    intro q hq
    have a := h (2 * b) q e1 hq
    have c := h (2 * b + 1) q e2 hq
    rw [eK, rev_even] at a
    rw [eK, rev_odd] at c
    constructor
    · rw [← a]; congr 1; rw [Nat.mul_comm 2 b, Nat.mul_assoc]
    · rw [show K - s - 1 = K - (s + 1) by omega, ← c]; congr 1; rw [Nat.add_mul, Nat.mul_comm 2 b, Nat.mul_assoc]; omega
  rw [Nat.pow_succ, Nat.mul_comm (2 ^ s) 2] at hj ⊢
  by_cases hq : j < 2 ^ s
  · obtain ⟨k1, k2⟩ := key j hq
    rw [(m b j hb hq).1, k1, k2, sub_step x _ j hs hK]
  · obtain ⟨q, rfl⟩ : ∃ q, j = q + 2 ^ s := ⟨j - 2 ^ s, by omega⟩
    have hq' : q < 2 ^ s := by omega
    obtain ⟨k1, k2⟩ := key q hq'
    rw [← Nat.add_assoc, (m b q hb hq').2, k1, k2, sub_turn x _ q hs hK]

/-- Turned round, it is the transform by the other root. -/
theorem inv_unique {a b c : Int} (ha : (a * c) % PP = 1) (hb : (b * c) % PP = 1) : a % PP = b % PP := by
  have e : (a * (b * c)) % PP = (b * (a * c)) % PP := by congr 1; grind
  rw [← md_mul_r, hb, Int.mul_one, ← md_mul_r b, ha, Int.mul_one] at e
  exact e
theorem rootk_ne {K : Nat} (hK : K ≤ 32) : rootk K % PP ≠ 0 := by
  intro h
  have e := rootk_pw hK
  rw [← pw_md, h] at e
  have e2 : 2 ^ K = (2 ^ K - 1) + 1 := by have := Nat.two_pow_pos K; omega
  rw [e2, pw_succ, Int.mul_zero] at e
  exact absurd e (by decide)
theorem root_back {K : Nat} (hK : K ≤ 32) (i j : Nat) (hj : j < 2 ^ K) : pw (rootk K) (i * ((2 ^ K - j) % 2 ^ K)) = pw (pw (rootk K) invE) (i * j) := by
  by_cases h0 : j = 0
  · subst h0; rw [Nat.sub_zero, Nat.mod_self, Nat.mul_zero, pw_zero, pw_zero]
  · rw [Nat.mod_eq_of_lt (by omega)]
    have a : (pw (rootk K) (i * (2 ^ K - j)) * pw (rootk K) (i * j)) % PP = 1 := by
      rw [← pw_add, ← Nat.mul_add, Nat.sub_add_cancel (by omega), Nat.mul_comm, pw_mul, rootk_pw hK, pw_one_l]
    have b : (pw (pw (rootk K) invE) (i * j) * pw (rootk K) (i * j)) % PP = 1 := by
      rw [← pw_dist, ← pw_md, inv_mul (rootk_ne hK), pw_one_l]
    have := inv_unique a b
    rwa [pw_pw_md, pw_pw_md] at this
/-- The transform by the inverse root. -/
def idft (K : Nat) (x : Nat → Int) (j : Nat) : Int := sm (fun i => x i * pw (pw (rootk K) invE) (i * j)) (2 ^ K) % PP
theorem idft_eq {K : Nat} (hK : K ≤ 32) (x : Nat → Int) (j : Nat) (hj : j < 2 ^ K) : dft K x ((2 ^ K - j) % 2 ^ K) = idft K x j := by
  unfold dft idft
  congr 1
  exact sm_congr _ fun i _ => by rw [root_back hK i j hj]

end Go.Proofs.YtddpcjgekfmhkabDoor

/- What a call may do to the world: it makes memory, and nothing old turns. -/
namespace Go.Proofs.YtddpcjgekfmhkabDoor
open Go.RowKit

/-- Nothing old has turned; nothing is frozen anew. -/
def Gw (w w' : World) : Prop := Below w.heap.size w w' ∧ ∀ a, w'.frozen? a = w.frozen? a
theorem Gw.grown {w w' : World} (h : Gw w w') : Grown w w' := ⟨h.1.frame _, h.2, h.1.size⟩
theorem Gw.refl (w : World) : Gw w w := ⟨Below.refl _ _, fun _ => rfl⟩
theorem Gw.trans {a b c : World} (h : Gw a b) (k : Gw b c) : Gw a c := ⟨h.1.trans (k.1.mono h.1.size), fun x => (k.2 x).trans (h.2 x)⟩
theorem Gw.alloc {a w : World} (h : Gw a w) (c : Array Value) (t : TypeId) : Gw a (w.alloc (.cells c t)) :=
  ⟨h.1.alloc h.1.size _, fun x => (frozen?_alloc_cells w c t x).trans (h.2 x)⟩
theorem Gw.setCell {a w : World} (h : Gw a w) {p : Addr} (hp : a.heap.size ≤ p.block) (v : Value) : Gw a (w.setCell p v) :=
  ⟨h.1.setCell hp v, (h.grown.setCell hp v).2.1⟩
theorem Gw.drew {a w : World} (h : Gw a w) : Gw a w.drew := ⟨h.1.drew, h.2⟩
theorem Gw.cells {w w' : World} (h : Gw w w') : (∀ b o, b < w.heap.size → w'.cell? ⟨b, o, none⟩ = w.cell? ⟨b, o, none⟩) := fun b o hb => h.1.cell (p := ⟨b, o, none⟩) hb
theorem Gw.frozens {w w' : World} (h : Gw w w') : (∀ b o, w'.frozen? ⟨b, o, none⟩ = w.frozen? ⟨b, o, none⟩) := fun b o => h.2 ⟨b, o, none⟩

theorem Gw.at {w w' : World} (h : Gw w w') {b o : Nat} {v : Value} (hv : w.cell? ⟨b, o, none⟩ = some v) : w'.cell? ⟨b, o, none⟩ = some v := by
  refine (h.cells b o ?_).trans hv
  refine Nat.lt_of_not_le fun hle => ?_
  have e : w.heap[b]? = none := Array.getElem?_eq_none hle
  simp [World.cell?, e] at hv
theorem Gw.fz {w w' : World} (h : Gw w w') {b o : Nat} (hb : w.heap.size ≤ b) : w'.frozen? ⟨b, o, none⟩ = false := by
  rw [h.2]
  simp [World.frozen?, Array.getElem?_eq_none hb]
theorem Gw.size {w w' : World} (h : Gw w w') : w.heap.size ≤ w'.heap.size := h.1.size

end Go.Proofs.YtddpcjgekfmhkabDoor

/- What lies in memory: rows of numbers in a block; what has turned. -/
namespace Go.Proofs.YtddpcjgekfmhkabDoor
open Go.RowKit

/-- Of what was there only block b has turned; nothing was made. -/
structure Only (b : Nat) (w w' : World) : Prop where
  os : w'.os = w.os
  tape : w'.tape = w.tape
  output : w'.output = w.output
  size : w'.heap.size = w.heap.size
  block : ∀ k, k ≠ b → w'.heap[k]? = w.heap[k]?
  frozen : ∀ a, w'.frozen? a = w.frozen? a
theorem Only.refl (b : Nat) (w : World) : Only b w w := ⟨rfl, rfl, rfl, rfl, fun _ _ => rfl, fun _ => rfl⟩
theorem Only.trans {b : Nat} {u v w : World} (h : Only b u v) (k : Only b v w) : Only b u w :=
  ⟨k.os.trans h.os, k.tape.trans h.tape, k.output.trans h.output, k.size.trans h.size, fun i hi => (k.block i hi).trans (h.block i hi), fun a => (k.frozen a).trans (h.frozen a)⟩
theorem Only.drew {b : Nat} {u w : World} (h : Only b u w) : Only b u w.drew := ⟨h.os, h.tape, h.output, h.size, h.block, h.frozen⟩
theorem Only.drewN {b : Nat} {u w : World} (h : Only b u w) (n : Nat) : Only b u (w.drewN n) := ⟨h.os, h.tape, h.output, h.size, h.block, h.frozen⟩
theorem Only.setCell {b : Nat} {u w : World} (h : Only b u w) {p : Addr} (hp : p.block = b) (v : Value) : Only b u (w.setCell p v) :=
  ⟨h.os, h.tape, h.output, by simpa [World.setCell] using h.size, fun k hk => (Below.heap_setCell _ _ _ _ (by omega)).trans (h.block k hk), fun a => (World.frozen?_setCell _ _ _ _).trans (h.frozen a)⟩
theorem Only.cell {b : Nat} {w w' : World} (h : Only b w w') {k o : Nat} (hk : k ≠ b) : w'.cell? ⟨k, o, none⟩ = w.cell? ⟨k, o, none⟩ := World.cell?_of_block (w := w) (h.block k hk)

/-- n numbers of 64 bits lie in block b from its beginning on, and may be written. -/
def Arr (w : World) (b n : Nat) (f : Nat → Int) : Prop := ∀ i, i < n → w.cell? ⟨b, i, none⟩ = some (.int .u64 (f i)) ∧ w.frozen? ⟨b, i, none⟩ = false
/-- A list with one number turned. -/
def upd (f : Nat → Int) (k : Nat) (v : Int) : Nat → Int := fun i => if i = k then v else f i
theorem upd_same (f : Nat → Int) (k : Nat) (v : Int) : upd f k v k = v := if_pos rfl
theorem upd_other {f : Nat → Int} {k i : Nat} {v : Int} (h : i ≠ k) : upd f k v i = f i := if_neg h

theorem Arr.set {w : World} {b n : Nat} {f : Nat → Int} (h : Arr w b n f) {k : Nat} (hk : k < n) (v : Int) : Arr (w.setCell ⟨b, k, none⟩ (.int .u64 v)) b n (upd f k v) := by
  intro i hi
  obtain ⟨h1, h2⟩ := h i hi
  refine ⟨?_, (World.frozen?_setCell _ _ _ _).trans h2⟩
  by_cases e : i = k
  · subst e; rw [upd_same]; exact World.cell?_setCell_same _ _ _ h1
  · rw [upd_other e, World.cell?_setCell_other _ _ _ _ (by intro he; exact e (by injection he with _ e2 _; exact e2.symm)), h1]
theorem Arr.set_other {w : World} {b n : Nat} {f : Nat → Int} (h : Arr w b n f) {p : Addr} (hp : p.block ≠ b) (v : Value) : Arr (w.setCell p v) b n f := by
  intro i hi
  obtain ⟨h1, h2⟩ := h i hi
  exact ⟨by rw [World.cell?_setCell_other _ _ _ _ (by intro he; exact hp (by rw [he])), h1], (World.frozen?_setCell _ _ _ _).trans h2⟩
theorem Arr.drew {w : World} {b n : Nat} {f : Nat → Int} (h : Arr w b n f) : Arr w.drew b n f := h
theorem Arr.drewN {w : World} {b n : Nat} {f : Nat → Int} (h : Arr w b n f) (m : Nat) : Arr (w.drewN m) b n f := h
theorem Arr.only {w w' : World} {b n c : Nat} {f : Nat → Int} (h : Arr w b n f) (k : Only c w w') (hc : b ≠ c) : Arr w' b n f :=
  fun i hi => ⟨(k.cell hc).trans (h i hi).1, (k.frozen _).trans (h i hi).2⟩
theorem Arr.congr {w : World} {b n : Nat} {f g : Nat → Int} (h : Arr w b n f) (e : ∀ i, i < n → f i = g i) : Arr w b n g := fun i hi => ⟨e i hi ▸ (h i hi).1, (h i hi).2⟩
theorem Arr.lt {w : World} {b n : Nat} {f : Nat → Int} (h : Arr w b n f) (hn : 0 < n) : b < w.heap.size := by
  refine Nat.lt_of_not_le fun hle => ?_
  have e : w.heap[b]? = none := Array.getElem?_eq_none hle
  have := (h 0 hn).1
  simp [World.cell?, e] at this

theorem Arr.gw {w w' : World} {b n : Nat} {f : Nat → Int} (h : Arr w b n f) (g : Gw w w') : Arr w' b n f := fun i hi => ⟨g.at (h i hi).1, (g.2 _).trans (h i hi).2⟩
theorem Only.gw {b : Nat} {u w w' : World} (h : Gw u w) (k : Only b w w') (hb : u.heap.size ≤ b) : Gw u w' :=
  ⟨⟨k.os.trans h.1.os, k.tape.trans h.1.tape, k.output.trans h.1.output, by rw [k.size]; exact h.1.size, fun i hi => (k.block i (by omega)).trans (h.1.block i hi)⟩, fun a => (k.frozen a).trans (h.2 a)⟩
theorem Gw.drewN {a w : World} (h : Gw a w) (n : Nat) : Gw a (w.drewN n) := ⟨⟨h.1.os, h.1.tape, h.1.output, h.1.size, h.1.block⟩, h.2⟩

/-- Zeros, as make lays them. -/
def zeros (n : Nat) : Array Value := madeCells (Value.int .u64 0).cells n
theorem zeros_at {n i : Nat} (h : i < n) : (zeros n)[i]? = some (.int .u64 0) := by
  unfold zeros madeCells
  have hc : (Value.int .u64 0).cells = #[Value.int .u64 0] := rfl
  rw [hc]
  simp [h, Nat.mod_one]
theorem made_arr (w : World) (n : Nat) (e : TypeId) : Arr (w.alloc (.cells (zeros n) e)) w.heap.size n (fun _ => 0) := by
  intro i hi
  refine ⟨by rw [World.cell?_alloc_at _ _ _ _ rfl, zeros_at hi], ?_⟩
  rw [frozen?_alloc_cells]
  simp [World.frozen?]
theorem wpList_make_u64 {P : Program} (w : World) {ops : Array Oper} {rest : List Oper} {o : Oper} {a : Act} {Q : Exit → Act → World → Prop}
    (hg : o.guard = none) (l c : Operand) (t e : TypeId) (hop : o.op = Op.makeSlice t l c)
    (h1 : P.underlying t = some (.slice e)) (hinfo : (P.info? e).map (fun i => (i.zero, i.size, i.bytes)) = some (some (.int .u64 0), 1, 8))
    (n : Nat) (L : Int) (hl : a.eval l = .int .i64 L) (hc : a.eval c = .int .i64 L) (hL : L = n) (hn : n ≤ 2097152)
    (hK : ∀ w1, Arr w1 w.heap.size n (fun _ => 0) → Gw w w1 → w1.heap.size = w.heap.size + 1 → wpList P ops Q rest (a.put o.dst (.slice (some ⟨w.heap.size, 0, none⟩) n n)) w1) :
    wpList P ops Q (o :: rest) a w := by
  obtain ⟨i, hi, hz0, hz1, hz2⟩ := info_parts hinfo
  have hr := run_make (P := P) w t e i (.int .u64 0) h1 hi hz0 .i64 .i64 n n (by omega) (by omega) (by rw [hz2]; omega) (by omega)
  simp only [Int.toNat_natCast, hz1] at hr
  subst hL
  refine wpList_plain hg fun K hK' => ?_
  unfold Oper.wp
  simp [execOp, hop, hl, hc, hr, Result.andThen]
  exact hK' _ _ (hK _ (made_arr w n e) ((Gw.refl w).alloc _ _) (by simp))

/-- Numbers of 64 bits. -/
def Fits (n : Nat) (f : Nat → Int) : Prop := ∀ i, i < n → 0 ≤ f i ∧ f i ≤ 18446744073709551615
/-- Elements. -/
def Elems (n : Nat) (f : Nat → Int) : Prop := ∀ i, i < n → 0 ≤ f i ∧ f i ≤ 18446744069414584320
theorem Elems.fits {n : Nat} {f : Nat → Int} (h : Elems n f) : Fits n f := fun i hi => ⟨(h i hi).1, Int.le_trans (h i hi).2 (by omega)⟩
theorem Elems.md {n : Nat} {f : Nat → Int} (h : Elems n f) (i : Nat) (hi : i < n) : f i % PP = f i := md_small (h i hi).1 (h i hi).2
theorem Elems.upd {n : Nat} {f : Nat → Int} (h : Elems n f) (k : Nat) (v : Int) (hv : 0 ≤ v ∧ v ≤ 18446744069414584320) : Elems n (upd f k v) := by
  intro i hi
  by_cases e : i = k
  · subst e; rw [upd_same]; exact hv
  · rw [upd_other e]; exact h i hi

/-- Pairs of numbers, H apart, in groups of 2 H. -/
theorem group_le {c c0 H : Nat} (h : c < c0) : c * (2 * H) + 2 * H ≤ c0 * (2 * H) := by
  have := Nat.mul_le_mul_right (2 * H) (Nat.succ_le_of_lt h)
  rwa [Nat.succ_mul] at this
theorem group_ne {c c0 q q0 H : Nat} (hq : q < H) (hq0 : q0 < H) (h : ¬ (c = c0 ∧ q = q0)) :
    c * (2 * H) + q ≠ c0 * (2 * H) + q0 ∧ c * (2 * H) + q ≠ c0 * (2 * H) + q0 + H ∧ c * (2 * H) + q + H ≠ c0 * (2 * H) + q0 ∧ c * (2 * H) + q + H ≠ c0 * (2 * H) + q0 + H := by
  rcases Nat.lt_trichotomy c c0 with hc | hc | hc
  · have := group_le (H := H) hc; omega
  · subst hc; have : q ≠ q0 := fun e => h ⟨rfl, e⟩; omega
  · have := group_le (H := H) hc; omega
def Pair (H : Nat) (t : Nat → Int) (f g : Nat → Int) (c q : Nat) : Prop :=
  g (c * (2 * H) + q) = (f (c * (2 * H) + q) + (f (c * (2 * H) + q + H) * t q) % PP) % PP ∧
  g (c * (2 * H) + q + H) = (f (c * (2 * H) + q) - (f (c * (2 * H) + q + H) * t q) % PP) % PP
/-- All pairs ahead of (c0, q0) are merged, no other. -/
def Part (H C : Nat) (t f : Nat → Int) (c0 q0 : Nat) (g : Nat → Int) : Prop := ∀ c q, c < C → q < H →
  (c < c0 ∨ (c = c0 ∧ q < q0) → Pair H t f g c q) ∧ (¬ (c < c0 ∨ (c = c0 ∧ q < q0)) → g (c * (2 * H) + q) = f (c * (2 * H) + q) ∧ g (c * (2 * H) + q + H) = f (c * (2 * H) + q + H))
theorem Part.start (H C : Nat) (t f : Nat → Int) : Part H C t f 0 0 f := fun c q _ _ => ⟨fun h => by omega, fun _ => ⟨rfl, rfl⟩⟩
theorem Part.row {H C : Nat} {t f g : Nat → Int} {c0 : Nat} (h : Part H C t f c0 H g) : Part H C t f (c0 + 1) 0 g := fun c q hc hq =>
  ⟨fun k => (h c q hc hq).1 (by omega), fun k => (h c q hc hq).2 (by omega)⟩
theorem Part.done {H C : Nat} {t f g : Nat → Int} (h : Part H C t f C 0 g) (c q : Nat) (hc : c < C) (hq : q < H) : Pair H t f g c q := (h c q hc hq).1 (Or.inl hc)
theorem Part.step {H C : Nat} {t f g : Nat → Int} {c0 q0 : Nat} (h : Part H C t f c0 q0 g) (hc0 : c0 < C) (hq0 : q0 < H) :
    Part H C t f c0 (q0 + 1) (upd (upd g (c0 * (2 * H) + q0) ((g (c0 * (2 * H) + q0) + (g (c0 * (2 * H) + q0 + H) * t q0) % PP) % PP)) (c0 * (2 * H) + q0 + H) ((g (c0 * (2 * H) + q0) - (g (c0 * (2 * H) + q0 + H) * t q0) % PP) % PP)) := by
  intro c q hc hq
  by_cases e : c = c0 ∧ q = q0
  · obtain ⟨rfl, rfl⟩ := e
    obtain ⟨e1, e2⟩ := (h c q hc hq).2 (by omega)
    refine ⟨fun _ => ⟨?_, ?_⟩, fun k => absurd (Or.inr ⟨rfl, by omega⟩) k⟩
    · rw [upd_other (by omega), upd_same, e1, e2]
    · rw [upd_same, e1, e2]
  · obtain ⟨n1, n2, n3, n4⟩ := group_ne hq hq0 e
    constructor
    · intro k
      have := (h c q hc hq).1 (by omega)
      unfold Pair
      rw [upd_other n2, upd_other n1, upd_other n4, upd_other n3]
      exact this
    · intro k
      have := (h c q hc hq).2 (by omega)
      rw [upd_other n2, upd_other n1, upd_other n4, upd_other n3]
      exact this

end Go.Proofs.YtddpcjgekfmhkabDoor

/- The library's TrailingZeros and Reverse64 at small numbers: plain facts. -/
namespace Go.Proofs.YtddpcjgekfmhkabDoor
open Go.RowKit

/-- One step of turning bits round. -/
def rstep (m s x : Int) : Int := bits .or .u64 (bits .and .u64 (x / s) m) (IntKind.u64.wrap (bits .and .u64 x m * s))
def rbytes (x : Int) : Int := bits .or .u64 (rstep 281470681808895 65536 (rstep 71777214294589695 256 x) / 4294967296) (IntKind.u64.wrap (rstep 281470681808895 65536 (rstep 71777214294589695 256 x) * 4294967296))
def r64 (x : Int) : Int := rbytes (rstep 1085102592571150095 16 (rstep 3689348814741910323 4 (rstep 6148914691236517205 2 x)))

/-- The library's table, as its text lays it. -/
def tzTab : List Int := [0, 1, 56, 2, 57, 49, 28, 3, 61, 58, 42, 50, 38, 29, 17, 4, 62, 47, 59, 36, 45, 43, 51, 22, 53, 39, 33, 30, 24, 18, 12, 5, 63, 55, 48, 27, 60, 41, 37, 16, 46, 35, 44, 21, 52, 32, 23, 11, 54, 26, 40, 15, 34, 20, 31, 10, 25, 14, 19, 9, 13, 8, 7, 6]
def Tab (w : World) : Prop := ∀ i, i < 64 → w.cell? ⟨1, i, none⟩ = some (.int .u8 (tzTab.getD i 0))
theorem Tab.gw {w w' : World} (h : Tab w) (g : Gw w w') : Tab w' := fun i hi => g.at (h i hi)
def tzIdx (k : Nat) : Nat := 2 ^ k * 285870213051353865 % 18446744073709551616 / 288230376151711744
theorem tz_nat : ∀ k : Fin 11, tzIdx k.val < 64 ∧ tzTab.getD (tzIdx k.val) 0 = (k.val : Int) ∧ 2 ^ k.val &&& (18446744073709551616 - 2 ^ k.val) = 2 ^ k.val := by decide +kernel
theorem tz_facts (k : Nat) (hk : k ≤ 10) : IntKind.u64.wrap (((2 ^ k : Nat) : Int) * 285870213051353865) / 288230376151711744 = ((tzIdx k : Nat) : Int) ∧ tzIdx k < 64 ∧ tzTab.getD (tzIdx k) 0 = (k : Int) ∧ bits .and .u64 ((2 ^ k : Nat) : Int) (IntKind.u64.wrap (-((2 ^ k : Nat) : Int))) = ((2 ^ k : Nat) : Int) := by
  obtain ⟨h2, h3, h4⟩ := tz_nat ⟨k, by omega⟩
  refine ⟨?_, h2, h3, ?_⟩
  · rw [IntKind.wrap_u64]
    unfold tzIdx
    generalize 2 ^ k = n
    omega
  · have hn1 : 1 ≤ 2 ^ k := Nat.one_le_two_pow
    have hn : 2 ^ k ≤ 1024 := Nat.pow_le_pow_right (n := 2) (by decide) hk
    have h4 : 2 ^ k &&& (18446744073709551616 - 2 ^ k) = 2 ^ k := h4
    generalize 2 ^ k = n at *
    have e : IntKind.u64.wrap (-(n : Int)) = ((18446744073709551616 - n : Nat) : Int) := by rw [IntKind.wrap_u64]; omega
    rw [e, bits_and_u64_nat n _ (by omega) (by omega), h4]

/-- The same on natural numbers. -/
def rstepN (m s x : Nat) : Nat := (x / s &&& m) ||| ((x &&& m) * s % 18446744073709551616)
theorem rstepN_lt (m s x : Nat) (hm : m < 18446744073709551616) : rstepN m s x < 18446744073709551616 :=
  Nat.or_lt_two_pow (n := 64) (Nat.lt_of_le_of_lt Nat.and_le_right hm) (Nat.mod_lt _ (by decide))
theorem rstep_nat (m s x : Nat) (hm : m < 18446744073709551616) (hx : x < 18446744073709551616) : rstep m s x = ((rstepN m s x : Nat) : Int) := by
  unfold rstep rstepN
  rw [← Int.natCast_ediv, bits_and_u64_nat (x / s) m (Nat.lt_of_le_of_lt (Nat.div_le_self _ _) hx) hm, bits_and_u64_nat x m hx hm, ← Int.natCast_mul, IntKind.wrap_u64]
  rw [show ((((x &&& m) * s : Nat) : Int) % 18446744073709551616) = (((x &&& m) * s % 18446744073709551616 : Nat) : Int) from (Int.natCast_emod _ _).symm]
  exact bits_or_u64_nat _ _ (Nat.lt_of_le_of_lt Nat.and_le_right hm) (Nat.mod_lt _ (by decide))
def rbytesN (x : Nat) : Nat := (rstepN 281470681808895 65536 (rstepN 71777214294589695 256 x) / 4294967296) ||| (rstepN 281470681808895 65536 (rstepN 71777214294589695 256 x) * 4294967296 % 18446744073709551616)
def r64N (x : Nat) : Nat := rbytesN (rstepN 1085102592571150095 16 (rstepN 3689348814741910323 4 (rstepN 6148914691236517205 2 x)))
theorem rbytes_nat (x : Nat) (hx : x < 18446744073709551616) : rbytes x = ((rbytesN x : Nat) : Int) := by
  unfold rbytes rbytesN
  have e1 := rstep_nat 71777214294589695 256 x (by decide) hx
  have l1 := rstepN_lt 71777214294589695 256 x (by decide)
  have e2 := rstep_nat 281470681808895 65536 _ (by decide) l1
  have l2 := rstepN_lt 281470681808895 65536 (rstepN 71777214294589695 256 x) (by decide)
  have e1' : rstep 71777214294589695 256 x = _ := e1
  have e2' : rstep 281470681808895 65536 _ = _ := e2
  rw [e1', e2']
  generalize rstepN 281470681808895 65536 (rstepN 71777214294589695 256 x) = y at *
  rw [show (y : Int) / 4294967296 = ((y / 4294967296 : Nat) : Int) by omega, IntKind.wrap_u64, show (y : Int) * 4294967296 % 18446744073709551616 = ((y * 4294967296 % 18446744073709551616 : Nat) : Int) by omega]
  exact bits_or_u64_nat _ _ (by omega) (by omega)
theorem r64_nat (x : Nat) (hx : x < 18446744073709551616) : r64 x = ((r64N x : Nat) : Int) := by
  unfold r64 r64N
  have e1 : rstep 6148914691236517205 2 x = _ := rstep_nat 6148914691236517205 2 x (by decide) hx
  have l1 := rstepN_lt 6148914691236517205 2 x (by decide)
  have e2 : rstep 3689348814741910323 4 _ = _ := rstep_nat 3689348814741910323 4 _ (by decide) l1
  have l2 := rstepN_lt 3689348814741910323 4 (rstepN 6148914691236517205 2 x) (by decide)
  have e3 : rstep 1085102592571150095 16 _ = _ := rstep_nat 1085102592571150095 16 _ (by decide) l2
  have l3 := rstepN_lt 1085102592571150095 16 (rstepN 3689348814741910323 4 (rstepN 6148914691236517205 2 x)) (by decide)
  rw [e1, e2, e3]
  exact rbytes_nat _ l3
theorem rev_nat : ∀ k : Fin 11, ∀ i : Fin (2 ^ k.val), r64N i.val / 2 ^ (64 - k.val) = rev k.val i.val := by decide +kernel
theorem rev_facts (K i : Nat) (hK : K ≤ 10) (hi : i < 2 ^ K) : r64 (i : Int) / 2 ^ (64 - K) = ((rev K i : Nat) : Int) := by
  have hn : 2 ^ K ≤ 1024 := Nat.pow_le_pow_right (n := 2) (by decide) hK
  rw [r64_nat i (by omega)]
  have : r64N i / 2 ^ (64 - K) = rev K i := rev_nat ⟨K, by omega⟩ ⟨i, hi⟩
  rw [← this]
  norm_cast

end Go.Proofs.YtddpcjgekfmhkabDoor

/- What is owned: blocks, steps, two owners beside one another. -/
namespace Go.Proofs.YtddpcjgekfmhkabDoor
open Go.RowKit
set_option linter.unusedVariables false

theorem Tab.bt {w w' : World} {S : Nat → Prop} (h : Tab w) (b : Bt S w w') (hs : ¬ S 1) : Tab w' := fun i hi => b.cell hs (h i hi)
theorem Tab.lt {w : World} (h : Tab w) : 1 < w.heap.size := World.block_lt_of_cell? w _ (h 0 (by omega))
/-- Something that lies in the blocks of a set. -/
abbrev Res := World → (Nat → Prop) → Prop
/-- A step of the owner of F: only its blocks have turned; what it has more is new. -/
structure Stp (w : World) (F : Nat → Prop) (w' : World) (F' : Nat → Prop) : Prop where
  bt : Bt F w w'
  new : ∀ k, F' k → F k ∨ w.heap.size ≤ k
theorem Stp.refl (w : World) (F : Nat → Prop) : Stp w F w F := ⟨Bt.refl _ _, fun _ h => .inl h⟩
theorem Stp.trans {u v w : World} {F G H : Nat → Prop} (h : Stp u F v G) (k : Stp v G w H) : Stp u F w H :=
  ⟨h.bt.trans k.bt (fun i hi hg => (h.new i hg).elim id (fun e => by omega)), fun i hi => (k.new i hi).elim (h.new i) (fun e => .inr (Nat.le_trans h.bt.size e))⟩
/-- What lies there stays where others step. -/
structure Fr (base : Nat) (R : Res) : Prop where
  btw : ∀ {w w' F S}, R w F → Bt S w w' → (∀ k, F k → ¬ S k) → (∀ k, S k → base ≤ k) → R w' F
  lt : ∀ {w F k}, R w F → F k → base ≤ k ∧ k < w.heap.size
theorem Fr.bt {base : Nat} {R : Res} (f : Fr base R) {w w' : World} {F : Nat → Prop} (h : R w F) (b : Bt (fun _ => False) w w') (hs : ∀ k, F k → ¬ (fun _ => False) k) : R w' F := f.btw h b hs (fun _ x => False.elim x)
/-- Two that have no block in common. -/
def Sep (R1 R2 : Res) : Res := fun w F => ∃ F1 F2, R1 w F1 ∧ R2 w F2 ∧ (∀ k, F1 k → ¬ F2 k) ∧ (∀ k, F k ↔ F1 k ∨ F2 k)
section
variable {base : Nat} {R1 R2 : Res} {w w' : World} {F S : Nat → Prop}
theorem Fr.sep (f1 : Fr base R1) (f2 : Fr base R2) : Fr base (Sep R1 R2) := by
  refine ⟨fun h b hs hb => ?_, fun h hk => ?_⟩
  · obtain ⟨F1, F2, h1, h2, hd, hF⟩ := h
    exact ⟨F1, F2, f1.btw h1 b (fun k hk => hs k ((hF k).2 (.inl hk))) hb, f2.btw h2 b (fun k hk => hs k ((hF k).2 (.inr hk))) hb, hd, hF⟩
  · obtain ⟨F1, F2, h1, h2, hd, hF⟩ := h
    rcases (hF _).1 hk with e | e
    · exact f1.lt h1 e
    · exact f2.lt h2 e
theorem Sep.l (f1 : Fr base R1) (f2 : Fr base R2) (h : Sep R1 R2 w F) : ∃ F1, R1 w F1 ∧ (∀ k, F1 k → F k) ∧ ∀ (R1' : Res) (w' : World) (F1' : Nat → Prop), R1' w' F1' → Stp w F1 w' F1' → ∃ F', Sep R1' R2 w' F' ∧ Stp w F w' F' := by
  obtain ⟨F1, F2, h1, h2, hd, hF⟩ := h
  refine ⟨F1, h1, fun k hk => (hF k).2 (.inl hk), fun R1' w' F1' h1' st => ⟨fun k => F1' k ∨ F2 k, ⟨F1', F2, h1', f2.btw h2 st.bt (fun k hk e => hd k e hk) (fun k hk => (f1.lt h1 hk).1), fun k hk e => ?_, fun k => Iff.rfl⟩, ?_, fun k hk => ?_⟩⟩
  · rcases st.new k hk with q | q
    · exact hd k q e
    · have := f2.lt h2 e; omega
  · exact st.bt.mono (fun k _ hk => (hF k).2 (.inl hk))
  · rcases hk with hk | hk
    · exact (st.new k hk).imp (fun q => (hF k).2 (.inl q)) id
    · exact .inl ((hF k).2 (.inr hk))
theorem Sep.comm (h : Sep R1 R2 w F) : Sep R2 R1 w F := by
  obtain ⟨F1, F2, h1, h2, hd, hF⟩ := h
  exact ⟨F2, F1, h2, h1, fun k hk e => hd k e hk, fun k => (hF k).trans Or.comm⟩
theorem Sep.r (f1 : Fr base R1) (f2 : Fr base R2) (h : Sep R1 R2 w F) : ∃ F2, R2 w F2 ∧ (∀ k, F2 k → F k) ∧ ∀ (R2' : Res) (w' : World) (F2' : Nat → Prop), R2' w' F2' → Stp w F2 w' F2' → ∃ F', Sep R1 R2' w' F' ∧ Stp w F w' F' := by
  obtain ⟨F2, h2, hs, k⟩ := Sep.l f2 f1 h.comm
  refine ⟨F2, h2, hs, fun R2' w' F2' h2' st => ?_⟩
  obtain ⟨F', hF', st'⟩ := k R2' w' F2' h2' st
  exact ⟨F', hF'.comm, st'⟩
/-- Something new beside what was there. -/
theorem Sep.add (f1 : Fr base R1) (h1 : R1 w F) (b : Bt (fun _ => False) w w') {F2 : Nat → Prop} (h2 : R2 w' F2) (hn : ∀ k, F2 k → w.heap.size ≤ k) : Sep R1 R2 w' (fun k => F k ∨ F2 k) ∧ Stp w F w' (fun k => F k ∨ F2 k) := by
  refine ⟨⟨F, F2, f1.bt h1 b (fun _ _ e => e), h2, fun k hk e => ?_, fun k => Iff.rfl⟩, b.mono (fun _ _ e => e.elim), fun k hk => hk.imp id (hn k)⟩
  have := f1.lt h1 hk
  have := hn k e
  omega
end

/-- Numbers as things of one cell. -/
def ints (l : List Int) : List (List Value) := l.map fun x => [.int .i64 x]
theorem ints_len (l : List Int) : (ints l).length = l.length := by simp [ints]
theorem ints_flat (l : List Int) : (ints l).flatten = l.map (.int .i64) := by
  induction l with
  | nil => rfl
  | cons a l ih => show [Value.int .i64 a] ++ (ints l).flatten = _; rw [ih]; rfl
theorem ints_el (l : List Int) : El 1 (ints l) := by
  intro e he
  simp only [ints, List.mem_map] at he
  obtain ⟨x, _, rfl⟩ := he
  exact ⟨rfl, fun v hv => by simp at hv; subst hv; rfl⟩
theorem ints_app (a b : List Int) : ints (a ++ b) = ints a ++ ints b := by simp [ints]
theorem ints_take (a : List Int) (n : Nat) : ints (a.take n) = (ints a).take n := by simp [ints, List.map_take]
/-- What lies at a is the list l. -/
theorem Src.int {w : World} {a : Option Addr} {l : List Int} (h : Src w a (ints l)) {i : Nat} {x : Int} (hi : l[i]? = some x) : ∃ b o, a = some ⟨b, o, none⟩ ∧ w.cell? ⟨b, o + i, none⟩ = some (.int .i64 x) := by
  have hlt : i < l.length := by
    rcases Nat.lt_or_ge i l.length with h | h
    · exact h
    · rw [List.getElem?_eq_none h] at hi; cases hi
  obtain ⟨b, o, e, hc⟩ := h (by rw [ints_len]; omega)
  exact ⟨b, o, e, hc i _ (by rw [ints_flat, List.getElem?_map, hi]; rfl)⟩
theorem Src.of_int {w : World} {b o : Nat} {l : List Int} (h : ∀ (i : Nat) (x : Int), l[i]? = some x → w.cell? ⟨b, o + i, none⟩ = some (.int .i64 x)) : Src w (some ⟨b, o, none⟩) (ints l) := by
  intro _
  refine ⟨b, o, rfl, fun j v hj => ?_⟩
  rw [ints_flat, List.getElem?_map] at hj
  cases e : l[j]? with
  | none => rw [e] at hj; cases hj
  | some x => rw [e] at hj; cases hj; exact h j x e
/-- All of them are ints. -/
def Rng (l : List Int) : Prop := ∀ x ∈ l, -9223372036854775808 ≤ x ∧ x ≤ 9223372036854775807
theorem Rng.at {l : List Int} (h : Rng l) {i : Nat} {x : Int} (hi : l[i]? = some x) : -9223372036854775808 ≤ x ∧ x ≤ 9223372036854775807 := h x (List.mem_of_getElem? hi)

end Go.Proofs.YtddpcjgekfmhkabDoor
