/- The transform of a list of numbers below the prime, and how halves are merged. Plain mathematics. -/
import Derived.Test.YtddpcjgekfmhkaaDoorFp
namespace Go.Proofs.YtddpcjgekfmhkaaDoor

/-- Sums. -/
def sm (f : Nat → Int) : Nat → Int
  | 0 => 0
  | n + 1 => sm f n + f n
theorem sm_congr {f g : Nat → Int} : ∀ n, (∀ i, i < n → f i = g i) → sm f n = sm g n
  | 0, _ => rfl
  | n + 1, h => by unfold sm; rw [sm_congr n (fun i hi => h i (by omega)), h n (by omega)]
theorem sm_md {f g : Nat → Int} : ∀ n, (∀ i, i < n → f i % PP = g i % PP) → sm f n % PP = sm g n % PP
  | 0, _ => rfl
  | n + 1, h => by unfold sm; rw [← md_add, sm_md n (fun i hi => h i (by omega)), h n (by omega), md_add]
theorem sm_two (f : Nat → Int) : ∀ n, sm f (2 * n) = sm (fun i => f (2 * i)) n + sm (fun i => f (2 * i + 1)) n
  | 0 => rfl
  | n + 1 => by
    rw [show 2 * (n + 1) = 2 * n + 1 + 1 by omega, show sm f (2 * n + 1 + 1) = sm f (2 * n) + f (2 * n) + f (2 * n + 1) from rfl, sm_two f n]
    show _ = sm (fun i => f (2 * i)) n + f (2 * n) + (sm (fun i => f (2 * i + 1)) n + f (2 * n + 1))
    omega
theorem sm_mul (c : Int) (f : Nat → Int) : ∀ n, c * sm f n = sm (fun i => c * f i) n
  | 0 => Int.mul_zero c
  | n + 1 => by unfold sm; rw [Int.mul_add, sm_mul c f n]
theorem sm_first (f : Nat → Int) : ∀ n, sm f (n + 1) = f 0 + sm (fun i => f (i + 1)) n
  | 0 => by unfold sm; unfold sm; omega
  | n + 1 => by
    rw [show sm f (n + 1 + 1) = sm f (n + 1) + f (n + 1) from rfl, sm_first f n]
    show _ = f 0 + (sm (fun i => f (i + 1)) n + f (n + 1))
    omega

theorem rootE_two {s : Nat} (h : s + 1 ≤ 32) : rootE (s + 1) * 2 = rootE s := by
  have a := rootE_mul (k := s + 1) h
  have b := rootE_mul (k := s) (by omega)
  rw [Nat.pow_succ, Nat.mul_comm (2 ^ s) 2, ← Nat.mul_assoc] at a
  exact Nat.eq_of_mul_eq_mul_right (Nat.two_pow_pos s) (a.trans b.symm)
theorem rootk_two {s : Nat} (h : s + 1 ≤ 32) (e : Nat) : pw (rootk (s + 1)) (2 * e) = pw (rootk s) e := by
  unfold rootk
  rw [← pw_mul, ← pw_mul, ← Nat.mul_assoc, rootE_two h]
theorem rootk_step {s : Nat} (K : Nat) (h : s ≤ K) (hK : K ≤ 32) (e : Nat) : pw (rootk K) (e * 2 ^ (K - s)) = pw (rootk s) e := by
  induction K with
  | zero => obtain rfl : s = 0 := by omega
            rw [Nat.sub_self, Nat.pow_zero, Nat.mul_one]
  | succ K ih =>
    by_cases hs : s = K + 1
    · subst hs; rw [Nat.sub_self, Nat.pow_zero, Nat.mul_one]
    · rw [show K + 1 - s = K - s + 1 by omega, Nat.pow_succ, show e * (2 ^ (K - s) * 2) = 2 * (e * 2 ^ (K - s)) by rw [← Nat.mul_assoc]; omega, rootk_two hK]
      exact ih (by omega) (by omega)

/-- The transform. -/
def dft (K : Nat) (x : Nat → Int) (j : Nat) : Int := sm (fun i => x i * pw (rootk K) (i * j)) (2 ^ K) % PP
/-- That of each 2^(K-s)-th thing, from the r-th on. -/
def sub (K s : Nat) (x : Nat → Int) (r j : Nat) : Int := sm (fun i => x (i * 2 ^ (K - s) + r) * pw (rootk s) (i * j)) (2 ^ s) % PP

theorem sub_zero (K : Nat) (x : Nat → Int) (r j : Nat) : sub K 0 x r j = x r % PP := by
  unfold sub
  show (0 + x (0 * 2 ^ (K - 0) + r) * pw (rootk 0) (0 * j)) % PP = _
  rw [Nat.zero_mul, Nat.zero_mul, Nat.zero_add, pw_zero, Int.mul_one, Int.zero_add]
theorem sub_last (K : Nat) (x : Nat → Int) (j : Nat) : sub K K x 0 j = dft K x j := by
  unfold sub dft
  rw [Nat.sub_self, Nat.pow_zero]
  congr 1
  exact sm_congr _ (fun i _ => by rw [Nat.mul_one, Nat.add_zero])
theorem sub_step {K s : Nat} (x : Nat → Int) (r j : Nat) (h : s + 1 ≤ K) (hK : K ≤ 32) :
    sub K (s + 1) x r j = (sub K s x r j + (sub K s x (r + 2 ^ (K - s - 1)) j * pw (rootk (s + 1)) j) % PP) % PP := by
  unfold sub
  rw [Nat.pow_succ, Nat.mul_comm (2 ^ s) 2, sm_two, md_mul_l, md_add, ← md_add]
  conv => rhs; rw [← md_add]
  congr 1
  congr 1
  · congr 1
    refine sm_congr _ fun i _ => ?_
    rw [show K - (s + 1) = K - s - 1 by omega, show i * 2 ^ (K - s) = 2 * i * 2 ^ (K - s - 1) by
      rw [show K - s = K - s - 1 + 1 by omega, Nat.pow_succ, Nat.add_sub_cancel]; rw [Nat.mul_comm 2 i, Nat.mul_assoc, Nat.mul_comm 2]]
    rw [Nat.mul_assoc 2 i j, rootk_two (by omega)]
  · rw [Int.mul_comm, sm_mul]
    refine sm_md _ fun i _ => ?_
    rw [show K - (s + 1) = K - s - 1 by omega, show (2 * i + 1) * 2 ^ (K - s - 1) + r = i * 2 ^ (K - s) + (r + 2 ^ (K - s - 1)) by
      rw [show K - s = K - s - 1 + 1 by omega, Nat.pow_succ, Nat.add_sub_cancel, Nat.add_mul, Nat.mul_comm 2 i, Nat.mul_assoc, Nat.mul_comm 2]; omega]
    rw [show (2 * i + 1) * j = 2 * (i * j) + j by rw [Nat.add_mul, Nat.mul_assoc]; omega, pw_add, rootk_two (by omega), md_mul_r]
    congr 1
    grind
theorem sub_period {K s : Nat} (x : Nat → Int) (r j : Nat) (hs : s ≤ 32) : sub K s x r (j + 2 ^ s) = sub K s x r j := by
  unfold sub
  refine sm_md _ fun i _ => ?_
  rw [Nat.mul_add, pw_add, Nat.mul_comm i (2 ^ s), pw_mul (rootk s) (2 ^ s) i, rootk_pw hs, pw_one_l, Int.mul_one, pw_pw_md]
theorem root_turn {s : Nat} (j : Nat) (h : s + 1 ≤ 32) : pw (rootk (s + 1)) (j + 2 ^ s) = (-pw (rootk (s + 1)) j) % PP := by
  rw [pw_add, rootk_half h]
  refine md_of (pw (rootk (s + 1)) j) ?_
  rw [PP_eq]; omega
theorem sub_turn {K s : Nat} (x : Nat → Int) (r j : Nat) (h : s + 1 ≤ K) (hK : K ≤ 32) :
    sub K (s + 1) x r (j + 2 ^ s) = (sub K s x r j - (sub K s x (r + 2 ^ (K - s - 1)) j * pw (rootk (s + 1)) j) % PP) % PP := by
  rw [sub_step x r _ h hK, sub_period x r j (by omega), sub_period x _ j (by omega), root_turn j (by omega), md_mul_r, md_add_r, md_sub_r]
  congr 1
  grind

/-- The mirror image of m bits. -/
def rev : Nat → Nat → Nat
  | 0, _ => 0
  | m + 1, b => b % 2 * 2 ^ m + rev m (b / 2)
theorem rev_lt : ∀ m b, rev m b < 2 ^ m
  | 0, _ => Nat.zero_lt_one
  | m + 1, b => by
    have h := rev_lt m (b / 2)
    unfold rev
    rw [Nat.pow_succ]
    rcases Nat.mod_two_eq_zero_or_one b with e | e <;> rw [e] <;> omega
theorem rev_even (m b : Nat) : rev (m + 1) (2 * b) = rev m b := by
  unfold rev
  rw [Nat.mul_mod_right, Nat.zero_mul, Nat.zero_add, Nat.mul_div_cancel_left b (by decide)]
  cases m <;> rfl
theorem rev_odd (m b : Nat) : rev (m + 1) (2 * b + 1) = rev m b + 2 ^ m := by
  rw [show rev (m + 1) (2 * b + 1) = (2 * b + 1) % 2 * 2 ^ m + rev m ((2 * b + 1) / 2) from rfl, show (2 * b + 1) % 2 = 1 by omega, show (2 * b + 1) / 2 = b by omega]; omega
theorem rev_rev10 : ∀ m : Fin 11, ∀ i : Fin (2 ^ m.val), rev m.val (rev m.val i.val) = i.val := by decide +kernel
theorem rev_rev {m i : Nat} (hm : m ≤ 10) (h : i < 2 ^ m) : rev m (rev m i) = i := by
  exact rev_rev10 ⟨m, by omega⟩ ⟨i, h⟩
theorem rev_inj {m i j : Nat} (hm : m ≤ 10) (hi : i < 2 ^ m) (hj : j < 2 ^ m) (h : rev m i = rev m j) : i = j := by
  rw [← rev_rev hm hi, h, rev_rev hm hj]

/-- How far merging has come: transforms of 2^s things. -/
def Stage (K s : Nat) (x f : Nat → Int) : Prop := ∀ b j, b < 2 ^ (K - s) → j < 2 ^ s → f (b * 2 ^ s + j) = sub K s x (rev (K - s) b) j
/-- One thing of a pair merged with the other. -/
def Merged (s C : Nat) (f g : Nat → Int) : Prop := ∀ c q, c < C → q < 2 ^ s →
  g (c * (2 * 2 ^ s) + q) = (f (c * (2 * 2 ^ s) + q) + (f (c * (2 * 2 ^ s) + q + 2 ^ s) * pw (rootk (s + 1)) q) % PP) % PP ∧
  g (c * (2 * 2 ^ s) + q + 2 ^ s) = (f (c * (2 * 2 ^ s) + q) - (f (c * (2 * 2 ^ s) + q + 2 ^ s) * pw (rootk (s + 1)) q) % PP) % PP

theorem Stage.start {K : Nat} {x f : Nat → Int} (hx : ∀ i, i < 2 ^ K → x i % PP = x i) (h : ∀ b, b < 2 ^ K → f b = x (rev K b)) : Stage K 0 x f := by
  intro b j hb hj
  obtain rfl : j = 0 := by simpa using hj
  rw [Nat.sub_zero] at hb ⊢
  rw [sub_zero, Nat.pow_zero, Nat.mul_one, Nat.add_zero, h b hb, hx _ (rev_lt K b)]
theorem Stage.done {K : Nat} {x f : Nat → Int} (h : Stage K K x f) (j : Nat) (hj : j < 2 ^ K) : f j = dft K x j := by
  have := h 0 j (Nat.two_pow_pos _) hj
  rw [Nat.zero_mul, Nat.zero_add, Nat.sub_self] at this
  rw [this, show rev 0 0 = 0 from rfl, sub_last]
theorem Stage.next {K s : Nat} {x f g : Nat → Int} (hs : s + 1 ≤ K) (hK : K ≤ 32) (h : Stage K s x f) (m : Merged s (2 ^ (K - (s + 1))) f g) : Stage K (s + 1) x g := by
  intro b j hb hj
  have hp : 2 ^ (K - s) = 2 * 2 ^ (K - (s + 1)) := by rw [show K - s = K - (s + 1) + 1 by omega, Nat.pow_succ]; omega
  have e1 : 2 * b < 2 ^ (K - s) := by omega
  have e2 : 2 * b + 1 < 2 ^ (K - s) := by omega
  have eK : K - s = K - (s + 1) + 1 := by omega
  have key : ∀ q, q < 2 ^ s → f (b * (2 * 2 ^ s) + q) = sub K s x (rev (K - (s + 1)) b) q ∧ f (b * (2 * 2 ^ s) + q + 2 ^ s) = sub K s x (rev (K - (s + 1)) b + 2 ^ (K - s - 1)) q := by
    intro q hq
    have a := h (2 * b) q e1 hq
    have c := h (2 * b + 1) q e2 hq
    rw [eK, rev_even] at a
    rw [eK, rev_odd] at c
    constructor
    · rw [← a]; congr 1; rw [Nat.mul_comm 2 b, Nat.mul_assoc]
    · rw [show K - s - 1 = K - (s + 1) by omega, ← c]; congr 1; rw [Nat.add_mul, Nat.mul_comm 2 b, Nat.mul_assoc]; omega
  rw [Nat.pow_succ, Nat.mul_comm (2 ^ s) 2] at hj ⊢
  by_cases hq : j < 2 ^ s
  · obtain ⟨k1, k2⟩ := key j hq
    rw [(m b j hb hq).1, k1, k2, sub_step x _ j hs hK]
  · obtain ⟨q, rfl⟩ : ∃ q, j = q + 2 ^ s := ⟨j - 2 ^ s, by omega⟩
    have hq' : q < 2 ^ s := by omega
    obtain ⟨k1, k2⟩ := key q hq'
    rw [← Nat.add_assoc, (m b q hb hq').2, k1, k2, sub_turn x _ q hs hK]

/-- Turned round, it is the transform by the other root. -/
theorem inv_unique {a b c : Int} (ha : (a * c) % PP = 1) (hb : (b * c) % PP = 1) : a % PP = b % PP := by
  have e : (a * (b * c)) % PP = (b * (a * c)) % PP := by congr 1; grind
  rw [← md_mul_r, hb, Int.mul_one, ← md_mul_r b, ha, Int.mul_one] at e
  exact e
theorem rootk_ne {K : Nat} (hK : K ≤ 32) : rootk K % PP ≠ 0 := by
  intro h
  have e := rootk_pw hK
  rw [← pw_md, h] at e
  have e2 : 2 ^ K = (2 ^ K - 1) + 1 := by have := Nat.two_pow_pos K; omega
  rw [e2, pw_succ, Int.mul_zero] at e
  exact absurd e (by decide)
theorem root_back {K : Nat} (hK : K ≤ 32) (i j : Nat) (hj : j < 2 ^ K) : pw (rootk K) (i * ((2 ^ K - j) % 2 ^ K)) = pw (pw (rootk K) invE) (i * j) := by
  by_cases h0 : j = 0
  · subst h0; rw [Nat.sub_zero, Nat.mod_self, Nat.mul_zero, pw_zero, pw_zero]
  · rw [Nat.mod_eq_of_lt (by omega)]
    have a : (pw (rootk K) (i * (2 ^ K - j)) * pw (rootk K) (i * j)) % PP = 1 := by
      rw [← pw_add, ← Nat.mul_add, Nat.sub_add_cancel (by omega), Nat.mul_comm, pw_mul, rootk_pw hK, pw_one_l]
    have b : (pw (pw (rootk K) invE) (i * j) * pw (rootk K) (i * j)) % PP = 1 := by
      rw [← pw_dist, ← pw_md, inv_mul (rootk_ne hK), pw_one_l]
    have := inv_unique a b
    rwa [pw_pw_md, pw_pw_md] at this
/-- The transform by the inverse root. -/
def idft (K : Nat) (x : Nat → Int) (j : Nat) : Int := sm (fun i => x i * pw (pw (rootk K) invE) (i * j)) (2 ^ K) % PP
theorem idft_eq {K : Nat} (hK : K ≤ 32) (x : Nat → Int) (j : Nat) (hj : j < 2 ^ K) : dft K x ((2 ^ K - j) % 2 ^ K) = idft K x j := by
  unfold dft idft
  congr 1
  exact sm_congr _ fun i _ => by rw [root_back hK i j hj]

end Go.Proofs.YtddpcjgekfmhkaaDoor
