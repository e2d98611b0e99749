/- Texts joined: Cm Om On RingAI RingBI. -/
import Derived.Test.YtddpcjgekfmhkabDoorM08
import Derived.Test.YtddpcjgekfmhkabDoorM04
import Derived.Test.YtddpcjgekfmhkabDoorM01
import Derived.Test.YtddpcjgekfmhkabDoorProg

/- The mathematics of Convolve: the inverse transform of products of transforms. -/
namespace Go.Proofs.YtddpcjgekfmhkabDoor
set_option linter.unusedVariables false

def tm (za zb : Nat → Int) (c i j : Nat) : Int := if i + j = c then za i * zb j else 0
def cv (la lb : Nat) (za zb : Nat → Int) (c : Nat) : Int := sm (fun i => sm (tm za zb c i) lb) la

theorem sm_abs (B : Int) (f : Nat → Int) : ∀ n : Nat, (∀ i, i < n → -B ≤ f i ∧ f i ≤ B) → -(n * B) ≤ sm f n ∧ sm f n ≤ n * B
  | 0, _ => by simp [sm]
  | n + 1, h => by
    have ih := sm_abs B f n (fun i hi => h i (by omega))
    have hn := h n (by omega)
    have e : ((n + 1 : Nat) : Int) * B = n * B + B := by rw [Int.natCast_succ, Int.add_mul, Int.one_mul]
    rw [e]
    unfold sm
    generalize (n : Int) * B = q at *
    omega

theorem tm_abs {la lb : Nat} {za zb : Nat → Int} (ha : ∀ i, i < la → -32768 ≤ za i ∧ za i ≤ 32767) (hb : ∀ i, i < lb → -32768 ≤ zb i ∧ zb i ≤ 32767) (c i j : Nat) (hi : i < la) (hj : j < lb) : -1073741824 ≤ tm za zb c i j ∧ tm za zb c i j ≤ 1073741824 := by
  unfold tm
  split
  · have h1 := ha i hi
    have h2 := hb j hj
    generalize za i = x at *
    generalize zb j = y at *
    have e1 : -(32768 * 32768) ≤ x * y := by
      have a1 : 0 ≤ (x + 32768) * (32768 - y) := Int.mul_nonneg (by omega) (by omega)
      have a2 : 0 ≤ (32768 - x) * (y + 32768) := Int.mul_nonneg (by omega) (by omega)
      have : (x + 32768) * (32768 - y) + (32768 - x) * (y + 32768) = 2 * (32768 * 32768) - 2 * (x * y) := by grind
      have b1 : 0 ≤ (x + 32768) * (y + 32768) := Int.mul_nonneg (by omega) (by omega)
      have b2 : 0 ≤ (32768 - x) * (32768 - y) := Int.mul_nonneg (by omega) (by omega)
      have : (x + 32768) * (y + 32768) + (32768 - x) * (32768 - y) = 2 * (32768 * 32768) + 2 * (x * y) := by grind
      omega
    have e2 : x * y ≤ 32768 * 32768 := by
      have a1 : 0 ≤ (x + 32768) * (32768 - y) := Int.mul_nonneg (by omega) (by omega)
      have a2 : 0 ≤ (32768 - x) * (y + 32768) := Int.mul_nonneg (by omega) (by omega)
      have : (x + 32768) * (32768 - y) + (32768 - x) * (y + 32768) = 2 * (32768 * 32768) - 2 * (x * y) := by grind
      omega
    omega
  · omega

theorem row_abs {la lb : Nat} {za zb : Nat → Int} (ha : ∀ i, i < la → -32768 ≤ za i ∧ za i ≤ 32767) (hb : ∀ i, i < lb → -32768 ≤ zb i ∧ zb i ≤ 32767) (c i k : Nat) (hi : i < la) (hk : k ≤ lb) (hm : lb ≤ 1024) : -1099511627776 ≤ sm (tm za zb c i) k ∧ sm (tm za zb c i) k ≤ 1099511627776 := by
  have h := sm_abs 1073741824 (tm za zb c i) k (fun j hj => tm_abs ha hb c i j hi (by omega))
  omega
theorem cv_abs {la lb : Nat} {za zb : Nat → Int} (ha : ∀ i, i < la → -32768 ≤ za i ∧ za i ≤ 32767) (hb : ∀ i, i < lb → -32768 ≤ zb i ∧ zb i ≤ 32767) (c k : Nat) (hk : k ≤ la) (hm0 : la ≤ 1024) (hm : lb ≤ 1024) : -1125899906842624 ≤ cv k lb za zb c ∧ cv k lb za zb c ≤ 1125899906842624 := by
  have h := sm_abs 1099511627776 (fun i => sm (tm za zb c i) lb) k (fun i hi => row_abs ha hb c i lb (by omega) (Nat.le_refl _) hm)
  unfold cv
  omega

theorem sm_ext (f : Nat → Int) (n : Nat) : ∀ m, n ≤ m → (∀ i, n ≤ i → i < m → f i = 0) → sm f m = sm f n
  | 0, h, _ => by obtain rfl : n = 0 := by omega
                  rfl
  | m + 1, h, hz => by
    by_cases e : n = m + 1
    · subst e; rfl
    · show sm f m + f m = _
      rw [hz m (by omega) (by omega), Int.add_zero]
      exact sm_ext f n m (by omega) (fun i h1 h2 => hz i h1 (by omega))

theorem dft_emb {K la : Nat} (h : la ≤ 2 ^ K) (z : Nat → Int) (i : Nat) : dft K (emb la z) i = sm (fun l => z l * pw (rootk K) (l * i)) la % PP := by
  unfold dft
  rw [sm_ext _ la (2 ^ K) h (fun l h1 _ => by unfold emb; rw [if_neg (by omega), Int.zero_mul])]
  refine sm_md _ fun l hl => ?_
  unfold emb
  rw [if_pos hl, md_mul_l]

theorem sm_mul_r (c : Int) (f : Nat → Int) (n : Nat) : sm f n * c = sm (fun i => f i * c) n := by
  rw [Int.mul_comm, sm_mul]
  exact sm_congr _ fun i _ => Int.mul_comm _ _

theorem dft_cv {K la lb : Nat} (hla : 1 ≤ la) (hlb : 1 ≤ lb) (h : la + lb - 1 ≤ 2 ^ K) (za zb : Nat → Int) (i : Nat) : dft K (cv la lb za zb) i = prod K la lb za zb i := by
  unfold prod
  rw [dft_emb (by omega), dft_emb (by omega), md_mul]
  unfold dft cv
  have s1 : ∀ c, sm (fun a => sm (tm za zb c a) lb) la * pw (rootk K) (c * i) = sm (fun a => sm (fun b => tm za zb c a b * pw (rootk K) (c * i)) lb) la := by
    intro c
    rw [sm_mul_r]
    exact sm_congr _ fun a _ => sm_mul_r _ _ _
  rw [sm_congr _ (fun c _ => s1 c), sm_swap (fun c a => sm (fun b => tm za zb c a b * pw (rootk K) (c * i)) lb), sm_mul_r]
  refine sm_md _ fun a ha => ?_
  rw [sm_swap (fun c b => tm za zb c a b * pw (rootk K) (c * i)), sm_mul]
  refine sm_md _ fun b hb => ?_
  rw [sm_one (a + b) _ _ (by omega) (fun c _ hne => by unfold tm; rw [if_neg (by omega), Int.zero_mul]; rfl)]
  unfold tm
  rw [if_pos rfl, Nat.add_mul, pw_add, md_mul_r]
  congr 1; grind

/-- What comes of it all. -/
theorem conv_eq {K la lb : Nat} (hK : K ≤ 32) (hla : 1 ≤ la) (hlb : 1 ≤ lb) (h : la + lb - 1 ≤ 2 ^ K) (za zb : Nat → Int) (c : Nat) (hc : c < la + lb - 1) : trans K true (prod K la lb za zb) c = cv la lb za zb c % PP := by
  rw [← dft_back hK (cv la lb za zb) c (by omega)]
  have e : idft K (dft K (cv la lb za zb)) c = idft K (prod K la lb za zb) c := by
    unfold idft
    rw [sm_congr _ (fun i _ => by rw [dft_cv hla hlb h])]
  rw [e]
  unfold trans
  rfl

theorem liftv_md {v : Int} (h0 : -1125899906842624 ≤ v) (h1 : v ≤ 1125899906842624) : liftv (v % PP) = v := by
  unfold liftv
  rw [md_md, PP_eq]
  by_cases h : 0 ≤ v
  · rw [Int.emod_eq_of_lt h (by omega), if_pos (by omega)]
  · have e : v % 18446744069414584321 = v + 18446744069414584321 := by omega
    rw [e, if_neg (by omega)]; omega

theorem conv_lift {K la lb : Nat} (hK : K ≤ 32) (hla : 1 ≤ la) (hlb : 1 ≤ lb) (hs : la + lb ≤ 1025) (h : la + lb - 1 ≤ 2 ^ K) {za zb : Nat → Int} (ha : ∀ i, i < la → -32768 ≤ za i ∧ za i ≤ 32767) (hb : ∀ i, i < lb → -32768 ≤ zb i ∧ zb i ≤ 32767) (c : Nat) (hc : c < la + lb - 1) : liftv (trans K true (prod K la lb za zb) c) = cv la lb za zb c := by
  have b := cv_abs ha hb c la (Nat.le_refl _) (by omega) (by omega)
  rw [conv_eq hK hla hlb h za zb c hc, liftv_md b.1 b.2]

end Go.Proofs.YtddpcjgekfmhkabDoor

/- Overlap and save: the mathematics of a filter by blocks. -/
namespace Go.Proofs.YtddpcjgekfmhkabDoor
set_option linter.unusedVariables false

/-- A product of two rows that goes round. -/
def cc (N : Nat) (x h : Nat → Int) (c : Nat) : Int := sm (fun i => sm (fun j => if (i + j) % N = c then x i * h j else 0) N) N

theorem pw_root_mod {K : Nat} (hK : K ≤ 32) (i k : Nat) : pw (rootk K) (i % 2 ^ K * k) = pw (rootk K) (i * k) := by
  have e : i * k = 2 ^ K * (i / 2 ^ K * k) + i % 2 ^ K * k := by
    conv => lhs; rw [← Nat.div_add_mod i (2 ^ K)]
    rw [Nat.add_mul, Nat.mul_assoc]
  rw [e, pw_add, pw_mul _ (2 ^ K), rootk_pw hK, pw_one_l, Int.one_mul, pw_pw_md]

theorem dft_cc {K : Nat} (hK : K ≤ 32) (x h : Nat → Int) (k : Nat) : dft K (cc (2 ^ K) x h) k = (dft K x k * dft K h k) % PP := by
  have hp : 0 < 2 ^ K := Nat.two_pow_pos K
  unfold dft cc
  rw [md_mul]
  have s1 : ∀ c, sm (fun i => sm (fun j => if (i + j) % 2 ^ K = c then x i * h j else 0) (2 ^ K)) (2 ^ K) * pw (rootk K) (c * k) = sm (fun a => sm (fun b => (if (a + b) % 2 ^ K = c then x a * h b else 0) * pw (rootk K) (c * k)) (2 ^ K)) (2 ^ K) := by
    intro c
    rw [sm_mul_r]
    exact sm_congr _ fun a _ => sm_mul_r _ _ _
  rw [sm_congr _ (fun c _ => s1 c), sm_swap (fun c a => sm (fun b => (if (a + b) % 2 ^ K = c then x a * h b else 0) * pw (rootk K) (c * k)) (2 ^ K)), sm_mul_r]
  refine sm_md _ fun a ha => ?_
  rw [sm_swap (fun c b => (if (a + b) % 2 ^ K = c then x a * h b else 0) * pw (rootk K) (c * k)), sm_mul]
  refine sm_md _ fun b hb => ?_
  rw [sm_one ((a + b) % 2 ^ K) _ _ (Nat.mod_lt _ hp) (fun c _ hne => by rw [if_neg (fun e => hne e.symm), Int.zero_mul]; rfl)]
  rw [if_pos rfl, pw_root_mod hK, Nat.add_mul, pw_add, md_mul_r]
  congr 1; grind

theorem dft_sum {K : Nat} (f : Nat → Nat → Int) (P : Nat) (k : Nat) : dft K (fun c => sm (fun p => f p c) P) k = sm (fun p => dft K (f p) k) P % PP := by
  unfold dft
  rw [sm_congr _ (fun c _ => sm_mul_r _ _ _), sm_swap (fun c p => f p c * pw (rootk K) (c * k))]
  exact sm_md _ fun p _ => (md_md _).symm

/-- What is in the spectrum of a block. -/
def spec (K : Nat) (X H : Nat → Nat → Int) (P : Nat) (k : Nat) : Int := sm (fun p => dft K (X p) k * dft K (H p) k) P % PP

theorem spec_eq {K : Nat} (hK : K ≤ 32) (X H : Nat → Nat → Int) (P k : Nat) : dft K (fun c => sm (fun p => cc (2 ^ K) (X p) (H p) c) P) k = spec K X H P k := by
  rw [dft_sum]
  unfold spec
  refine sm_md _ fun p _ => ?_
  rw [dft_cc hK, md_md]

theorem spec_back {K : Nat} (hK : K ≤ 32) (X H : Nat → Nat → Int) (P : Nat) (g : Nat → Int) (hg : ∀ k, k < 2 ^ K → g k = spec K X H P k) (c : Nat) (hc : c < 2 ^ K) :
    trans K true g c = sm (fun p => cc (2 ^ K) (X p) (H p) c) P % PP := by
  rw [← dft_back hK (fun c => sm (fun p => cc (2 ^ K) (X p) (H p) c) P) c hc]
  have e : idft K (dft K (fun c => sm (fun p => cc (2 ^ K) (X p) (H p) c) P)) c = idft K g c := by
    unfold idft
    rw [sm_congr _ (fun i hi => by rw [spec_eq hK, ← hg i hi])]
  rw [e]
  unfold trans
  rfl

theorem sm_pick (j : Nat) (f : Nat → Int) : ∀ n, j < n → (∀ i, i < n → i ≠ j → f i = 0) → sm f n = f j
  | 0, h, _ => by omega
  | n + 1, h, hz => by
    show sm f n + f n = f j
    by_cases e : j = n
    · subst e
      rw [sm_ext f 0 j (by omega) (fun i _ hi => hz i (by omega) (by omega))]
      show 0 + f j = f j
      omega
    · rw [hz n (by omega) (fun e' => e e'.symm), Int.add_zero]
      exact sm_pick j f n (by omega) (fun i hi hne => hz i (by omega) hne)

theorem sm_split (f : Nat → Int) (m : Nat) : ∀ n, sm f (m + n) = sm f m + sm (fun i => f (m + i)) n
  | 0 => by show sm f m = sm f m + 0; omega
  | n + 1 => by
    show sm f (m + n) + f (m + n) = sm f m + (sm (fun i => f (m + i)) n + f (m + n))
    rw [sm_split f m n]; omega

theorem sm_blocks (g : Nat → Int) (B : Nat) : ∀ P, sm (fun p => sm (fun j => g (p * B + j)) B) P = sm g (P * B)
  | 0 => by rw [Nat.zero_mul]; rfl
  | P + 1 => by
    show sm (fun p => sm (fun j => g (p * B + j)) B) P + sm (fun j => g (P * B + j)) B = _
    rw [sm_blocks g B P, Nat.add_mul, Nat.one_mul, sm_split]

theorem cc_half {B N : Nat} (hN : N = 2 * B) (x h : Nat → Int) (hz : ∀ j, B ≤ j → j < N → h j = 0) (c : Nat) (h0 : B ≤ c) (h1 : c < N) : cc N x h c = sm (fun j => x (c - j) * h j) B := by
  unfold cc
  rw [sm_swap (fun i j => if (i + j) % N = c then x i * h j else 0)]
  rw [sm_ext _ B N (by omega) (fun j hj hj' => by
    rw [sm_ext _ 0 N (by omega) (fun i _ _ => by rw [hz j hj hj', Int.mul_zero]; split <;> rfl)]; rfl)]
  refine sm_congr _ fun j hj => ?_
  rw [sm_pick (c - j) _ N (by omega) (fun i hi hne => by
    rw [if_neg]
    intro e
    by_cases hl : i + j < N
    · rw [Nat.mod_eq_of_lt hl] at e; omega
    · rw [Nat.mod_eq_sub_mod (by omega), Nat.mod_eq_of_lt (by omega)] at e; omega)]
  rw [if_pos (by rw [Nat.sub_add_cancel (by omega), Nat.mod_eq_of_lt h1])]

/-- The two blocks that the p-th piece of the taps meets in block b. -/
def two (B : Nat) (z : Nat → Int) (b p i : Nat) : Int := if B + p * B ≤ b * B + i then z (b * B + i - (B + p * B)) else 0
/-- The p-th piece of the taps. -/
def piece (B : Nat) (h : Nat → Int) (p j : Nat) : Int := if j < B then h (p * B + j) else 0

theorem over_save {B N : Nat} (hN : N = 2 * B) (h z : Nat → Int) (P b c : Nat) (hc : c < B) :
    sm (fun p => cc N (two B z b p) (piece B h p) (B + c)) P = flt (P * B) h z (b * B + c) := by
  unfold flt
  rw [← sm_blocks]
  refine sm_congr _ fun p _ => ?_
  rw [cc_half hN _ _ (fun j hj _ => by unfold piece; rw [if_neg (by omega)]) _ (by omega) (by omega)]
  refine sm_congr _ fun j hj => ?_
  unfold two piece
  rw [if_pos hj]
  generalize p * B = q
  generalize b * B = m
  by_cases e : q + j ≤ m + c
  · rw [if_pos (by omega), if_pos e, Int.mul_comm]
    congr 2; omega
  · rw [if_neg (by omega), if_neg e, Int.zero_mul]

theorem flt_more {L L' : Nat} (h z : Nat → Int) (n : Nat) (hl : L ≤ L') (hz : ∀ k, L ≤ k → k < L' → h k = 0) : flt L' h z n = flt L h z n := by
  unfold flt
  exact sm_ext _ L L' hl fun k h0 h1 => by rw [hz k h0 h1, Int.zero_mul]; split <;> rfl

theorem flt_less (L : Nat) (h z : Nat → Int) (n : Nat) (hl : n + 1 ≤ L) : flt L h z n = sm (fun k => h k * z (n - k)) (n + 1) := by
  unfold flt
  rw [sm_ext _ (n + 1) L hl fun k h0 h1 => by rw [if_neg (by omega)]]
  exact sm_congr _ fun k hk => by rw [if_pos (by omega)]

theorem liftv_62 {v : Int} (h0 : -4611686018427387904 ≤ v) (h1 : v ≤ 4611686018427387904) : liftv (v % PP) = v := by
  unfold liftv
  rw [md_md, PP_eq]
  by_cases h : 0 ≤ v
  · rw [Int.emod_eq_of_lt h (by omega), if_pos (by omega)]
  · have e : v % 18446744069414584321 = v + 18446744069414584321 := by omega
    rw [e, if_neg (by omega)]; omega

end Go.Proofs.YtddpcjgekfmhkabDoor

/- Blocks against windows of taps: the mathematics of the landed filter. -/
namespace Go.Proofs.YtddpcjgekfmhkabDoor
set_option linter.unusedVariables false

theorem dft_md {K : Nat} {x y : Nat → Int} (h : ∀ i, i < 2 ^ K → x i % PP = y i % PP) (j : Nat) : dft K x j = dft K y j := by
  unfold dft
  refine sm_md _ fun i hi => ?_
  rw [← md_mul_l (x i), h i hi, md_mul_l]
theorem cc_comm (N : Nat) (x h : Nat → Int) (c : Nat) : cc N x h c = cc N h x c := by
  unfold cc
  rw [sm_swap (fun i j => if (i + j) % N = c then x i * h j else 0)]
  refine sm_congr _ fun i _ => sm_congr _ fun j _ => ?_
  rw [Nat.add_comm j i, Int.mul_comm]
theorem sm_rev (f : Nat → Int) : ∀ n, sm f n = sm (fun i => f (n - 1 - i)) n
  | 0 => rfl
  | n + 1 => by
    rw [sm_first (fun i => f (n + 1 - 1 - i)) n]
    show sm f n + f n = f (n + 1 - 1 - 0) + _
    rw [sm_rev f n, Int.add_comm]
    congr 1
    exact sm_congr _ fun i hi => by congr 1; omega

/-- Block q of the samples, with as many 0 behind it. -/
def blk (B : Nat) (z : Nat → Int) (q i : Nat) : Int := if i < B then z (q * B + i) else 0
/-- Window j of the taps: it begins a block ahead. -/
def win (B : Nat) (h : Nat → Int) (j i : Nat) : Int := if B ≤ j * B + i then h (j * B + i - B) else 0

theorem win_term {B N : Nat} (hN : N = 2 * B) (h z : Nat → Int) (q j c : Nat) (hc : c < B) :
    cc N (blk B z q) (win B h j) (B + c) = sm (fun p => if p ≤ j * B + c then h (j * B + c - p) * z (q * B + p) else 0) B := by
  rw [cc_comm, cc_half hN _ _ (fun i hi _ => by unfold blk; rw [if_neg (by omega)]) _ (by omega) (by omega)]
  refine sm_congr _ fun p hp => ?_
  unfold blk win
  rw [if_pos hp]
  generalize j * B = m
  by_cases e : p ≤ m + c
  · rw [if_pos (by omega), if_pos e]
    congr 2; omega
  · rw [if_neg (by omega), if_neg e, Int.zero_mul]

theorem win_sum {B N : Nat} (hN : N = 2 * B) (h z : Nat → Int) (L n c J : Nat) (hz : ∀ k, L ≤ k → h k = 0) (hc : c < B) (hJ : J ≤ n + 1) (hL : J = n + 1 ∨ L + B ≤ J * B + 1) :
    sm (fun j => cc N (blk B z (n - j)) (win B h j) (B + c)) J = flt L h z (n * B + c) := by
  rw [sm_congr _ (fun j _ => win_term hN h z (n - j) j c hc)]
  -- windows that reach no block
  have s2 : sm (fun j => sm (fun p => if p ≤ j * B + c then h (j * B + c - p) * z ((n - j) * B + p) else 0) B) (n + 1) = sm (fun j => sm (fun p => if p ≤ j * B + c then h (j * B + c - p) * z ((n - j) * B + p) else 0) B) J := by
    refine sm_ext _ J (n + 1) hJ fun j h0 h1 => ?_
    have h2 : L + B ≤ J * B + 1 := by rcases hL with e | e <;> omega
    have h3 : J * B ≤ j * B := Nat.mul_le_mul_right _ h0
    rw [sm_ext _ 0 B (by omega) fun p _ hp => by
      split
      · rw [hz _ (by omega), Int.zero_mul]
      · rfl]
    rfl
  obtain ⟨g, hg⟩ : ∃ g : Nat → Int, ∀ i, g i = if i ≤ n * B + c then h (n * B + c - i) * z i else 0 := ⟨fun i => _, fun i => rfl⟩
  rw [← s2, sm_rev, sm_congr (g := fun j => sm (fun p => g (j * B + p)) B) _ (fun j hj => by
    refine sm_congr _ fun p hp => ?_
    have e1 : n + 1 - 1 - j = n - j := by omega
    have e2 : n - (n - j) = j := by omega
    have e3 : (n - j) * B = n * B - j * B := Nat.sub_mul _ _ _
    have e4 : j * B ≤ n * B := Nat.mul_le_mul_right _ (by omega)
    rw [e1, e2, e3, hg]
    show (if p ≤ n * B - j * B + c then h (n * B - j * B + c - p) * z (j * B + p) else 0) = if j * B + p ≤ n * B + c then h (n * B + c - (j * B + p)) * z (j * B + p) else 0
    by_cases e : p ≤ n * B - j * B + c
    · rw [if_pos e, if_pos (by omega)]
      congr 2; omega
    · rw [if_neg e, if_neg (by omega)]), sm_blocks]
  have e5 : (n + 1) * B = n * B + B := by rw [Nat.add_mul, Nat.one_mul]
  rw [sm_ext _ (n * B + c + 1) _ (by omega) (fun i h0 _ => by rw [hg, if_neg (by omega)]), sm_rev]
  generalize n * B + c = m at *
  rw [sm_congr (g := fun k => h k * z (m - k)) _ (fun k hk => by
    rw [hg, if_pos (by omega)]
    congr 2; omega)]
  rw [← flt_less (max L (m + 1)) h z m (by omega), flt_more (L := L) h z m (by omega) (fun k h0 _ => hz k h0)]

/-- What comes back of the sum of products: the answers, in its second half. -/
theorem win_back {K B : Nat} (hK : K ≤ 32) (hN : 2 ^ K = 2 * B) (h z : Nat → Int) (L n J : Nat) (hz : ∀ k, L ≤ k → h k = 0) (hJ : J ≤ n + 1) (hL : J = n + 1 ∨ L + B ≤ J * B + 1)
    (g : Nat → Int) (hg : ∀ k, k < 2 ^ K → g k = spec K (fun j => blk B z (n - j)) (win B h) J k) (c : Nat) (hc : c < B) : trans K true g (B + c) = flt L h z (n * B + c) % PP := by
  rw [spec_back hK _ _ J g hg _ (by omega), win_sum hN h z L n c J hz hc hJ hL]
theorem win_lift {K B : Nat} (hK : K ≤ 32) (hN : 2 ^ K = 2 * B) (h z : Nat → Int) (L n J : Nat) (hz : ∀ k, L ≤ k → h k = 0) (hJ : J ≤ n + 1) (hL : J = n + 1 ∨ L + B ≤ J * B + 1) (hn : norm h L ≤ 2147483648) (hs : ∀ i, -2147483648 ≤ z i ∧ z i ≤ 2147483647)
    (g : Nat → Int) (hg : ∀ k, k < 2 ^ K → g k = spec K (fun j => blk B z (n - j)) (win B h) J k) (c : Nat) (hc : c < B) : liftv (trans K true g (B + c)) = flt L h z (n * B + c) := by
  rw [win_back hK hN h z L n J hz hJ hL g hg c hc]
  have := flt_62 (h := h) (z := z) (n := n * B + c) (L := L) hn (fun i _ => hs i)
  exact liftv_62 this.1 this.2
theorem spec_zero {K : Nat} (X H : Nat → Nat → Int) (k : Nat) : spec K X H 0 k = 0 := rfl
theorem spec_succ {K : Nat} (X H : Nat → Nat → Int) (J k : Nat) : spec K X H (J + 1) k = (spec K X H J k + (dft K (X J) k * dft K (H J) k) % PP) % PP := by
  unfold spec
  show (sm _ J + _) % PP = _
  rw [md_add]
end Go.Proofs.YtddpcjgekfmhkabDoor

/- A ring of int: place, pieces, join, walked. -/
namespace Go.Proofs.YtddpcjgekfmhkabDoor
open Go.RowKit
set_option linter.unusedSimpArgs false
set_option linter.unusedVariables false

theorem placeI (rb : Nat) (t : TypeId) (room : Int) (sp : Option Addr) (n f c skip : Nat) (w : World) (h : RB w rb t room sp n f c) (hn : n ≤ 281474976710656) (hf : f ≤ n) (hs : skip ≤ n) :
    Calls Tryd.prog 52 #[.pointer (some ⟨rb, 0, none⟩), .int .i64 skip] w fun e w' => e = .returned (.int .i64 (pos f n skip : Nat)) ∧ ∃ m : Nat, w' = w.drewN m := by
  have c1 := h.c1
  have c2 := h.c2
  clear h
  by_cases hlt : (skip : Int) < (n : Int) - f
  · have e : ((pos f n skip : Nat) : Int) = (f : Int) + skip := by unfold pos; rw [if_pos (by omega)]; omega
    rw [e]; clear e
    go_enter Tryd.func52, Tryd.ntmps52
    go_wp2
    go_quiet (fail)
    go_wp2
    go_ret
    exact ⟨by go_num, _, rfl⟩
  · have e : ((pos f n skip : Nat) : Int) = (skip : Int) - ((n : Int) - f) := by unfold pos; rw [if_neg (by omega)]; omega
    rw [e]; clear e
    go_enter Tryd.func52, Tryd.ntmps52
    go_wp2
    go_quiet (fail)
    go_wp2
    go_ret
    exact ⟨by go_num, _, rfl⟩

theorem pieces_nilI (rb : Nat) (t : TypeId) (room : Int) (c : Nat) (w : World) (h : RB w rb t room none 0 0 c) :
    Calls Tryd.prog 50 #[.pointer (some ⟨rb, 0, none⟩), .int .i64 0, .int .i64 0] w fun e w' => e = .returned (.tuple #[.slice none 0 0, .slice none 0 0]) ∧ ∃ m : Nat, w' = w.drewN m := by
  have cp := placeI rb t room none 0 0 c 0 w h (by omega) (by omega) (by omega)
  have ez : pos 0 0 0 = 0 := rfl
  rw [ez] at cp
  have c1 := h.c1
  have c2 := h.c2
  clear h
  go_enter Tryd.func50, Tryd.ntmps50
  go_wp2_with (go_at_call 52; refine cp.mono ?_; rintro e w' ⟨rfl, m, hw⟩; subst w')
  go_wp2
  go_quiet (fail)
  go_wp2
  go_ret2
  exact ⟨rfl, _, drewN_add _ _ _⟩

set_option maxRecDepth 20000 in
theorem pieces_someI (rb gb : Nat) (t : TypeId) (room : Int) (n f c skip k s st : Nat) (w : World) (h : RB w rb t room (some ⟨gb, 0, none⟩) n f c) (hn : n ≤ 281474976710656) (hf : f ≤ n) (hs : skip ≤ n) (hk : k ≤ n) (hp : pos f n skip = s) (hs1 : s < n) (hst : st = Nat.min k (n - s)) :
    Calls Tryd.prog 50 #[.pointer (some ⟨rb, 0, none⟩), .int .i64 skip, .int .i64 k] w fun e w' => e = .returned (.tuple #[.slice (some ⟨gb, s * 1, none⟩) st (n - s), .slice (some ⟨gb, 0, none⟩) (k - st) n]) ∧ ∃ m : Nat, w' = w.drewN m := by
  have cp := placeI rb t room (some ⟨gb, 0, none⟩) n f c skip w h hn hf hs
  rw [hp] at cp
  have c1 := h.c1
  have c2 := h.c2
  have hst' : st = min k (n - s) := hst
  clear h hp hst
  by_cases hlt : k ≤ n - s
  · obtain rfl : st = k := by omega
    have i1 : (st : Int) ≤ (n : Int) - s := by omega
    clear hst'
    go_enter Tryd.func50, Tryd.ntmps50
    go_wp2_with (go_at_call 52; refine cp.mono ?_; rintro e w' ⟨rfl, m, hw⟩; subst w')
    go_wp2
    go_quiet (fail)
    go_wp2
    go_ret2
    refine ⟨?_, _, drewN_add _ _ _⟩
    first | rfl | (simp; done) | (simp; omega)
  · obtain rfl : st = n - s := by omega
    have i1 : ¬ (k : Int) ≤ (n : Int) - s := by omega
    clear hst'
    go_enter Tryd.func50, Tryd.ntmps50
    go_wp2_with (go_at_call 52; refine cp.mono ?_; rintro e w' ⟨rfl, m, hw⟩; subst w')
    go_wp2
    go_quiet (fail)
    go_wp2
    go_ret2
    refine ⟨?_, _, drewN_add _ _ _⟩
    first | rfl | (simp; done) | (simp; omega)

theorem infoI : (Tryd.prog.info? 3).map (fun i => (i.zero, i.size, i.bytes)) = some (some (.int .i64 0), 1, 8) := by kernel_rfl
theorem sizeI : (Tryd.prog.info? 3).map (·.size) = some 1 := by kernel_rfl
theorem zeroI (w : World) : (zeroValue 3).run Tryd.prog w = .ok (.int .i64 0) w := by kernel_rfl
theorem zcellsI : (.int .i64 0 : Value).cells = ([.int .i64 0] : List Value).toArray := rfl
theorem zelI : El 1 [([.int .i64 0] : List Value)] := by
  intro e he
  obtain rfl : e = [.int .i64 0] := by simpa using he
  exact ⟨rfl, by intro v hv; simp at hv; rcases hv with rfl | rfl <;> rfl⟩

theorem joinI (ob N : Nat) (t : TypeId) (hp tp : Option Addr) (st c0 tl c1 : Nat) (O A B : List (List Value)) (w : World) (hO : Rw w ob t O) (eO : El 1 O) (lO : O.length = N) (hA : Src w hp A) (eA : El 1 A) (lA : A.length = st)
    (hB : Src w tp B) (eB : El 1 B) (lB : B.length = tl) (hfit : st + tl ≤ N) (hN : N ≤ 281474976710656) (hnb : ∀ b o, tp = some ⟨b, o, none⟩ → b ≠ ob) :
    Calls Tryd.prog 51 #[.slice (some ⟨ob, 0, none⟩) N N, .slice hp st c0, .slice tp tl c1] w
      fun e w' => e = .returned (.tuple #[]) ∧ Rw w' ob t (splice (splice O 0 A) st B) ∧ Bt (fun k => k = ob) w w' ∧ w'.heap.size = w.heap.size := by
  obtain ⟨w1, r1, k1, b1, z1⟩ := copy_ex (P := Tryd.prog) 24 24 3 3 1 Tryd.underlying24 sizeI (some ⟨ob, 0, none⟩) hp N N st c0 ob 0 O t hO eO A eA (by rw [lA]; exact (Nat.min_eq_left (by omega)).symm) (fun _ => by simp) hA (by omega)
  have l1 : (splice O 0 A).length = N := (length_splice _ _ _ (by omega)).trans lO
  have s1 : Src w1 tp B := hB.bt b1 hnb
  have e1 := eO.spl eA 0
  rw [lA] at r1
  by_cases hlt : st < N
  · obtain ⟨w2, r2, k2, b2, z2⟩ := copy_ex (P := Tryd.prog) 24 24 3 3 1 Tryd.underlying24 sizeI (some ⟨ob, st * 1, none⟩) tp (N - st) (N - st) tl c1 ob st _ t k1 e1 B eB (by rw [lB]; exact (Nat.min_eq_left (by omega)).symm) (fun _ => rfl) s1 (by omega)
    rw [lB] at r2
    have HX : Hid (Rw w2 ob t (splice (splice O 0 A) st B) ∧ Bt (fun k => k = ob) w w2 ∧ w2.heap.size = w.heap.size) := ⟨k2, b1.trans b2 (fun _ _ h => h), z2.trans z1⟩
    clear hO eO hA eA hB eB hnb lO lA lB k1 b1 z1 l1 s1 e1 k2 b2 z2
    try simp only [Nat.mul_one] at r2
    go_enter Tryd.func51, Tryd.ntmps51
    go_wp2
    go_end0
    exact ⟨rfl, HX.out⟩
  · obtain rfl : st = N := by omega
    obtain rfl : tl = 0 := by omega
    obtain ⟨w2, r2, k2, b2, z2⟩ := copy_ex (P := Tryd.prog) 24 24 3 3 1 Tryd.underlying24 sizeI (some ⟨ob, 0, none⟩) tp 0 0 0 c1 ob st _ t k1 e1 B eB (by rw [lB]; rfl) (fun h => by omega) s1 (by omega)
    rw [lB] at r2
    have HX : Hid (Rw w2 ob t (splice (splice O 0 A) st B) ∧ Bt (fun k => k = ob) w w2 ∧ w2.heap.size = w.heap.size) := ⟨k2, b1.trans b2 (fun _ _ h => h), z2.trans z1⟩
    clear hO eO hA eA hB eB hnb lO lA lB k1 b1 z1 l1 s1 e1 k2 b2 z2
    go_enter Tryd.func51, Tryd.ntmps51
    go_wp2
    go_end0
    exact ⟨rfl, HX.out⟩

end Go.Proofs.YtddpcjgekfmhkabDoor

/- A ring of int: grow, walked. -/
namespace Go.Proofs.YtddpcjgekfmhkabDoor
open Go.RowKit
set_option linter.unusedSimpArgs false
set_option linter.unusedVariables false

theorem piecesI (rb gb : Nat) (t : TypeId) (room : Int) (n f c skip k s st : Nat) (w : World) (h : RB w rb t room (if n = 0 then none else some ⟨gb, 0, none⟩) n f c) (hn : n ≤ 281474976710656) (hf : f < n ∨ (n = 0 ∧ f = 0)) (hs : skip ≤ n) (hk : k ≤ n) (hp : pos f n skip = s) (hst : st = Nat.min k (n - s)) :
    Calls Tryd.prog 50 #[.pointer (some ⟨rb, 0, none⟩), .int .i64 skip, .int .i64 k] w fun e w' => ∃ hp tp c0 c1, e = .returned (.tuple #[.slice hp st c0, .slice tp (k - st) c1]) ∧ (0 < n → hp = some ⟨gb, s * 1, none⟩ ∧ tp = some ⟨gb, 0, none⟩) ∧ (n = 0 → hp = none ∧ tp = none) ∧ ∃ m : Nat, w' = w.drewN m := by
  by_cases h0 : n = 0
  · subst h0
    obtain rfl : f = 0 := by omega
    obtain rfl : skip = 0 := by omega
    obtain rfl : k = 0 := by omega
    obtain rfl : st = 0 := by rw [hst]; exact Nat.min_eq_left (Nat.zero_le _)
    refine (pieces_nilI rb t room c w h).mono ?_
    rintro e w' ⟨rfl, hm⟩
    exact ⟨none, none, 0, 0, rfl, fun h => by omega, fun _ => ⟨rfl, rfl⟩, hm⟩
  · rw [if_neg h0] at h
    have hs1 : s < n := by rw [← hp]; unfold pos; split <;> omega
    refine (pieces_someI rb gb t room n f c skip k s st w h hn (by omega) hs hk hp hs1 hst).mono ?_
    rintro e w' ⟨rfl, hm⟩
    exact ⟨_, _, _, _, rfl, fun _ => ⟨rfl, rfl⟩, fun h => absurd h h0, hm⟩

/-- What the first k things are in the row's two pieces. -/
theorem pieces_srcI {RT : TypeId} {M : Nat} {w : World} {rb gb : Nat} {room : Int} {C : List (List Value)} {f : Nat} {L : List (List Value)} (h : RingAt RT 3 1 M w rb gb room C f L) {k s st : Nat} (hs : pos f C.length 0 = s) (hst : st = Nat.min k (C.length - s)) (hk : k ≤ L.length) {hp tp : Option Addr}
    (h1 : 0 < C.length → hp = some ⟨gb, s * 1, none⟩ ∧ tp = some ⟨gb, 0, none⟩) :
    ∃ A B, A ++ B = L.take k ∧ A.length = st ∧ B.length = k - st ∧ El 1 A ∧ El 1 B ∧ Src w hp A ∧ Src w tp B := by
  have hle := h.circ.le
  have hst' : st = min k (C.length - s) := hst
  have hf := h.circ.first
  have hs' : s = if 0 < C.length - f then f + 0 else 0 - (C.length - f) := hs.symm
  have hpc := h.circ.pieces hk
  rw [hs, ← hst] at hpc
  refine ⟨_, _, hpc, ?_, ?_, (h.elC.drop _).take _, h.elC.take _, ?_, ?_⟩
  · simp; split at hs' <;> omega
  · simp; omega
  · by_cases h0 : 0 < C.length
    · exact (h.row h0).1.src h.elC s st hp (fun _ => (h1 h0).1)
    · intro hx; simp at hx; omega
  · by_cases h0 : 0 < C.length
    · have := (h.row h0).1.src h.elC 0 (k - st) tp (fun _ => by rw [(h1 h0).2]; try simp)
      simpa using this
    · intro hx; simp at hx; omega

/-- Ways of a min and a max. -/
theorem ways (old : Nat) (cnt : Nat) (room : Int) (h1 : old < cnt) (h2 : (cnt : Int) ≤ room) : ∃ (tw N : Nat), ((old : Int) + min (old : Int) (room - old) = (tw : Int)) ∧ (max (cnt : Int) (tw : Int) = (N : Int)) ∧ cnt ≤ N ∧ (N = cnt ∨ N ≤ 2 * old) ∧ (N : Int) ≤ room :=
  ⟨old + min old (room.toNat - old), max cnt (old + min old (room.toNat - old)), by omega, by omega, by omega, by omega, by omega⟩

def MkQI (w w1 : World) (N : Nat) : Prop := Rw w1 w.heap.size 3 (List.replicate N [.int .i64 0]) ∧ Bt (fun _ => False) w w1 ∧ w1.heap.size = w.heap.size + 1
def GrowQI (M : Nat) (w w' : World) (rb gb : Nat) (room : Int) (L : List (List Value)) (cnt : Nat) : Prop :=
  ∃ gb' C f, RingAt 88 3 1 M w' rb gb' room C f L ∧ (C.length = 0 → gb' = rb) ∧ cnt ≤ C.length ∧ (gb' = gb ∨ w.heap.size ≤ gb') ∧ Bt (fun k => k = rb) w w'

set_option maxHeartbeats 1000000 in
set_option maxRecDepth 20000 in
theorem growI (rb gb M : Nat) (room : Int) (L : List (List Value)) (cnt : Nat) (w : World) (h : Ring 88 3 1 M w rb gb room L) (hM : M ≤ 8796093022208) (hc : L.length ≤ cnt) (hcM : cnt ≤ M) (hcr : (cnt : Int) ≤ room) :
    Calls Tryd.prog 79 #[.pointer (some ⟨rb, 0, none⟩), .int .i64 cnt] w fun e w' => e = .returned (.tuple #[]) ∧ GrowQI M w w' rb gb room L cnt := by
  obtain ⟨C, f, h, hgb⟩ := h
  obtain ⟨n, hn⟩ : ∃ n, n = C.length := ⟨_, rfl⟩
  have hblk := h.blk
  rw [← hn] at hblk
  have c0 := hblk.c0
  have c1 := hblk.c1
  have c3 := hblk.c3
  have hroom := h.roomM
  have hn2 : n ≤ 2 * M := by rw [hn]; exact h.small
  by_cases hle : cnt ≤ n
  · have HX : Hid (GrowQI M w w rb gb room L cnt) := ⟨gb, C, f, h, hgb, by omega, .inl rfl, Bt.refl _ _⟩
    generalize (if n = 0 then none else some (⟨gb, 0, none⟩ : Addr)) = sp at *
    clear h hblk hgb hn
    have i1 : (cnt : Int) ≤ (n : Int) := by omega
    go_enter Tryd.func79, Tryd.ntmps79
    go_wp2
    (try simp only [Exit.inBlock, Exit.then])
    refine bodyPost_ret (results_none rfl _ _ _) rfl ?_
    exact ⟨rfl, HX.out⟩
  · obtain ⟨tw, N, e1, e2, n1, n2, n3⟩ := ways n cnt room (by omega) hcr
    obtain ⟨s, hs⟩ : ∃ s, pos f n 0 = s := ⟨_, rfl⟩
    obtain ⟨st, hst⟩ : ∃ st, st = Nat.min L.length (n - s) := ⟨_, rfl⟩
    have hCf := h.circ.first
    have hCl := h.circ.le
    rw [← hn] at hCf hCl
    have hrb : rb < w.heap.size := h.blk.lt
    have hgl : gb < w.heap.size := (Ring.lt ⟨C, f, h, hgb⟩).2
    have CP : ∀ w1, Hid (MkQI w w1 N) → Calls Tryd.prog 50 #[.pointer (some ⟨rb, 0, none⟩), .int .i64 0, .int .i64 L.length] w1 fun e w' => ∃ hp tp d0 d1 m, e = .returned (.tuple #[.slice hp st d0, .slice tp (L.length - st) d1]) ∧ w' = w1.drewN m ∧ Hid (PcQ gb 1 n s hp tp) := by
      intro w1 H1
      obtain ⟨k1, b1, z1⟩ := H1.out
      have hblk1 := (h.bt b1 (fun x => x) (fun x => x)).blk
      rw [← hn] at hblk1
      refine (piecesI rb gb _ room n f L.length 0 L.length s st w1 hblk1 (by omega) hCf (by omega) hCl hs hst).mono ?_
      rintro e w' ⟨hp, tp, d0, d1, rfl, hq1, hq0, m, hw⟩
      exact ⟨hp, tp, d0, d1, m, rfl, hw, hq1, hq0⟩
    have CJ : ∀ w1, Hid (MkQI w w1 N) → ∀ hp tp d0 d1 m, Hid (PcQ gb 1 n s hp tp) → Calls Tryd.prog 51 #[.slice (some ⟨w.heap.size, 0, none⟩) N N, .slice hp st d0, .slice tp (L.length - st) d1] (w1.drewN m)
        fun e w3 => e = .returned (.tuple #[]) ∧ (∃ v, w3.cell? ⟨rb, 1, none⟩ = some v) ∧ w3.frozen? ⟨rb, 1, none⟩ = false ∧ (∃ v, w3.cell? ⟨rb, 2, none⟩ = some v) ∧ w3.frozen? ⟨rb, 2, none⟩ = false ∧ Hid (GrowQI M w ((w3.setCell ⟨rb, 1, none⟩ (.slice (some ⟨w.heap.size, 0, none⟩) N N)).setCell ⟨rb, 2, none⟩ (.int .i64 0)) rb gb room L cnt) := by
      intro w1 H1 hp tp d0 d1 m H2
      obtain ⟨k1, b1, z1⟩ := H1.out
      obtain ⟨q1, q0⟩ := H2.out
      have h1 := h.bt b1 (fun x => x) (fun x => x)
      obtain ⟨A, B, hAB, lA, lB, eA, eB, sA, sB⟩ := pieces_srcI (k := L.length) (s := s) (st := st) (hp := hp) (tp := tp) h1 (by rw [← hn]; exact hs) (by rw [← hn]; exact hst) (Nat.le_refl _) (by rw [← hn]; exact q1)
      have hst' : st = min L.length (n - s) := hst
      refine (joinI w.heap.size N 3 hp tp st d0 (L.length - st) d1 (List.replicate N [.int .i64 0]) A B (w1.drewN m) k1 (zelI.replicate N) (by simp) sA eA lA sB eB lB (by omega) (by omega) ?_).mono ?_
      · intro b o e
        by_cases h0 : 0 < n
        · rw [(q1 h0).2] at e; simp at e; omega
        · rw [(q0 (by omega)).2] at e; cases e
      · rintro e w3 ⟨rfl, k3, b3, z3⟩
        have b03 : Bt (fun k => k = w.heap.size) w w3 := (b1.drewN m |>.mono (fun _ _ h => h.elim)).trans b3 (fun _ _ h => h)
        have r3 : RB w3 rb 88 room (if n = 0 then none else some ⟨gb, 0, none⟩) n f L.length := hblk.bt b03 (by omega)
        refine ⟨rfl, ⟨_, r3.c1⟩, r3.fr 1, ⟨_, r3.c2⟩, r3.fr 2, ?_⟩
        have rr := (r3.set1 (some ⟨w.heap.size, 0, none⟩) N).set2 0
        have hL : A ++ B = L := by rw [hAB]; exact List.take_of_length_le (Nat.le_refl _)
        have hci := Circ.fresh (N := N) ([.int .i64 0] : List Value) hL (by omega) (by omega)
        rw [lA] at hci
        have l1 : (splice (List.replicate N ([.int .i64 0] : List Value)) 0 A).length = N := (length_splice _ _ _ (by simp; omega)).trans (by simp)
        have l2 : (splice (splice (List.replicate N ([.int .i64 0] : List Value)) 0 A) st B).length = N := (length_splice _ _ _ (by omega)).trans l1
        refine ⟨w.heap.size, _, 0, ⟨hci, ((zelI.replicate N).spl eA 0).spl eB st, h.elL, by rw [l2]; omega, ?_, fun _ => ⟨?_, by omega⟩, h.le, h.roomM⟩, fun e => by omega, by omega, .inr (Nat.le_refl _), ?_⟩
        · rw [l2, if_neg (by omega)]; exact rr
        · exact (Rw.bt k3 (((Bt.refl (fun k => k = rb) w3).setCell (fun _ => rfl) _).setCell (fun _ => rfl) _) (by omega))
        · exact ((b03.mono (T := fun k => k = rb) (fun i hi h => by omega)).setCell (fun _ => rfl) _).setCell (fun _ => rfl) _
    have hN2 : N * 8 ≤ 281474976710656 := by omega
    have hbt : ∀ w1, Hid (MkQI w w1 N) → w1.cell? ⟨rb, 0, none⟩ = some (.int .i64 room) ∧ w1.cell? ⟨rb, 3, none⟩ = some (.int .i64 L.length) := by
      intro w1 H1
      obtain ⟨k1, b1, z1⟩ := H1.out
      have r := hblk.bt b1 (fun x => x)
      exact ⟨r.c0, r.c3⟩
    generalize (if n = 0 then none else some (⟨gb, 0, none⟩ : Addr)) = sp at *
    clear h hn hs hst hblk hgb hCf n2
    have i1 : ¬ (cnt : Int) ≤ (n : Int) := by omega
    go_enter Tryd.func79, Tryd.ntmps79
    go_wp2_with (first
      | (at_make; refine wpList_make_el rfl _ _ 24 3 rfl Tryd.underlying24 (.int .i64 0) [.int .i64 0] 1 8 infoI zcellsI rfl N _ rfl rfl (by omega) hN2 (by omega) ?_; intro w1 H1; obtain ⟨d0, d3⟩ := hbt w1 H1)
      | (go_at_call 50; refine (CP w1 H1).mono ?_; rintro e w' ⟨hp, tp, d0, d1, m, rfl, hw, H2⟩; subst w')
      | (go_at_call 51; refine (CJ w1 H1 hp tp d0 d1 m H2).mono ?_; rintro e w3 ⟨rfl, ⟨v1, g1⟩, f1, ⟨v2, g2⟩, f2, HX⟩))
    all_goals go_end0
    all_goals exact ⟨rfl, HX.out⟩

end Go.Proofs.YtddpcjgekfmhkabDoor
