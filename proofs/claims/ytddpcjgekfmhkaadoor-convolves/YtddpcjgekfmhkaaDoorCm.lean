/- The mathematics of Convolve: the inverse transform of products of transforms. -/
import Derived.Test.YtddpcjgekfmhkaaDoorCo
namespace Go.Proofs.YtddpcjgekfmhkaaDoor
set_option linter.unusedVariables false

def tm (za zb : Nat → Int) (c i j : Nat) : Int := if i + j = c then za i * zb j else 0
def cv (la lb : Nat) (za zb : Nat → Int) (c : Nat) : Int := sm (fun i => sm (tm za zb c i) lb) la

theorem sm_abs (B : Int) (f : Nat → Int) : ∀ n : Nat, (∀ i, i < n → -B ≤ f i ∧ f i ≤ B) → -(n * B) ≤ sm f n ∧ sm f n ≤ n * B
  | 0, _ => by simp [sm]
  | n + 1, h => by
    have ih := sm_abs B f n (fun i hi => h i (by omega))
    have hn := h n (by omega)
    have e : ((n + 1 : Nat) : Int) * B = n * B + B := by rw [Int.natCast_succ, Int.add_mul, Int.one_mul]
    rw [e]
    unfold sm
    generalize (n : Int) * B = q at *
    omega

theorem tm_abs {la lb : Nat} {za zb : Nat → Int} (ha : ∀ i, i < la → -32768 ≤ za i ∧ za i ≤ 32767) (hb : ∀ i, i < lb → -32768 ≤ zb i ∧ zb i ≤ 32767) (c i j : Nat) (hi : i < la) (hj : j < lb) : -1073741824 ≤ tm za zb c i j ∧ tm za zb c i j ≤ 1073741824 := by
  unfold tm
  split
  · have h1 := ha i hi
    have h2 := hb j hj
    generalize za i = x at *
    generalize zb j = y at *
    have e1 : -(32768 * 32768) ≤ x * y := by
      have a1 : 0 ≤ (x + 32768) * (32768 - y) := Int.mul_nonneg (by omega) (by omega)
      have a2 : 0 ≤ (32768 - x) * (y + 32768) := Int.mul_nonneg (by omega) (by omega)
      have : (x + 32768) * (32768 - y) + (32768 - x) * (y + 32768) = 2 * (32768 * 32768) - 2 * (x * y) := by grind
      have b1 : 0 ≤ (x + 32768) * (y + 32768) := Int.mul_nonneg (by omega) (by omega)
      have b2 : 0 ≤ (32768 - x) * (32768 - y) := Int.mul_nonneg (by omega) (by omega)
      have : (x + 32768) * (y + 32768) + (32768 - x) * (32768 - y) = 2 * (32768 * 32768) + 2 * (x * y) := by grind
      omega
    have e2 : x * y ≤ 32768 * 32768 := by
      have a1 : 0 ≤ (x + 32768) * (32768 - y) := Int.mul_nonneg (by omega) (by omega)
      have a2 : 0 ≤ (32768 - x) * (y + 32768) := Int.mul_nonneg (by omega) (by omega)
      have : (x + 32768) * (32768 - y) + (32768 - x) * (y + 32768) = 2 * (32768 * 32768) - 2 * (x * y) := by grind
      omega
    omega
  · omega

theorem row_abs {la lb : Nat} {za zb : Nat → Int} (ha : ∀ i, i < la → -32768 ≤ za i ∧ za i ≤ 32767) (hb : ∀ i, i < lb → -32768 ≤ zb i ∧ zb i ≤ 32767) (c i k : Nat) (hi : i < la) (hk : k ≤ lb) (hm : lb ≤ 1024) : -1099511627776 ≤ sm (tm za zb c i) k ∧ sm (tm za zb c i) k ≤ 1099511627776 := by
  have h := sm_abs 1073741824 (tm za zb c i) k (fun j hj => tm_abs ha hb c i j hi (by omega))
  omega
theorem cv_abs {la lb : Nat} {za zb : Nat → Int} (ha : ∀ i, i < la → -32768 ≤ za i ∧ za i ≤ 32767) (hb : ∀ i, i < lb → -32768 ≤ zb i ∧ zb i ≤ 32767) (c k : Nat) (hk : k ≤ la) (hm0 : la ≤ 1024) (hm : lb ≤ 1024) : -1125899906842624 ≤ cv k lb za zb c ∧ cv k lb za zb c ≤ 1125899906842624 := by
  have h := sm_abs 1099511627776 (fun i => sm (tm za zb c i) lb) k (fun i hi => row_abs ha hb c i lb (by omega) (Nat.le_refl _) hm)
  unfold cv
  omega

theorem sm_ext (f : Nat → Int) (n : Nat) : ∀ m, n ≤ m → (∀ i, n ≤ i → i < m → f i = 0) → sm f m = sm f n
  | 0, h, _ => by obtain rfl : n = 0 := by omega
                  rfl
  | m + 1, h, hz => by
    by_cases e : n = m + 1
    · subst e; rfl
    · show sm f m + f m = _
      rw [hz m (by omega) (by omega), Int.add_zero]
      exact sm_ext f n m (by omega) (fun i h1 h2 => hz i h1 (by omega))

theorem dft_emb {K la : Nat} (h : la ≤ 2 ^ K) (z : Nat → Int) (i : Nat) : dft K (emb la z) i = sm (fun l => z l * pw (rootk K) (l * i)) la % PP := by
  unfold dft
  rw [sm_ext _ la (2 ^ K) h (fun l h1 _ => by unfold emb; rw [if_neg (by omega), Int.zero_mul])]
  refine sm_md _ fun l hl => ?_
  unfold emb
  rw [if_pos hl, md_mul_l]

theorem sm_mul_r (c : Int) (f : Nat → Int) (n : Nat) : sm f n * c = sm (fun i => f i * c) n := by
  rw [Int.mul_comm, sm_mul]
  exact sm_congr _ fun i _ => Int.mul_comm _ _

theorem dft_cv {K la lb : Nat} (hla : 1 ≤ la) (hlb : 1 ≤ lb) (h : la + lb - 1 ≤ 2 ^ K) (za zb : Nat → Int) (i : Nat) : dft K (cv la lb za zb) i = prod K la lb za zb i := by
  unfold prod
  rw [dft_emb (by omega), dft_emb (by omega), md_mul]
  unfold dft cv
  have s1 : ∀ c, sm (fun a => sm (tm za zb c a) lb) la * pw (rootk K) (c * i) = sm (fun a => sm (fun b => tm za zb c a b * pw (rootk K) (c * i)) lb) la := by
    intro c
    rw [sm_mul_r]
    exact sm_congr _ fun a _ => sm_mul_r _ _ _
  rw [sm_congr _ (fun c _ => s1 c), sm_swap (fun c a => sm (fun b => tm za zb c a b * pw (rootk K) (c * i)) lb), sm_mul_r]
  refine sm_md _ fun a ha => ?_
  rw [sm_swap (fun c b => tm za zb c a b * pw (rootk K) (c * i)), sm_mul]
  refine sm_md _ fun b hb => ?_
  rw [sm_one (a + b) _ _ (by omega) (fun c _ hne => by unfold tm; rw [if_neg (by omega), Int.zero_mul]; rfl)]
  unfold tm
  rw [if_pos rfl, Nat.add_mul, pw_add, md_mul_r]
  congr 1; grind

/-- What comes of it all. -/
theorem conv_eq {K la lb : Nat} (hK : K ≤ 32) (hla : 1 ≤ la) (hlb : 1 ≤ lb) (h : la + lb - 1 ≤ 2 ^ K) (za zb : Nat → Int) (c : Nat) (hc : c < la + lb - 1) : trans K true (prod K la lb za zb) c = cv la lb za zb c % PP := by
  rw [← dft_back hK (cv la lb za zb) c (by omega)]
  have e : idft K (dft K (cv la lb za zb)) c = idft K (prod K la lb za zb) c := by
    unfold idft
    rw [sm_congr _ (fun i _ => by rw [dft_cv hla hlb h])]
  rw [e]
  unfold trans
  rfl

theorem liftv_md {v : Int} (h0 : -1125899906842624 ≤ v) (h1 : v ≤ 1125899906842624) : liftv (v % PP) = v := by
  unfold liftv
  rw [md_md, PP_eq]
  by_cases h : 0 ≤ v
  · rw [Int.emod_eq_of_lt h (by omega), if_pos (by omega)]
  · have e : v % 18446744069414584321 = v + 18446744069414584321 := by omega
    rw [e, if_neg (by omega)]; omega

theorem conv_lift {K la lb : Nat} (hK : K ≤ 32) (hla : 1 ≤ la) (hlb : 1 ≤ lb) (hs : la + lb ≤ 1025) (h : la + lb - 1 ≤ 2 ^ K) {za zb : Nat → Int} (ha : ∀ i, i < la → -32768 ≤ za i ∧ za i ≤ 32767) (hb : ∀ i, i < lb → -32768 ≤ zb i ∧ zb i ≤ 32767) (c : Nat) (hc : c < la + lb - 1) : liftv (trans K true (prod K la lb za zb) c) = cv la lb za zb c := by
  have b := cv_abs ha hb c la (Nat.le_refl _) (by omega) (by omega)
  rw [conv_eq hK hla hlb h za zb c hc, liftv_md b.1 b.2]

end Go.Proofs.YtddpcjgekfmhkaaDoor
