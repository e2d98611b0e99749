/- The plain mathematics of numbers below the prime. Nothing of the program is named here. -/
namespace Go.Proofs.YtddpcjgekfmhkaaDoor

/-- The prime. -/
def PP : Int := 18446744069414584321
theorem PP_eq : PP = 18446744069414584321 := rfl
theorem PP_pos : (0 : Int) < PP := by rw [PP_eq]; omega

theorem md_lt (a : Int) : a % PP < PP := Int.emod_lt_of_pos _ PP_pos
theorem md_nn (a : Int) : 0 ≤ a % PP := Int.emod_nonneg _ (by rw [PP_eq]; omega)
theorem md_bd (a : Int) : 0 ≤ a % PP ∧ a % PP ≤ 18446744069414584320 := by
  have := md_lt a; have := md_nn a; rw [PP_eq] at *; omega
theorem md_md (a : Int) : a % PP % PP = a % PP := Int.emod_emod_of_dvd _ (Int.dvd_refl _)
theorem md_small {a : Int} (h0 : 0 ≤ a) (h1 : a ≤ 18446744069414584320) : a % PP = a := Int.emod_eq_of_lt h0 (by rw [PP_eq]; omega)
theorem md_add (a b : Int) : (a % PP + b % PP) % PP = (a + b) % PP := (Int.add_emod a b PP).symm
theorem md_sub (a b : Int) : (a % PP - b % PP) % PP = (a - b) % PP := (Int.sub_emod a b PP).symm
theorem md_mul (a b : Int) : (a % PP * (b % PP)) % PP = (a * b) % PP := (Int.mul_emod a b PP).symm
theorem md_add_l (a b : Int) : (a % PP + b) % PP = (a + b) % PP := by rw [Int.add_emod, md_md, ← Int.add_emod]
theorem md_add_r (a b : Int) : (a + b % PP) % PP = (a + b) % PP := by rw [Int.add_emod, md_md, ← Int.add_emod]
theorem md_sub_l (a b : Int) : (a % PP - b) % PP = (a - b) % PP := by rw [Int.sub_emod, md_md, ← Int.sub_emod]
theorem md_sub_r (a b : Int) : (a - b % PP) % PP = (a - b) % PP := by rw [Int.sub_emod, md_md, ← Int.sub_emod]
theorem md_mul_l (a b : Int) : (a % PP * b) % PP = (a * b) % PP := by rw [Int.mul_emod, md_md, ← Int.mul_emod]
theorem md_mul_r (a b : Int) : (a * (b % PP)) % PP = (a * b) % PP := by rw [Int.mul_emod, md_md, ← Int.mul_emod]
theorem md_add_PP (a : Int) : (a + PP) % PP = a % PP := Int.add_emod_right a PP
theorem md_sub_PP (a : Int) : (a - PP) % PP = a % PP := Int.sub_emod_right a PP
theorem md_of {a b : Int} (k : Int) (h : a = b + k * PP) : a % PP = b % PP := by rw [h, Int.add_mul_emod_self_right]

theorem element_yes {a : Int} (h : 18446744069414584321 ≤ a) (h1 : a ≤ 18446744073709551615) : a - 18446744069414584321 = a % PP := by
  have e : a % PP = (a - PP) % PP := (md_sub_PP a).symm
  rw [e, md_small (by rw [PP_eq]; omega) (by rw [PP_eq]; omega), PP_eq]
theorem element_no {a : Int} (h0 : 0 ≤ a) (h : ¬ 18446744069414584321 ≤ a) : a = a % PP := (md_small h0 (by omega)).symm

theorem add_yes (a b : Int) (h : 18446744069414584321 - b % PP ≤ a % PP) : a % PP - (18446744069414584321 - b % PP) = (a + b) % PP := by
  simp only [PP_eq] at *; omega
theorem add_no (a b : Int) (h : ¬ 18446744069414584321 - b % PP ≤ a % PP) : a % PP + b % PP = (a + b) % PP := by
  simp only [PP_eq] at *; omega
theorem sub_yes (a b : Int) (h : b % PP ≤ a % PP) : a % PP - b % PP = (a - b) % PP := by
  simp only [PP_eq] at *; omega
theorem sub_no (a b : Int) (h : ¬ b % PP ≤ a % PP) : a % PP + (18446744069414584321 - b % PP) = (a - b) % PP := by
  simp only [PP_eq] at *; omega

/-- 2^64 is 2^32 - 1, 2^96 is -1. -/
theorem fold_eq (h l : Int) : ((l - h / 4294967296) % PP + (h % 4294967296) * 4294967295) % PP = (h * 18446744073709551616 + l) % PP := by
  rw [md_add_l]
  refine md_of (-(h % 4294967296) - (h / 4294967296) * 4294967297) ?_
  have e := Int.mul_ediv_add_emod h 4294967296
  rw [PP_eq]; omega

/-- A power, less the prime. -/
def pw (a : Int) (n : Nat) : Int := a ^ n % PP
theorem pw_zero (a : Int) : pw a 0 = 1 := by unfold pw; rw [Int.pow_zero]; exact md_small (by omega) (by omega)
theorem pw_one (a : Int) : pw a 1 = a % PP := by unfold pw; rw [Int.pow_one]
theorem pw_succ (a : Int) (n : Nat) : pw a (n + 1) = (pw a n * a) % PP := by unfold pw; rw [Int.pow_succ, md_mul_l]
theorem pw_add (a : Int) (m n : Nat) : pw a (m + n) = (pw a m * pw a n) % PP := by unfold pw; rw [Int.pow_add, md_mul]
theorem pw_md (a : Int) (n : Nat) : pw (a % PP) n = pw a n := by
  induction n with
  | zero => rw [pw_zero, pw_zero]
  | succ n ih => rw [pw_succ, pw_succ, ih, md_mul_r]
theorem pw_mul (a : Int) (m n : Nat) : pw a (m * n) = pw (pw a m) n := by
  induction n with
  | zero => rw [Nat.mul_zero, pw_zero, pw_zero]
  | succ n ih => rw [Nat.mul_succ, pw_add, ih, pw_succ]
theorem pw_dist (a b : Int) (n : Nat) : pw (a * b) n = (pw a n * pw b n) % PP := by unfold pw; rw [Int.mul_pow, md_mul]
theorem pw_one_l (n : Nat) : pw 1 n = 1 := by unfold pw; rw [Int.one_pow]; exact md_small (by omega) (by omega)
theorem pw_bd (a : Int) (n : Nat) : 0 ≤ pw a n ∧ pw a n ≤ 18446744069414584320 := md_bd _
theorem pw_pw_md (a : Int) (n : Nat) : pw a n % PP = pw a n := md_md _
theorem pw_two (a : Int) (n : Nat) : pw a (2 * n) = pw (a * a) n := by rw [pw_dist, Nat.two_mul, pw_add]
theorem pw_sq (a : Int) (n : Nat) : pw ((a * a) % PP) n = pw a (2 * n) := by rw [pw_md, pw_two]

theorem pow_odd (p s : Int) (m : Nat) (h : m % 2 = 1) : ((p * s) % PP * pw ((s * s) % PP) (m / 2)) % PP = (p * pw s m) % PP := by
  have e : m = 2 * (m / 2) + 1 := by omega
  rw [pw_sq, md_mul_l]
  conv => rhs; rw [e, pw_succ, md_mul_r]
  rw [Int.mul_assoc, Int.mul_comm s]
theorem pow_even (p s : Int) (m : Nat) (h : ¬ m % 2 = 1) : (p * pw ((s * s) % PP) (m / 2)) % PP = (p * pw s m) % PP := by
  have e : m = 2 * (m / 2) := by omega
  rw [pw_sq]
  conv => rhs; rw [e]
theorem pow_start (a : Int) (n : Nat) : (1 * pw a n) % PP = pw a n := by rw [Int.one_mul, pw_pw_md]
theorem pow_end {p s : Int} (h0 : 0 ≤ p) (h1 : p ≤ 18446744069414584320) : (p * pw s 0) % PP = p := by rw [pw_zero, Int.mul_one, md_small h0 h1]

/-- The same, by squaring: for the kernel. -/
def pwf : Nat → Int → Nat → Int
  | 0, _, _ => 1
  | f + 1, a, n => if n = 0 then 1 else if n % 2 = 1 then (pwf f ((a * a) % PP) (n / 2) * a) % PP else pwf f ((a * a) % PP) (n / 2)
theorem pwf_eq (f : Nat) : ∀ (a : Int) (n : Nat), n < 2 ^ f → pwf f a n = pw a n := by
  induction f with
  | zero => intro a n h; have : n = 0 := by simpa using h
            subst this; rw [pw_zero]; rfl
  | succ f ih =>
    intro a n h
    unfold pwf
    by_cases h0 : n = 0
    · rw [if_pos h0, h0, pw_zero]
    · rw [if_neg h0]
      have hn : n / 2 < 2 ^ f := by rw [Nat.pow_succ] at h; omega
      by_cases h1 : n % 2 = 1
      · rw [if_pos h1, ih _ _ hn, pw_sq, ← pw_succ]; congr 1; omega
      · rw [if_neg h1, ih _ _ hn, pw_sq]; congr 1; omega

theorem half_step (y : Int) (i : Nat) : y / 2 ^ i = 2 * (y / 2 ^ (i + 1)) + y / 2 ^ i % 2 := by
  have e : y / 2 ^ (i + 1) = y / 2 ^ i / 2 := by
    rw [Int.pow_succ, Int.ediv_ediv_of_nonneg (Int.le_of_lt (Int.pow_pos (by decide)))]
  rw [e]; omega
theorem mul_bit1 (a y : Int) (i : Nat) (h : y / 2 ^ i % 2 = 1) : (((a * (y / 2 ^ (i + 1))) % PP + (a * (y / 2 ^ (i + 1))) % PP) % PP + a) % PP = (a * (y / 2 ^ i)) % PP := by
  rw [md_add, md_add_l, half_step y i, h]
  congr 1; grind
theorem mul_bit0 (a y : Int) (i : Nat) (h : y / 2 ^ i % 2 = 0) : ((a * (y / 2 ^ (i + 1))) % PP + (a * (y / 2 ^ (i + 1))) % PP) % PP = (a * (y / 2 ^ i)) % PP := by
  rw [md_add, half_step y i, h]
  congr 1; grind
theorem mul_top (a y : Int) (h0 : 0 ≤ y) (h1 : y ≤ 18446744073709551615) : (a * (y / 2 ^ 64)) % PP = 0 := by
  have e : y / 2 ^ 64 = 0 := by rw [show (2 : Int) ^ 64 = 18446744073709551616 by decide]; omega
  rw [e, Int.mul_zero]; rfl
theorem mul_last (a y : Int) : (a * (y / 2 ^ 0)) % PP = (a * y) % PP := by rw [Int.pow_zero, Int.ediv_one]
theorem half_step_nat (n i : Nat) : n / 2 ^ i = 2 * (n / 2 ^ (i + 1)) + n / 2 ^ i % 2 := by
  rw [Nat.pow_succ, ← Nat.div_div_eq_div_mul]; omega
theorem pow_bit1 (a : Int) (n i : Nat) (h : n / 2 ^ i % 2 = 1) : (pw a (n / 2 ^ (i + 1)) * pw a (n / 2 ^ (i + 1)) % PP * a) % PP = pw a (n / 2 ^ i) := by
  rw [← pw_add, ← pw_succ]; congr 1; have := half_step_nat n i; omega
theorem pow_bit0 (a : Int) (n i : Nat) (h : n / 2 ^ i % 2 = 0) : (pw a (n / 2 ^ (i + 1)) * pw a (n / 2 ^ (i + 1))) % PP = pw a (n / 2 ^ i) := by
  rw [← pw_add]; congr 1; have := half_step_nat n i; omega

/-- The exponents, behind names. -/
def ordE : Nat := 18446744069414584320
def invE : Nat := 18446744069414584319
theorem ordE_eq : ordE = 18446744069414584320 := rfl
theorem invE_eq : invE = 18446744069414584319 := rfl
theorem invE_succ : invE + 1 = ordE := rfl

theorem seven_ord : pw 7 ordE = 1 := by rw [← pwf_eq 64 _ _ (by decide)]; decide +kernel
theorem seven_half : pw 7 9223372034707292160 = 18446744069414584320 := by rw [← pwf_eq 64 _ _ (by decide)]; decide +kernel

/-- Lifting. -/
def liftv (a : Int) : Int := if a % PP ≤ 9223372034707292160 then a % PP else a % PP - PP

/-- The root of a size. -/
def rootE (k : Nat) : Nat := 18446744069414584320 / 2 ^ k
def rootk (k : Nat) : Int := pw 7 (rootE k)
theorem rootE_mul {k : Nat} (h : k ≤ 32) : rootE k * 2 ^ k = ordE := by
  unfold rootE
  refine Nat.div_mul_cancel ?_
  refine Nat.dvd_trans (Nat.pow_dvd_pow 2 h) ?_
  exact ⟨4294967295, by decide⟩
theorem rootk_pw {k : Nat} (h : k ≤ 32) : pw (rootk k) (2 ^ k) = 1 := by
  unfold rootk; rw [← pw_mul, rootE_mul h]; exact seven_ord
theorem rootE_half {k : Nat} (h : k + 1 ≤ 32) : rootE (k + 1) * 2 ^ k = 9223372034707292160 := by
  have e := rootE_mul h
  rw [Nat.pow_succ, ← Nat.mul_assoc, ordE_eq] at e
  omega
theorem rootk_half {k : Nat} (h : k + 1 ≤ 32) : pw (rootk (k + 1)) (2 ^ k) = 18446744069414584320 := by
  unfold rootk; rw [← pw_mul, rootE_half h]; exact seven_half

/-- What is a power of two. -/
theorem pow2_of_and (m : Nat) : ∀ n, n ≤ m → 1 ≤ n → n &&& (n - 1) = 0 → ∃ k, n = 2 ^ k := by
  induction m with
  | zero => intro n h1 h2; omega
  | succ m ih =>
    intro n hn h1 ha
    by_cases ho : n % 2 = 1
    · by_cases hz : n = 1
      · exact ⟨0, by simpa using hz⟩
      · exfalso
        have e1 : (n &&& (n - 1)) / 2 = (n / 2) &&& ((n - 1) / 2) := by
          have := Nat.and_div_two_pow (a := n) (b := n - 1) (n := 1); simpa using this
        have e2 : (n - 1) / 2 = n / 2 := by omega
        rw [ha, e2, Nat.and_self] at e1
        omega
    · have hz : 1 ≤ n / 2 := by omega
      have e1 : (n &&& (n - 1)) / 2 = (n / 2) &&& ((n - 1) / 2) := by
        have := Nat.and_div_two_pow (a := n) (b := n - 1) (n := 1); simpa using this
      have e2 : (n - 1) / 2 = n / 2 - 1 := by omega
      rw [ha, e2] at e1
      obtain ⟨k, hk⟩ := ih (n / 2) (by omega) hz (by omega)
      exact ⟨k + 1, by rw [Nat.pow_succ]; omega⟩
theorem and_of_pow2 (k : Nat) : 2 ^ k &&& (2 ^ k - 1) = 0 := by
  rw [Nat.and_two_pow_sub_one_eq_mod, Nat.mod_self]

end Go.Proofs.YtddpcjgekfmhkaaDoor
