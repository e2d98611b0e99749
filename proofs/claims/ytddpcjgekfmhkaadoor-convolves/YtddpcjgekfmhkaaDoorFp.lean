/- 7 is a root of all numbers below the prime but 0: so each of them, taken PP - 1 times, is 1. Plain mathematics. -/
import Derived.Test.YtddpcjgekfmhkaaDoorFm
namespace Go.Proofs.YtddpcjgekfmhkaaDoor

theorem pigeon (n : Nat) : ∀ f : Nat → Nat, (∀ i, i < n → f i < n) → (∀ i j, i < n → j < n → f i = f j → i = j) → ∀ y, y < n → ∃ i, i < n ∧ f i = y := by
  induction n with
  | zero => intro f _ _ y hy; omega
  | succ n ih =>
    intro f hf hi y hy
    by_cases hv : f n = n
    · have hlt : ∀ i, i < n → f i < n := by
        intro i h
        have h1 := hf i (by omega)
        have h2 : f i ≠ n := by
          intro h3
          have := hi i n (by omega) (by omega) (by omega)
          omega
        omega
      by_cases hyn : y = n
      · exact ⟨n, by omega, by omega⟩
      · obtain ⟨i, h1, h2⟩ := ih f hlt (fun i j a b c => hi i j (by omega) (by omega) c) y (by omega)
        exact ⟨i, by omega, h2⟩
    · have hvn : f n < n := by have := hf n (by omega); omega
      have hnv : ∀ i, i < n → f i ≠ f n := by
        intro i h h3
        have := hi i n (by omega) (by omega) h3
        omega
      have key := ih (fun i => if f i = n then f n else f i)
        (by
          intro i h
          show (if f i = n then f n else f i) < n
          by_cases hc : f i = n
          · rw [if_pos hc]; exact hvn
          · rw [if_neg hc]; have := hf i (by omega); omega)
        (by
          intro i j a b c
          have c' : (if f i = n then f n else f i) = (if f j = n then f n else f j) := c
          have ni := hnv i a
          have nj := hnv j b
          by_cases ci : f i = n
          · by_cases cj : f j = n
            · exact hi i j (by omega) (by omega) (by omega)
            · rw [if_pos ci, if_neg cj] at c'; omega
          · by_cases cj : f j = n
            · rw [if_neg ci, if_pos cj] at c'; omega
            · rw [if_neg ci, if_neg cj] at c'; exact hi i j (by omega) (by omega) c')
      by_cases hyv : y = f n
      · exact ⟨n, by omega, by omega⟩
      · by_cases hyn : y = n
        · obtain ⟨i, h1, h2⟩ := key (f n) hvn
          have h2' : (if f i = n then f n else f i) = f n := h2
          refine ⟨i, by omega, ?_⟩
          by_cases ci : f i = n
          · omega
          · rw [if_neg ci] at h2'; exact absurd h2' (hnv i h1)
        · obtain ⟨i, h1, h2⟩ := key y (by omega)
          have h2' : (if f i = n then f n else f i) = y := h2
          refine ⟨i, by omega, ?_⟩
          by_cases ci : f i = n
          · rw [if_pos ci] at h2'; omega
          · rw [if_neg ci] at h2'; exact h2'

theorem pw_mod {a : Int} {m n : Nat} (hm : pw a m = 1) (hn : pw a n = 1) : pw a (n % m) = 1 := by
  have e : n = m * (n / m) + n % m := (Nat.div_add_mod n m).symm
  rw [e, pw_add, pw_mul, hm, pw_one_l, Int.one_mul, pw_pw_md] at hn
  exact hn
theorem pw_gcd (a : Int) (m n : Nat) : pw a m = 1 → pw a n = 1 → pw a (Nat.gcd m n) = 1 := by
  induction m, n using Nat.gcd.induction with
  | H0 n => intro _ h; rw [Nat.gcd_zero_left]; exact h
  | H1 m n _ ih => intro h1 h2; rw [Nat.gcd_rec]; exact ih (pw_mod h1 h2) h1

theorem small_prime (q b : Nat) (hb : q < b * b) (hd : ∀ r, r < b → q % r = 0 → r = 1) (r : Nat) (h : r ∣ q) : r = 1 ∨ r = q := by
  obtain ⟨s, hs⟩ := h
  by_cases h1 : r < b
  · exact Or.inl (hd r h1 (by rw [hs, Nat.mul_mod_right]))
  · by_cases h2 : s < b
    · have := hd s h2 (by rw [hs, Nat.mul_mod_left])
      subst this; right; omega
    · exfalso
      have := Nat.mul_le_mul (Nat.le_of_not_lt h1) (Nat.le_of_not_lt h2)
      omega
theorem pr2 : ∀ r, r ∣ 2 → r = 1 ∨ r = 2 := small_prime 2 2 (by decide) (by decide)
theorem pr3 : ∀ r, r ∣ 3 → r = 1 ∨ r = 3 := small_prime 3 2 (by decide) (by decide)
theorem pr5 : ∀ r, r ∣ 5 → r = 1 ∨ r = 5 := small_prime 5 3 (by decide) (by decide)
theorem pr17 : ∀ r, r ∣ 17 → r = 1 ∨ r = 17 := small_prime 17 5 (by decide) (by decide)
theorem pr257 : ∀ r, r ∣ 257 → r = 1 ∨ r = 257 := small_prime 257 17 (by decide) (by decide)
theorem pr65537 : ∀ r, r ∣ 65537 → r = 1 ∨ r = 65537 := small_prime 65537 257 (by decide) (by decide +kernel)

theorem cop {c q : Nat} (hq : ∀ r, r ∣ q → r = 1 ∨ r = q) (h : ¬ q ∣ c) : Nat.Coprime c q := by
  rcases hq (Nat.gcd c q) (Nat.gcd_dvd_right c q) with h1 | h1
  · exact h1
  · exact absurd (h1 ▸ Nat.gcd_dvd_left c q) h

theorem prime_divisor {c : Nat} (h : c ∣ ordE) (h1 : c ≠ 1) : 2 ∣ c ∨ 3 ∣ c ∨ 5 ∣ c ∨ 17 ∣ c ∨ 257 ∣ c ∨ 65537 ∣ c := by
  have e : ordE = 2 ^ 32 * (3 * (5 * (17 * (257 * (65537 * 1))))) := by decide
  rw [e] at h
  by_cases h2 : 2 ∣ c; · exact Or.inl h2
  by_cases h3 : 3 ∣ c; · exact Or.inr (Or.inl h3)
  by_cases h5 : 5 ∣ c; · exact Or.inr (Or.inr (Or.inl h5))
  by_cases h17 : 17 ∣ c; · exact Or.inr (Or.inr (Or.inr (Or.inl h17)))
  by_cases h257 : 257 ∣ c; · exact Or.inr (Or.inr (Or.inr (Or.inr (Or.inl h257))))
  by_cases h6 : 65537 ∣ c; · exact Or.inr (Or.inr (Or.inr (Or.inr (Or.inr h6))))
  exfalso
  have a := Nat.Coprime.dvd_of_dvd_mul_left (Nat.Coprime.pow_right 32 (cop pr2 h2)) h
  have a := Nat.Coprime.dvd_of_dvd_mul_left (cop pr3 h3) a
  have a := Nat.Coprime.dvd_of_dvd_mul_left (cop pr5 h5) a
  have a := Nat.Coprime.dvd_of_dvd_mul_left (cop pr17 h17) a
  have a := Nat.Coprime.dvd_of_dvd_mul_left (cop pr257 h257) a
  have a := Nat.Coprime.dvd_of_dvd_mul_left (cop pr65537 h6) a
  exact h1 (Nat.dvd_one.1 a)

theorem no2 : pw 7 9223372034707292160 ≠ 1 := by rw [← pwf_eq 64 _ _ (by decide)]; decide +kernel
theorem no3 : pw 7 6148914689804861440 ≠ 1 := by rw [← pwf_eq 64 _ _ (by decide)]; decide +kernel
theorem no5 : pw 7 3689348813882916864 ≠ 1 := by rw [← pwf_eq 64 _ _ (by decide)]; decide +kernel
theorem no17 : pw 7 1085102592318504960 ≠ 1 := by rw [← pwf_eq 64 _ _ (by decide)]; decide +kernel
theorem no257 : pw 7 71777214277877760 ≠ 1 := by rw [← pwf_eq 64 _ _ (by decide)]; decide +kernel
theorem no65537 : pw 7 281470681743360 ≠ 1 := by rw [← pwf_eq 64 _ _ (by decide)]; decide +kernel

theorem no_short {g c q m : Nat} (hg : pw 7 g = 1) (hc : c * g = ordE) (hq : q ∣ c) (hm : q * m = ordE) (hq0 : 0 < q) : pw 7 m = 1 := by
  obtain ⟨c', rfl⟩ := hq
  have : m = g * c' := by
    have e : q * m = q * (g * c') := by rw [hm, ← hc, Nat.mul_assoc, Nat.mul_comm c' g]
    exact Nat.eq_of_mul_eq_mul_left hq0 e
  rw [this, pw_mul, hg, pw_one_l]

theorem seven_order {d : Nat} (h0 : 0 < d) (h1 : d < ordE) : pw 7 d ≠ 1 := by
  intro hd
  have hg := pw_gcd 7 d ordE hd seven_ord
  obtain ⟨c, hc⟩ := Nat.gcd_dvd_right d ordE
  have hle : Nat.gcd d ordE ≤ d := Nat.le_of_dvd h0 (Nat.gcd_dvd_left d ordE)
  generalize Nat.gcd d ordE = g at *
  have hc' : c * g = ordE := by rw [Nat.mul_comm]; exact hc.symm
  have hc1 : c ≠ 1 := by intro h; subst h; omega
  rcases prime_divisor ⟨g, hc'.symm⟩ hc1 with h | h | h | h | h | h
  · exact no2 (no_short hg hc' h (by decide) (by decide))
  · exact no3 (no_short hg hc' h (by decide) (by decide))
  · exact no5 (no_short hg hc' h (by decide) (by decide))
  · exact no17 (no_short hg hc' h (by decide) (by decide))
  · exact no257 (no_short hg hc' h (by decide) (by decide))
  · exact no65537 (no_short hg hc' h (by decide) (by decide))

theorem seven_unit {i : Nat} (h : i ≤ ordE) : (pw 7 i * pw 7 (ordE - i)) % PP = 1 := by
  rw [← pw_add, Nat.add_sub_cancel' h, seven_ord]
theorem seven_ne {i : Nat} (h : i ≤ ordE) : pw 7 i ≠ 0 := by
  intro h0
  have := seven_unit h
  rw [h0, Int.zero_mul] at this
  exact absurd this (by decide)
theorem seven_inj {i j : Nat} (hj : j < ordE) (hij : i < j) : pw 7 i ≠ pw 7 j := by
  intro h
  have hs : pw 7 (j - i) = 1 := by
    have hu := seven_unit (i := i) (by omega)
    have e : pw 7 j = (pw 7 (j - i) * pw 7 i) % PP := by rw [← pw_add]; congr 1; omega
    rw [← h] at e
    have e2 : (pw 7 (ordE - i) * pw 7 i) % PP = (pw 7 (j - i) * (pw 7 i * pw 7 (ordE - i))) % PP := by
      conv => lhs; rw [e, md_mul_r]
      congr 1; rw [Int.mul_comm, Int.mul_assoc]
    rw [Int.mul_comm, hu, ← md_mul_r, hu, Int.mul_one, pw_pw_md] at e2
    exact e2.symm
  exact seven_order (by omega) (by omega) hs

theorem seven_all {x : Int} (h0 : 1 ≤ x) (h1 : x ≤ 18446744069414584320) : ∃ i, x = pw 7 i := by
  obtain ⟨i, _, hi⟩ := pigeon ordE (fun i => (pw 7 i).toNat - 1)
    (by
      intro i h
      have := pw_bd 7 i
      have := seven_ne (i := i) (by omega)
      show (pw 7 i).toNat - 1 < ordE
      rw [ordE_eq]; omega)
    (by
      intro i j a b c
      have c' : (pw 7 i).toNat - 1 = (pw 7 j).toNat - 1 := c
      have := pw_bd 7 i; have := pw_bd 7 j
      have := seven_ne (i := i) (by omega); have := seven_ne (i := j) (by omega)
      have e : pw 7 i = pw 7 j := by omega
      rcases Nat.lt_trichotomy i j with h | h | h
      · exact absurd e (seven_inj b h)
      · exact h
      · exact absurd e.symm (seven_inj a h))
    (x.toNat - 1) (by rw [ordE_eq]; omega)
  refine ⟨i, ?_⟩
  have hi' : (pw 7 i).toNat - 1 = x.toNat - 1 := hi
  have := pw_bd 7 i
  by_cases hz : pw 7 i = 0
  · exfalso
    have h1 : i < ordE := by assumption
    exact seven_ne (by omega) hz
  · omega

/-- Each element but 0, taken PP - 1 times, is 1. -/
theorem pw_ord {x : Int} (h : x % PP ≠ 0) : pw x ordE = 1 := by
  have b := md_bd x
  obtain ⟨i, hi⟩ := seven_all (x := x % PP) (by omega) b.2
  rw [← pw_md, hi, ← pw_mul, Nat.mul_comm, pw_mul, seven_ord, pw_one_l]
/-- The inverse. -/
theorem inv_mul {x : Int} (h : x % PP ≠ 0) : (pw x invE * x) % PP = 1 := by
  rw [← pw_succ, invE_succ, pw_ord h]

end Go.Proofs.YtddpcjgekfmhkaaDoor
