/- The inverse of a transform, sums, turning round. Plain mathematics. -/
import Derived.Test.YtddpcjgekfmhkaaDoorTm
namespace Go.Proofs.YtddpcjgekfmhkaaDoor

theorem sm_add (f g : Nat → Int) : ∀ n, sm (fun i => f i + g i) n = sm f n + sm g n
  | 0 => rfl
  | n + 1 => by unfold sm; rw [sm_add f g n]; omega
theorem sm_swap (f : Nat → Nat → Int) (m : Nat) : ∀ n, sm (fun i => sm (fun l => f i l) m) n = sm (fun l => sm (fun i => f i l) n) m
  | 0 => by
    show (0 : Int) = _
    have : ∀ m, sm (fun _ => (0 : Int)) m = 0 := by
      intro m; induction m with
      | zero => rfl
      | succ m ih => unfold sm; rw [ih]; rfl
    exact (this m).symm
  | n + 1 => by
    show sm (fun i => sm (fun l => f i l) m) n + sm (fun l => f n l) m = _
    rw [sm_swap f m n, ← sm_add]; rfl
theorem sm_zero {f : Nat → Int} {n : Nat} (h : ∀ i, i < n → f i % PP = 0) : sm f n % PP = 0 := by
  rw [sm_md n (g := fun _ => 0) (fun i hi => by rw [h i hi]; rfl)]
  induction n with
  | zero => rfl
  | succ n ih => unfold sm; rw [Int.add_zero]; exact ih (fun i hi => h i (by omega))
theorem sm_one (j : Nat) (f : Nat → Int) : ∀ n, j < n → (∀ i, i < n → i ≠ j → f i % PP = 0) → sm f n % PP = f j % PP
  | n + 1, hj, h => by
    unfold sm
    by_cases e : j = n
    · subst e
      rw [← md_add_l, sm_zero (fun i hi => h i (by omega) (by omega)), Int.zero_add]
    · rw [← md_add_r, h n (by omega) (by omega), Int.add_zero]
      exact sm_one j f n (by omega) (fun i hi => h i (by omega))
theorem sm_const (c : Int) : ∀ n : Nat, sm (fun _ => c) n = n * c
  | 0 => by simp [sm]
  | n + 1 => by unfold sm; rw [sm_const c n, Int.natCast_succ, Int.add_mul, Int.one_mul]

/-- A sum of powers. -/
theorem geo (r : Int) : ∀ n, ((r - 1) * sm (fun i => pw r i) n) % PP = (pw r n - 1) % PP
  | 0 => by rw [pw_zero]; show ((r - 1) * 0) % PP = (1 - 1) % PP; rw [Int.mul_zero]; rfl
  | n + 1 => by
    show ((r - 1) * (sm (fun i => pw r i) n + pw r n)) % PP = _
    rw [Int.mul_add, ← md_add_l, geo r n, md_add_l, pw_succ, md_sub_l]
    congr 1; grind
theorem cancel {a b : Int} (ha : a % PP ≠ 0) (h : (a * b) % PP = 0) : b % PP = 0 := by
  have e := inv_mul ha
  have e2 : (pw a invE * (a * b)) % PP = 0 := by rw [← md_mul_r, h, Int.mul_zero]; rfl
  rw [← Int.mul_assoc, ← md_mul_l, e, Int.one_mul] at e2
  exact e2
theorem root_inj {K l j : Nat} (hK : K ≤ 32) (hl : l < 2 ^ K) (hj : j < 2 ^ K) (h : pw (rootk K) l = pw (rootk K) j) : l = j := by
  unfold rootk at h
  rw [← pw_mul, ← pw_mul] at h
  have hm := rootE_mul hK
  have h0 : 0 < rootE K := by
    refine Nat.pos_of_ne_zero fun e => ?_
    rw [e, Nat.zero_mul] at hm
    exact absurd hm (by decide)
  have lt : ∀ i, i < 2 ^ K → rootE K * i < ordE := fun i hi => by rw [← hm]; exact Nat.mul_lt_mul_of_pos_left hi h0
  rcases Nat.lt_trichotomy l j with e | e | e
  · exact absurd h (seven_inj (lt j hj) (Nat.mul_lt_mul_of_pos_left e h0))
  · exact e
  · exact absurd h.symm (seven_inj (lt l hl) (Nat.mul_lt_mul_of_pos_left e h0))

theorem winv_mul {K : Nat} (hK : K ≤ 32) (j : Nat) : (pw (pw (rootk K) invE) j * pw (rootk K) j) % PP = 1 := by
  rw [← pw_dist, ← pw_md, inv_mul (rootk_ne hK), pw_one_l]

theorem kernel {K l j : Nat} (hK : K ≤ 32) (hl : l < 2 ^ K) (hj : j < 2 ^ K) :
    sm (fun i => pw (rootk K) (l * i) * pw (pw (rootk K) invE) (i * j)) (2 ^ K) % PP = if l = j then ((2 ^ K : Nat) : Int) % PP else 0 := by
  have term : ∀ i, (pw (rootk K) (l * i) * pw (pw (rootk K) invE) (i * j)) % PP = pw (pw (rootk K) l * pw (pw (rootk K) invE) j) i % PP := by
    intro i
    rw [pw_dist, md_md, pw_mul (rootk K) l i, Nat.mul_comm i j, pw_mul (pw (rootk K) invE) j i]
  rw [sm_md _ (fun i _ => term i)]
  by_cases e : l = j
  · subst e
    rw [if_pos rfl]
    have one : ∀ i, pw (pw (rootk K) l * pw (pw (rootk K) invE) l) i % PP = 1 % PP := by
      intro i
      rw [← pw_md, Int.mul_comm, winv_mul hK, pw_one_l]
    rw [sm_md _ (g := fun _ => 1) (fun i _ => one i), sm_const, Int.mul_one]
  · rw [if_neg e]
    refine cancel (a := pw (rootk K) l * pw (pw (rootk K) invE) j - 1) ?_ ?_
    · intro h
      have h1 : (pw (rootk K) l * pw (pw (rootk K) invE) j) % PP = 1 := by
        have := md_add_l (pw (rootk K) l * pw (pw (rootk K) invE) j - 1) 1
        rw [h] at this
        rw [show pw (rootk K) l * pw (pw (rootk K) invE) j - 1 + 1 = pw (rootk K) l * pw (pw (rootk K) invE) j by omega] at this
        rw [← this]; decide
      have h2 := inv_unique (a := pw (rootk K) l) (b := pw (rootk K) j) (c := pw (pw (rootk K) invE) j) h1 (by rw [Int.mul_comm]; exact winv_mul hK j)
      rw [pw_pw_md, pw_pw_md] at h2
      exact e (root_inj hK hl hj h2)
    · rw [geo, pw_dist, ← pw_mul, ← pw_mul, Nat.mul_comm l, pw_mul, rootk_pw hK, pw_one_l, Nat.mul_comm j, pw_mul, ← pw_mul (rootk K), Nat.mul_comm invE, pw_mul (rootk K) (2 ^ K), rootk_pw hK, pw_one_l, pw_one_l]
      decide

/-- The inverse of a transform is what it was made of. -/
theorem dft_back {K : Nat} (hK : K ≤ 32) (x : Nat → Int) (j : Nat) (hj : j < 2 ^ K) : (idft K (dft K x) j * pw ((2 ^ K : Nat) : Int) invE) % PP = x j % PP := by
  have e : idft K (dft K x) j = (x j * ((2 ^ K : Nat) : Int)) % PP := by
    unfold idft dft
    have s1 : ∀ i, i < 2 ^ K → ((sm (fun l => x l * pw (rootk K) (l * i)) (2 ^ K) % PP) * pw (pw (rootk K) invE) (i * j)) % PP = (sm (fun l => x l * (pw (rootk K) (l * i) * pw (pw (rootk K) invE) (i * j))) (2 ^ K)) % PP := by
      intro i _
      rw [md_mul_l, Int.mul_comm, sm_mul]
      refine sm_md _ fun l _ => ?_
      congr 1; grind
    rw [sm_md _ s1, sm_swap]
    have s2 : ∀ l, sm (fun i => x l * (pw (rootk K) (l * i) * pw (pw (rootk K) invE) (i * j))) (2 ^ K) = x l * sm (fun i => pw (rootk K) (l * i) * pw (pw (rootk K) invE) (i * j)) (2 ^ K) := fun l => (sm_mul _ _ _).symm
    rw [sm_congr _ (fun l _ => s2 l), sm_one j _ _ hj ?_]
    · rw [← md_mul_r, kernel hK hj hj, if_pos rfl, md_mul_r]
    · intro l hl hne
      rw [← md_mul_r, kernel hK hl hj, if_neg hne, Int.mul_zero]; rfl
  have hn : ((2 ^ K : Nat) : Int) % PP ≠ 0 := by
    have h1 : 1 ≤ 2 ^ K := Nat.one_le_two_pow
    have h2 : 2 ^ K ≤ 4294967296 := Nat.pow_le_pow_right (n := 2) (by decide) hK
    generalize 2 ^ K = n at *
    rw [md_small (by omega) (by omega)]; omega
  rw [e, md_mul_l, Int.mul_assoc, Int.mul_comm ((2 ^ K : Nat) : Int), ← md_mul_r, inv_mul hn, Int.mul_one]

theorem dft_add {K : Nat} (x y z : Nat → Int) (h : ∀ i, i < 2 ^ K → z i = (x i + y i) % PP) (j : Nat) : dft K z j = (dft K x j + dft K y j) % PP := by
  unfold dft
  rw [md_add, ← sm_add]
  refine sm_md _ fun i hi => ?_
  rw [h i hi, md_mul_l]; congr 1; grind
/-- A list turned by one place. -/
theorem dft_turn {K : Nat} (hK : K ≤ 32) (x t : Nat → Int) (h : ∀ i, i < 2 ^ K → t ((i + 1) % 2 ^ K) = x i) (j : Nat) : dft K t j = (dft K x j * pw (rootk K) j) % PP := by
  obtain ⟨m, hm⟩ : ∃ m, 2 ^ K = m + 1 := ⟨2 ^ K - 1, by have := Nat.two_pow_pos K; omega⟩
  have h0 : t 0 = x m := by
    have := h m (by omega)
    rwa [hm, Nat.mod_self] at this
  have hs : ∀ i, i < m → t (i + 1) = x i := by
    intro i hi
    have := h i (by omega)
    rwa [Nat.mod_eq_of_lt (by omega)] at this
  unfold dft
  rw [md_mul_l, Int.mul_comm (sm _ _), sm_mul]
  have hw := rootk_pw hK
  rw [hm] at hw ⊢
  rw [sm_first, show sm (fun i => pw (rootk K) j * (x i * pw (rootk K) (i * j))) (m + 1) = sm (fun i => pw (rootk K) j * (x i * pw (rootk K) (i * j))) m + pw (rootk K) j * (x m * pw (rootk K) (m * j)) from rfl, Int.add_comm, ← md_add]
  conv => rhs; rw [← md_add]
  congr 1
  congr 1
  · refine sm_md _ fun i hi => ?_
    rw [hs i hi, show (i + 1) * j = i * j + j by rw [Nat.add_mul]; omega, pw_add, md_mul_r]
    congr 1; grind
  · rw [h0, Nat.zero_mul, pw_zero, Int.mul_one]
    have e : (pw (rootk K) j * pw (rootk K) (m * j)) % PP = 1 := by
      rw [← pw_add, show j + m * j = (m + 1) * j by rw [Nat.add_mul]; omega, pw_mul, hw, pw_one_l]
    rw [show pw (rootk K) j * (x m * pw (rootk K) (m * j)) = x m * (pw (rootk K) j * pw (rootk K) (m * j)) by grind, ← md_mul_r, e, Int.mul_one]

end Go.Proofs.YtddpcjgekfmhkaaDoor
