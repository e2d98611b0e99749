/- Package field, walked on: Inv, Root, Embed, Lift. -/
import Derived.Test.YtddpcjgekfmhkaaDoorFw
import Derived.Test.YtddpcjgekfmhkaaDoorBx
namespace Go.Proofs.YtddpcjgekfmhkaaDoor
open Go.RowKit

theorem pow_int (a n : Int) (h0 : 0 ≤ a) (h1 : a ≤ 18446744073709551615) (g0 : 0 ≤ n) (g1 : n ≤ 18446744073709551615) (w : World) :
    Calls Tryd.prog 44 #[.int .u64 a, .int .u64 n] w fun e w' => e = .returned (.int .u64 (pw a n.toNat)) ∧ w' = w := by
  have c := pow_any a n.toNat h0 h1 (by omega) w
  rw [Int.toNat_of_nonneg g0] at c
  exact c

theorem inv_any (a : Int) (h0 : 0 ≤ a) (h1 : a ≤ 18446744073709551615) (w : World) :
    Calls Tryd.prog 83 #[.int .u64 a] w fun e w' => e = .returned (.int .u64 (pw a invE)) ∧ w' = w := by
  have c := pow_int a 18446744069414584319 h0 h1 (by omega) (by omega) w
  have e : (18446744069414584319 : Int).toNat = invE := rfl
  rw [e] at c
  generalize pw a invE = r at *
  go_enter Tryd.func83, Tryd.ntmps83
  go_wp2_with (go_at_call 44; refine c.mono ?_; rintro e w' ⟨rfl, rfl⟩)
  go_ret
  exact ⟨rfl, rfl⟩

theorem embed_any (n : Int) (h0 : -9223372036854775808 ≤ n) (h1 : n ≤ 9223372036854775807) (w : World) :
    Calls Tryd.prog 23 #[.int .i64 n] w fun e w' => e = .returned (.int .u64 (n % PP)) ∧ w' = w := by
  by_cases h : 0 ≤ n
  · go_enter Tryd.func23, Tryd.ntmps23
    go_wp2
    go_ret
    exact ⟨ret_int (md_small h (by omega)).symm, rfl⟩
  · have hn : n < 0 := by omega
    clear h
    go_enter Tryd.func23, Tryd.ntmps23
    go_wp2
    go_ret
    refine ⟨ret_int ?_, rfl⟩
    rw [← md_add_PP, md_small (by rw [PP_eq]; omega) (by rw [PP_eq]; omega), PP_eq]
    simp only [wrap64, IntKind.wrap_u64]
    omega

theorem lift_any (a : Int) (h0 : 0 ≤ a) (h1 : a ≤ 18446744073709551615) (w : World) :
    Calls Tryd.prog 84 #[.int .u64 a] w fun e w' => e = .returned (.int .i64 (liftv a)) ∧ w' = w := by
  have c := element_any a h0 h1 w
  have b := md_bd a
  unfold liftv
  rw [PP_eq]
  rw [← PP_eq]
  generalize a % PP = x at *
  by_cases h : x ≤ 9223372034707292160
  · rw [if_pos h]
    go_enter Tryd.func84, Tryd.ntmps84
    go_wp2_with (go_at_call 43; refine c.mono ?_; rintro e w' ⟨rfl, rfl⟩)
    go_ret
    exact ⟨rfl, rfl⟩
  · rw [if_neg h]
    go_enter Tryd.func84, Tryd.ntmps84
    go_wp2_with (go_at_call 43; refine c.mono ?_; rintro e w' ⟨rfl, rfl⟩)
    go_ret
    refine ⟨ret_int ?_, rfl⟩
    rw [PP_eq]; omega

theorem root_yes (k : Nat) (hk : k ≤ 32) (w : World) :
    Calls Tryd.prog 26 #[.int .i64 ((2 ^ k : Nat) : Int)] w fun e w' => e = .returned (.int .u64 (rootk k)) ∧ w' = w := by
  have h1 : 1 ≤ 2 ^ k := Nat.one_le_two_pow
  have h2 : 2 ^ k ≤ 4294967296 := Nat.pow_le_pow_right (by omega) hk
  have ha := and_of_pow2 k
  have hr : rootk k = pw 7 (18446744069414584320 / 2 ^ k) := rfl
  have c := fun w => pow_any 7 (18446744069414584320 / 2 ^ k) (by omega) (by omega) (Nat.le_trans (Nat.div_le_self _ _) (by omega)) w
  rw [← hr] at c
  clear hr
  generalize rootk k = r at *
  generalize 2 ^ k = n at *
  have hand : bits .and .i64 (n : Int) ((n : Int) - 1) = 0 := by
    have h := and_i64_nat n (n - 1) (by omega) (by omega)
    rw [ha, show ((n - 1 : Nat) : Int) = (n : Int) - 1 by omega] at h
    exact h
  go_enter Tryd.func26, Tryd.ntmps26
  go_wp2_with (go_at_call 44; refine (c _).mono ?_; rintro e w' ⟨rfl, rfl⟩)
  go_ret
  exact ⟨rfl, rfl⟩

theorem root_no (n : Int) (hn : ¬ ∃ k, k ≤ 32 ∧ n = ((2 ^ k : Nat) : Int)) (w : World) :
    Calls Tryd.prog 26 #[.int .i64 n] w fun e w' => e = .returned (.int .u64 0) ∧ w' = w := by
  by_cases h1 : n < 1
  · clear hn
    go_enter Tryd.func26, Tryd.ntmps26
    go_wp2
    go_ret
    exact ⟨rfl, rfl⟩
  · by_cases h2 : 4294967296 < n
    · clear hn
      go_enter Tryd.func26, Tryd.ntmps26
      go_wp2
      go_ret
      exact ⟨rfl, rfl⟩
    · obtain ⟨m, rfl⟩ : ∃ m : Nat, n = m := ⟨n.toNat, by omega⟩
      have hand := and_i64_nat m (m - 1) (by omega) (by omega)
      rw [show ((m - 1 : Nat) : Int) = (m : Int) - 1 by omega] at hand
      have hx : ¬ m &&& (m - 1) = 0 := by
        intro ha
        obtain ⟨k, hk⟩ := pow2_of_and m m (Nat.le_refl _) (by omega) ha
        refine hn ⟨k, ?_, by rw [hk]⟩
        refine Nat.le_of_not_lt fun h33 => ?_
        have : 2 ^ 33 ≤ 2 ^ k := Nat.pow_le_pow_right (by omega) h33
        omega
      generalize m &&& (m - 1) = v at *
      clear hn
      go_enter Tryd.func26, Tryd.ntmps26
      go_wp2
      go_ret
      exact ⟨rfl, rfl⟩

end Go.Proofs.YtddpcjgekfmhkaaDoor
