/- The statement Rooted, walked. -/
import Derived.Test.YtddpcjgekfmhkaaFx
import Derived.Test.YtddpcjgekfmhkaaFp
import Derived.RowKit3
import Derived.OpenShut
namespace Go.Proofs.Ytddpcjgekfmhkaa
open Go.RowKit

theorem pick_any (c n : Int) (h0 : -9223372036854775808 ≤ c) (h1 : c ≤ 9223372036854775807) (n0 : 1 ≤ n) (n1 : n ≤ 9223372036854775807) (w : World) :
    Calls Try.prog 27 #[.int .i64 c, .int .i64 n] w fun e w' => e = .returned (.int .i64 ((if c < 0 then -(c + 1) else c) % n)) ∧ w' = w := by
  by_cases h : c < 0
  · rw [if_pos h]
    go_enter Try.func27, Try.ntmps27
    go_wp2
    go_ret
    exact ⟨ret_int (by rw [← Int.neg_tmod, Int.tmod_eq_emod_of_nonneg (by omega)]), rfl⟩
  · rw [if_neg h]
    go_enter Try.func27, Try.ntmps27
    go_wp2
    go_ret
    exact ⟨rfl, rfl⟩

theorem pick_nat (c : Int) (n : Nat) (h0 : -9223372036854775808 ≤ c) (h1 : c ≤ 9223372036854775807) (n0 : 1 ≤ n) (n1 : n ≤ 9223372036854775807) (w : World) :
    ∃ v : Nat, v < n ∧ Calls Try.prog 27 #[.int .i64 c, .int .i64 n] w fun e w' => e = .returned (.int .i64 v) ∧ w' = w := by
  refine ⟨((if c < 0 then -(c + 1) else c) % n).toNat, ?_, ?_⟩
  · have := Int.emod_lt_of_pos (if c < 0 then -(c + 1) else c) (b := (n : Int)) (by omega)
    have := Int.emod_nonneg (if c < 0 then -(c + 1) else c) (b := (n : Int)) (by omega)
    omega
  · rw [Int.toNat_of_nonneg (Int.emod_nonneg _ (by omega))]
    exact pick_any c n h0 h1 (by omega) (by omega) w

set_option maxHeartbeats 400000 in
theorem rooted_walk (a0 : Int) (w0 : (Lit.int .i64 a0).wf = true) (w : World) :
    Calls Try.prog 6 #[.int .i64 a0] w fun e w' => e = .returned (.bool true) ∧ Grown w w' := by
  have hb : -9223372036854775808 ≤ a0 ∧ a0 ≤ 9223372036854775807 := bounds_i64 w0
  obtain ⟨v, hv, cp⟩ := pick_nat a0 33 hb.1 hb.2 (by omega) (by omega) w
  have cr := root_yes v (by omega) w
  have br := pw_bd 7 (rootE v)
  have c1 := pow_any (rootk v) (2 ^ v) br.1 (Int.le_trans br.2 (by omega)) (Nat.le_trans (Nat.pow_le_pow_right (by omega) (show v ≤ 32 by omega)) (by omega)) w
  rw [rootk_pw (by omega)] at c1
  have hw0 : rootk v ≠ 0 := by
    intro h
    have := rootk_pw (k := v) (by omega)
    rw [h] at this
    have e : 2 ^ v = (2 ^ v - 1) + 1 := by have : 1 ≤ 2 ^ v := Nat.one_le_two_pow; omega
    rw [e, pw_succ, Int.mul_zero] at this
    exact absurd this (by decide)
  have hwr : wrap64 ((2 : Int) ^ v) = ((2 ^ v : Nat) : Int) := by
    have e : ((2 ^ v : Nat) : Int) = (2 : Int) ^ v := by norm_cast
    have h2 : 2 ^ v ≤ 4294967296 := Nat.pow_le_pow_right (by omega) (show v ≤ 32 by omega)
    rw [← e]; unfold wrap64; clear e; generalize 2 ^ v = n at *; omega
  have h1 : 1 ≤ 2 ^ v := Nat.one_le_two_pow
  have h2 : 2 ^ v ≤ 4294967296 := Nat.pow_le_pow_right (by omega) (show v ≤ 32 by omega)
  have hr : 0 ≤ rootk v ∧ rootk v ≤ 18446744069414584320 := br
  by_cases hz : v = 0
  · have hn1 : 2 ^ v = 1 := by rw [hz]
    clear br hr
    generalize rootk v = r at *
    rw [hn1] at *
    clear h1 h2 hn1
    go_enter Try.func6, Try.ntmps6
    go_wp2_with (first | (go_at_call 27; refine cp.mono ?_; rintro e w' ⟨rfl, rfl⟩; clear cp) | (go_at_call 15; refine cr.mono ?_; rintro e w' ⟨rfl, rfl⟩) | (go_at_call 24; refine c1.mono ?_; rintro e w' ⟨rfl, rfl⟩))
    go_ret
    exact ⟨rfl, Grown.refl _⟩
  · obtain ⟨u, rfl⟩ : ∃ u, v = u + 1 := ⟨v - 1, by omega⟩
    have c2 := pow_any (rootk (u + 1)) (2 ^ u) br.1 (Int.le_trans br.2 (by omega)) (Nat.le_trans (Nat.pow_le_pow_right (by omega) (show u ≤ 32 by omega)) (by omega)) w
    rw [rootk_half (by omega)] at c2
    have cl := lift_any 18446744069414584320 (by omega) (by omega) w
    have el : liftv 18446744069414584320 = -1 := by decide
    rw [el] at cl
    have hd : 2 ^ (u + 1) = 2 * 2 ^ u := by rw [Nat.pow_succ]; omega
    clear br hr
    generalize rootk (u + 1) = r at *
    generalize 2 ^ (u + 1) = n at *
    generalize 2 ^ u = m at *
    subst hd
    have hq : ((2 * m : Nat) : Int) = 2 * (m : Int) := by omega
    rw [hq] at *
    clear hq
    have hq2 : 2 * (m : Int) / 2 = m := by omega
    have tok : True := trivial
    go_enter Try.func6, Try.ntmps6
    go_wp2_with (first | (go_at_call 27; refine cp.mono ?_; rintro e w' ⟨rfl, rfl⟩; clear cp) | (go_at_call 15; refine cr.mono ?_; rintro e w' ⟨rfl, rfl⟩) | (go_at_call 24; have _t := tok; refine c1.mono ?_; rintro e w' ⟨rfl, rfl⟩; clear tok) | (go_at_call 24; refine c2.mono ?_; rintro e w' ⟨rfl, rfl⟩) | (go_at_call 14; refine cl.mono ?_; rintro e w' ⟨rfl, rfl⟩))
    go_ret
    exact ⟨rfl, Grown.refl _⟩

end Go.Proofs.Ytddpcjgekfmhkaa
