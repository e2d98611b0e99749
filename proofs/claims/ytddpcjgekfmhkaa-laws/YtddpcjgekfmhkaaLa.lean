/- The statement Laws, walked. -/
import Derived.Test.YtddpcjgekfmhkaaFx
import Derived.Test.YtddpcjgekfmhkaaFp
import Derived.RowKit3
import Derived.OpenShut
namespace Go.Proofs.Ytddpcjgekfmhkaa
open Go.RowKit

theorem add_m (a b : Int) (w : World) : Calls Try.prog 11 #[.int .u64 (a % PP), .int .u64 (b % PP)] w fun e w' => e = .returned (.int .u64 ((a + b) % PP)) ∧ w' = w := by
  have := md_bd a; have := md_bd b
  have c := add_any (a % PP) (b % PP) (by omega) (by omega) (by omega) (by omega) w
  rw [md_add] at c; exact c
theorem sub_m (a b : Int) (w : World) : Calls Try.prog 12 #[.int .u64 (a % PP), .int .u64 (b % PP)] w fun e w' => e = .returned (.int .u64 ((a - b) % PP)) ∧ w' = w := by
  have := md_bd a; have := md_bd b
  have c := sub_any (a % PP) (b % PP) (by omega) (by omega) (by omega) (by omega) w
  rw [md_sub] at c; exact c
theorem mul_m (a b : Int) (w : World) : Calls Try.prog 9 #[.int .u64 (a % PP), .int .u64 (b % PP)] w fun e w' => e = .returned (.int .u64 ((a * b) % PP)) ∧ w' = w := by
  have := md_bd a; have := md_bd b
  have c := mul_any (a % PP) (b % PP) (by omega) (by omega) (by omega) (by omega) w
  rw [md_mul] at c; exact c

/-- What is not far from 0 is lifted as it was. -/
theorem lift_back {n : Int} (h0 : -4611686018427387904 ≤ n) (h1 : n ≤ 4611686018427387904) : liftv (n % PP) = n := by
  unfold liftv
  rw [md_md]
  by_cases h : 0 ≤ n
  · rw [md_small h (by omega), if_pos (by omega)]
  · have e : n % PP = n + PP := by rw [← md_add_PP, md_small (by rw [PP_eq]; omega) (by rw [PP_eq]; omega)]
    rw [e, if_neg (by rw [PP_eq]; omega)]; omega

set_option maxHeartbeats 2000000 in
theorem laws_walk (a0 : Int) (a1 : Int) (a2 : Int) (w0 : (Lit.int .i64 a0).wf = true) (w1 : (Lit.int .i64 a1).wf = true) (w2 : (Lit.int .i64 a2).wf = true) (w : World) :
    Calls Try.prog 5 #[.int .i64 a0, .int .i64 a1, .int .i64 a2] w fun e w' => e = .returned (.bool true) ∧ Grown w w' := by
  have ha := bounds_i64 w0
  have hb := bounds_i64 w1
  have hc := bounds_i64 w2
  clear w0 w1 w2
  have bx := md_bd a0
  have e1 := embed_any a0 ha.1 ha.2 w
  have e2 := embed_any a1 hb.1 hb.2 w
  have e3 := embed_any a2 hc.1 hc.2 w
  have e4 := embed_any 1 (by omega) (by omega) w
  rw [md_small (a := 1) (by omega) (by omega)] at e4
  have d1 := add_m a0 a1 w
  have d2 := add_m a1 a0 w
  rw [Int.add_comm a1 a0] at d2
  have m1 := mul_m a0 a1 w
  have m2 := mul_m a1 a0 w
  rw [Int.mul_comm a1 a0] at m2
  have m3 := mul_m a1 a2 w
  have m4 := mul_m a0 (a1 * a2) w
  have m5 := mul_m a0 a1 w
  have m6 := mul_m (a0 * a1) a2 w
  rw [Int.mul_assoc] at m6
  have d3 := add_m a1 a2 w
  have m7 := mul_m a0 (a1 + a2) w
  have m8 := mul_m a0 a1 w
  have m9 := mul_m a0 a2 w
  have d4 := add_m (a0 * a1) (a0 * a2) w
  rw [← Int.mul_add] at d4
  have s1 := sub_m a0 a1 w
  have d5 := add_m (a0 - a1) a1 w
  rw [Int.sub_add_cancel] at d5
  have m10 := mul_m a0 1 w
  rw [Int.mul_one, md_small (a := 1) (by omega) (by omega)] at m10
  have i1 := inv_any (a0 % PP) (by omega) (by omega) w
  rw [pw_md] at i1
  have m11 : a0 % PP ≠ 0 → Calls Try.prog 9 #[.int .u64 (a0 % PP), .int .u64 (pw a0 invE)] w fun e w' => e = .returned (.int .u64 1) ∧ w' = w := by
    intro h
    have c := mul_m a0 (a0 ^ invE) w
    rw [Int.mul_comm, show a0 ^ invE * a0 % PP = 1 by rw [← md_mul_l]; exact inv_mul h] at c
    exact c
  have e5 := embed_any (a0 / 2) (by omega) (by omega) w
  have bn := md_bd (a0 / 2)
  have l1 := lift_any (a0 / 2 % PP) (by omega) (by omega) w
  rw [lift_back (by omega) (by omega)] at l1
  clear bn
  generalize pw a0 invE = i at *
  generalize a0 * (a1 + a2) % PP = q1 at *
  generalize a0 * (a1 * a2) % PP = q2 at *
  generalize a0 * a1 % PP = q3 at *
  generalize a0 * a2 % PP = q4 at *
  generalize a1 * a2 % PP = q5 at *
  generalize (a1 + a2) % PP = q6 at *
  generalize (a0 + a1) % PP = q7 at *
  generalize (a0 - a1) % PP = q8 at *
  generalize a0 / 2 % PP = q9 at *
  generalize a0 % PP = x at *
  generalize a1 % PP = y at *
  generalize a2 % PP = z at *
  by_cases hx : x = 0
  · subst hx
    clear m11 i1
    go_enter Try.func5, Try.ntmps5
    go_wp2_with (first
      | (go_at_call 13; first | (refine e1.mono ?_; rintro e w' ⟨rfl, rfl⟩; clear e1) | (refine e2.mono ?_; rintro e w' ⟨rfl, rfl⟩; clear e2) | (refine e3.mono ?_; rintro e w' ⟨rfl, rfl⟩; clear e3) | (refine e4.mono ?_; rintro e w' ⟨rfl, rfl⟩; clear e4) | (refine e5.mono ?_; rintro e w' ⟨rfl, rfl⟩; clear e5))
      | (go_at_call 11; first | (refine d1.mono ?_; rintro e w' ⟨rfl, rfl⟩; clear d1) | (refine d2.mono ?_; rintro e w' ⟨rfl, rfl⟩; clear d2) | (refine d3.mono ?_; rintro e w' ⟨rfl, rfl⟩; clear d3) | (refine d4.mono ?_; rintro e w' ⟨rfl, rfl⟩; clear d4) | (refine d5.mono ?_; rintro e w' ⟨rfl, rfl⟩; clear d5))
      | (go_at_call 9; first | (refine m1.mono ?_; rintro e w' ⟨rfl, rfl⟩; clear m1) | (refine m2.mono ?_; rintro e w' ⟨rfl, rfl⟩; clear m2) | (refine m3.mono ?_; rintro e w' ⟨rfl, rfl⟩; clear m3) | (refine m4.mono ?_; rintro e w' ⟨rfl, rfl⟩; clear m4) | (refine m5.mono ?_; rintro e w' ⟨rfl, rfl⟩; clear m5) | (refine m6.mono ?_; rintro e w' ⟨rfl, rfl⟩; clear m6) | (refine m7.mono ?_; rintro e w' ⟨rfl, rfl⟩; clear m7) | (refine m8.mono ?_; rintro e w' ⟨rfl, rfl⟩; clear m8) | (refine m9.mono ?_; rintro e w' ⟨rfl, rfl⟩; clear m9) | (refine m10.mono ?_; rintro e w' ⟨rfl, rfl⟩; clear m10))
      | (go_at_call 12; refine s1.mono ?_; rintro e w' ⟨rfl, rfl⟩; clear s1)
      | (go_at_call 14; refine l1.mono ?_; rintro e w' ⟨rfl, rfl⟩; clear l1))
    go_ret
    exact ⟨rfl, Grown.refl _⟩
  · have m11 := m11 hx
    go_enter Try.func5, Try.ntmps5
    go_wp2_with (first
      | (go_at_call 13; first | (refine e1.mono ?_; rintro e w' ⟨rfl, rfl⟩; clear e1) | (refine e2.mono ?_; rintro e w' ⟨rfl, rfl⟩; clear e2) | (refine e3.mono ?_; rintro e w' ⟨rfl, rfl⟩; clear e3) | (refine e4.mono ?_; rintro e w' ⟨rfl, rfl⟩; clear e4) | (refine e5.mono ?_; rintro e w' ⟨rfl, rfl⟩; clear e5))
      | (go_at_call 11; first | (refine d1.mono ?_; rintro e w' ⟨rfl, rfl⟩; clear d1) | (refine d2.mono ?_; rintro e w' ⟨rfl, rfl⟩; clear d2) | (refine d3.mono ?_; rintro e w' ⟨rfl, rfl⟩; clear d3) | (refine d4.mono ?_; rintro e w' ⟨rfl, rfl⟩; clear d4) | (refine d5.mono ?_; rintro e w' ⟨rfl, rfl⟩; clear d5))
      | (go_at_call 9; first | (refine m1.mono ?_; rintro e w' ⟨rfl, rfl⟩; clear m1) | (refine m2.mono ?_; rintro e w' ⟨rfl, rfl⟩; clear m2) | (refine m3.mono ?_; rintro e w' ⟨rfl, rfl⟩; clear m3) | (refine m4.mono ?_; rintro e w' ⟨rfl, rfl⟩; clear m4) | (refine m5.mono ?_; rintro e w' ⟨rfl, rfl⟩; clear m5) | (refine m6.mono ?_; rintro e w' ⟨rfl, rfl⟩; clear m6) | (refine m7.mono ?_; rintro e w' ⟨rfl, rfl⟩; clear m7) | (refine m8.mono ?_; rintro e w' ⟨rfl, rfl⟩; clear m8) | (refine m9.mono ?_; rintro e w' ⟨rfl, rfl⟩; clear m9) | (refine m10.mono ?_; rintro e w' ⟨rfl, rfl⟩; clear m10) | (refine m11.mono ?_; rintro e w' ⟨rfl, rfl⟩; clear m11))
      | (go_at_call 12; refine s1.mono ?_; rintro e w' ⟨rfl, rfl⟩; clear s1)
      | (go_at_call 23; refine i1.mono ?_; rintro e w' ⟨rfl, rfl⟩; clear i1)
      | (go_at_call 14; refine l1.mono ?_; rintro e w' ⟨rfl, rfl⟩; clear l1))
    go_ret
    exact ⟨rfl, Grown.refl _⟩

end Go.Proofs.Ytddpcjgekfmhkaa
