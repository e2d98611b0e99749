/- Package field, walked: what each call answers, for all numbers. -/
import Derived.Test.YtddpcjgekfmhkaaDoorChecked
import Derived.Test.YtddpcjgekfmhkaaDoorFm
import Derived.WalkKit
import Derived.Laws.Bits64b
namespace Go.Proofs.YtddpcjgekfmhkaaDoor
open Go.RowKit

theorem ret_int {k : IntKind} {a b : Int} (h : a = b) : Ending.returned (.int k a) = .returned (.int k b) := by rw [h]

theorem element_any (a : Int) (h0 : 0 ≤ a) (h1 : a ≤ 18446744073709551615) (w : World) :
    Calls Tryd.prog 43 #[.int .u64 a] w fun e w' => e = .returned (.int .u64 (a % PP)) ∧ w' = w := by
  by_cases h : 18446744069414584321 ≤ a
  · go_enter Tryd.func43, Tryd.ntmps43
    go_wp2
    go_ret
    exact ⟨ret_int (element_yes h h1), rfl⟩
  · go_enter Tryd.func43, Tryd.ntmps43
    go_wp2
    go_ret
    exact ⟨ret_int (element_no h0 (by omega)), rfl⟩

theorem add_any (a b : Int) (h0 : 0 ≤ a) (h1 : a ≤ 18446744073709551615) (g0 : 0 ≤ b) (g1 : b ≤ 18446744073709551615) (w : World) :
    Calls Tryd.prog 24 #[.int .u64 a, .int .u64 b] w fun e w' => e = .returned (.int .u64 ((a + b) % PP)) ∧ w' = w := by
  have ca := element_any a h0 h1 w
  have cb := element_any b g0 g1 w
  have ba := md_bd a
  have bb := md_bd b
  by_cases h : 18446744069414584321 - b % PP ≤ a % PP
  · have e := add_yes a b h
    generalize (a + b) % PP = s at e ⊢
    generalize ha : a % PP = x at *
    generalize hb : b % PP = y at *
    clear ha hb
    have HE : Hid (x - (18446744069414584321 - y) = s) := e
    clear e
    go_enter Tryd.func24, Tryd.ntmps24
    go_wp2_with (go_at_call 43; first | (refine ca.mono ?_; rintro e w' ⟨rfl, rfl⟩; clear ca) | (refine cb.mono ?_; rintro e w' ⟨rfl, rfl⟩; clear cb))
    go_ret
    exact ⟨ret_int HE.out, rfl⟩
  · have e := add_no a b h
    generalize (a + b) % PP = s at e ⊢
    generalize ha : a % PP = x at *
    generalize hb : b % PP = y at *
    clear ha hb
    have HE : Hid (x + y = s) := e
    clear e
    go_enter Tryd.func24, Tryd.ntmps24
    go_wp2_with (go_at_call 43; first | (refine ca.mono ?_; rintro e w' ⟨rfl, rfl⟩; clear ca) | (refine cb.mono ?_; rintro e w' ⟨rfl, rfl⟩; clear cb))
    go_ret
    exact ⟨ret_int HE.out, rfl⟩


theorem sub_any (a b : Int) (h0 : 0 ≤ a) (h1 : a ≤ 18446744073709551615) (g0 : 0 ≤ b) (g1 : b ≤ 18446744073709551615) (w : World) :
    Calls Tryd.prog 64 #[.int .u64 a, .int .u64 b] w fun e w' => e = .returned (.int .u64 ((a - b) % PP)) ∧ w' = w := by
  have ca := element_any a h0 h1 w
  have cb := element_any b g0 g1 w
  have ba := md_bd a
  have bb := md_bd b
  by_cases h : b % PP ≤ a % PP
  · have e := sub_yes a b h
    generalize (a - b) % PP = s at e ⊢
    generalize ha : a % PP = x at *
    generalize hb : b % PP = y at *
    clear ha hb
    have HE : Hid (x - y = s) := e
    clear e
    go_enter Tryd.func64, Tryd.ntmps64
    go_wp2_with (go_at_call 43; first | (refine ca.mono ?_; rintro e w' ⟨rfl, rfl⟩; clear ca) | (refine cb.mono ?_; rintro e w' ⟨rfl, rfl⟩; clear cb))
    go_ret
    exact ⟨ret_int HE.out, rfl⟩
  · have e := sub_no a b h
    generalize (a - b) % PP = s at e ⊢
    generalize ha : a % PP = x at *
    generalize hb : b % PP = y at *
    clear ha hb
    have HE : Hid (x + (18446744069414584321 - y) = s) := e
    clear e
    go_enter Tryd.func64, Tryd.ntmps64
    go_wp2_with (go_at_call 43; first | (refine ca.mono ?_; rintro e w' ⟨rfl, rfl⟩; clear ca) | (refine cb.mono ?_; rintro e w' ⟨rfl, rfl⟩; clear cb))
    go_ret
    exact ⟨ret_int HE.out, rfl⟩

theorem and_mask {a : Int} (h0 : 0 ≤ a) (h1 : a ≤ 18446744073709551615) : bits .and .u64 a 4294967295 = a % 4294967296 := by
  obtain ⟨n, rfl⟩ : ∃ n : Nat, a = n := ⟨a.toNat, by omega⟩
  have h := bits_and_u64_nat n 4294967295 (by omega) (by omega)
  rw [show n &&& 4294967295 = n % 4294967296 from Nat.and_two_pow_sub_one_eq_mod n 32] at h
  exact h.trans (by omega)

/-- Four products of halves make the product. -/
theorem four_products (x y : Int) : x * y = (x / 4294967296) * (y / 4294967296) * 18446744073709551616 + ((x / 4294967296) * (y % 4294967296) + (x % 4294967296) * (y / 4294967296)) * 4294967296 + (x % 4294967296) * (y % 4294967296) := by
  have ex := Int.mul_ediv_add_emod x 4294967296
  have ey := Int.mul_ediv_add_emod y 4294967296
  generalize x / 4294967296 = a at *
  generalize x % 4294967296 = b at *
  generalize y / 4294967296 = c at *
  generalize y % 4294967296 = d at *
  subst ex ey
  grind
theorem half_product {a b : Int} (a0 : 0 ≤ a) (a1 : a ≤ 4294967295) (b0 : 0 ≤ b) (b1 : b ≤ 4294967295) : 0 ≤ a * b ∧ a * b ≤ 18446744065119617025 :=
  ⟨Int.mul_nonneg a0 b0, Int.le_trans (Int.mul_le_mul a1 b1 b0 (by omega)) (by omega)⟩

set_option maxHeartbeats 400000 in
theorem mul64_any (a b : Int) (h0 : 0 ≤ a) (h1 : a ≤ 18446744073709551615) (g0 : 0 ≤ b) (g1 : b ≤ 18446744073709551615) (w : World) :
    Calls Tryd.prog 45 #[.int .u64 a, .int .u64 b] w fun e w' => ∃ h l : Int, 0 ≤ h ∧ h ≤ 18446744073709551615 ∧ 0 ≤ l ∧ l ≤ 18446744073709551615 ∧ Hid (a * b = h * 18446744073709551616 + l) ∧ e = .returned (.tuple #[.int .u64 h, .int .u64 l]) ∧ w' = w := by
  have ma := and_mask h0 h1
  have mb := and_mask g0 g1
  have e4 := four_products a b
  have b11 := half_product (a := a / 4294967296) (b := b / 4294967296) (by omega) (by omega) (by omega) (by omega)
  have b10 := half_product (a := a / 4294967296) (b := b % 4294967296) (by omega) (by omega) (by omega) (by omega)
  have b01 := half_product (a := a % 4294967296) (b := b / 4294967296) (by omega) (by omega) (by omega) (by omega)
  have b00 := half_product (a := a % 4294967296) (b := b % 4294967296) (by omega) (by omega) (by omega) (by omega)
  obtain ⟨p11, h11⟩ : ∃ p, a / 4294967296 * (b / 4294967296) = p := ⟨_, rfl⟩
  obtain ⟨p10, h10⟩ : ∃ p, a / 4294967296 * (b % 4294967296) = p := ⟨_, rfl⟩
  obtain ⟨p01, h01⟩ : ∃ p, a % 4294967296 * (b / 4294967296) = p := ⟨_, rfl⟩
  obtain ⟨p00, h00⟩ : ∃ p, a % 4294967296 * (b % 4294967296) = p := ⟨_, rfl⟩
  obtain ⟨p, hp⟩ : ∃ p, a * b = p := ⟨_, rfl⟩
  rw [h11] at b11
  rw [h10] at b10
  rw [h01] at b01
  rw [h00] at b00
  rw [hp, h11, h10, h01, h00] at e4
  have HE : Hid (p = p11 * 18446744073709551616 + (p10 + p01) * 4294967296 + p00) := e4
  clear e4
  have HP : Hid (a * b = p) := hp
  have mt := and_mask (a := p10 + p00 / 4294967296) (by omega) (by omega)
  go_enter Tryd.func45, Tryd.ntmps45
  go_wp2
  go_ret2
  refine ⟨_, _, ?_, ?_, ?_, ?_, ?_, rfl, rfl⟩
  · omega
  · omega
  · rw [IntKind.wrap_u64]; omega
  · rw [IntKind.wrap_u64]; omega
  · show a * b = _
    have := HE.out
    rw [HP.out, IntKind.wrap_u64]; omega

theorem fold_any (h l : Int) (h0 : 0 ≤ h) (h1 : h ≤ 18446744073709551615) (g0 : 0 ≤ l) (g1 : l ≤ 18446744073709551615) (w : World) :
    Calls Tryd.prog 46 #[.int .u64 h, .int .u64 l] w fun e w' => e = .returned (.int .u64 ((h * 18446744073709551616 + l) % PP)) ∧ w' = w := by
  have e := fold_eq h l
  generalize (h * 18446744073709551616 + l) % PP = s at *
  have HE : Hid (((l - h / 4294967296) % PP + (h % 4294967296) * 4294967295) % PP = s) := e
  clear e
  have hm := and_mask h0 h1
  have bs := md_bd (l - h / 4294967296)
  have cs := sub_any l (h / 4294967296) g0 g1 (by omega) (by omega) w
  have ca := add_any ((l - h / 4294967296) % PP) (h % 4294967296 * 4294967295) (by omega) (by omega) (by omega) (by omega) w
  go_enter Tryd.func46, Tryd.ntmps46
  go_wp2_with (first | (go_at_call 64; refine cs.mono ?_; rintro e w' ⟨rfl, rfl⟩) | (go_at_call 24; refine ca.mono ?_; rintro e w' ⟨rfl, rfl⟩))
  go_ret
  exact ⟨ret_int (by rw [← md_add_l]; exact HE.out), rfl⟩

theorem mul_any (a b : Int) (h0 : 0 ≤ a) (h1 : a ≤ 18446744073709551615) (g0 : 0 ≤ b) (g1 : b ≤ 18446744073709551615) (w : World) :
    Calls Tryd.prog 27 #[.int .u64 a, .int .u64 b] w fun e w' => e = .returned (.int .u64 ((a * b) % PP)) ∧ w' = w := by
  have ca := element_any a h0 h1 w
  have cb := element_any b g0 g1 w
  have ba := md_bd a
  have bb := md_bd b
  have HE : Hid ((a % PP * (b % PP)) % PP = (a * b) % PP) := md_mul a b
  generalize (a * b) % PP = s at *
  generalize ha : a % PP = x at *
  generalize hb : b % PP = y at *
  clear ha hb
  have cm := mul64_any x y (by omega) (by omega) (by omega) (by omega) w
  go_enter Tryd.func27, Tryd.ntmps27
  go_wp2_with (first | (go_at_call 43; first | (refine ca.mono ?_; rintro e w' ⟨rfl, rfl⟩; clear ca) | (refine cb.mono ?_; rintro e w' ⟨rfl, rfl⟩; clear cb)) | (go_at_call 45; refine cm.mono ?_; rintro e w' ⟨hi, lo, u0, u1, v0, v1, HM, rfl, rfl⟩; clear cm) | (go_at_call 46; refine (fold_any _ _ (by assumption) (by assumption) (by assumption) (by assumption) _).mono ?_; rintro e w' ⟨rfl, rfl⟩))
  go_ret
  exact ⟨ret_int (by rw [← HM.out]; exact HE.out), rfl⟩

theorem and_one {m : Nat} (h : m ≤ 18446744073709551615) : bits .and .u64 (m : Int) 1 = (m : Int) % 2 := by
  have h := bits_and_u64_nat m 1 (by omega) (by omega)
  have e : m &&& 1 = m % 2 := Nat.and_one_is_mod m
  rw [e] at h
  rw [show ((1 : Nat) : Int) = 1 from rfl] at h
  rw [h]; omega

set_option maxHeartbeats 400000 in
theorem pow_any (a : Int) (n : Nat) (h0 : 0 ≤ a) (h1 : a ≤ 18446744073709551615) (g1 : n ≤ 18446744073709551615) (w : World) :
    Calls Tryd.prog 44 #[.int .u64 a, .int .u64 n] w fun e w' => e = .returned (.int .u64 (pw a n)) ∧ w' = w := by
  have HS : Hid ((1 * pw a n) % PP = pw a n) := pow_start a n
  generalize hr : pw a n = r at *
  have HR : Hid (pw a n = r) := hr
  clear hr
  go_enter Tryd.func44, Tryd.ntmps44
  go_wp2
  go_loop [1, 5, 6] (fun tn tp ts => ∃ (m : Nat) (p s : Int), m ≤ 18446744073709551615 ∧ 0 ≤ p ∧ p ≤ 18446744069414584320 ∧ 0 ≤ s ∧ s ≤ 18446744073709551615 ∧ tn = .int .u64 m ∧ tp = .int .u64 p ∧ ts = .int .u64 s ∧ Hid ((p * pw s m) % PP = r)) (fun tn _ _ => (intOf tn).toNat)
  case atStart => exact ⟨n, 1, a, g1, by omega, by omega, h0, h1, rfl, rfl, rfl, by show _ = _; rw [HR.out]; exact HS.out⟩
  case round =>
    obtain ⟨m, p, s, hm, p0, p1, s0, s1, rfl, rfl, rfl, HI⟩ := hrel
    have hand := and_one hm
    have bp := md_bd (p * s)
    have bs := md_bd (s * s)
    by_cases hz : 0 < m
    · by_cases ho : m % 2 = 1
      · have ho' : (m : Int) % 2 = 1 := by omega
        go_wp2_with (go_at_call 27; refine (mul_any _ _ (by omega) (by omega) (by omega) (by omega) _).mono ?_; rintro e w' ⟨rfl, rfl⟩)
        go_round
        case rel => exact ⟨m / 2, _, _, by omega, bp.1, bp.2, bs.1, by omega, by go_num, rfl, rfl, (pow_odd p s m ho).trans HI.out⟩
        case measure => simp [intOf]; omega
      · have ho' : ¬ (m : Int) % 2 = 1 := by omega
        go_wp2_with (go_at_call 27; refine (mul_any _ _ (by omega) (by omega) (by omega) (by omega) _).mono ?_; rintro e w' ⟨rfl, rfl⟩)
        go_round
        case rel => exact ⟨m / 2, p, _, by omega, p0, p1, bs.1, by omega, by go_num, rfl, rfl, (pow_even p s m ho).trans HI.out⟩
        case measure => simp [intOf]; omega
    · obtain rfl : m = 0 := by omega
      go_wp2
      go_ret
      exact ⟨ret_int (by rw [← HI.out, pow_end p0 p1]), rfl⟩

end Go.Proofs.YtddpcjgekfmhkaaDoor
