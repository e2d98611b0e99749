/- The library's TrailingZeros and Reverse64 at small numbers; scatter, walked. -/
import Derived.Test.YtddpcjgekfmhkaaDoorPv
import Derived.Test.YtddpcjgekfmhkaaDoorRv
namespace Go.Proofs.YtddpcjgekfmhkaaDoor
open Go.RowKit
set_option linter.unusedSimpArgs false

theorem revbytes_any (x : Int) (w : World) :
    Calls Tryd.prog 108 #[.int .u64 x] w fun e w' => e = .returned (.int .u64 (rbytes x)) ∧ w' = w := by
  obtain ⟨a1, ha1⟩ : ∃ a, bits .and .u64 (x / 256) 71777214294589695 = a := ⟨_, rfl⟩
  obtain ⟨b1, hb1⟩ : ∃ a, bits .and .u64 x 71777214294589695 = a := ⟨_, rfl⟩
  obtain ⟨c1, hc1⟩ : ∃ a, IntKind.u64.wrap (b1 * 256) = a := ⟨_, rfl⟩
  obtain ⟨x1, hx1⟩ : ∃ a, bits .or .u64 a1 c1 = a := ⟨_, rfl⟩
  obtain ⟨a2, ha2⟩ : ∃ a, bits .and .u64 (x1 / 65536) 281470681808895 = a := ⟨_, rfl⟩
  obtain ⟨b2, hb2⟩ : ∃ a, bits .and .u64 x1 281470681808895 = a := ⟨_, rfl⟩
  obtain ⟨c2, hc2⟩ : ∃ a, IntKind.u64.wrap (b2 * 65536) = a := ⟨_, rfl⟩
  obtain ⟨x2, hx2⟩ : ∃ a, bits .or .u64 a2 c2 = a := ⟨_, rfl⟩
  obtain ⟨c3, hc3⟩ : ∃ a, IntKind.u64.wrap (x2 * 4294967296) = a := ⟨_, rfl⟩
  obtain ⟨r, hr⟩ : ∃ a, bits .or .u64 (x2 / 4294967296) c3 = a := ⟨_, rfl⟩
  have e : rbytes x = r := by unfold rbytes rstep; rw [ha1, hb1, hc1, hx1, ha2, hb2, hc2, hx2, hc3, hr]
  rw [e]
  clear e
  go_enter Tryd.func108, Tryd.ntmps108
  go_wp2
  go_ret
  exact ⟨rfl, rfl⟩

theorem rev64_any (x : Int) (w : World) :
    Calls Tryd.prog 81 #[.int .u64 x] w fun e w' => e = .returned (.int .u64 (r64 x)) ∧ w' = w := by
  obtain ⟨a1, ha1⟩ : ∃ a, bits .and .u64 (x / 2) 6148914691236517205 = a := ⟨_, rfl⟩
  obtain ⟨b1, hb1⟩ : ∃ a, bits .and .u64 x 6148914691236517205 = a := ⟨_, rfl⟩
  obtain ⟨c1, hc1⟩ : ∃ a, IntKind.u64.wrap (b1 * 2) = a := ⟨_, rfl⟩
  obtain ⟨x1, hx1⟩ : ∃ a, bits .or .u64 a1 c1 = a := ⟨_, rfl⟩
  obtain ⟨a2, ha2⟩ : ∃ a, bits .and .u64 (x1 / 4) 3689348814741910323 = a := ⟨_, rfl⟩
  obtain ⟨b2, hb2⟩ : ∃ a, bits .and .u64 x1 3689348814741910323 = a := ⟨_, rfl⟩
  obtain ⟨c2, hc2⟩ : ∃ a, IntKind.u64.wrap (b2 * 4) = a := ⟨_, rfl⟩
  obtain ⟨x2, hx2⟩ : ∃ a, bits .or .u64 a2 c2 = a := ⟨_, rfl⟩
  obtain ⟨a3, ha3⟩ : ∃ a, bits .and .u64 (x2 / 16) 1085102592571150095 = a := ⟨_, rfl⟩
  obtain ⟨b3, hb3⟩ : ∃ a, bits .and .u64 x2 1085102592571150095 = a := ⟨_, rfl⟩
  obtain ⟨c3, hc3⟩ : ∃ a, IntKind.u64.wrap (b3 * 16) = a := ⟨_, rfl⟩
  obtain ⟨x3, hx3⟩ : ∃ a, bits .or .u64 a3 c3 = a := ⟨_, rfl⟩
  have c := revbytes_any x3
  have e : r64 x = rbytes x3 := by unfold r64 rstep; rw [ha1, hb1, hc1, hx1, ha2, hb2, hc2, hx2, ha3, hb3, hc3, hx3]
  rw [e]
  clear e
  generalize rbytes x3 = r at *
  go_enter Tryd.func81, Tryd.ntmps81
  go_wp2_with (go_at_call 108; refine (c _).mono ?_; rintro e w' ⟨rfl, hw⟩; subst w')
  go_ret
  exact ⟨rfl, rfl⟩

theorem tz64_core (x y M : Int) (I K : Nat) (w : World) (hx : (x == 0) = false) (hy : IntKind.u64.wrap (-x) = y) (ha : bits .and .u64 x y = x) (hM : IntKind.u64.wrap (x * 285870213051353865) = M)
    (hI : M / 288230376151711744 = (I : Int)) (hI0 : (0 : Int) ≤ (I : Int)) (hI1 : (I : Int) < 64) (hc : w.cell? ⟨1, I, none⟩ = some (.int .u8 (K : Int))) (hK0 : (0 : Int) ≤ (K : Int)) (hK : (K : Int) ≤ 64) :
    Calls Tryd.prog 107 #[.int .u64 x] w fun e w' => e = .returned (.int .i64 K) ∧ w' = w := by
  go_enter Tryd.func107, Tryd.ntmps107
  go_wp2
  go_ret
  exact ⟨rfl, rfl⟩

theorem tz64_any (K : Nat) (hK : K ≤ 10) (w : World) (ht : Tab w) :
    Calls Tryd.prog 107 #[.int .u64 ((2 ^ K : Nat) : Int)] w fun e w' => e = .returned (.int .i64 K) ∧ w' = w := by
  have hn1 : 1 ≤ 2 ^ K := Nat.one_le_two_pow
  have hx : (((2 ^ K : Nat) : Int) == 0) = false := by generalize 2 ^ K = n at *; simp; omega
  obtain ⟨h1, h2, h3, h4⟩ := tz_facts K hK
  have hc := ht _ h2
  rw [h3] at hc
  exact tz64_core _ _ _ _ K w hx rfl h4 rfl h1 (Int.natCast_nonneg _) (Int.ofNat_lt.2 h2) hc (Int.natCast_nonneg _) (by omega)

theorem tz_any (K : Nat) (hK : K ≤ 10) (w : World) (ht : Tab w) :
    Calls Tryd.prog 80 #[.int .u64 ((2 ^ K : Nat) : Int)] w fun e w' => e = .returned (.int .i64 K) ∧ w' = w := by
  have c := tz64_any K hK w ht
  generalize 2 ^ K = n at *
  go_enter Tryd.func80, Tryd.ntmps80
  go_wp2_with (go_at_call 107; refine c.mono ?_; rintro e w' ⟨rfl, hw⟩; subst w')
  go_ret
  exact ⟨rfl, rfl⟩

end Go.Proofs.YtddpcjgekfmhkaaDoor
