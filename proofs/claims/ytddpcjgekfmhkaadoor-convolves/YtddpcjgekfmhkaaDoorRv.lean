/- The library's TrailingZeros and Reverse64 at small numbers: plain facts. -/
import Derived.Test.YtddpcjgekfmhkaaDoorMe
import Derived.Laws.Bits64b
namespace Go.Proofs.YtddpcjgekfmhkaaDoor
open Go.RowKit

/-- One step of turning bits round. -/
def rstep (m s x : Int) : Int := bits .or .u64 (bits .and .u64 (x / s) m) (IntKind.u64.wrap (bits .and .u64 x m * s))
def rbytes (x : Int) : Int := bits .or .u64 (rstep 281470681808895 65536 (rstep 71777214294589695 256 x) / 4294967296) (IntKind.u64.wrap (rstep 281470681808895 65536 (rstep 71777214294589695 256 x) * 4294967296))
def r64 (x : Int) : Int := rbytes (rstep 1085102592571150095 16 (rstep 3689348814741910323 4 (rstep 6148914691236517205 2 x)))

/-- The library's table, as its text lays it. -/
def tzTab : List Int := [0, 1, 56, 2, 57, 49, 28, 3, 61, 58, 42, 50, 38, 29, 17, 4, 62, 47, 59, 36, 45, 43, 51, 22, 53, 39, 33, 30, 24, 18, 12, 5, 63, 55, 48, 27, 60, 41, 37, 16, 46, 35, 44, 21, 52, 32, 23, 11, 54, 26, 40, 15, 34, 20, 31, 10, 25, 14, 19, 9, 13, 8, 7, 6]
def Tab (w : World) : Prop := ∀ i, i < 64 → w.cell? ⟨1, i, none⟩ = some (.int .u8 (tzTab.getD i 0))
theorem Tab.gw {w w' : World} (h : Tab w) (g : Gw w w') : Tab w' := fun i hi => g.at (h i hi)
def tzIdx (k : Nat) : Nat := 2 ^ k * 285870213051353865 % 18446744073709551616 / 288230376151711744
theorem tz_nat : ∀ k : Fin 11, tzIdx k.val < 64 ∧ tzTab.getD (tzIdx k.val) 0 = (k.val : Int) ∧ 2 ^ k.val &&& (18446744073709551616 - 2 ^ k.val) = 2 ^ k.val := by decide +kernel
theorem tz_facts (k : Nat) (hk : k ≤ 10) : IntKind.u64.wrap (((2 ^ k : Nat) : Int) * 285870213051353865) / 288230376151711744 = ((tzIdx k : Nat) : Int) ∧ tzIdx k < 64 ∧ tzTab.getD (tzIdx k) 0 = (k : Int) ∧ bits .and .u64 ((2 ^ k : Nat) : Int) (IntKind.u64.wrap (-((2 ^ k : Nat) : Int))) = ((2 ^ k : Nat) : Int) := by
  obtain ⟨h2, h3, h4⟩ := tz_nat ⟨k, by omega⟩
  refine ⟨?_, h2, h3, ?_⟩
  · rw [IntKind.wrap_u64]
    unfold tzIdx
    generalize 2 ^ k = n
    omega
  · have hn1 : 1 ≤ 2 ^ k := Nat.one_le_two_pow
    have hn : 2 ^ k ≤ 1024 := Nat.pow_le_pow_right (n := 2) (by decide) hk
    have h4 : 2 ^ k &&& (18446744073709551616 - 2 ^ k) = 2 ^ k := h4
    generalize 2 ^ k = n at *
    have e : IntKind.u64.wrap (-(n : Int)) = ((18446744073709551616 - n : Nat) : Int) := by rw [IntKind.wrap_u64]; omega
    rw [e, bits_and_u64_nat n _ (by omega) (by omega), h4]

/-- The same on natural numbers. -/
def rstepN (m s x : Nat) : Nat := (x / s &&& m) ||| ((x &&& m) * s % 18446744073709551616)
theorem rstepN_lt (m s x : Nat) (hm : m < 18446744073709551616) : rstepN m s x < 18446744073709551616 :=
  Nat.or_lt_two_pow (n := 64) (Nat.lt_of_le_of_lt Nat.and_le_right hm) (Nat.mod_lt _ (by decide))
theorem rstep_nat (m s x : Nat) (hm : m < 18446744073709551616) (hx : x < 18446744073709551616) : rstep m s x = ((rstepN m s x : Nat) : Int) := by
  unfold rstep rstepN
  rw [← Int.natCast_ediv, bits_and_u64_nat (x / s) m (Nat.lt_of_le_of_lt (Nat.div_le_self _ _) hx) hm, bits_and_u64_nat x m hx hm, ← Int.natCast_mul, IntKind.wrap_u64]
  rw [show ((((x &&& m) * s : Nat) : Int) % 18446744073709551616) = (((x &&& m) * s % 18446744073709551616 : Nat) : Int) from (Int.natCast_emod _ _).symm]
  exact bits_or_u64_nat _ _ (Nat.lt_of_le_of_lt Nat.and_le_right hm) (Nat.mod_lt _ (by decide))
def rbytesN (x : Nat) : Nat := (rstepN 281470681808895 65536 (rstepN 71777214294589695 256 x) / 4294967296) ||| (rstepN 281470681808895 65536 (rstepN 71777214294589695 256 x) * 4294967296 % 18446744073709551616)
def r64N (x : Nat) : Nat := rbytesN (rstepN 1085102592571150095 16 (rstepN 3689348814741910323 4 (rstepN 6148914691236517205 2 x)))
theorem rbytes_nat (x : Nat) (hx : x < 18446744073709551616) : rbytes x = ((rbytesN x : Nat) : Int) := by
  unfold rbytes rbytesN
  have e1 := rstep_nat 71777214294589695 256 x (by decide) hx
  have l1 := rstepN_lt 71777214294589695 256 x (by decide)
  have e2 := rstep_nat 281470681808895 65536 _ (by decide) l1
  have l2 := rstepN_lt 281470681808895 65536 (rstepN 71777214294589695 256 x) (by decide)
  have e1' : rstep 71777214294589695 256 x = _ := e1
  have e2' : rstep 281470681808895 65536 _ = _ := e2
  rw [e1', e2']
  generalize rstepN 281470681808895 65536 (rstepN 71777214294589695 256 x) = y at *
  rw [show (y : Int) / 4294967296 = ((y / 4294967296 : Nat) : Int) by omega, IntKind.wrap_u64, show (y : Int) * 4294967296 % 18446744073709551616 = ((y * 4294967296 % 18446744073709551616 : Nat) : Int) by omega]
  exact bits_or_u64_nat _ _ (by omega) (by omega)
theorem r64_nat (x : Nat) (hx : x < 18446744073709551616) : r64 x = ((r64N x : Nat) : Int) := by
  unfold r64 r64N
  have e1 : rstep 6148914691236517205 2 x = _ := rstep_nat 6148914691236517205 2 x (by decide) hx
  have l1 := rstepN_lt 6148914691236517205 2 x (by decide)
  have e2 : rstep 3689348814741910323 4 _ = _ := rstep_nat 3689348814741910323 4 _ (by decide) l1
  have l2 := rstepN_lt 3689348814741910323 4 (rstepN 6148914691236517205 2 x) (by decide)
  have e3 : rstep 1085102592571150095 16 _ = _ := rstep_nat 1085102592571150095 16 _ (by decide) l2
  have l3 := rstepN_lt 1085102592571150095 16 (rstepN 3689348814741910323 4 (rstepN 6148914691236517205 2 x)) (by decide)
  rw [e1, e2, e3]
  exact rbytes_nat _ l3
theorem rev_nat : ∀ k : Fin 11, ∀ i : Fin (2 ^ k.val), r64N i.val / 2 ^ (64 - k.val) = rev k.val i.val := by decide +kernel
theorem rev_facts (K i : Nat) (hK : K ≤ 10) (hi : i < 2 ^ K) : r64 (i : Int) / 2 ^ (64 - K) = ((rev K i : Nat) : Int) := by
  have hn : 2 ^ K ≤ 1024 := Nat.pow_le_pow_right (n := 2) (by decide) hK
  rw [r64_nat i (by omega)]
  have : r64N i / 2 ^ (64 - K) = rev K i := rev_nat ⟨K, by omega⟩ ⟨i, hi⟩
  rw [← this]
  norm_cast

end Go.Proofs.YtddpcjgekfmhkaaDoor
