/- Bits of whole numbers, as the walk spells them. -/
import Derived.WalkKit
import Derived.Laws.Bits64b
namespace Go.Proofs.YtddpcjgekfmhkaaDoor
open Go.RowKit

theorem ofInt_toNat (a : Int) : (BitVec.ofInt 64 a).toNat = (a % 18446744073709551616).toNat := by
  rw [BitVec.toNat_ofInt]; rfl
theorem and_i64_nat (a b : Nat) (ha : a < 9223372036854775808) (hb : b < 9223372036854775808) :
    bits .and .i64 (a : Int) (b : Int) = ((a &&& b : Nat) : Int) := by
  have hx : a &&& b ≤ a := Nat.and_le_left
  show IntKind.i64.wrap ((BitVec.ofInt 64 (a : Int) &&& BitVec.ofInt 64 (b : Int)).toNat : Int) = _
  rw [BitVec.toNat_and, ofInt_toNat, ofInt_toNat, IntKind.wrap_i64]
  have h1 : ((a : Int) % 18446744073709551616).toNat = a := by omega
  have h2 : ((b : Int) % 18446744073709551616).toNat = b := by omega
  rw [h1, h2]
  omega
theorem and_i64_mask (n : Int) : bits .and .i64 n 4294967295 = n % 4294967296 := by
  show IntKind.i64.wrap ((BitVec.ofInt 64 n &&& BitVec.ofInt 64 4294967295).toNat : Int) = _
  rw [BitVec.toNat_and, ofInt_toNat, ofInt_toNat, IntKind.wrap_i64]
  have h2 : ((4294967295 : Int) % 18446744073709551616).toNat = 4294967295 := by decide
  have e : (n % 18446744073709551616).toNat &&& 4294967295 = (n % 18446744073709551616).toNat % 4294967296 := Nat.and_two_pow_sub_one_eq_mod _ 32
  rw [h2, e]
  omega
theorem and_i64_one (n : Int) : bits .and .i64 n 1 = n % 2 := by
  show IntKind.i64.wrap ((BitVec.ofInt 64 n &&& BitVec.ofInt 64 1).toNat : Int) = _
  rw [BitVec.toNat_and, ofInt_toNat, ofInt_toNat, IntKind.wrap_i64]
  have h2 : ((1 : Int) % 18446744073709551616).toNat = 1 := by decide
  have e : (n % 18446744073709551616).toNat &&& 1 = (n % 18446744073709551616).toNat % 2 := Nat.and_two_pow_sub_one_eq_mod _ 1
  rw [h2, e]
  omega
/-- Two halves, put together. -/
theorem or_i64_halves (h l : Int) (h0 : 0 ≤ h) (h1 : h ≤ 4294967295) (l0 : 0 ≤ l) (l1 : l ≤ 4294967295) :
    bits .or .i64 (wrap64 (h * 4294967296)) l = wrap64 (h * 4294967296 + l) := by
  show IntKind.i64.wrap ((BitVec.ofInt 64 (wrap64 (h * 4294967296)) ||| BitVec.ofInt 64 l).toNat : Int) = _
  rw [BitVec.toNat_or, ofInt_toNat, ofInt_toNat, IntKind.wrap_i64]
  have e1 : (wrap64 (h * 4294967296) % 18446744073709551616).toNat = h.toNat * 4294967296 := by unfold wrap64; omega
  have e2 : (l % 18446744073709551616).toNat = l.toNat := by omega
  have e3 : h.toNat * 4294967296 ||| l.toNat = h.toNat * 4294967296 + l.toNat := by
    have := Nat.two_pow_add_eq_or_of_lt (i := 32) (b := l.toNat) (by omega) h.toNat
    rw [show (2 : Nat) ^ 32 = 4294967296 from rfl, Nat.mul_comm] at this
    exact this.symm
  rw [e1, e2, e3]
  unfold wrap64; omega

end Go.Proofs.YtddpcjgekfmhkaaDoor
