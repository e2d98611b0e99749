/- The document's own answer, package weaveref, walked: its small functions. -/
import Derived.Test.YtddpcjgekfmhkaaChecked
import Derived.Test.YtddpcjgekfmhkaaFm
import Derived.Test.YtddpcjgekfmhkaaBx
import Derived.WalkKit
import Derived.Test.YtddpcjgekfmhkaaGw
namespace Go.Proofs.Ytddpcjgekfmhkaa
open Go.RowKit

/-- A number of 64 bits, in halves. -/
abbrev nm (v : Int) : Value := .agg #[.int .i64 (v / 4294967296), .int .i64 (v % 4294967296)]

theorem prime_ref (w : World) : Calls Try.prog 48 #[] w fun e w' => e = .returned (.agg #[.int .i64 4294967295, .int .i64 1]) ∧ Gw w w' := by
  go_enter Try.func48, Try.ntmps48
  go_wp2
  exact bodyPost_ret (v := .agg #[.int .i64 4294967295, .int .i64 1]) (by simp [results, Try.results48, go_sem]) rfl ⟨rfl, by repeat (first | exact Gw.refl _ | apply Gw.alloc | refine Gw.setCell ?_ (by simp) _)⟩

def MinusQ (v : Int) (e : Ending) : Prop := ∃ h l : Int, 0 ≤ h ∧ h ≤ 4294967295 ∧ 0 ≤ l ∧ l ≤ 4294967295 ∧ (h * 4294967296 + l - v) % 18446744073709551616 = 0 ∧ e = .returned (.agg #[.int .i64 h, .int .i64 l])
theorem minus_hl (h1 l1 h2 l2 : Int) (a0 : 0 ≤ h1) (a1 : h1 ≤ 4294967295) (b0 : 0 ≤ l1) (b1 : l1 ≤ 4294967295) (c0 : 0 ≤ h2) (c1 : h2 ≤ 4294967295) (d0 : 0 ≤ l2) (d1 : l2 ≤ 4294967295) (w : World) :
    Calls Try.prog 47 #[.agg #[.int .i64 h1, .int .i64 l1], .agg #[.int .i64 h2, .int .i64 l2]] w fun e w' => MinusQ (h1 * 4294967296 + l1 - (h2 * 4294967296 + l2)) e ∧ Gw w w' := by
  by_cases hl : l1 - l2 < 0
  · by_cases hh : h1 - h2 - 1 < 0
    · go_enter Try.func47, Try.ntmps47
      go_wp2
      exact bodyPost_ret (v := .agg #[.int .i64 (h1 - h2 - 1 + 4294967296), .int .i64 (l1 - l2 + 4294967296)]) (by simp [results, Try.results47, go_sem]) rfl ⟨⟨h1 - h2 - 1 + 4294967296, l1 - l2 + 4294967296, by omega, by omega, by omega, by omega, by omega, rfl⟩, by repeat (first | exact Gw.refl _ | apply Gw.alloc | refine Gw.setCell ?_ (by simp) _)⟩
    · go_enter Try.func47, Try.ntmps47
      go_wp2
      exact bodyPost_ret (v := .agg #[.int .i64 (h1 - h2 - 1), .int .i64 (l1 - l2 + 4294967296)]) (by simp [results, Try.results47, go_sem]) rfl ⟨⟨h1 - h2 - 1, l1 - l2 + 4294967296, by omega, by omega, by omega, by omega, by omega, rfl⟩, by repeat (first | exact Gw.refl _ | apply Gw.alloc | refine Gw.setCell ?_ (by simp) _)⟩
  · by_cases hh : h1 - h2 < 0
    · go_enter Try.func47, Try.ntmps47
      go_wp2
      exact bodyPost_ret (v := .agg #[.int .i64 (h1 - h2 + 4294967296), .int .i64 (l1 - l2)]) (by simp [results, Try.results47, go_sem]) rfl ⟨⟨h1 - h2 + 4294967296, l1 - l2, by omega, by omega, by omega, by omega, by omega, rfl⟩, by repeat (first | exact Gw.refl _ | apply Gw.alloc | refine Gw.setCell ?_ (by simp) _)⟩
    · go_enter Try.func47, Try.ntmps47
      go_wp2
      exact bodyPost_ret (v := .agg #[.int .i64 (h1 - h2), .int .i64 (l1 - l2)]) (by simp [results, Try.results47, go_sem]) rfl ⟨⟨h1 - h2, l1 - l2, by omega, by omega, by omega, by omega, by omega, rfl⟩, by repeat (first | exact Gw.refl _ | apply Gw.alloc | refine Gw.setCell ?_ (by simp) _)⟩

theorem minus_ref (a b : Int) (a0 : 0 ≤ a) (a1 : a ≤ 18446744073709551615) (b0 : 0 ≤ b) (b1 : b ≤ 18446744073709551615) (w : World) :
    Calls Try.prog 47 #[nm a, nm b] w fun e w' => e = .returned (nm ((a - b) % 18446744073709551616)) ∧ Gw w w' := by
  refine (minus_hl (a / 4294967296) (a % 4294967296) (b / 4294967296) (b % 4294967296) (by omega) (by omega) (by omega) (by omega) (by omega) (by omega) (by omega) (by omega) w).mono ?_
  rintro e w' ⟨⟨h, l, h0, h1, l0, l1, hE, rfl⟩, hg⟩
  refine ⟨?_, hg⟩
  have e1 : h = (a - b) % 18446744073709551616 / 4294967296 := by omega
  have e2 : l = (a - b) % 18446744073709551616 % 4294967296 := by omega
  rw [e1, e2]

theorem atLeast_hl (h1 l1 h2 l2 : Int) (w : World) :
    Calls Try.prog 50 #[.agg #[.int .i64 h1, .int .i64 l1], .agg #[.int .i64 h2, .int .i64 l2]] w fun e w' => e = .returned (.bool (decide (h2 < h1 ∨ (h1 = h2 ∧ l2 ≤ l1)))) ∧ Gw w w' := by
  by_cases hg : h2 < h1
  · rw [decide_eq_true (Or.inl hg)]
    go_enter Try.func50, Try.ntmps50
    go_wp2
    go_ret
    exact ⟨rfl, by repeat (first | exact Gw.refl _ | apply Gw.alloc | refine Gw.setCell ?_ (by simp) _)⟩
  · by_cases he : h1 = h2
    · subst he
      by_cases hl : l2 ≤ l1
      · rw [decide_eq_true (Or.inr ⟨rfl, hl⟩)]
        go_enter Try.func50, Try.ntmps50
        go_wp2
        go_ret
        exact ⟨by simp, by repeat (first | exact Gw.refl _ | apply Gw.alloc | refine Gw.setCell ?_ (by simp) _)⟩
      · rw [decide_eq_false (by omega)]
        go_enter Try.func50, Try.ntmps50
        go_wp2
        go_ret
        exact ⟨by simp, by repeat (first | exact Gw.refl _ | apply Gw.alloc | refine Gw.setCell ?_ (by simp) _)⟩
    · rw [decide_eq_false (by omega)]
      have he' : (h1 == h2) = false := by simpa using he
      go_enter Try.func50, Try.ntmps50
      go_wp2
      go_ret
      exact ⟨by simp, by repeat (first | exact Gw.refl _ | apply Gw.alloc | refine Gw.setCell ?_ (by simp) _)⟩

theorem atLeast_ref (a b : Int) (w : World) :
    Calls Try.prog 50 #[nm a, nm b] w fun e w' => e = .returned (.bool (decide (b ≤ a))) ∧ Gw w w' := by
  have c := atLeast_hl (a / 4294967296) (a % 4294967296) (b / 4294967296) (b % 4294967296) w
  rw [show decide (b / 4294967296 < a / 4294967296 ∨ (a / 4294967296 = b / 4294967296 ∧ b % 4294967296 ≤ a % 4294967296)) = decide (b ≤ a) from decide_eq_decide.2 (by omega)] at c
  exact c

theorem bits_ref (v : Int) (v0 : 0 ≤ v) (v1 : v ≤ 18446744073709551615) (w : World) :
    Calls Try.prog 45 #[nm v] w fun e w' => e = .returned (.int .i64 (wrap64 v)) ∧ Gw w w' := by
  have hO := or_i64_halves (v / 4294967296) (v % 4294967296) (by omega) (by omega) (by omega) (by omega)
  rw [show v / 4294967296 * 4294967296 + v % 4294967296 = v by omega] at hO
  go_enter Try.func45, Try.ntmps45
  go_wp2
  go_ret
  exact ⟨rfl, by repeat (first | exact Gw.refl _ | apply Gw.alloc | refine Gw.setCell ?_ (by simp) _)⟩

theorem of_ref (n : Int) (w : World) :
    Calls Try.prog 10 #[.int .i64 n] w fun e w' => e = .returned (nm (n % 18446744073709551616)) ∧ Gw w w' := by
  have m1 := and_i64_mask (n / 4294967296)
  have m2 := and_i64_mask n
  have e1 : n % 18446744073709551616 / 4294967296 = n / 4294967296 % 4294967296 := by omega
  have e2 : n % 18446744073709551616 % 4294967296 = n % 4294967296 := by omega
  unfold nm
  rw [e1, e2]
  go_enter Try.func10, Try.ntmps10
  go_wp2
  exact bodyPost_ret (v := .agg #[.int .i64 (n / 4294967296 % 4294967296), .int .i64 (n % 4294967296)]) (by simp [results, Try.results10, go_sem]) rfl ⟨rfl, by repeat (first | exact Gw.refl _ | apply Gw.alloc | refine Gw.setCell ?_ (by simp) _)⟩

end Go.Proofs.Ytddpcjgekfmhkaa
