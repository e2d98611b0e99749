/- The document's own answer, package weaveref, walked: its small functions. -/
import Derived.Test.YtkcccpmnnlbgcaaChecked
import Derived.Test.YtkcccpmnnlbgcaaFm
import Derived.Test.YtkcccpmnnlbgcaaBx
import Derived.WalkKit
import Derived.RowKit3
namespace Go.Proofs.Ytkcccpmnnlbgcaa
open Go.RowKit

/-- Nothing old has turned; nothing is frozen anew. -/
def Gw (w w' : World) : Prop := Below w.heap.size w w' ∧ ∀ a, w'.frozen? a = w.frozen? a
theorem Gw.grown {w w' : World} (h : Gw w w') : Grown w w' := ⟨h.1.frame _, h.2, h.1.size⟩
theorem Gw.refl (w : World) : Gw w w := ⟨Below.refl _ _, fun _ => rfl⟩
theorem Gw.trans {a b c : World} (h : Gw a b) (k : Gw b c) : Gw a c := ⟨h.1.trans (k.1.mono h.1.size), fun x => (k.2 x).trans (h.2 x)⟩
theorem Gw.alloc {a w : World} (h : Gw a w) (c : Array Value) (t : TypeId) : Gw a (w.alloc (.cells c t)) :=
  ⟨h.1.alloc h.1.size _, fun x => (frozen?_alloc_cells w c t x).trans (h.2 x)⟩
theorem Gw.setCell {a w : World} (h : Gw a w) {p : Addr} (hp : a.heap.size ≤ p.block) (v : Value) : Gw a (w.setCell p v) :=
  ⟨h.1.setCell hp v, (h.grown.setCell hp v).2.1⟩
theorem Gw.drew {a w : World} (h : Gw a w) : Gw a w.drew := ⟨h.1.drew, h.2⟩
theorem Gw.cells {w w' : World} (h : Gw w w') : (∀ b o, b < w.heap.size → w'.cell? ⟨b, o, none⟩ = w.cell? ⟨b, o, none⟩) := fun b o hb => h.1.cell (p := ⟨b, o, none⟩) hb
theorem Gw.frozens {w w' : World} (h : Gw w w') : (∀ b o, w'.frozen? ⟨b, o, none⟩ = w.frozen? ⟨b, o, none⟩) := fun b o => h.2 ⟨b, o, none⟩

theorem Gw.at {w w' : World} (h : Gw w w') {b o : Nat} {v : Value} (hv : w.cell? ⟨b, o, none⟩ = some v) : w'.cell? ⟨b, o, none⟩ = some v := by
  refine (h.cells b o ?_).trans hv
  refine Nat.lt_of_not_le fun hle => ?_
  have e : w.heap[b]? = none := Array.getElem?_eq_none hle
  simp [World.cell?, e] at hv

/-- A number of 64 bits, in halves. -/
abbrev nm (v : Int) : Value := .agg #[.int .i64 (v / 4294967296), .int .i64 (v % 4294967296)]

theorem prime_ref (w : World) : Calls Try.prog 32 #[] w fun e w' => e = .returned (.agg #[.int .i64 4294967295, .int .i64 1]) ∧ Gw w w' := by
  go_enter Try.func32, Try.ntmps32
  go_wp2
  exact bodyPost_ret (v := .agg #[.int .i64 4294967295, .int .i64 1]) (by simp [results, Try.results32, go_sem]) rfl ⟨rfl, by repeat (first | exact Gw.refl _ | apply Gw.alloc | refine Gw.setCell ?_ (by simp) _)⟩

def MinusQ (v : Int) (e : Ending) : Prop := ∃ h l : Int, 0 ≤ h ∧ h ≤ 4294967295 ∧ 0 ≤ l ∧ l ≤ 4294967295 ∧ (h * 4294967296 + l - v) % 18446744073709551616 = 0 ∧ e = .returned (.agg #[.int .i64 h, .int .i64 l])
theorem minus_hl (h1 l1 h2 l2 : Int) (a0 : 0 ≤ h1) (a1 : h1 ≤ 4294967295) (b0 : 0 ≤ l1) (b1 : l1 ≤ 4294967295) (c0 : 0 ≤ h2) (c1 : h2 ≤ 4294967295) (d0 : 0 ≤ l2) (d1 : l2 ≤ 4294967295) (w : World) :
    Calls Try.prog 31 #[.agg #[.int .i64 h1, .int .i64 l1], .agg #[.int .i64 h2, .int .i64 l2]] w fun e w' => MinusQ (h1 * 4294967296 + l1 - (h2 * 4294967296 + l2)) e ∧ Gw w w' := by
  by_cases hl : l1 - l2 < 0
  · by_cases hh : h1 - h2 - 1 < 0
    · go_enter Try.func31, Try.ntmps31
      go_wp2
      exact bodyPost_ret (v := .agg #[.int .i64 (h1 - h2 - 1 + 4294967296), .int .i64 (l1 - l2 + 4294967296)]) (by simp [results, Try.results31, go_sem]) rfl ⟨⟨h1 - h2 - 1 + 4294967296, l1 - l2 + 4294967296, by omega, by omega, by omega, by omega, by omega, rfl⟩, by repeat (first | exact Gw.refl _ | apply Gw.alloc | refine Gw.setCell ?_ (by simp) _)⟩
    · go_enter Try.func31, Try.ntmps31
      go_wp2
      exact bodyPost_ret (v := .agg #[.int .i64 (h1 - h2 - 1), .int .i64 (l1 - l2 + 4294967296)]) (by simp [results, Try.results31, go_sem]) rfl ⟨⟨h1 - h2 - 1, l1 - l2 + 4294967296, by omega, by omega, by omega, by omega, by omega, rfl⟩, by repeat (first | exact Gw.refl _ | apply Gw.alloc | refine Gw.setCell ?_ (by simp) _)⟩
  · by_cases hh : h1 - h2 < 0
    · go_enter Try.func31, Try.ntmps31
      go_wp2
      exact bodyPost_ret (v := .agg #[.int .i64 (h1 - h2 + 4294967296), .int .i64 (l1 - l2)]) (by simp [results, Try.results31, go_sem]) rfl ⟨⟨h1 - h2 + 4294967296, l1 - l2, by omega, by omega, by omega, by omega, by omega, rfl⟩, by repeat (first | exact Gw.refl _ | apply Gw.alloc | refine Gw.setCell ?_ (by simp) _)⟩
    · go_enter Try.func31, Try.ntmps31
      go_wp2
      exact bodyPost_ret (v := .agg #[.int .i64 (h1 - h2), .int .i64 (l1 - l2)]) (by simp [results, Try.results31, go_sem]) rfl ⟨⟨h1 - h2, l1 - l2, by omega, by omega, by omega, by omega, by omega, rfl⟩, by repeat (first | exact Gw.refl _ | apply Gw.alloc | refine Gw.setCell ?_ (by simp) _)⟩

theorem minus_ref (a b : Int) (a0 : 0 ≤ a) (a1 : a ≤ 18446744073709551615) (b0 : 0 ≤ b) (b1 : b ≤ 18446744073709551615) (w : World) :
    Calls Try.prog 31 #[nm a, nm b] w fun e w' => e = .returned (nm ((a - b) % 18446744073709551616)) ∧ Gw w w' := by
  refine (minus_hl (a / 4294967296) (a % 4294967296) (b / 4294967296) (b % 4294967296) (by omega) (by omega) (by omega) (by omega) (by omega) (by omega) (by omega) (by omega) w).mono ?_
  rintro e w' ⟨⟨h, l, h0, h1, l0, l1, hE, rfl⟩, hg⟩
  refine ⟨?_, hg⟩
  have e1 : h = (a - b) % 18446744073709551616 / 4294967296 := by omega
  have e2 : l = (a - b) % 18446744073709551616 % 4294967296 := by omega
  rw [e1, e2]

theorem atLeast_hl (h1 l1 h2 l2 : Int) (w : World) :
    Calls Try.prog 34 #[.agg #[.int .i64 h1, .int .i64 l1], .agg #[.int .i64 h2, .int .i64 l2]] w fun e w' => e = .returned (.bool (decide (h2 < h1 ∨ (h1 = h2 ∧ l2 ≤ l1)))) ∧ Gw w w' := by
  by_cases hg : h2 < h1
  · rw [decide_eq_true (Or.inl hg)]
    go_enter Try.func34, Try.ntmps34
    go_wp2
    go_ret
    exact ⟨rfl, by repeat (first | exact Gw.refl _ | apply Gw.alloc | refine Gw.setCell ?_ (by simp) _)⟩
  · by_cases he : h1 = h2
    · subst he
      by_cases hl : l2 ≤ l1
      · rw [decide_eq_true (Or.inr ⟨rfl, hl⟩)]
        go_enter Try.func34, Try.ntmps34
        go_wp2
        go_ret
        exact ⟨by simp, by repeat (first | exact Gw.refl _ | apply Gw.alloc | refine Gw.setCell ?_ (by simp) _)⟩
      · rw [decide_eq_false (by omega)]
        go_enter Try.func34, Try.ntmps34
        go_wp2
        go_ret
        exact ⟨by simp, by repeat (first | exact Gw.refl _ | apply Gw.alloc | refine Gw.setCell ?_ (by simp) _)⟩
    · rw [decide_eq_false (by omega)]
      have he' : (h1 == h2) = false := by simpa using he
      go_enter Try.func34, Try.ntmps34
      go_wp2
      go_ret
      exact ⟨by simp, by repeat (first | exact Gw.refl _ | apply Gw.alloc | refine Gw.setCell ?_ (by simp) _)⟩

theorem atLeast_ref (a b : Int) (w : World) :
    Calls Try.prog 34 #[nm a, nm b] w fun e w' => e = .returned (.bool (decide (b ≤ a))) ∧ Gw w w' := by
  have c := atLeast_hl (a / 4294967296) (a % 4294967296) (b / 4294967296) (b % 4294967296) w
  rw [show decide (b / 4294967296 < a / 4294967296 ∨ (a / 4294967296 = b / 4294967296 ∧ b % 4294967296 ≤ a % 4294967296)) = decide (b ≤ a) from decide_eq_decide.2 (by omega)] at c
  exact c

theorem bits_ref (v : Int) (v0 : 0 ≤ v) (v1 : v ≤ 18446744073709551615) (w : World) :
    Calls Try.prog 29 #[nm v] w fun e w' => e = .returned (.int .i64 (wrap64 v)) ∧ Gw w w' := by
  have hO := or_i64_halves (v / 4294967296) (v % 4294967296) (by omega) (by omega) (by omega) (by omega)
  rw [show v / 4294967296 * 4294967296 + v % 4294967296 = v by omega] at hO
  go_enter Try.func29, Try.ntmps29
  go_wp2
  go_ret
  exact ⟨rfl, by repeat (first | exact Gw.refl _ | apply Gw.alloc | refine Gw.setCell ?_ (by simp) _)⟩

theorem of_ref (n : Int) (w : World) :
    Calls Try.prog 8 #[.int .i64 n] w fun e w' => e = .returned (nm (n % 18446744073709551616)) ∧ Gw w w' := by
  have m1 := and_i64_mask (n / 4294967296)
  have m2 := and_i64_mask n
  have e1 : n % 18446744073709551616 / 4294967296 = n / 4294967296 % 4294967296 := by omega
  have e2 : n % 18446744073709551616 % 4294967296 = n % 4294967296 := by omega
  unfold nm
  rw [e1, e2]
  go_enter Try.func8, Try.ntmps8
  go_wp2
  exact bodyPost_ret (v := .agg #[.int .i64 (n / 4294967296 % 4294967296), .int .i64 (n % 4294967296)]) (by simp [results, Try.results8, go_sem]) rfl ⟨rfl, by repeat (first | exact Gw.refl _ | apply Gw.alloc | refine Gw.setCell ?_ (by simp) _)⟩

end Go.Proofs.Ytkcccpmnnlbgcaa
