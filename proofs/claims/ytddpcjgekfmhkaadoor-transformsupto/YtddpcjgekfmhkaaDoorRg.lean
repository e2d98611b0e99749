/- The document's own answer, walked on: bit, is, Less. -/
import Derived.Test.YtddpcjgekfmhkaaDoorRf
import Derived.Deep.RegionHeld3
namespace Go.Proofs.YtddpcjgekfmhkaaDoor
open Go.RowKit

theorem ret_int' {k : IntKind} {a b : Int} (h : a = b) : Ending.returned (.int k a) = .returned (.int k b) := by rw [h]
theorem low_bits (v : Int) (k : Nat) (hk : k < 32) : v % 4294967296 / 2 ^ k % 2 = v / 2 ^ k % 2 := by
  obtain ⟨j, hj⟩ : ∃ j, 32 = k + (j + 1) := ⟨31 - k, by omega⟩
  have e : (4294967296 : Int) = 2 ^ k * (2 * 2 ^ j) := by
    have : (4294967296 : Int) = 2 ^ 32 := by decide
    rw [this, hj, Int.pow_add, Int.pow_succ, Int.mul_comm (2 ^ j)]
  have hp : (0 : Int) < 2 ^ k := Int.pow_pos (by decide)
  have hq : (0 : Int) < 2 ^ j := Int.pow_pos (by decide)
  rw [e]
  generalize (2 : Int) ^ k = a at *
  generalize (2 : Int) ^ j = b at *
  have h1 : v % (a * (2 * b)) = v + a * (-(2 * (b * (v / (a * (2 * b)))))) := by rw [Int.emod_def]; grind
  rw [h1, Int.add_mul_ediv_left _ _ (Int.ne_of_gt hp)]
  omega
theorem bit_ref (v : Int) (k : Nat) (hk : k ≤ 63) (w : World) :
    Calls Tryd.prog 55 #[nm v, .int .i64 k] w fun e w' => e = .returned (.int .i64 (v / 2 ^ k % 2)) ∧ Gw w w' := by
  by_cases h : 32 ≤ k
  · obtain ⟨j, rfl⟩ : ∃ j, k = j + 32 := ⟨k - 32, by omega⟩
    have hm := and_i64_one (v / 4294967296 / 2 ^ j)
    have hj : ((j + 32 : Nat) : Int) - 32 = (j : Int) := by omega
    have e : v / 2 ^ (j + 32) = v / 4294967296 / 2 ^ j := by
      rw [Int.pow_add, Int.mul_comm, ← Int.ediv_ediv_of_nonneg (by decide)]; rfl
    rw [e]
    go_enter Tryd.func55, Tryd.ntmps55
    go_wp2
    go_ret
    exact ⟨rfl, (Gw.refl _).alloc _ _⟩
  · have hm := and_i64_one (v % 4294967296 / 2 ^ k)
    go_enter Tryd.func55, Tryd.ntmps55
    go_wp2
    go_ret
    refine ⟨ret_int' ?_, (Gw.refl _).alloc _ _⟩
    exact low_bits v k (by omega)

theorem is_ref (g v : Int) (g0 : 0 ≤ g) (g1 : g ≤ 18446744073709551615) (v0 : 0 ≤ v) (v1 : v ≤ 18446744073709551615) (hgv : g = v) (w : World) :
    Calls Tryd.prog 13 #[.int .u64 g, nm v] w fun e w' => e = .returned (.bool true) ∧ Gw w w' := by
  subst hgv
  go_enter Tryd.func13, Tryd.ntmps13
  go_wp2_with (go_at_call 40; refine (bits_ref g g0 g1 _).mono ?_; rintro e w' ⟨rfl, hg⟩)
  go_ret
  exact ⟨rfl, ((Gw.refl _).alloc _ _).trans hg⟩

theorem atLeast_t (h1 l1 h2 l2 : Int) (h : h2 < h1 ∨ (h1 = h2 ∧ l2 ≤ l1)) (w : World) :
    Calls Tryd.prog 30 #[.agg #[.int .i64 h1, .int .i64 l1], .agg #[.int .i64 h2, .int .i64 l2]] w fun e w' => e = .returned (.bool true) ∧ Gw w w' := by
  have c := atLeast_hl h1 l1 h2 l2 w
  rw [decide_eq_true h] at c; exact c
theorem atLeast_f (h1 l1 h2 l2 : Int) (h : ¬ (h2 < h1 ∨ (h1 = h2 ∧ l2 ≤ l1))) (w : World) :
    Calls Tryd.prog 30 #[.agg #[.int .i64 h1, .int .i64 l1], .agg #[.int .i64 h2, .int .i64 l2]] w fun e w' => e = .returned (.bool false) ∧ Gw w w' := by
  have c := atLeast_hl h1 l1 h2 l2 w
  rw [decide_eq_false h] at c; exact c
theorem minus_prime (v : Int) (v0 : 18446744069414584321 ≤ v) (v1 : v ≤ 18446744073709551615) (w : World) :
    Calls Tryd.prog 53 #[nm v, .agg #[.int .i64 4294967295, .int .i64 1]] w fun e w' => e = .returned (nm (v % PP)) ∧ Gw w w' := by
  have c := minus_ref v 18446744069414584321 (by omega) v1 (by omega) (by omega) w
  rw [show (v - 18446744069414584321) % 18446744073709551616 = v - 18446744069414584321 by omega, element_yes v0 v1] at c
  exact c

set_option maxHeartbeats 1000000 in
theorem less_yes (v : Int) (v0 : 18446744069414584321 ≤ v) (v1 : v ≤ 18446744073709551615) (w : World) :
    Calls Tryd.prog 54 #[nm v] w fun e w' => e = .returned (nm (v % PP)) ∧ Gw w w' := by
  go_enter Tryd.func54, Tryd.ntmps54
  go_wp2
  go_region_with (first | (go_at_call 31; refine (prime_ref _).mono ?_; rintro e w' ⟨rfl, hg⟩; have G : Gw w w' := Gw.trans (by repeat (first | assumption | exact Gw.refl _ | apply Gw.drew | apply Gw.alloc | refine Gw.setCell ?_ (by first | (simp; done) | (simp; omega)) _)) hg; have hA := fun o => hg.1.cell (p := ⟨w.heap.size, o, none⟩) (by first | (simp; done) | (simp; omega) | omega); have hB := fun o => hg.1.cell (p := ⟨w.heap.size + 1, o, none⟩) (by first | (simp; done) | (simp; omega) | omega); have hF := hg.frozens; have hZ : w.heap.size + 1 < w'.heap.size := (by have := hg.1.size; (try simp at this); omega); clear hg) | (go_at_call 30; refine (atLeast_t _ _ _ _ (by omega) _).mono ?_; rintro e w' ⟨rfl, hg⟩; have G : Gw w w' := Gw.trans (by repeat (first | assumption | exact Gw.refl _ | apply Gw.drew | apply Gw.alloc | refine Gw.setCell ?_ (by first | (simp; done) | (simp; omega)) _)) hg; have hA := fun o => hg.1.cell (p := ⟨w.heap.size, o, none⟩) (by first | (simp; done) | (simp; omega) | omega); have hB := fun o => hg.1.cell (p := ⟨w.heap.size + 1, o, none⟩) (by first | (simp; done) | (simp; omega) | omega); have hF := hg.frozens; have hZ : w.heap.size + 1 < w'.heap.size := (by have := hg.1.size; (try simp at this); omega); clear hg))
  all_goals
    go_wp2
    go_region_with (first | (go_at_call 31; refine (prime_ref _).mono ?_; rintro e w' ⟨rfl, hg⟩; have G : Gw w w' := Gw.trans (by repeat (first | assumption | exact Gw.refl _ | apply Gw.drew | apply Gw.alloc | refine Gw.setCell ?_ (by first | (simp; done) | (simp; omega)) _)) hg; have hA := fun o => hg.1.cell (p := ⟨w.heap.size, o, none⟩) (by first | (simp; done) | (simp; omega) | omega); have hB := fun o => hg.1.cell (p := ⟨w.heap.size + 1, o, none⟩) (by first | (simp; done) | (simp; omega) | omega); have hF := hg.frozens; have hZ : w.heap.size + 1 < w'.heap.size := (by have := hg.1.size; (try simp at this); omega); clear hg) | (go_at_call 53; refine (minus_prime v v0 v1 _).mono ?_; rintro e w' ⟨rfl, hg⟩; have G : Gw w w' := Gw.trans (by repeat (first | assumption | exact Gw.refl _ | apply Gw.drew | apply Gw.alloc | refine Gw.setCell ?_ (by first | (simp; done) | (simp; omega)) _)) hg; have hA := fun o => hg.1.cell (p := ⟨w.heap.size, o, none⟩) (by first | (simp; done) | (simp; omega) | omega); have hB := fun o => hg.1.cell (p := ⟨w.heap.size + 1, o, none⟩) (by first | (simp; done) | (simp; omega) | omega); have hF := hg.frozens; have hZ : w.heap.size + 1 < w'.heap.size := (by have := hg.1.size; (try simp at this); omega); clear hg))
  all_goals
    go_wp2
    exact bodyPost_ret (v := nm (v % PP)) (by simp [results, Tryd.results54, go_sem, *]) rfl ⟨rfl, (by repeat (first | assumption | exact Gw.refl _ | apply Gw.drew | apply Gw.alloc | refine Gw.setCell ?_ (by first | (simp; done) | (simp; omega)) _))⟩

set_option maxHeartbeats 1000000 in
theorem less_no (v : Int) (v0 : 0 ≤ v) (v1 : v < 18446744069414584321) (w : World) :
    Calls Tryd.prog 54 #[nm v] w fun e w' => e = .returned (nm (v % PP)) ∧ Gw w w' := by
  rw [md_small v0 (by omega)]
  go_enter Tryd.func54, Tryd.ntmps54
  go_wp2
  go_region_with (first | (go_at_call 31; refine (prime_ref _).mono ?_; rintro e w' ⟨rfl, hg⟩; have G : Gw w w' := Gw.trans (by repeat (first | assumption | exact Gw.refl _ | apply Gw.drew | apply Gw.alloc | refine Gw.setCell ?_ (by first | (simp; done) | (simp; omega)) _)) hg; have hA := fun o => hg.1.cell (p := ⟨w.heap.size, o, none⟩) (by first | (simp; done) | (simp; omega) | omega); have hB := fun o => hg.1.cell (p := ⟨w.heap.size + 1, o, none⟩) (by first | (simp; done) | (simp; omega) | omega); have hF := hg.frozens; have hZ : w.heap.size + 1 < w'.heap.size := (by have := hg.1.size; (try simp at this); omega); clear hg) | (go_at_call 30; refine (atLeast_f _ _ _ _ (by omega) _).mono ?_; rintro e w' ⟨rfl, hg⟩; have G : Gw w w' := Gw.trans (by repeat (first | assumption | exact Gw.refl _ | apply Gw.drew | apply Gw.alloc | refine Gw.setCell ?_ (by first | (simp; done) | (simp; omega)) _)) hg; have hA := fun o => hg.1.cell (p := ⟨w.heap.size, o, none⟩) (by first | (simp; done) | (simp; omega) | omega); have hB := fun o => hg.1.cell (p := ⟨w.heap.size + 1, o, none⟩) (by first | (simp; done) | (simp; omega) | omega); have hF := hg.frozens; have hZ : w.heap.size + 1 < w'.heap.size := (by have := hg.1.size; (try simp at this); omega); clear hg))
  all_goals
    go_wp2
    exact bodyPost_ret (v := nm v) (by simp [results, Tryd.results54, go_sem, *]) rfl ⟨rfl, (by repeat (first | assumption | exact Gw.refl _ | apply Gw.drew | apply Gw.alloc | refine Gw.setCell ?_ (by first | (simp; done) | (simp; omega)) _))⟩

theorem less_ref (v : Int) (v0 : 0 ≤ v) (v1 : v ≤ 18446744073709551615) (w : World) :
    Calls Tryd.prog 54 #[nm v] w fun e w' => e = .returned (nm (v % PP)) ∧ Gw w w' := by
  by_cases h : 18446744069414584321 ≤ v
  · exact less_yes v h v1 w
  · exact less_no v v0 (by omega) w

end Go.Proofs.YtddpcjgekfmhkaaDoor
