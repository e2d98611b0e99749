/- The document's own answer, walked on: Root. -/
import Derived.Test.YtddpcjgekfmhkaaDoorRk
namespace Go.Proofs.YtddpcjgekfmhkaaDoor
open Go.RowKit
set_option linter.unusedSimpArgs false

/-- The exponent of a root, in halves. -/
theorem rootE_hi : ∀ k : Fin 33, (4294967295 : Int) / 2 ^ k.val = ((rootE k.val : Nat) : Int) / 4294967296 := by decide +kernel
theorem rootE_lo : ∀ k : Fin 33, ((4294967295 : Int) * 2 ^ (32 - k.val)) % 4294967296 = ((rootE k.val : Nat) : Int) % 4294967296 := by decide +kernel

theorem wrap_mod (z : Int) : IntKind.i64.wrap z % 4294967296 = z % 4294967296 := by rw [IntKind.wrap_i64]; omega

theorem pow7_ref (k : Nat) (hk : k ≤ 32) (w : World) :
    Calls Tryd.prog 52 #[.agg #[.int .i64 0, .int .i64 7], .agg #[.int .i64 (4294967295 / 2 ^ k), .int .i64 ((4294967295 : Int) * 2 ^ (32 - k) % 4294967296)]] w fun e w' => e = .returned (nm (rootk k)) ∧ Gw w w' := by
  have c := powr_ref 7 (rootE k) (by omega) (by omega) (Nat.le_trans (Nat.div_le_self _ _) (by omega)) w
  have e1 := rootE_hi ⟨k, by omega⟩
  have e2 := rootE_lo ⟨k, by omega⟩
  have e1 : (4294967295 : Int) / 2 ^ k = ((rootE k : Nat) : Int) / 4294967296 := e1
  have e2 : ((4294967295 : Int) * 2 ^ (32 - k)) % 4294967296 = ((rootE k : Nat) : Int) % 4294967296 := e2
  rw [e1, e2]
  exact c

set_option maxHeartbeats 1000000 in
theorem rootr_yes (q : Nat) (hq : q ≤ 32) (w : World) :
    Calls Tryd.prog 32 #[.int .i64 ((2 ^ q : Nat) : Int)] w fun e w' => e = .returned (nm (rootk q)) ∧ Gw w w' := by
  have cp := pow7_ref q hq
  generalize rootk q = r at *
  go_enter Tryd.func32, Tryd.ntmps32
  go_wp2
  go_loop [3, 4] (fun s k => ∃ j : Nat, j ≤ q ∧ s = .int .i64 ((2 ^ j : Nat) : Int) ∧ k = .int .i64 j) (fun _ k => q - (intOf k).toNat)
  case atStart => exact ⟨0, by omega, rfl, rfl⟩
  case round =>
    obtain ⟨j, hj, rfl, rfl⟩ := hrel
    by_cases hjq : j = q
    · subst hjq
      obtain ⟨t, ht⟩ : ∃ t, 32 - j = t := ⟨_, rfl⟩
      rw [ht] at cp
      have hs : (32 : Int) - (j : Int) = (t : Int) := by omega
      have ht0 : (0 : Int) ≤ (t : Int) := by omega
      have ht1 : (t : Int) ≤ 32 := by omega
      have htw : IntKind.i64.wrap (t : Int) = (t : Int) := by rw [IntKind.wrap_i64]; omega
      have hm := and_i64_mask (IntKind.i64.wrap (4294967295 * 2 ^ t))
      rw [wrap_mod] at hm
      clear ht
      generalize 2 ^ j = n at *
      go_wp2
      go_region_held3 (fun W => W.cell? ⟨w.heap.size, 0, none⟩ = some (cellOr W ⟨w.heap.size, 0, none⟩) ∧ W.cell? ⟨w.heap.size, 1, none⟩ = some (cellOr W ⟨w.heap.size, 1, none⟩) ∧ W.frozen? ⟨w.heap.size, 0, none⟩ = false ∧ W.frozen? ⟨w.heap.size, 1, none⟩ = false ∧ Gw w W)
        (first
          | (go_split_ands; exact ⟨hg.or ‹_›, hg.or ‹_›, (hg.2 _).trans ‹_›, (hg.2 _).trans ‹_›, Gw.trans ‹_› hg⟩)
          | (go_split_ands; exact ⟨or_of_some (setCell_ex (setCell_ex ⟨_, ‹_›⟩)), or_of_some (setCell_ex (setCell_ex ⟨_, ‹_›⟩)), by simp [go_sem, *], by simp [go_sem, *], (by repeat (first | assumption | exact Gw.refl _ | apply Gw.drew | apply Gw.alloc | refine Gw.setCell ?_ (by first | (simp; done) | (simp; omega)) _))⟩)
          | (exact ⟨or_of_some ⟨.int .i64 0, by simp [go_sem]⟩, or_of_some ⟨.int .i64 0, by simp [go_sem]⟩, by simp [go_sem], by simp [go_sem], (by repeat (first | assumption | exact Gw.refl _ | apply Gw.drew | apply Gw.alloc | refine Gw.setCell ?_ (by first | (simp; done) | (simp; omega)) _))⟩))
        (first
          | (go_at_call 52; refine (cp _).mono ?_; rintro e w' ⟨rfl, hg⟩; have k0 : ∃ u, w'.cell? ⟨w.heap.size, 0, none⟩ = some u := (by go_split_ands; exact ⟨_, hg.at ‹_›⟩); have k1 : ∃ u, w'.cell? ⟨w.heap.size, 1, none⟩ = some u := (by go_split_ands; exact ⟨_, hg.at ‹_›⟩)))
      go_split_ands
      obtain ⟨u0, k0⟩ := k0
      obtain ⟨u1, k1⟩ := k1
      go_wp2
      exact bodyPost_ret (v := nm r) (by simp [results, Tryd.results32, go_sem, k0, k1]) rfl ⟨rfl, ‹_›⟩
    · have hp : 2 ^ (j + 1) ≤ 2 ^ q := Nat.pow_le_pow_right (by omega) (by omega)
      have h32 : 2 ^ q ≤ 4294967296 := Nat.pow_le_pow_right (by omega) hq
      have e1 : 2 ^ (j + 1) = 2 * 2 ^ j := by rw [Nat.pow_succ]; omega
      have h1 : 1 ≤ 2 ^ j := Nat.one_le_two_pow
      have HE : Hid (2 ^ (j + 1) = 2 * 2 ^ j) := e1
      rw [e1] at hp
      clear e1 cp
      obtain ⟨n, hn⟩ : ∃ n, 2 ^ j = n := ⟨_, rfl⟩
      rw [hn] at hp h1 HE ⊢
      clear hn
      generalize 2 ^ q = N at *
      have hne : ((n : Int) == (N : Int)) = false := by simp; omega
      go_wp2
      go_round
      case rel => exact ⟨j + 1, by omega, by rw [HE.out]; go_num, by go_num⟩
      case measure => simp [intOf]; omega

theorem rootr_no (n : Int) (hn : ¬ ∃ k, k ≤ 32 ∧ n = ((2 ^ k : Nat) : Int)) (w : World) :
    Calls Tryd.prog 32 #[.int .i64 n] w fun e w' => e = .returned (nm 0) ∧ Gw w w' := by
  have HN : Hid (¬ ∃ k, k ≤ 32 ∧ n = ((2 ^ k : Nat) : Int)) := hn
  clear hn
  go_enter Tryd.func32, Tryd.ntmps32
  go_wp2
  go_loop [3, 4] (fun s k => ∃ j : Nat, j ≤ 33 ∧ s = .int .i64 ((2 ^ j : Nat) : Int) ∧ k = .int .i64 j) (fun _ k => 33 - (intOf k).toNat)
  case atStart => exact ⟨0, by omega, rfl, rfl⟩
  case round =>
    obtain ⟨j, hj, rfl, rfl⟩ := hrel
    by_cases hj3 : j ≤ 32
    · have hne : ((((2 ^ j : Nat) : Int)) == n) = false := by
        simp only [beq_eq_false_iff_ne, ne_eq]
        intro h
        exact HN.out ⟨j, hj3, h.symm⟩
      have h32 : 2 ^ j ≤ 4294967296 := Nat.pow_le_pow_right (by omega) hj3
      have h1 : 1 ≤ 2 ^ j := Nat.one_le_two_pow
      have HE : Hid (2 ^ (j + 1) = 2 * 2 ^ j) := by show 2 ^ (j + 1) = 2 * 2 ^ j; rw [Nat.pow_succ]; omega
      obtain ⟨m, hm⟩ : ∃ n, 2 ^ j = n := ⟨_, rfl⟩
      rw [hm] at h32 h1 HE hne ⊢
      clear hm
      go_wp2
      go_round
      case rel => exact ⟨j + 1, by omega, by rw [HE.out]; go_num, by go_num⟩
      case measure => simp [intOf]; omega
    · go_wp2
      exact bodyPost_ret (v := nm 0) (by simp [results, Tryd.results32, go_sem]) rfl ⟨rfl, (by repeat (first | assumption | exact Gw.refl _ | apply Gw.drew | apply Gw.alloc | refine Gw.setCell ?_ (by first | (simp; done) | (simp; omega)) _))⟩

end Go.Proofs.YtddpcjgekfmhkaaDoor
