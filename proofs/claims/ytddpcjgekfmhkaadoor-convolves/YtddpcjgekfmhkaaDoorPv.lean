/- powers, isSize, allElements, walked. -/
import Derived.Test.YtddpcjgekfmhkaaDoorMe
import Derived.Test.YtddpcjgekfmhkaaDoorFx
namespace Go.Proofs.YtddpcjgekfmhkaaDoor
open Go.RowKit
set_option linter.unusedSimpArgs false

theorem info_u64 : (Tryd.prog.info? 42).map (fun i => (i.zero, i.size, i.bytes)) = some (some (.int .u64 0), 1, 8) := by kernel_rfl

/-- The first k of n numbers are those of T. -/
def Upto (T : Nat → Int) (k : Nat) (g : Nat → Int) : Prop := ∀ i, i < k → g i = T i

set_option maxHeartbeats 1000000 in
theorem powers_any (K : Nat) (hK : K ≤ 10) (w : World) :
    Calls Tryd.prog 79 #[.int .i64 ((2 ^ K : Nat) : Int)] w
      fun e w' => e = .returned (.slice (some ⟨w.heap.size, 0, none⟩) (2 ^ K) (2 ^ K)) ∧ Arr w' w.heap.size (2 ^ K) (fun i => pw (rootk K) i) ∧ Gw w w' ∧ w'.heap.size = w.heap.size + 1 := by
  have hn : 2 ^ K ≤ 1024 := Nat.pow_le_pow_right (n := 2) (by decide) hK
  have hn1 : 1 ≤ 2 ^ K := Nat.one_le_two_pow
  have cr := root_yes K (by omega)
  have br : Hid (0 ≤ rootk K ∧ rootk K ≤ 18446744073709551615) := ⟨(pw_bd 7 (rootE K)).1, Int.le_trans (pw_bd 7 (rootE K)).2 (by omega)⟩
  generalize hnn : 2 ^ K = n at *
  clear hnn hK
  obtain ⟨r, hr⟩ : ∃ r, rootk K = r := ⟨_, rfl⟩
  rw [hr] at cr br ⊢
  clear hr
  go_enter Tryd.func79, Tryd.ntmps79
  go_wp2_with (first
    | (at_make; refine wpList_make_u64 _ rfl _ _ 35 42 rfl Tryd.underlying35 info_u64 n _ rfl rfl rfl (by omega) ?_; intro w1 hA hG hZ)
    | (go_at_call 26; refine (cr _).mono ?_; rintro e w' ⟨rfl, hw⟩; subst w'))
  have HR : Hid (Arr w1 w.heap.size n (fun _ => 0) ∧ Upto (fun i => pw r i) 0 (fun _ => 0) ∧ Gw w w1 ∧ w1.heap.size = w.heap.size + 1) := ⟨hA, fun i hi => by omega, hG, hZ⟩
  clear hA hG hZ cr
  go_loopw [5, 13] (fun tp ti wr => ∃ (k : Nat) (p : Int) (g : Nat → Int), k ≤ n ∧ tp = .int .u64 p ∧ ti = .int .i64 k ∧ Hid (p = pw r k) ∧ Hid (Arr wr w.heap.size n g ∧ Upto (fun i => pw r i) k g ∧ Gw w wr ∧ wr.heap.size = w.heap.size + 1)) (fun _ ti _ => n - (intOf ti).toNat)
  case atStart => exact ⟨0, 1, _, Nat.zero_le _, rfl, rfl, (pw_zero r).symm, HR⟩
  case round =>
    obtain ⟨k, p, g, hk, rfl, rfl, HP, HR⟩ := hrel
    by_cases hlt : k < n
    · obtain ⟨hA, hU, hG, hZ⟩ := HR.out
      have bp : 0 ≤ p ∧ p ≤ 18446744073709551615 := by rw [HP.out]; exact ⟨(pw_bd r k).1, Int.le_trans (pw_bd r k).2 (by omega)⟩
      have cm := mul_any p r bp.1 bp.2 br.out.1 br.out.2
      have hc := (hA k hlt).1
      have hf := (hA k hlt).2
      clear hA hU hG hZ bp
      obtain ⟨p', hp'⟩ : ∃ p', (p * r) % PP = p' := ⟨_, rfl⟩
      rw [hp'] at cm
      have HP' : Hid ((p * r) % PP = p') := hp'
      clear hp'
      go_wp2_with (go_at_call 27; refine (cm _).mono ?_; rintro e w' ⟨rfl, hw⟩; subst w')
      go_roundw
      case rel =>
        refine ⟨k + 1, p', upd g k p, by omega, rfl, by go_num, ?_, ?_⟩
        · show p' = pw r (k + 1)
          rw [pw_succ, ← HP.out, HP'.out]
        · obtain ⟨hA, hU, hG, hZ⟩ := HR.out
          refine ⟨hA.set hlt p, ?_, hG.setCell (Nat.le_refl _) _, by simpa [World.setCell] using hZ⟩
          intro i hi
          by_cases e : i = k
          · subst e; rw [upd_same]; exact HP.out
          · rw [upd_other e]; exact hU i (by omega)
      case measure => simp [intOf]; omega
    · obtain rfl : k = n := by omega
      go_wp2
      go_ret
      obtain ⟨hA, hU, hG, hZ⟩ := HR.out
      exact ⟨rfl, hA.congr hU, hG, hZ⟩

theorem isSize_yes (K : Nat) (hK : K ≤ 10) (w : World) :
    Calls Tryd.prog 36 #[.int .i64 ((2 ^ K : Nat) : Int)] w fun e w' => e = .returned (.bool true) ∧ w' = w := by
  have hn : 2 ^ K ≤ 1024 := Nat.pow_le_pow_right (n := 2) (by decide) hK
  have hn1 : 1 ≤ 2 ^ K := Nat.one_le_two_pow
  have ha := and_of_pow2 K
  generalize 2 ^ K = n at *
  have hand : bits .and .i64 (n : Int) ((n : Int) - 1) = 0 := by
    have h := and_i64_nat n (n - 1) (by omega) (by omega)
    rw [ha, show ((n - 1 : Nat) : Int) = (n : Int) - 1 by omega] at h
    exact h
  clear ha
  go_enter Tryd.func36, Tryd.ntmps36
  go_wp2
  go_ret
  exact ⟨by simp, rfl⟩

theorem isSize_no (n : Nat) (hn : ¬ ∃ k, k ≤ 10 ∧ n = 2 ^ k) (hmax : n ≤ 9223372036854775807) (w : World) :
    Calls Tryd.prog 36 #[.int .i64 (n : Int)] w fun e w' => e = .returned (.bool false) ∧ w' = w := by
  by_cases h1 : n < 1
  · clear hn
    go_enter Tryd.func36, Tryd.ntmps36
    go_wp2
    go_ret
    exact ⟨by simp, rfl⟩
  · by_cases h2 : 1024 < n
    · clear hn
      go_enter Tryd.func36, Tryd.ntmps36
      go_wp2
      go_ret
      exact ⟨by simp, rfl⟩
    · have hand := and_i64_nat n (n - 1) (by omega) (by omega)
      rw [show ((n - 1 : Nat) : Int) = (n : Int) - 1 by omega] at hand
      have hx : ¬ n &&& (n - 1) = 0 := by
        intro ha
        obtain ⟨k, hk⟩ := pow2_of_and n n (Nat.le_refl _) (by omega) ha
        refine hn ⟨k, ?_, hk⟩
        refine Nat.le_of_not_lt fun h11 => ?_
        have : 2 ^ 11 ≤ 2 ^ k := Nat.pow_le_pow_right (by omega) h11
        omega
      generalize n &&& (n - 1) = v at *
      clear hn
      go_enter Tryd.func36, Tryd.ntmps36
      go_wp2
      go_ret
      exact ⟨by simp [hx], rfl⟩

end Go.Proofs.YtddpcjgekfmhkaaDoor
