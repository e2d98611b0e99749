/- The document's own answer: power, impulse, lent, num, walked. -/
import Derived.Test.YtddpcjgekfmhkaaDoorTf
import Derived.Test.YtddpcjgekfmhkaaDoorEl
namespace Go.Proofs.YtddpcjgekfmhkaaDoor
open Go.RowKit
set_option linter.unusedSimpArgs false
set_option linter.unusedVariables false

theorem num_any (n : Int) (w : World) : Calls Tryd.prog 12 #[.int .i64 n] w fun e w' => e = .returned (.int .i64 n) ∧ w' = w := by
  go_enter Tryd.func12, Tryd.ntmps12
  go_wp2
  go_ret
  exact ⟨rfl, rfl⟩

set_option maxRecDepth 20000 in
theorem power_yes (K : Nat) (hK : K ≤ 10) (w : World) :
    Calls Tryd.prog 29 #[.int .i64 ((2 ^ K : Nat) : Int), .int .i64 1, .int .i64 1024] w fun e w' => e = .returned (.bool true) ∧ w' = w := by
  have hn : 2 ^ K ≤ 1024 := Nat.pow_le_pow_right (n := 2) (by decide) hK
  have hn1 : 1 ≤ 2 ^ K := Nat.one_le_two_pow
  go_enter Tryd.func29, Tryd.ntmps29
  go_wp2
  go_loop [7] (fun ts => ∃ j s : Nat, j ≤ K ∧ Hid (2 ^ j = s) ∧ 1 ≤ s ∧ s ≤ 2 ^ K ∧ ts = .int .i64 s) (fun ts => 2 ^ K - (intOf ts).toNat)
  case atStart => exact ⟨0, 1, by omega, rfl, by omega, hn1, rfl⟩
  case round =>
    obtain ⟨j, s, hj, HJ, hs1, hs2, rfl⟩ := hrel
    by_cases e : j = K
    · subst e
      rw [HJ.out]
      have hdec : decide ((1 : Int) ≤ (s : Int)) = true := by simp; omega
      go_wp2
      go_ret
      exact ⟨by simp, rfl⟩
    · have h2 : 2 * s ≤ 2 ^ K := by
        have := Nat.pow_le_pow_right (n := 2) (by decide) (show j + 1 ≤ K by omega)
        rw [Nat.pow_succ, HJ.out] at this; omega
      have HJ2 : Hid (2 ^ (j + 1) = 2 * s) := by show 2 ^ (j + 1) = 2 * s; rw [Nat.pow_succ, HJ.out]; omega
      generalize 2 ^ K = n at *
      have hne : ((s : Int) == (n : Int)) = false := by simp; omega
      go_wp2
      go_round
      case rel => exact ⟨j + 1, 2 * s, by omega, HJ2, by omega, h2, by go_num⟩
      case measure => simp [intOf]; omega

set_option maxRecDepth 20000 in
theorem power_no (n : Nat) (hn : ¬ ∃ k, k ≤ 10 ∧ n = 2 ^ k) (w : World) :
    Calls Tryd.prog 29 #[.int .i64 (n : Int), .int .i64 1, .int .i64 1024] w fun e w' => e = .returned (.bool false) ∧ w' = w := by
  have HN : Hid (¬ ∃ k, k ≤ 10 ∧ n = 2 ^ k) := hn
  clear hn
  go_enter Tryd.func29, Tryd.ntmps29
  go_wp2
  go_loop [7] (fun ts => ∃ j s : Nat, j ≤ 11 ∧ Hid (2 ^ j = s) ∧ 1 ≤ s ∧ s ≤ 2048 ∧ ts = .int .i64 s) (fun ts => 2048 - (intOf ts).toNat)
  case atStart => exact ⟨0, 1, by omega, rfl, by omega, by omega, rfl⟩
  case round =>
    obtain ⟨j, s, hj, HJ, hs1, hs2, rfl⟩ := hrel
    by_cases e : j ≤ 10
    · have h2 : s ≤ 1024 := by
        have := Nat.pow_le_pow_right (n := 2) (by decide) e
        rw [HJ.out] at this; omega
      have HJ2 : Hid (2 ^ (j + 1) = 2 * s) := by show 2 ^ (j + 1) = 2 * s; rw [Nat.pow_succ, HJ.out]; omega
      have hne : ((s : Int) == (n : Int)) = false := by
        simp only [beq_eq_false_iff_ne, ne_eq, Int.ofNat_inj]
        intro h
        exact HN.out ⟨j, e, by rw [HJ.out]; exact h.symm⟩
      go_wp2
      go_round
      case rel => exact ⟨j + 1, 2 * s, by omega, HJ2, by omega, by omega, by go_num⟩
      case measure => simp [intOf]; omega
    · have h2 : s = 2048 := by
        have : j = 11 := by omega
        subst this
        exact HJ.out.symm
      subst h2
      go_wp2
      go_ret
      exact ⟨rfl, rfl⟩

/-- What lent lays. -/
def lentF (len : Nat) (z : Nat → Int) (i : Nat) : Int := if i < len then z i % 18446744073709551616 else 77

set_option maxHeartbeats 1000000 in
theorem lent_any (a : Option Addr) (b off len cap : Nat) (z : Nat → Int) (w : World) (hmax : len ≤ 1048576) (hadr : 0 < len → a = some ⟨b, off, none⟩) (ha : IArr w b off len z) :
    Calls Tryd.prog 10 #[.slice a len cap] w
      fun e w' => e = .returned (.slice (some ⟨w.heap.size, 0, none⟩) len (len + 8)) ∧ Arr w' w.heap.size (len + 8) (lentF len z) ∧ Gw w w' ∧ w'.heap.size = w.heap.size + 1 := by
  have HA : Hid (IArr w b off len z) := ha
  have HADR : Hid (0 < len → a = some ⟨b, off, none⟩) := hadr
  clear ha hadr
  obtain ⟨n, hn⟩ : ∃ n, n = len + 8 := ⟨_, rfl⟩
  have HN : Hid (n = len + 8) := hn
  have hni : (len : Int) + 8 = (n : Int) := by omega
  have hln : len ≤ n := by omega
  have hn2 : n ≤ 1048584 := by omega
  rw [← hn]
  clear hn
  go_enter Tryd.func10, Tryd.ntmps10
  go_wp2_with (at_make; refine wpList_make_u64 _ rfl _ _ 35 42 rfl Tryd.underlying35 info_u64 n _ rfl rfl rfl (by omega) ?_; intro w1 hA hG hZ)
  have HR0 : Hid (Arr w1 w.heap.size n (fun _ => 0) ∧ (∀ i, i < 0 → (0 : Int) = lentF len z i) ∧ Gw w w1 ∧ w1.heap.size = w.heap.size + 1) := ⟨hA, fun i hi => by omega, hG, hZ⟩
  clear hA hG hZ
  go_loopw [4] (fun ti wr => ∃ (k : Nat) (g : Nat → Int), k ≤ n ∧ ti = .int .i64 k ∧ Hid (Arr wr w.heap.size n g ∧ (∀ i, i < k → g i = lentF len z i) ∧ Gw w wr ∧ wr.heap.size = w.heap.size + 1)) (fun ti _ => n - (intOf ti).toNat)
  case atStart => exact ⟨0, fun _ => 0, Nat.zero_le _, rfl, HR0⟩
  case round =>
    obtain ⟨k, g, hk, rfl, HR⟩ := hrel
    by_cases hlt : k < n
    · obtain ⟨hA, hU, hG, hZ⟩ := HR.out
      have c1 := (hA k hlt).1
      have f1 := (hA k hlt).2
      by_cases hkl : k < len
      · obtain rfl : a = some ⟨b, off, none⟩ := HADR.out (by omega)
        have hbw := HA.out.lt (by omega)
        have hb1 : ¬ b = w.heap.size := by omega
        have hb2 : ¬ w.heap.size = b := by omega
        have hz := (HA.out.gw hG) k hkl
        have cz := hz.1
        obtain ⟨v, hv⟩ : ∃ v, z k = v := ⟨_, rfl⟩
        obtain ⟨u, hu⟩ : ∃ u, v % 18446744073709551616 = u := ⟨_, rfl⟩
        have hwr : IntKind.u64.wrap v = u := by rw [IntKind.wrap_u64, hu]
        have HU : Hid (lentF len z k = u) := by show lentF len z k = u; unfold lentF; rw [if_pos hkl, hv, hu]
        rw [hv] at cz
        have hvb : -9223372036854775808 ≤ v ∧ v ≤ 9223372036854775807 := by rw [← hv]; exact hz.2
        clear hz hv hu hA hU hG hZ hvb HADR
        go_wp2
        go_roundw
        case rel =>
          refine ⟨k + 1, upd (upd g k 77) k u, by omega, by go_num, ?_⟩
          obtain ⟨hA, hU, hG, hZ⟩ := HR.out
          refine ⟨(hA.set hlt 77).set hlt u, fun i hi => ?_, (hG.setCell (Nat.le_refl _) _).setCell (Nat.le_refl _) _, by simpa [World.setCell] using hZ⟩
          by_cases e : i = k
          · subst e; rw [upd_same]; exact HU.out.symm
          · rw [upd_other e, upd_other e]; exact hU i (by omega)
        case measure => simp [intOf]; omega
      · have HU : Hid (lentF len z k = 77) := by show lentF len z k = 77; unfold lentF; rw [if_neg hkl]
        clear hA hU hG hZ
        go_wp2
        go_roundw
        case rel =>
          refine ⟨k + 1, upd g k 77, by omega, by go_num, ?_⟩
          obtain ⟨hA, hU, hG, hZ⟩ := HR.out
          refine ⟨hA.set hlt 77, fun i hi => ?_, hG.setCell (Nat.le_refl _) _, by simpa [World.setCell] using hZ⟩
          by_cases e : i = k
          · subst e; rw [upd_same]; exact HU.out.symm
          · rw [upd_other e]; exact hU i (by omega)
        case measure => simp [intOf]; omega
    · obtain rfl : k = n := by omega
      go_wp2
      go_ret
      obtain ⟨hA, hU, hG, hZ⟩ := HR.out
      exact ⟨rfl, hA.congr hU, hG, hZ⟩

end Go.Proofs.YtddpcjgekfmhkaaDoor
