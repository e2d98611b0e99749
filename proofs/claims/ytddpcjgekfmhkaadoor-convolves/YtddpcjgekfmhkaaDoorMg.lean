/- merge, walked. -/
import Derived.Test.YtddpcjgekfmhkaaDoorMe
import Derived.Test.YtddpcjgekfmhkaaDoorFx
namespace Go.Proofs.YtddpcjgekfmhkaaDoor
open Go.RowKit
set_option linter.unusedSimpArgs false

set_option maxHeartbeats 2000000 in
theorem merge_any (b tb n cap capt H C : Nat) (f T : Nat → Int) (w : World) (hn : n = C * (2 * H)) (hH : 1 ≤ H) (hHm : H ≤ 1048576) (hbt : b ≠ tb) (hmax : n ≤ 1048576)
    (hf : Elems n f) (hT : Elems n T) (ha : Arr w b n f) (hat : Arr w tb n T) :
    Calls Tryd.prog 59 #[.slice (some ⟨b, 0, none⟩) n cap, .int .i64 ((2 * H : Nat) : Int), .slice (some ⟨tb, 0, none⟩) n capt] w
      fun e w' => e = .returned (.tuple #[]) ∧ ∃ g, Arr w' b n g ∧ Elems n g ∧ (∀ c q, c < C → q < H → Pair H (fun q => T (q * C)) f g c q) ∧ Only b w w' := by
  obtain ⟨Z, hZ⟩ : ∃ Z, Z = 2 * H := ⟨_, rfl⟩
  have hZ0 : (1 : Int) ≤ (Z : Int) := by omega
  have d1 : (Z : Int) / 2 = (H : Int) := by omega
  have hCZ : n / Z = C := by rw [hn, hZ]; exact Nat.mul_div_cancel C (by omega)
  have d2 : (n : Int) / (Z : Int) = (C : Int) := by rw [← Int.natCast_ediv, hCZ]
  have d3 : (n : Int).tdiv (Z : Int) = (C : Int) := by rw [Int.tdiv_eq_ediv_of_nonneg (by omega), d2]
  have d4 : (Z : Int).tdiv 2 = (H : Int) := by rw [Int.tdiv_eq_ediv_of_nonneg (by omega), d1]
  have hCn : C ≤ n := by rw [← hCZ]; exact Nat.div_le_self _ _
  have hHn : Z ≤ n ∨ C = 0 := by
    rcases Nat.eq_zero_or_pos C with h | h
    · exact Or.inr h
    · left; rw [hn, hZ]; exact Nat.le_mul_of_pos_left _ h
  have w1 : IntKind.i64.wrap (C : Int) = (C : Int) := by rw [IntKind.wrap_i64]; omega
  have w2 : IntKind.i64.wrap (H : Int) = (H : Int) := by rw [IntKind.wrap_i64]; omega
  have hn0 : ¬ (Z : Int) = 0 := by omega
  have HN : Hid (n = C * (2 * H)) := hn
  have HZ : Hid (Z = 2 * H) := hZ
  rw [← hZ]
  clear hn hZ hCZ
  go_enter Tryd.func59, Tryd.ntmps59
  go_wp2
  go_quiet (fail)
  go_wp2
  have HF : Hid (Elems n f) := hf
  have HTE : Hid (Elems n T) := hT
  have HA : Hid (Arr w b n f) := ha
  have HAT : Hid (Arr w tb n T) := hat
  clear hf hT ha hat d1 d2 d3 d4 w1 w2 hn0
  go_loopw [8] (fun s wr => ∃ (c S : Nat) (g : Nat → Int), c ≤ C ∧ Hid (S = c * (2 * H)) ∧ s = .int .i64 S ∧ Hid (Arr wr b n g ∧ Elems n g ∧ Part H C (fun q => T (q * C)) f c 0 g ∧ Only b w wr)) (fun s _ => n - (intOf s).toNat)
  case atStart => exact ⟨0, 0, f, Nat.zero_le _, by show 0 = 0 * (2 * H); omega, rfl, HA.out.drewN _, HF.out, Part.start _ _ _ _, (Only.refl b w).drewN _⟩
  case round =>
    obtain ⟨c, S, g, hc, HS, rfl, HR⟩ := hrel
    by_cases hlt : c < C
    · have hSn : S + Z ≤ n := by
        have := group_le (H := H) hlt
        rw [HN.out, HS.out, HZ.out]; exact this
      have hZH : Z = 2 * H := HZ.out
      have hS0 : S < n := by omega
      have hSH : S + H ≤ n := by omega
      clear hZH
      go_wp2
      obtain ⟨wo, rfl⟩ : ∃ wo : World, wo = wr := ⟨_, rfl⟩
      go_loopw [9] (fun k wr => ∃ (q : Nat) (g : Nat → Int), q ≤ H ∧ k = .int .i64 ((S : Int) + (q : Int)) ∧ Hid (Arr wr b n g ∧ Elems n g ∧ Part H C (fun q => T (q * C)) f c q g ∧ Only b w wr)) (fun k _ => S + H - (intOf k).toNat)
      case atStart => exact ⟨0, g, Nat.zero_le _, by simp, HR⟩
      case round =>
        obtain ⟨q, g, hq, rfl, HR⟩ := hrel
        by_cases hql : q < H
        · have hk : S + q < n := by omega
          have hk2 : S + q + H < n := by have := HZ.out; omega
          obtain ⟨P, hP⟩ : ∃ P, q * C = P := ⟨_, rfl⟩
          have hPn : P < n := by
            rw [← hP, HN.out, Nat.mul_comm]
            exact Nat.mul_lt_mul_of_pos_left (by omega) (by omega)
          have hPi : (q : Int) * (C : Int) = (P : Int) := by rw [← hP]; exact (Int.natCast_mul q C).symm
          have HP : Hid (q * C = P) := hP
          clear hP
          obtain ⟨hA, hE, hPart, hO⟩ := HR.out
          have b0 := hE.fits _ hk
          have b1 := hE.fits _ hk2
          have b2 := HTE.out.fits P hPn
          have c0 := (hA _ hk).1
          have c1 := (hA _ hk2).1
          have c2 := ((HAT.out.only hO hbt.symm) P hPn).1
          have f0 := (hA _ hk).2
          have f1 := (hA _ hk2).2
          have cm := mul_any _ _ b1.1 b1.2 b2.1 b2.2
          have bo := md_bd (g (S + q + H) * T P)
          have ca := add_any _ _ b0.1 b0.2 bo.1 (Int.le_trans bo.2 (by omega))
          have cs := sub_any _ _ b0.1 b0.2 bo.1 (Int.le_trans bo.2 (by omega))
          have bv1 := md_bd (g (S + q) + (g (S + q + H) * T P) % PP)
          have bv2 := md_bd (g (S + q) - (g (S + q + H) * T P) % PP)
          have HV : Hid (∃ v1 v2 o, v1 = (g (S + q) + (g (S + q + H) * T P) % PP) % PP ∧ v2 = (g (S + q) - (g (S + q + H) * T P) % PP) % PP ∧ o = (g (S + q + H) * T P) % PP) := ⟨_, _, _, rfl, rfl, rfl⟩
          obtain ⟨v1, v2, o, hv1, hv2, ho⟩ := HV.out
          rw [← ho] at cm
          rw [← hv1, ← ho] at ca
          rw [← hv2, ← ho] at cs
          rw [← hv1] at bv1
          rw [← hv2] at bv2
          have HV1 : Hid (v1 = (g (S + q) + (g (S + q + H) * T P) % PP) % PP) := hv1
          have HV2 : Hid (v2 = (g (S + q) - (g (S + q + H) * T P) % PP) % PP) := hv2
          have HB1 : Hid (0 ≤ v1 ∧ v1 ≤ 18446744069414584320) := bv1
          have HB2 : Hid (0 ≤ v2 ∧ v2 ≤ 18446744069414584320) := bv2
          clear hA hE hPart hO b0 b1 b2 bo HV hv1 hv2 ho bv1 bv2
          have i0 : (0 : Int) ≤ (S : Int) + (q : Int) := by omega
          have i1 : (S : Int) + (q : Int) < (n : Int) := by omega
          have i2 : (S : Int) + (q : Int) + (H : Int) < (n : Int) := by omega
          have i3 : (P : Int) < (n : Int) := by omega
          have i4 : (S : Int) + (q : Int) - (S : Int) = (q : Int) := by omega
          go_wp2
          go_quiet ((go_at_call 27; exact Calls.quiet_of_same (cm _)))
          go_wp2_with (first | (go_at_call 24; refine (ca _).mono ?_; rintro e w' ⟨rfl, hw⟩; subst w') | (go_at_call 64; refine (cs _).mono ?_; rintro e w' ⟨rfl, hw⟩; subst w'))
          go_roundw
          case rel =>
            refine ⟨q + 1, upd (upd g (S + q) v1) (S + q + H) v2, by omega, by go_num, ?_⟩
            obtain ⟨hA, hE, hPart, hO⟩ := HR.out
            refine ⟨?_, ?_, ?_, ?_⟩
            · exact ((hA.drewN _).set hk v1).set hk2 v2
            · exact (hE.upd _ _ HB1.out).upd _ _ HB2.out
            · have := hPart.step hlt hql
              rw [← HS.out] at this
              simp only [HP.out] at this
              rw [← HV1.out, ← HV2.out] at this
              exact this
            · exact ((hO.drewN _).setCell rfl _).setCell rfl _
          case measure => simp [intOf]; omega
        · obtain rfl : q = H := by omega
          go_wp2
          go_roundw
          case rel =>
            refine ⟨c + 1, S + Z, g, by omega, ?_, by go_num, ?_⟩
            · show S + Z = (c + 1) * (2 * q)
              rw [HS.out, HZ.out, Nat.add_mul]; omega
            · obtain ⟨hA, hE, hPart, hO⟩ := HR.out
              exact ⟨hA, hE, hPart.row, hO⟩
          case measure => simp [intOf]; omega
    · obtain rfl : c = C := by omega
      have hSn : S = n := by rw [HS.out, HN.out]
      subst hSn
      go_wp2
      go_end0
      obtain ⟨hA, hE, hPart, hO⟩ := HR.out
      exact ⟨rfl, g, hA, hE, fun c q hc hq => hPart.done c q hc hq, hO⟩

end Go.Proofs.YtddpcjgekfmhkaaDoor
