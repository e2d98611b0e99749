/- slices.Reverse and turnBack, walked. -/
import Derived.Test.YtddpcjgekfmhkaaDoorPv
import Derived.RegionTactic
import Derived.BigRegion
namespace Go.Proofs.YtddpcjgekfmhkaaDoor
open Go.RowKit
set_option linter.unusedSimpArgs false

/-- The first k and the last k of m things, from place 1 on, are turned round. -/
def Turned (m k : Nat) (f g : Nat → Int) : Prop := g 0 = f 0 ∧ ∀ p, p < m → (p < k ∨ m < p + k + 1 → g (1 + p) = f (1 + (m - 1 - p))) ∧ (¬ (p < k ∨ m < p + k + 1) → g (1 + p) = f (1 + p))
theorem Turned.step {m k J : Nat} {f g : Nat → Int} (h : Turned m k f g) (hkJ : k + J + 1 = m) (hlt : k < J) :
    Turned m (k + 1) f (upd (upd g (1 + k) (g (1 + J))) (1 + J) (g (1 + k))) := by
  obtain ⟨h0, h⟩ := h
  refine ⟨by rw [upd_other (by omega), upd_other (by omega)]; exact h0, fun p hp => ?_⟩
  have ek := (h k (by omega)).2 (by omega)
  have eJ := (h J (by omega)).2 (by omega)
  by_cases e1 : p = J
  · subst e1
    refine ⟨fun _ => ?_, fun k => absurd (Or.inr (by omega)) k⟩
    rw [upd_same, ek]; congr 1; omega
  · by_cases e2 : p = k
    · subst e2
      refine ⟨fun _ => ?_, fun k => absurd (Or.inl (by omega)) k⟩
      rw [upd_other (by omega), upd_same, eJ]; congr 1; omega
    · rw [upd_other (by omega), upd_other (by omega)]
      exact ⟨fun q => (h p hp).1 (by omega), fun q => (h p hp).2 (by omega)⟩

set_option maxHeartbeats 1000000 in
theorem reverse_any (b n m cap : Nat) (f : Nat → Int) (w : World) (hn : n = m + 1) (hmax : n ≤ 1048576) (ha : Arr w b n f) :
    Calls Tryd.prog 82 #[.slice (some ⟨b, 1, none⟩) m cap] w
      fun e w' => e = .returned (.tuple #[]) ∧ ∃ g, Arr w' b n g ∧ Only b w w' ∧ g 0 = f 0 ∧ ∀ p, p < m → g (1 + p) = f (1 + (m - 1 - p)) := by
  have HA : Hid (Arr w b n f) := ha
  clear ha
  go_enter Tryd.func82, Tryd.ntmps82
  go_wp2
  go_loopw [2, 3] (fun ti tj wr => ∃ (k : Nat) (g : Nat → Int), 2 * k ≤ m ∧ ti = .int .i64 k ∧ tj = .int .i64 ((m : Int) - 1 - (k : Int)) ∧ Hid (Arr wr b n g ∧ Turned m k f g ∧ Only b w wr)) (fun ti _ _ => m - (intOf ti).toNat)
  case atStart => exact ⟨0, f, by omega, rfl, by simp, HA.out, ⟨rfl, fun p hp => ⟨fun h => by omega, fun _ => rfl⟩⟩, Only.refl _ _⟩
  case round =>
    obtain ⟨k, g, hk, rfl, rfl, HR⟩ := hrel
    by_cases hlt : 2 * k + 1 < m
    · obtain ⟨J, hJ⟩ : ∃ J, k + J + 1 = m := ⟨m - 1 - k, by omega⟩
      have hJi : (m : Int) - 1 - (k : Int) = (J : Int) := by omega
      rw [hJi]
      have hkJ : k < J := by omega
      have hJm : J < m := by omega
      have hkm : k < m := by omega
      obtain ⟨hA, hT, hO⟩ := HR.out
      have c1 := (hA (1 + k) (by omega)).1
      have f1 := (hA (1 + k) (by omega)).2
      have c2 := (hA (1 + J) (by omega)).1
      have f2 := (hA (1 + J) (by omega)).2
      have i1 : (k : Int) < (m : Int) := by omega
      have i2 : (J : Int) < (m : Int) := by omega
      have i3 : ¬ 1 + k = 1 + J := by omega
      have i4 : ¬ 1 + J = 1 + k := by omega
      have i5 : ¬ k = J := by omega
      clear hA hT hO
      go_wp2
      go_region
      go_wp2
      go_roundw
      case rel =>
        refine ⟨k + 1, upd (upd g (1 + k) (g (1 + J))) (1 + J) (g (1 + k)), by omega, by go_num, ?_, ?_⟩
        · congr 1; omega
        · obtain ⟨hA, hT, hO⟩ := HR.out
          exact ⟨(hA.drew.set (by omega) _).set (by omega) _, hT.step hJ hkJ, (hO.drew.setCell rfl _).setCell rfl _⟩
      case measure => simp [intOf]; omega
    · go_wp2
      go_end0
      obtain ⟨hA, hT, hO⟩ := HR.out
      refine ⟨rfl, g, hA, hO, hT.1, fun p hp => ?_⟩
      by_cases e : p < k ∨ m < p + k + 1
      · exact (hT.2 p hp).1 e
      · rw [(hT.2 p hp).2 e]; congr 1; omega

theorem turned_all {n : Nat} {f g : Nat → Int} (hn : 1 ≤ n) (h0 : g 0 = f 0) (h : ∀ p, p < n - 1 → g (1 + p) = f (1 + (n - 1 - 1 - p))) : ∀ i, i < n → g i = f ((n - i) % n) := by
  intro i hi
  by_cases e : i = 0
  · subst e; rw [Nat.sub_zero, Nat.mod_self]; exact h0
  · have := h (i - 1) (by omega)
    rw [show 1 + (i - 1) = i by omega] at this
    rw [this, Nat.mod_eq_of_lt (by omega)]
    congr 1; omega
theorem turned_elems {n : Nat} {f g : Nat → Int} (hf : Elems n f) (h : ∀ i, i < n → g i = f ((n - i) % n)) : Elems n g := fun i hi => by
  rw [h i hi]; exact hf _ (Nat.mod_lt _ (by omega))

/-- A list turned round behind its first, each a share of what it was. -/
def Turnt (n : Nat) (s : Int) (f g : Nat → Int) : Prop := ∀ i, i < n → g i = (f ((n - i) % n) * s) % PP

theorem reverse_none (b : Nat) (w : World) :
    Calls Tryd.prog 82 #[.slice (some ⟨b, 0, none⟩) 0 0] w fun e w' => e = .returned (.tuple #[]) ∧ w' = w := by
  go_enter Tryd.func82, Tryd.ntmps82
  go_wp2
  go_loop [2, 3] (fun ti tj => ti = .int .i64 0 ∧ tj = .int .i64 (-1)) (fun _ _ => 0)
  case atStart => exact ⟨rfl, rfl⟩
  case round =>
    obtain ⟨rfl, rfl⟩ := hrel
    go_wp2
    go_end0
    exact ⟨rfl, rfl⟩

set_option maxHeartbeats 1000000 in
theorem turnBack_any (b n : Nat) (f : Nat → Int) (w : World) (hn : 1 ≤ n) (hmax : n ≤ 1048576) (hf : Elems n f) (ha : Arr w b n f) :
    Calls Tryd.prog 60 #[.slice (some ⟨b, 0, none⟩) n n] w
      fun e w' => e = .returned (.tuple #[]) ∧ ∃ g, Arr w' b n g ∧ Elems n g ∧ Turnt n (pw n invE) f g ∧ Only b w w' := by
  have ce := embed_any (n : Int) (by omega) (by omega)
  rw [md_small (a := (n : Int)) (by omega) (by omega)] at ce
  have ci := inv_any (n : Int) (by omega) (by omega)
  obtain ⟨s, hs⟩ : ∃ s, pw n invE = s := ⟨_, rfl⟩
  rw [hs] at ci ⊢
  have bs : Hid (0 ≤ s ∧ s ≤ 18446744073709551615) := by rw [← hs]; exact ⟨(pw_bd n invE).1, Int.le_trans (pw_bd n invE).2 (by omega)⟩
  clear hs
  by_cases h1 : n = 1
  · have cr := reverse_none b w
    have HG : Hid (Arr w b n f ∧ Only b w w) := ⟨ha, Only.refl _ _⟩
    have HE : Hid (Elems n f) := hf
    have HT : Hid (∀ i, i < n → f i = f ((n - i) % n)) := fun i hi => by congr 1; subst h1; omega
    obtain ⟨g1, hg1⟩ : ∃ g1, f = g1 := ⟨_, rfl⟩
    rw [hg1] at HG HE
    have HT : Hid (∀ i, i < n → g1 i = f ((n - i) % n)) := by rw [← hg1]; exact HT
    clear hf ha hg1
    subst h1
    go_enter Tryd.func60, Tryd.ntmps60
    go_wp2_with (first | (go_at_call 82; refine cr.mono ?_; rintro e w' ⟨rfl, hw⟩; subst w') | (go_at_call 23; refine (ce _).mono ?_; rintro e w' ⟨rfl, hw⟩; subst w') | (go_at_call 83; refine (ci _).mono ?_; rintro e w' ⟨rfl, hw⟩; subst w'))
    go_loopw [14] (fun ti wr => ∃ (k : Nat) (g : Nat → Int), k ≤ 1 ∧ ti = .int .i64 k ∧ Hid (Arr wr b 1 g ∧ Only b w wr ∧ (∀ i, i < k → g i = (g1 i * s) % PP) ∧ (∀ i, k ≤ i → i < 1 → g i = g1 i))) (fun ti _ => 1 - (intOf ti).toNat)
    case atStart => exact ⟨0, g1, Nat.zero_le _, rfl, HG.out.1, HG.out.2, fun i hi => by omega, fun i _ _ => rfl⟩
    case round =>
      obtain ⟨k, g, hk, rfl, HR⟩ := hrel
      by_cases hlt : k < 1
      · obtain ⟨hA, hO, hU, hV⟩ := HR.out
        have bg := HE.out.fits k hlt
        rw [← hV k (Nat.le_refl _) hlt] at bg
        have hc := (hA k hlt).1
        have hf := (hA k hlt).2
        have cm := mul_any _ _ bg.1 bg.2 bs.out.1 bs.out.2
        obtain ⟨v, hv⟩ : ∃ v, (g k * s) % PP = v := ⟨_, rfl⟩
        rw [hv] at cm
        have HV : Hid ((g k * s) % PP = v) := hv
        clear hA hO hU hV hv bg
        go_wp2_with (go_at_call 27; refine (cm _).mono ?_; rintro e w' ⟨rfl, hw⟩; subst w')
        go_roundw
        case rel =>
          refine ⟨k + 1, upd g k v, by omega, by go_num, ?_⟩
          obtain ⟨hA, hO, hU, hV⟩ := HR.out
          refine ⟨hA.set hlt v, hO.setCell rfl _, fun i hi => ?_, fun i h1 h2 => ?_⟩
          · by_cases e : i = k
            · subst e; rw [upd_same, ← HV.out, hV i (Nat.le_refl _) hlt]
            · rw [upd_other e]; exact hU i (by omega)
          · rw [upd_other (by omega)]; exact hV i (by omega) h2
        case measure => simp [intOf]; omega
      · obtain rfl : k = 1 := by omega
        go_wp2
        go_end0
        obtain ⟨hA, hO, hU, hV⟩ := HR.out
        exact ⟨rfl, g, hA, fun i hi => by rw [hU i hi]; exact md_bd _, fun i hi => by rw [hU i hi, HT.out i hi], hO⟩
  · have cr := reverse_any b n (n - 1) (n - 1) f w (by omega) hmax ha
    have HF : Hid (Elems n f) := hf
    clear hf ha
    go_enter Tryd.func60, Tryd.ntmps60
    go_wp2_with (first | (go_at_call 82; refine cr.mono ?_; rintro e w1 ⟨rfl, g1, hA1, hO1, h01, hT1⟩; clear cr; have HG : Hid (Arr w1 b n g1 ∧ Only b w w1) := ⟨hA1, hO1⟩; have HT : Hid (∀ i, i < n → g1 i = f ((n - i) % n)) := turned_all (by omega) h01 hT1; have HE : Hid (Elems n g1) := turned_elems HF.out HT.out; clear hA1 hO1 h01 hT1) | (go_at_call 23; refine (ce _).mono ?_; rintro e w' ⟨rfl, hw⟩; subst w') | (go_at_call 83; refine (ci _).mono ?_; rintro e w' ⟨rfl, hw⟩; subst w'))
    go_loopw [14] (fun ti wr => ∃ (k : Nat) (g : Nat → Int), k ≤ n ∧ ti = .int .i64 k ∧ Hid (Arr wr b n g ∧ Only b w wr ∧ (∀ i, i < k → g i = (g1 i * s) % PP) ∧ (∀ i, k ≤ i → i < n → g i = g1 i))) (fun ti _ => n - (intOf ti).toNat)
    case atStart => exact ⟨0, g1, Nat.zero_le _, rfl, HG.out.1, HG.out.2, fun i hi => by omega, fun i _ _ => rfl⟩
    case round =>
      obtain ⟨k, g, hk, rfl, HR⟩ := hrel
      by_cases hlt : k < n
      · obtain ⟨hA, hO, hU, hV⟩ := HR.out
        have bg := HE.out.fits k hlt
        rw [← hV k (Nat.le_refl _) hlt] at bg
        have hc := (hA k hlt).1
        have hf := (hA k hlt).2
        have cm := mul_any _ _ bg.1 bg.2 bs.out.1 bs.out.2
        obtain ⟨v, hv⟩ : ∃ v, (g k * s) % PP = v := ⟨_, rfl⟩
        rw [hv] at cm
        have HV : Hid ((g k * s) % PP = v) := hv
        clear hA hO hU hV hv bg
        go_wp2_with (go_at_call 27; refine (cm _).mono ?_; rintro e w' ⟨rfl, hw⟩; subst w')
        go_roundw
        case rel =>
          refine ⟨k + 1, upd g k v, by omega, by go_num, ?_⟩
          obtain ⟨hA, hO, hU, hV⟩ := HR.out
          refine ⟨hA.set hlt v, hO.setCell rfl _, fun i hi => ?_, fun i h1 h2 => ?_⟩
          · by_cases e : i = k
            · subst e; rw [upd_same, ← HV.out, hV i (Nat.le_refl _) hlt]
            · rw [upd_other e]; exact hU i (by omega)
          · rw [upd_other (by omega)]; exact hV i (by omega) h2
        case measure => simp [intOf]; omega
      · obtain rfl : k = n := by omega
        go_wp2
        go_end0
        obtain ⟨hA, hO, hU, hV⟩ := HR.out
        exact ⟨rfl, g, hA, fun i hi => by rw [hU i hi]; exact md_bd _, fun i hi => by rw [hU i hi, HT.out i hi], hO⟩

end Go.Proofs.YtddpcjgekfmhkaaDoor
