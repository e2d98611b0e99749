/- Texts joined: Pv Sc Sd Tb Sh Tr. -/
import Derived.Test.YtddpcjgekfmhkabDoorM03
import Derived.Test.YtddpcjgekfmhkabDoorM06
import Derived.RegionTactic
import Derived.BigRegion
import Derived.Maps.OwnSet
import Derived.Defers

/- powers, isSize, allElements, walked. -/
namespace Go.Proofs.YtddpcjgekfmhkabDoor
open Go.RowKit
set_option linter.unusedSimpArgs false

theorem info_u64 : (Tryd.prog.info? 84).map (fun i => (i.zero, i.size, i.bytes)) = some (some (.int .u64 0), 1, 8) := by kernel_rfl

/-- The first k of n numbers are those of T. -/
def Upto (T : Nat → Int) (k : Nat) (g : Nat → Int) : Prop := ∀ i, i < k → g i = T i

set_option maxHeartbeats 1000000 in
theorem powers_any (K : Nat) (hK : K ≤ 10) (w : World) :
    Calls Tryd.prog 91 #[.int .i64 ((2 ^ K : Nat) : Int)] w
      fun e w' => e = .returned (.slice (some ⟨w.heap.size, 0, none⟩) (2 ^ K) (2 ^ K)) ∧ Arr w' w.heap.size (2 ^ K) (fun i => pw (rootk K) i) ∧ Gw w w' ∧ w'.heap.size = w.heap.size + 1 := by
  have hn : 2 ^ K ≤ 1024 := Nat.pow_le_pow_right (n := 2) (by decide) hK
  have hn1 : 1 ≤ 2 ^ K := Nat.one_le_two_pow
  have cr := root_yes K (by omega)
  have br : Hid (0 ≤ rootk K ∧ rootk K ≤ 18446744073709551615) := ⟨(pw_bd 7 (rootE K)).1, Int.le_trans (pw_bd 7 (rootE K)).2 (by omega)⟩
  generalize hnn : 2 ^ K = n at *
  clear hnn hK
  obtain ⟨r, hr⟩ : ∃ r, rootk K = r := ⟨_, rfl⟩
  rw [hr] at cr br ⊢
  clear hr
  go_enter Tryd.func91, Tryd.ntmps91
  go_wp2_with (first
    | (at_make; refine wpList_make_u64 _ rfl _ _ 59 84 rfl Tryd.underlying59 info_u64 n _ rfl rfl rfl (by omega) ?_; intro w1 hA hG hZ)
    | (go_at_call 102; refine (cr _).mono ?_; rintro e w' ⟨rfl, hw⟩; subst w'))
  have HR : Hid (Arr w1 w.heap.size n (fun _ => 0) ∧ Upto (fun i => pw r i) 0 (fun _ => 0) ∧ Gw w w1 ∧ w1.heap.size = w.heap.size + 1) := ⟨hA, fun i hi => by omega, hG, hZ⟩
  clear hA hG hZ cr
  go_loopw [5, 13] (fun tp ti wr => ∃ (k : Nat) (p : Int) (g : Nat → Int), k ≤ n ∧ tp = .int .u64 p ∧ ti = .int .i64 k ∧ Hid (p = pw r k) ∧ Hid (Arr wr w.heap.size n g ∧ Upto (fun i => pw r i) k g ∧ Gw w wr ∧ wr.heap.size = w.heap.size + 1)) (fun _ ti _ => n - (intOf ti).toNat)
  case atStart => exact ⟨0, 1, _, Nat.zero_le _, rfl, rfl, (pw_zero r).symm, HR⟩
  case round =>
    obtain ⟨k, p, g, hk, rfl, rfl, HP, HR⟩ := hrel
    by_cases hlt : k < n
    · obtain ⟨hA, hU, hG, hZ⟩ := HR.out
      have bp : 0 ≤ p ∧ p ≤ 18446744073709551615 := by rw [HP.out]; exact ⟨(pw_bd r k).1, Int.le_trans (pw_bd r k).2 (by omega)⟩
      have cm := mul_any p r bp.1 bp.2 br.out.1 br.out.2
      have hc := (hA k hlt).1
      have hf := (hA k hlt).2
      clear hA hU hG hZ bp
      obtain ⟨p', hp'⟩ : ∃ p', (p * r) % PP = p' := ⟨_, rfl⟩
      rw [hp'] at cm
      have HP' : Hid ((p * r) % PP = p') := hp'
      clear hp'
      go_wp2_with (go_at_call 43; refine (cm _).mono ?_; rintro e w' ⟨rfl, hw⟩; subst w')
      go_roundw
      case rel =>
        refine ⟨k + 1, p', upd g k p, by omega, rfl, by go_num, ?_, ?_⟩
        · show p' = pw r (k + 1)
          rw [pw_succ, ← HP.out, HP'.out]
        · obtain ⟨hA, hU, hG, hZ⟩ := HR.out
          refine ⟨hA.set hlt p, ?_, hG.setCell (Nat.le_refl _) _, by simpa [World.setCell] using hZ⟩
          intro i hi
          by_cases e : i = k
          · subst e; rw [upd_same]; exact HP.out
          · rw [upd_other e]; exact hU i (by omega)
      case measure => simp [intOf]; omega
    · obtain rfl : k = n := by omega
      go_wp2
      go_ret
      obtain ⟨hA, hU, hG, hZ⟩ := HR.out
      exact ⟨rfl, hA.congr hU, hG, hZ⟩

theorem isSize_yes (K : Nat) (hK : K ≤ 10) (w : World) :
    Calls Tryd.prog 77 #[.int .i64 ((2 ^ K : Nat) : Int)] w fun e w' => e = .returned (.bool true) ∧ w' = w := by
  have hn : 2 ^ K ≤ 1024 := Nat.pow_le_pow_right (n := 2) (by decide) hK
  have hn1 : 1 ≤ 2 ^ K := Nat.one_le_two_pow
  have ha := and_of_pow2 K
  generalize 2 ^ K = n at *
  have hand : bits .and .i64 (n : Int) ((n : Int) - 1) = 0 := by
    have h := and_i64_nat n (n - 1) (by omega) (by omega)
    rw [ha, show ((n - 1 : Nat) : Int) = (n : Int) - 1 by omega] at h
    exact h
  clear ha
  go_enter Tryd.func77, Tryd.ntmps77
  go_wp2
  go_ret
  exact ⟨by simp, rfl⟩

theorem isSize_no (n : Nat) (hn : ¬ ∃ k, k ≤ 10 ∧ n = 2 ^ k) (hmax : n ≤ 9223372036854775807) (w : World) :
    Calls Tryd.prog 77 #[.int .i64 (n : Int)] w fun e w' => e = .returned (.bool false) ∧ w' = w := by
  by_cases h1 : n < 1
  · clear hn
    go_enter Tryd.func77, Tryd.ntmps77
    go_wp2
    go_ret
    exact ⟨by simp, rfl⟩
  · by_cases h2 : 1024 < n
    · clear hn
      go_enter Tryd.func77, Tryd.ntmps77
      go_wp2
      go_ret
      exact ⟨by simp, rfl⟩
    · have hand := and_i64_nat n (n - 1) (by omega) (by omega)
      rw [show ((n - 1 : Nat) : Int) = (n : Int) - 1 by omega] at hand
      have hx : ¬ n &&& (n - 1) = 0 := by
        intro ha
        obtain ⟨k, hk⟩ := pow2_of_and n n (Nat.le_refl _) (by omega) ha
        refine hn ⟨k, ?_, hk⟩
        refine Nat.le_of_not_lt fun h11 => ?_
        have : 2 ^ 11 ≤ 2 ^ k := Nat.pow_le_pow_right (by omega) h11
        omega
      generalize n &&& (n - 1) = v at *
      clear hn
      go_enter Tryd.func77, Tryd.ntmps77
      go_wp2
      go_ret
      exact ⟨by simp [hx], rfl⟩

end Go.Proofs.YtddpcjgekfmhkabDoor

/- The library's TrailingZeros and Reverse64 at small numbers; scatter, walked. -/
namespace Go.Proofs.YtddpcjgekfmhkabDoor
open Go.RowKit
set_option linter.unusedSimpArgs false

theorem revbytes_any (x : Int) (w : World) :
    Calls Tryd.prog 105 #[.int .u64 x] w fun e w' => e = .returned (.int .u64 (rbytes x)) ∧ w' = w := by
  obtain ⟨a1, ha1⟩ : ∃ a, bits .and .u64 (x / 256) 71777214294589695 = a := ⟨_, rfl⟩
  obtain ⟨b1, hb1⟩ : ∃ a, bits .and .u64 x 71777214294589695 = a := ⟨_, rfl⟩
  obtain ⟨c1, hc1⟩ : ∃ a, IntKind.u64.wrap (b1 * 256) = a := ⟨_, rfl⟩
  obtain ⟨x1, hx1⟩ : ∃ a, bits .or .u64 a1 c1 = a := ⟨_, rfl⟩
  obtain ⟨a2, ha2⟩ : ∃ a, bits .and .u64 (x1 / 65536) 281470681808895 = a := ⟨_, rfl⟩
  obtain ⟨b2, hb2⟩ : ∃ a, bits .and .u64 x1 281470681808895 = a := ⟨_, rfl⟩
  obtain ⟨c2, hc2⟩ : ∃ a, IntKind.u64.wrap (b2 * 65536) = a := ⟨_, rfl⟩
  obtain ⟨x2, hx2⟩ : ∃ a, bits .or .u64 a2 c2 = a := ⟨_, rfl⟩
  obtain ⟨c3, hc3⟩ : ∃ a, IntKind.u64.wrap (x2 * 4294967296) = a := ⟨_, rfl⟩
  obtain ⟨r, hr⟩ : ∃ a, bits .or .u64 (x2 / 4294967296) c3 = a := ⟨_, rfl⟩
  have e : rbytes x = r := by unfold rbytes rstep; rw [ha1, hb1, hc1, hx1, ha2, hb2, hc2, hx2, hc3, hr]
  rw [e]
  clear e
  go_enter Tryd.func105, Tryd.ntmps105
  go_wp2
  go_ret
  exact ⟨rfl, rfl⟩

theorem rev64_any (x : Int) (w : World) :
    Calls Tryd.prog 93 #[.int .u64 x] w fun e w' => e = .returned (.int .u64 (r64 x)) ∧ w' = w := by
  obtain ⟨a1, ha1⟩ : ∃ a, bits .and .u64 (x / 2) 6148914691236517205 = a := ⟨_, rfl⟩
  obtain ⟨b1, hb1⟩ : ∃ a, bits .and .u64 x 6148914691236517205 = a := ⟨_, rfl⟩
  obtain ⟨c1, hc1⟩ : ∃ a, IntKind.u64.wrap (b1 * 2) = a := ⟨_, rfl⟩
  obtain ⟨x1, hx1⟩ : ∃ a, bits .or .u64 a1 c1 = a := ⟨_, rfl⟩
  obtain ⟨a2, ha2⟩ : ∃ a, bits .and .u64 (x1 / 4) 3689348814741910323 = a := ⟨_, rfl⟩
  obtain ⟨b2, hb2⟩ : ∃ a, bits .and .u64 x1 3689348814741910323 = a := ⟨_, rfl⟩
  obtain ⟨c2, hc2⟩ : ∃ a, IntKind.u64.wrap (b2 * 4) = a := ⟨_, rfl⟩
  obtain ⟨x2, hx2⟩ : ∃ a, bits .or .u64 a2 c2 = a := ⟨_, rfl⟩
  obtain ⟨a3, ha3⟩ : ∃ a, bits .and .u64 (x2 / 16) 1085102592571150095 = a := ⟨_, rfl⟩
  obtain ⟨b3, hb3⟩ : ∃ a, bits .and .u64 x2 1085102592571150095 = a := ⟨_, rfl⟩
  obtain ⟨c3, hc3⟩ : ∃ a, IntKind.u64.wrap (b3 * 16) = a := ⟨_, rfl⟩
  obtain ⟨x3, hx3⟩ : ∃ a, bits .or .u64 a3 c3 = a := ⟨_, rfl⟩
  have c := revbytes_any x3
  have e : r64 x = rbytes x3 := by unfold r64 rstep; rw [ha1, hb1, hc1, hx1, ha2, hb2, hc2, hx2, ha3, hb3, hc3, hx3]
  rw [e]
  clear e
  generalize rbytes x3 = r at *
  go_enter Tryd.func93, Tryd.ntmps93
  go_wp2_with (go_at_call 105; refine (c _).mono ?_; rintro e w' ⟨rfl, hw⟩; subst w')
  go_ret
  exact ⟨rfl, rfl⟩

theorem tz64_core (x y M : Int) (I K : Nat) (w : World) (hx : (x == 0) = false) (hy : IntKind.u64.wrap (-x) = y) (ha : bits .and .u64 x y = x) (hM : IntKind.u64.wrap (x * 285870213051353865) = M)
    (hI : M / 288230376151711744 = (I : Int)) (hI0 : (0 : Int) ≤ (I : Int)) (hI1 : (I : Int) < 64) (hc : w.cell? ⟨1, I, none⟩ = some (.int .u8 (K : Int))) (hK0 : (0 : Int) ≤ (K : Int)) (hK : (K : Int) ≤ 64) :
    Calls Tryd.prog 104 #[.int .u64 x] w fun e w' => e = .returned (.int .i64 K) ∧ w' = w := by
  go_enter Tryd.func104, Tryd.ntmps104
  go_wp2
  go_ret
  exact ⟨rfl, rfl⟩

theorem tz64_any (K : Nat) (hK : K ≤ 10) (w : World) (ht : Tab w) :
    Calls Tryd.prog 104 #[.int .u64 ((2 ^ K : Nat) : Int)] w fun e w' => e = .returned (.int .i64 K) ∧ w' = w := by
  have hn1 : 1 ≤ 2 ^ K := Nat.one_le_two_pow
  have hx : (((2 ^ K : Nat) : Int) == 0) = false := by generalize 2 ^ K = n at *; simp; omega
  obtain ⟨h1, h2, h3, h4⟩ := tz_facts K hK
  have hc := ht _ h2
  rw [h3] at hc
  exact tz64_core _ _ _ _ K w hx rfl h4 rfl h1 (Int.natCast_nonneg _) (Int.ofNat_lt.2 h2) hc (Int.natCast_nonneg _) (by omega)

theorem tz_any (K : Nat) (hK : K ≤ 10) (w : World) (ht : Tab w) :
    Calls Tryd.prog 92 #[.int .u64 ((2 ^ K : Nat) : Int)] w fun e w' => e = .returned (.int .i64 K) ∧ w' = w := by
  have c := tz64_any K hK w ht
  generalize 2 ^ K = n at *
  go_enter Tryd.func92, Tryd.ntmps92
  go_wp2_with (go_at_call 104; refine c.mono ?_; rintro e w' ⟨rfl, hw⟩; subst w')
  go_ret
  exact ⟨rfl, rfl⟩

end Go.Proofs.YtddpcjgekfmhkabDoor

/- scatter, walked. -/
namespace Go.Proofs.YtddpcjgekfmhkabDoor
open Go.RowKit
set_option linter.unusedSimpArgs false

set_option maxHeartbeats 1000000 in
theorem scatter_any (K b cap : Nat) (x : Nat → Int) (w : World) (hK : K ≤ 10) (ht : Tab w) (ha : Arr w b (2 ^ K) x) :
    Calls Tryd.prog 69 #[.slice (some ⟨b, 0, none⟩) (2 ^ K) cap] w
      fun e w' => e = .returned (.slice (some ⟨w.heap.size, 0, none⟩) (2 ^ K) (2 ^ K)) ∧ (∃ g, Arr w' w.heap.size (2 ^ K) g ∧ ∀ i, i < 2 ^ K → g i = x (rev K i)) ∧ Gw w w' ∧ w'.heap.size = w.heap.size + 1 := by
  have hn : 2 ^ K ≤ 1024 := Nat.pow_le_pow_right (n := 2) (by decide) hK
  have hn1 : 1 ≤ 2 ^ K := Nat.one_le_two_pow
  have hb := ha.lt (by omega)
  have ct := fun w1 (g : Gw w w1) => tz_any K hK w1 (ht.gw g)
  have hrev : Hid (∀ i : Nat, i < 2 ^ K → r64 (i : Int) / 2 ^ (64 - K) = ((rev K i : Nat) : Int) ∧ rev K i < 2 ^ K) := fun i hi => ⟨rev_facts K i hK hi, rev_lt K i⟩
  have hinv : Hid (∀ i : Nat, i < 2 ^ K → rev K (rev K i) = i) := fun i hi => rev_rev hK hi
  obtain ⟨u, hu⟩ : ∃ u, 64 - K = u := ⟨_, rfl⟩
  rw [hu] at hrev
  have hu' : (64 : Int) - (K : Int) = (u : Int) := by omega
  have hu0 : (0 : Int) ≤ (u : Int) := by omega
  have hu1 : (u : Int) ≤ 64 := by omega
  have hK' : (K : Int) ≤ 10 := by omega
  have HA : Hid (Arr w b (2 ^ K) x) := ha
  clear ha ht hu hK
  generalize 2 ^ K = n at *
  go_enter Tryd.func69, Tryd.ntmps69
  go_wp2_with (first
    | (at_make; refine wpList_make_u64 _ rfl _ _ 59 84 rfl Tryd.underlying59 info_u64 n _ rfl rfl rfl (by omega) ?_; intro w1 hA hG hZ)
    | (go_at_call 92; refine (ct _ hG).mono ?_; rintro e w' ⟨rfl, hw⟩; subst w'))
  have HR : Hid (Arr w1 w.heap.size n (fun _ => 0) ∧ (∀ i, i < 0 → (fun _ => (0 : Int)) (rev K i) = x i) ∧ Gw w w1 ∧ w1.heap.size = w.heap.size + 1) := ⟨hA, fun i hi => by omega, hG, hZ⟩
  clear hA hG hZ ct
  go_loopw [17] (fun ti wr => ∃ (k : Nat) (g : Nat → Int), k ≤ n ∧ ti = .int .i64 k ∧ Hid (Arr wr w.heap.size n g ∧ (∀ i, i < k → g (rev K i) = x i) ∧ Gw w wr ∧ wr.heap.size = w.heap.size + 1)) (fun ti _ => n - (intOf ti).toNat)
  case atStart => exact ⟨0, _, Nat.zero_le _, rfl, HR⟩
  case round =>
    obtain ⟨k, g, hk, rfl, HR⟩ := hrel
    by_cases hlt : k < n
    · obtain ⟨hA, hU, hG, hZ⟩ := HR.out
      obtain ⟨r1, r2⟩ := hrev.out k hlt
      have cr := rev64_any (k : Int)
      have hc := ((HA.out.gw hG) k hlt).1
      have hc2 := (hA _ r2).1
      have hf := (hA _ r2).2
      obtain ⟨R, hR⟩ : ∃ R, rev K k = R := ⟨_, rfl⟩
      rw [hR] at r1 r2 hc2 hf
      obtain ⟨v, hv⟩ : ∃ v, x k = v := ⟨_, rfl⟩
      rw [hv] at hc
      have HX : Hid (rev K k = R ∧ x k = v) := ⟨hR, hv⟩
      generalize r64 (k : Int) = q at *
      clear hR hv hA hU hG hZ
      go_wp2_with (go_at_call 93; refine (cr _).mono ?_; rintro e w' ⟨rfl, hw⟩; subst w')
      go_roundw
      case rel =>
        refine ⟨k + 1, upd g R v, by omega, by go_num, ?_⟩
        obtain ⟨hA, hU, hG, hZ⟩ := HR.out
        refine ⟨hA.set r2 v, ?_, hG.setCell (Nat.le_refl _) _, by simpa [World.setCell] using hZ⟩
        intro i hi
        by_cases e : i = k
        · subst e; rw [HX.out.1, upd_same, HX.out.2]
        · rw [upd_other, hU i (by omega)]
          intro he
          rw [← HX.out.1] at he
          have a := hinv.out i (by omega)
          have b := hinv.out k hlt
          rw [he] at a
          omega
      case measure => simp [intOf]; omega
    · obtain rfl : k = n := by omega
      go_wp2
      go_ret
      obtain ⟨hA, hU, hG, hZ⟩ := HR.out
      refine ⟨rfl, ⟨g, hA, fun i hi => ?_⟩, hG, hZ⟩
      have h2 := (hrev.out i hi).2
      have := hU _ h2
      rw [hinv.out i hi] at this
      exact this

end Go.Proofs.YtddpcjgekfmhkabDoor

/- slices.Reverse and turnBack, walked. -/
namespace Go.Proofs.YtddpcjgekfmhkabDoor
open Go.RowKit
set_option linter.unusedSimpArgs false

/-- The first k and the last k of m things, from place 1 on, are turned round. -/
def Turned (m k : Nat) (f g : Nat → Int) : Prop := g 0 = f 0 ∧ ∀ p, p < m → (p < k ∨ m < p + k + 1 → g (1 + p) = f (1 + (m - 1 - p))) ∧ (¬ (p < k ∨ m < p + k + 1) → g (1 + p) = f (1 + p))
theorem Turned.step {m k J : Nat} {f g : Nat → Int} (h : Turned m k f g) (hkJ : k + J + 1 = m) (hlt : k < J) :
    Turned m (k + 1) f (upd (upd g (1 + k) (g (1 + J))) (1 + J) (g (1 + k))) := by
  obtain ⟨h0, h⟩ := h
  refine ⟨by rw [upd_other (by omega), upd_other (by omega)]; exact h0, fun p hp => ?_⟩
  have ek := (h k (by omega)).2 (by omega)
  have eJ := (h J (by omega)).2 (by omega)
  by_cases e1 : p = J
  · subst e1
    refine ⟨fun _ => ?_, fun k => absurd (Or.inr (by omega)) k⟩
    rw [upd_same, ek]; congr 1; omega
  · by_cases e2 : p = k
    · subst e2
      refine ⟨fun _ => ?_, fun k => absurd (Or.inl (by omega)) k⟩
      rw [upd_other (by omega), upd_same, eJ]; congr 1; omega
    · rw [upd_other (by omega), upd_other (by omega)]
      exact ⟨fun q => (h p hp).1 (by omega), fun q => (h p hp).2 (by omega)⟩

set_option maxHeartbeats 1000000 in
theorem reverse_any (b n m cap : Nat) (f : Nat → Int) (w : World) (hn : n = m + 1) (hmax : n ≤ 1048576) (ha : Arr w b n f) :
    Calls Tryd.prog 96 #[.slice (some ⟨b, 1, none⟩) m cap] w
      fun e w' => e = .returned (.tuple #[]) ∧ ∃ g, Arr w' b n g ∧ Only b w w' ∧ g 0 = f 0 ∧ ∀ p, p < m → g (1 + p) = f (1 + (m - 1 - p)) := by
  have HA : Hid (Arr w b n f) := ha
  clear ha
  go_enter Tryd.func96, Tryd.ntmps96
  go_wp2
  go_loopw [2, 3] (fun ti tj wr => ∃ (k : Nat) (g : Nat → Int), 2 * k ≤ m ∧ ti = .int .i64 k ∧ tj = .int .i64 ((m : Int) - 1 - (k : Int)) ∧ Hid (Arr wr b n g ∧ Turned m k f g ∧ Only b w wr)) (fun ti _ _ => m - (intOf ti).toNat)
  case atStart => exact ⟨0, f, by omega, rfl, by simp, HA.out, ⟨rfl, fun p hp => ⟨fun h => by omega, fun _ => rfl⟩⟩, Only.refl _ _⟩
  case round =>
    obtain ⟨k, g, hk, rfl, rfl, HR⟩ := hrel
    by_cases hlt : 2 * k + 1 < m
    · obtain ⟨J, hJ⟩ : ∃ J, k + J + 1 = m := ⟨m - 1 - k, by omega⟩
      have hJi : (m : Int) - 1 - (k : Int) = (J : Int) := by omega
      rw [hJi]
      have hkJ : k < J := by omega
      have hJm : J < m := by omega
      have hkm : k < m := by omega
      obtain ⟨hA, hT, hO⟩ := HR.out
      have c1 := (hA (1 + k) (by omega)).1
      have f1 := (hA (1 + k) (by omega)).2
      have c2 := (hA (1 + J) (by omega)).1
      have f2 := (hA (1 + J) (by omega)).2
      have i1 : (k : Int) < (m : Int) := by omega
      have i2 : (J : Int) < (m : Int) := by omega
      have i3 : ¬ 1 + k = 1 + J := by omega
      have i4 : ¬ 1 + J = 1 + k := by omega
      have i5 : ¬ k = J := by omega
      clear hA hT hO
      go_wp2
      go_region
      go_wp2
      go_roundw
      case rel =>
        refine ⟨k + 1, upd (upd g (1 + k) (g (1 + J))) (1 + J) (g (1 + k)), by omega, by go_num, ?_, ?_⟩
        · congr 1; omega
        · obtain ⟨hA, hT, hO⟩ := HR.out
          exact ⟨(hA.drew.set (by omega) _).set (by omega) _, hT.step hJ hkJ, (hO.drew.setCell rfl _).setCell rfl _⟩
      case measure => simp [intOf]; omega
    · go_wp2
      go_end0
      obtain ⟨hA, hT, hO⟩ := HR.out
      refine ⟨rfl, g, hA, hO, hT.1, fun p hp => ?_⟩
      by_cases e : p < k ∨ m < p + k + 1
      · exact (hT.2 p hp).1 e
      · rw [(hT.2 p hp).2 e]; congr 1; omega

theorem turned_all {n : Nat} {f g : Nat → Int} (hn : 1 ≤ n) (h0 : g 0 = f 0) (h : ∀ p, p < n - 1 → g (1 + p) = f (1 + (n - 1 - 1 - p))) : ∀ i, i < n → g i = f ((n - i) % n) := by
  intro i hi
  by_cases e : i = 0
  · subst e; rw [Nat.sub_zero, Nat.mod_self]; exact h0
  · have := h (i - 1) (by omega)
    rw [show 1 + (i - 1) = i by omega] at this
    rw [this, Nat.mod_eq_of_lt (by omega)]
    congr 1; omega
theorem turned_elems {n : Nat} {f g : Nat → Int} (hf : Elems n f) (h : ∀ i, i < n → g i = f ((n - i) % n)) : Elems n g := fun i hi => by
  rw [h i hi]; exact hf _ (Nat.mod_lt _ (by omega))

/-- A list turned round behind its first, each a share of what it was. -/
def Turnt (n : Nat) (s : Int) (f g : Nat → Int) : Prop := ∀ i, i < n → g i = (f ((n - i) % n) * s) % PP

theorem reverse_none (b : Nat) (w : World) :
    Calls Tryd.prog 96 #[.slice (some ⟨b, 0, none⟩) 0 0] w fun e w' => e = .returned (.tuple #[]) ∧ w' = w := by
  go_enter Tryd.func96, Tryd.ntmps96
  go_wp2
  go_loop [2, 3] (fun ti tj => ti = .int .i64 0 ∧ tj = .int .i64 (-1)) (fun _ _ => 0)
  case atStart => exact ⟨rfl, rfl⟩
  case round =>
    obtain ⟨rfl, rfl⟩ := hrel
    go_wp2
    go_end0
    exact ⟨rfl, rfl⟩

set_option maxHeartbeats 1000000 in
theorem turnBack_any (b n : Nat) (f : Nat → Int) (w : World) (hn : 1 ≤ n) (hmax : n ≤ 1048576) (hf : Elems n f) (ha : Arr w b n f) :
    Calls Tryd.prog 71 #[.slice (some ⟨b, 0, none⟩) n n] w
      fun e w' => e = .returned (.tuple #[]) ∧ ∃ g, Arr w' b n g ∧ Elems n g ∧ Turnt n (pw n invE) f g ∧ Only b w w' := by
  have ce := embed_any (n : Int) (by omega) (by omega)
  rw [md_small (a := (n : Int)) (by omega) (by omega)] at ce
  have ci := inv_any (n : Int) (by omega) (by omega)
  obtain ⟨s, hs⟩ : ∃ s, pw n invE = s := ⟨_, rfl⟩
  rw [hs] at ci ⊢
  have bs : Hid (0 ≤ s ∧ s ≤ 18446744073709551615) := by rw [← hs]; exact ⟨(pw_bd n invE).1, Int.le_trans (pw_bd n invE).2 (by omega)⟩
  clear hs
  by_cases h1 : n = 1
  · have cr := reverse_none b w
    have HG : Hid (Arr w b n f ∧ Only b w w) := ⟨ha, Only.refl _ _⟩
    have HE : Hid (Elems n f) := hf
    have HT : Hid (∀ i, i < n → f i = f ((n - i) % n)) := fun i hi => by congr 1; subst h1; omega
    obtain ⟨g1, hg1⟩ : ∃ g1, f = g1 := ⟨_, rfl⟩
    rw [hg1] at HG HE
    have HT : Hid (∀ i, i < n → g1 i = f ((n - i) % n)) := by rw [← hg1]; exact HT
    clear hf ha hg1
    subst h1
    go_enter Tryd.func71, Tryd.ntmps71
    go_wp2_with (first | (go_at_call 96; refine cr.mono ?_; rintro e w' ⟨rfl, hw⟩; subst w') | (go_at_call 72; refine (ce _).mono ?_; rintro e w' ⟨rfl, hw⟩; subst w') | (go_at_call 97; refine (ci _).mono ?_; rintro e w' ⟨rfl, hw⟩; subst w'))
    go_loopw [14] (fun ti wr => ∃ (k : Nat) (g : Nat → Int), k ≤ 1 ∧ ti = .int .i64 k ∧ Hid (Arr wr b 1 g ∧ Only b w wr ∧ (∀ i, i < k → g i = (g1 i * s) % PP) ∧ (∀ i, k ≤ i → i < 1 → g i = g1 i))) (fun ti _ => 1 - (intOf ti).toNat)
    case atStart => exact ⟨0, g1, Nat.zero_le _, rfl, HG.out.1, HG.out.2, fun i hi => by omega, fun i _ _ => rfl⟩
    case round =>
      obtain ⟨k, g, hk, rfl, HR⟩ := hrel
      by_cases hlt : k < 1
      · obtain ⟨hA, hO, hU, hV⟩ := HR.out
        have bg := HE.out.fits k hlt
        rw [← hV k (Nat.le_refl _) hlt] at bg
        have hc := (hA k hlt).1
        have hf := (hA k hlt).2
        have cm := mul_any _ _ bg.1 bg.2 bs.out.1 bs.out.2
        obtain ⟨v, hv⟩ : ∃ v, (g k * s) % PP = v := ⟨_, rfl⟩
        rw [hv] at cm
        have HV : Hid ((g k * s) % PP = v) := hv
        clear hA hO hU hV hv bg
        go_wp2_with (go_at_call 43; refine (cm _).mono ?_; rintro e w' ⟨rfl, hw⟩; subst w')
        go_roundw
        case rel =>
          refine ⟨k + 1, upd g k v, by omega, by go_num, ?_⟩
          obtain ⟨hA, hO, hU, hV⟩ := HR.out
          refine ⟨hA.set hlt v, hO.setCell rfl _, fun i hi => ?_, fun i h1 h2 => ?_⟩
          · by_cases e : i = k
            · subst e; rw [upd_same, ← HV.out, hV i (Nat.le_refl _) hlt]
            · rw [upd_other e]; exact hU i (by omega)
          · rw [upd_other (by omega)]; exact hV i (by omega) h2
        case measure => simp [intOf]; omega
      · obtain rfl : k = 1 := by omega
        go_wp2
        go_end0
        obtain ⟨hA, hO, hU, hV⟩ := HR.out
        exact ⟨rfl, g, hA, fun i hi => by rw [hU i hi]; exact md_bd _, fun i hi => by rw [hU i hi, HT.out i hi], hO⟩
  · have cr := reverse_any b n (n - 1) (n - 1) f w (by omega) hmax ha
    have HF : Hid (Elems n f) := hf
    clear hf ha
    go_enter Tryd.func71, Tryd.ntmps71
    go_wp2_with (first | (go_at_call 96; refine cr.mono ?_; rintro e w1 ⟨rfl, g1, hA1, hO1, h01, hT1⟩; clear cr; have HG : Hid (Arr w1 b n g1 ∧ Only b w w1) := ⟨hA1, hO1⟩; have HT : Hid (∀ i, i < n → g1 i = f ((n - i) % n)) := turned_all (by omega) h01 hT1; have HE : Hid (Elems n g1) := turned_elems HF.out HT.out; clear hA1 hO1 h01 hT1) | (go_at_call 72; refine (ce _).mono ?_; rintro e w' ⟨rfl, hw⟩; subst w') | (go_at_call 97; refine (ci _).mono ?_; rintro e w' ⟨rfl, hw⟩; subst w'))
    go_loopw [14] (fun ti wr => ∃ (k : Nat) (g : Nat → Int), k ≤ n ∧ ti = .int .i64 k ∧ Hid (Arr wr b n g ∧ Only b w wr ∧ (∀ i, i < k → g i = (g1 i * s) % PP) ∧ (∀ i, k ≤ i → i < n → g i = g1 i))) (fun ti _ => n - (intOf ti).toNat)
    case atStart => exact ⟨0, g1, Nat.zero_le _, rfl, HG.out.1, HG.out.2, fun i hi => by omega, fun i _ _ => rfl⟩
    case round =>
      obtain ⟨k, g, hk, rfl, HR⟩ := hrel
      by_cases hlt : k < n
      · obtain ⟨hA, hO, hU, hV⟩ := HR.out
        have bg := HE.out.fits k hlt
        rw [← hV k (Nat.le_refl _) hlt] at bg
        have hc := (hA k hlt).1
        have hf := (hA k hlt).2
        have cm := mul_any _ _ bg.1 bg.2 bs.out.1 bs.out.2
        obtain ⟨v, hv⟩ : ∃ v, (g k * s) % PP = v := ⟨_, rfl⟩
        rw [hv] at cm
        have HV : Hid ((g k * s) % PP = v) := hv
        clear hA hO hU hV hv bg
        go_wp2_with (go_at_call 43; refine (cm _).mono ?_; rintro e w' ⟨rfl, hw⟩; subst w')
        go_roundw
        case rel =>
          refine ⟨k + 1, upd g k v, by omega, by go_num, ?_⟩
          obtain ⟨hA, hO, hU, hV⟩ := HR.out
          refine ⟨hA.set hlt v, hO.setCell rfl _, fun i hi => ?_, fun i h1 h2 => ?_⟩
          · by_cases e : i = k
            · subst e; rw [upd_same, ← HV.out, hV i (Nat.le_refl _) hlt]
            · rw [upd_other e]; exact hU i (by omega)
          · rw [upd_other (by omega)]; exact hV i (by omega) h2
        case measure => simp [intOf]; omega
      · obtain rfl : k = n := by omega
        go_wp2
        go_end0
        obtain ⟨hA, hO, hU, hV⟩ := HR.out
        exact ⟨rfl, g, hA, fun i hi => by rw [hU i hi]; exact md_bd _, fun i hi => by rw [hU i hi, HT.out i hi], hO⟩

end Go.Proofs.YtddpcjgekfmhkabDoor

/- The shelf, walked. -/
namespace Go.Proofs.YtddpcjgekfmhkabDoor
open Go.RowKit Go.Maps
open Go.ChangeMaps (setBlock heap_setBlock_other)
set_option linter.unusedSimpArgs false

/-- Of what was there only block b has turned. -/
structure But (b : Nat) (w w' : World) : Prop where
  os : w'.os = w.os
  tape : w'.tape = w.tape
  output : w'.output = w.output
  size : w.heap.size ≤ w'.heap.size
  block : ∀ k, k < w.heap.size → k ≠ b → w'.heap[k]? = w.heap[k]?
  frozen : ∀ a, w'.frozen? a = w.frozen? a
theorem But.of_gw {w w' : World} (b : Nat) (h : Gw w w') : But b w w' := ⟨h.1.os, h.1.tape, h.1.output, h.1.size, fun k hk _ => h.1.block k hk, h.2⟩
theorem But.of_only {b : Nat} {w w' : World} (h : Only b w w') : But b w w' := ⟨h.os, h.tape, h.output, by rw [h.size]; exact Nat.le_refl _, fun k _ hk => h.block k hk, h.frozen⟩
theorem But.trans {b : Nat} {u v w : World} (h : But b u v) (k : But b v w) : But b u w :=
  ⟨k.os.trans h.os, k.tape.trans h.tape, k.output.trans h.output, Nat.le_trans h.size k.size, fun i hi hb => (k.block i (Nat.lt_of_lt_of_le hi h.size) hb).trans (h.block i hi hb), fun a => (k.frozen a).trans (h.frozen a)⟩
/-- A block that was made behind u may turn. -/
theorem But.of_new {b c : Nat} {u v w : World} (h : But b u v) (k : Only c v w) (hc : u.heap.size ≤ c) : But b u w :=
  ⟨k.os.trans h.os, k.tape.trans h.tape, k.output.trans h.output, by rw [k.size]; exact h.size, fun i hi hb => (k.block i (by omega)).trans (h.block i hi hb), fun a => (k.frozen a).trans (h.frozen a)⟩
theorem But.gw {b : Nat} {u v w : World} (h : Gw u v) (k : But b v w) (hb : u.heap.size ≤ b) : Gw u w :=
  ⟨⟨k.os.trans h.1.os, k.tape.trans h.1.tape, k.output.trans h.1.output, Nat.le_trans h.1.size k.size, fun i hi => (k.block i (Nat.lt_of_lt_of_le hi h.1.size) (by omega)).trans (h.1.block i hi)⟩, fun a => (k.frozen a).trans (h.2 a)⟩
theorem But.at {c : Nat} {w w' : World} (h : But c w w') {b o : Nat} {v : Value} (hb : b ≠ c) (hv : w.cell? ⟨b, o, none⟩ = some v) : w'.cell? ⟨b, o, none⟩ = some v := by
  have hlt : b < w.heap.size := by
    refine Nat.lt_of_not_le fun hle => ?_
    have e : w.heap[b]? = none := Array.getElem?_eq_none hle
    simp [World.cell?, e] at hv
  exact (World.cell?_of_block (w := w) (h.block b hlt hb)).trans hv
theorem Arr.but {w w' : World} {b n c : Nat} {f : Nat → Int} (h : Arr w b n f) (k : But c w w') (hc : b ≠ c) : Arr w' b n f :=
  fun i hi => ⟨k.at hc (h i hi).1, (k.frozen _).trans (h i hi).2⟩
theorem Only.of_turned {w w' : World} {b : Nat} (h : w.mapTurned w' b) : Only b w w' := by
  have hf := h.frozen
  have hg := h.grown
  obtain ⟨es, clock, es', clock', hb, rfl⟩ := h
  exact ⟨rfl, rfl, rfl, by simp [setBlock], fun k hk => heap_setBlock_other hb _ hk, hf⟩
theorem Gw.allocMap {a w : World} (h : Gw a w) : Gw a (w.alloc (.map #[] 0)) := by
  refine ⟨h.1.alloc h.1.size _, fun x => ?_⟩
  rw [← h.2 x]
  by_cases e : x.block = w.heap.size
  · have e1 : (w.alloc (.map #[] 0)).heap[x.block]? = some (.map #[] 0) := by rw [e]; show (w.heap.push _)[w.heap.size]? = _; simp
    have e2 : w.heap[x.block]? = none := by rw [e]; exact Array.getElem?_eq_none (Nat.le_refl _)
    simp [World.frozen?, e1, e2]
  · have e1 : (w.alloc (.map #[] 0)).heap[x.block]? = w.heap[x.block]? := by show (w.heap.push _)[x.block]? = _; rw [Array.getElem?_push, if_neg e]
    exact World.frozen?_of_block e1

/-- How a table reads in the shelf. -/
def slR (v : Value) : Option (DataW Unit × List MemPlace) :=
  match v with
  | .slice none 0 0 => some (.nil, [])
  | .slice (some ⟨b, 0, none⟩) n c => some (.agg [.lit (.int .u64 (b : Int)), .lit (.int .u64 (n : Int)), .lit (.int .u64 (c : Int))], [])
  | _ => none
def tabD (tb n : Nat) : DataW Unit := .agg [.lit (.int .u64 (tb : Int)), .lit (.int .u64 (n : Int)), .lit (.int .u64 (n : Int))]
theorem slR_mk (tb n : Nat) : slR (.slice (some ⟨tb, 0, none⟩) n n) = some (tabD tb n, []) := rfl
theorem slR_nil {v : Value} {ps : List MemPlace} (h : slR v = some (.nil, ps)) : v = .slice none 0 0 := by
  unfold slR at h
  split at h
  · rfl
  · simp at h
  · simp at h
theorem slR_tab {v : Value} {tb n : Nat} {ps : List MemPlace} (h : slR v = some (tabD tb n, ps)) : v = .slice (some ⟨tb, 0, none⟩) n n := by
  unfold slR tabD at h
  split at h
  · simp at h
  · rename_i b m c
    simp only [Option.some.injEq, Prod.mk.injEq, DataW.agg.injEq, List.cons.injEq, DataW.lit.injEq, Lit.int.injEq, true_and, Int.ofNat_inj] at h
    obtain ⟨⟨h1, h2, h3, _⟩, _⟩ := h
    subst h1 h2 h3; rfl
  · simp at h

theorem law : Keyed Tryd.prog 3 := int_keyed Tryd.underlying3
theorem zeroS (w : World) : (zeroValue 59).run Tryd.prog w = .ok (.slice none 0 0) w := by kernel_rfl
def key (n : Nat) : Lit := .int .i64 (n : Int)
theorem key_of {n : Nat} (h : n ≤ 1048576) : keyOf Tryd.prog 3 (.int .i64 (n : Int)) = some (key n) := keyOf_int_mk Tryd.underlying3 (WalkArith.wf_i64 (by omega))

/-- A shelf: its block, its map's, what is in it. -/
structure Shelf (w : World) (sb mb k : Nat) (D : DataW Unit) : Prop where
  cell : w.cell? ⟨sb, 0, none⟩ = some (.map (some mb))
  own : w.ownsMap Tryd.prog 3 slR mb k D

theorem newShelf_any (w : World) :
    Calls Tryd.prog 20 #[] w fun e w' => e = .returned (.pointer (some ⟨w.heap.size + 1, 0, none⟩)) ∧ Shelf w' (w.heap.size + 1) w.heap.size 0 (.map []) ∧ Gw w w' ∧ w'.heap.size = w.heap.size + 2 := by
  have hmm := @run_makeMap Tryd.prog
  go_enter Tryd.func20, Tryd.ntmps20
  go_wp2
  go_ret
  refine ⟨rfl, ⟨?_, ?_⟩, (Gw.refl _).allocMap.alloc _ _, by simp⟩
  · simp
  · exact (World.ownsMap_made w _ _ _).alloc _

set_option maxHeartbeats 400000 in
theorem borrow_none (K sb mb k : Nat) (D : DataW Unit) (w : World) (hK : K ≤ 10) (hs : Shelf w sb mb k D) (hD : Maps.has D (key (2 ^ K)) = false) :
    Calls Tryd.prog 67 #[.pointer (some ⟨sb, 0, none⟩), .int .i64 ((2 ^ K : Nat) : Int)] w
      fun e w' => e = .returned (.slice (some ⟨w.heap.size, 0, none⟩) (2 ^ K) (2 ^ K)) ∧ Arr w' w.heap.size (2 ^ K) (fun i => pw (rootk K) i) ∧ Gw w w' ∧ w'.heap.size = w.heap.size + 1 := by
  have cp := powers_any K hK w
  have hn : 2 ^ K ≤ 1024 := Nat.pow_le_pow_right (n := 2) (by decide) hK
  have hk := key_of (n := 2 ^ K) (by omega)
  obtain ⟨hc, hown⟩ := hs
  generalize 2 ^ K = n at *
  obtain ⟨v, ps, hrun, hv⟩ := hown.look_ok law Tryd.underlying78 (zeroS w) (zd := .nil) (zp := []) rfl hk
  rw [hD] at hrun
  rw [atKey_of_not_has hD] at hv
  have hv' := slR_nil hv
  subst hv'
  clear hv hown hk hD
  go_enter Tryd.func67, Tryd.ntmps67
  go_wp2_with (go_at_call 91; refine cp.mono ?_; rintro e w' ⟨rfl, hR⟩)
  go_ret
  exact ⟨rfl, hR⟩

theorem giveBack_any (sb mb k tb n : Nat) (D : DataW Unit) (u : FrameMode) (w : World) (hn : n ≤ 1048576) (hk : k ≤ 1000000) (hs : Shelf w sb mb k D) :
    CallsD Tryd.prog 68 #[.pointer (some ⟨sb, 0, none⟩), .slice (some ⟨tb, 0, none⟩) n n] u w
      fun e u' w' => u' = u ∧ (e = .returned (.tuple #[]) ∧ Shelf w' sb mb (k + 1) (D.put (key n) (tabD tb n)) ∧ Only mb w w') := by
  have hkey := key_of hn
  obtain ⟨hc, hown⟩ := hs
  obtain ⟨w', hrun, r1, r2⟩ := hown.store law Tryd.underlying78 (by unfold maxLen; omega) hkey (slR_mk tb n)
  have hsm : sb ≠ mb := by
    intro e; subst e
    obtain ⟨es, clock, hb, _⟩ := hown
    simp [World.cell?, hb] at hc
  have HR : Hid (Shelf w' sb mb (k + 1) (D.put (key n) (tabD tb n)) ∧ Only mb w w') := ⟨⟨((Only.of_turned r2).cell hsm).trans hc, r1⟩, Only.of_turned r2⟩
  clear r1 r2 hown hkey
  go_enter_d Tryd.func68, Tryd.ntmps68
  go_wp2
  go_end0
  exact ⟨rfl, HR.out⟩

end Go.Proofs.YtddpcjgekfmhkabDoor

/- transform, walked. -/
namespace Go.Proofs.YtddpcjgekfmhkabDoor
open Go.RowKit Go.Maps
set_option linter.unusedSimpArgs false

/-- What a transform is. -/
def trans (K : Nat) (inv : Bool) (x : Nat → Int) (j : Nat) : Int := if inv then (idft K x j * pw ((2 ^ K : Nat) : Int) invE) % PP else dft K x j

/-- What has become of the world behind a transform whose table was not there. -/
structure Did (K sb mb k : Nat) (inv : Bool) (x : Nat → Int) (D : DataW Unit) (w w' : World) : Prop where
  out : Arr w' (w.heap.size + 1) (2 ^ K) (trans K inv x)
  tab : Arr w' w.heap.size (2 ^ K) (fun i => pw (rootk K) i)
  shelf : Shelf w' sb mb (k + 1) (D.put (key (2 ^ K)) (tabD w.heap.size (2 ^ K)))
  but : But mb w w'
  size : w'.heap.size = w.heap.size + 2

theorem Shelf.gw {w w' : World} {sb mb k : Nat} {D : DataW Unit} (h : Shelf w sb mb k D) (g : Gw w w') : Shelf w' sb mb k D := by
  refine ⟨g.at h.cell, ?_⟩
  obtain ⟨es, clock, hb, r⟩ := h.own
  refine ⟨es, clock, ?_, r⟩
  have hlt : mb < w.heap.size := by
    refine Nat.lt_of_not_le fun hle => ?_
    rw [Array.getElem?_eq_none hle] at hb; cases hb
  rw [g.1.block mb hlt, hb]
theorem Shelf.only {w w' : World} {sb mb k c : Nat} {D : DataW Unit} (h : Shelf w sb mb k D) (g : Only c w w') (h1 : sb ≠ c) (h2 : mb ≠ c) : Shelf w' sb mb k D := by
  refine ⟨(g.cell h1).trans h.cell, ?_⟩
  obtain ⟨es, clock, hb, r⟩ := h.own
  exact ⟨es, clock, (g.block mb h2).trans hb, r⟩
theorem Shelf.lt {w : World} {sb mb k : Nat} {D : DataW Unit} (h : Shelf w sb mb k D) : sb < w.heap.size ∧ mb < w.heap.size := by
  constructor
  · refine Nat.lt_of_not_le fun hle => ?_
    have e : w.heap[sb]? = none := Array.getElem?_eq_none hle
    have := h.cell
    simp [World.cell?, e] at this
  · obtain ⟨es, clock, hb, r⟩ := h.own
    refine Nat.lt_of_not_le fun hle => ?_
    rw [Array.getElem?_eq_none hle] at hb; cases hb

theorem merged_of {K s : Nat} {f g : Nat → Int} (hs : s + 1 ≤ K) (hK : K ≤ 32) (h : ∀ c q, c < 2 ^ (K - (s + 1)) → q < 2 ^ s → Pair (2 ^ s) (fun q => pw (rootk K) (q * 2 ^ (K - (s + 1)))) f g c q) : Merged s (2 ^ (K - (s + 1))) f g := by
  intro c q hc hq
  have := h c q hc hq
  unfold Pair at this
  simp only [rootk_step K hs hK] at this
  exact this
theorem split_pow {K s : Nat} (hs : s + 1 ≤ K) : 2 ^ K = 2 ^ (K - (s + 1)) * (2 * 2 ^ s) := by
  rw [show 2 * 2 ^ s = 2 ^ (s + 1) by rw [Nat.pow_succ]; omega, ← Nat.pow_add]; congr 1; omega
theorem root_elems (K : Nat) : Elems (2 ^ K) (fun i => pw (rootk K) i) := fun _ _ => pw_bd _ _

set_option maxHeartbeats 2000000 in
theorem transform_any (K sb mb k lb cap : Nat) (x : Nat → Int) (D : DataW Unit) (inv : Bool) (w : World) (hK : K ≤ 10) (hk : k ≤ 1000000) (ht : Tab w) (ha : Arr w lb (2 ^ K) x) (hx : Elems (2 ^ K) x)
    (hs : Shelf w sb mb k D) (hD : Maps.has D (key (2 ^ K)) = false) :
    Calls Tryd.prog 41 #[.pointer (some ⟨sb, 0, none⟩), .slice (some ⟨lb, 0, none⟩) (2 ^ K) cap, .bool inv] w
      fun e w' => e = .returned (.slice (some ⟨w.heap.size + 1, 0, none⟩) (2 ^ K) (2 ^ K)) ∧ Did K sb mb k inv x D w w' := by
  have cb := borrow_none K sb mb k D w hK hs hD
  have hn : 2 ^ K ≤ 1024 := Nat.pow_le_pow_right (n := 2) (by decide) hK
  have hn1 : 1 ≤ 2 ^ K := Nat.one_le_two_pow
  have hlt := hs.lt
  have hlb := ha.lt (by omega)
  have csc := fun w1 (g : Gw w w1) => scatter_any K lb cap x w1 hK (ht.gw g) (ha.gw g)
  have HI : Hid (Shelf w sb mb k D ∧ Elems (2 ^ K) x ∧ K ≤ 10 ∧ k ≤ 1000000) := ⟨hs, hx, hK, hk⟩
  clear hs hD ht ha hx hK hk
  obtain ⟨n, hnn⟩ : ∃ n, 2 ^ K = n := ⟨_, rfl⟩
  have HN : Hid (2 ^ K = n) := hnn
  rw [hnn] at cb csc hn hn1 ⊢
  clear hnn
  go_enter_defers Tryd.func41, Tryd.ntmps41
  go_wp2_with (first
    | (go_at_call 67; refine cb.mono ?_; rintro e w1 ⟨rfl, hT1, hG1, hZ1⟩; clear cb)
    | (go_at_call 69; refine (csc _ hG1).mono ?_; rintro e w2 ⟨rfl, ⟨g0, hA2, hg0⟩, hG2, hZ2⟩; clear csc))
  have hz1 := hZ1
  have HB : Hid (Arr w2 w.heap.size n (fun i => pw (rootk K) i) ∧ Shelf w2 sb mb k D ∧ Gw w w2 ∧ w2.heap.size = w.heap.size + 2) := by
    refine ⟨hT1.gw hG2, (HI.out.1.gw hG1).gw hG2, hG1.trans hG2, ?_⟩
    rw [hZ2, hz1]
  rw [hz1] at hA2
  have HS : Hid (Arr w2 (w.heap.size + 1) n g0 ∧ Elems n g0 ∧ Stage K 0 x g0) := by
    refine ⟨hA2, ?_, Stage.start (fun i hi => HI.out.2.1.md i hi) (fun i hi => hg0 i (by rw [← HN.out]; exact hi))⟩
    intro i hi
    rw [hg0 i hi]
    have := rev_lt K i
    exact HI.out.2.1 _ this
  clear hT1 hG1 hZ1 hA2 hg0 hG2 hZ2 hz1
  go_loopw [9] (fun ts wr => ∃ (s H : Nat) (g : Nat → Int), s ≤ K ∧ Hid (2 ^ s = H) ∧ 1 ≤ H ∧ H ≤ n ∧ ts = .int .i64 ((2 * H : Nat) : Int) ∧ Hid (Arr wr (w.heap.size + 1) n g ∧ Elems n g ∧ Stage K s x g ∧ Only (w.heap.size + 1) w2 wr)) (fun ts _ => 2 * n + 1 - (intOf ts).toNat)
  case atStart => exact ⟨0, 1, g0, Nat.zero_le _, rfl, Nat.le_refl _, hn1, rfl, HS.out.1, HS.out.2.1, HS.out.2.2, Only.refl _ _⟩
  case round =>
    obtain ⟨s, H, g, hsK, HH, hH1, hHn, rfl, HR⟩ := hrel
    by_cases hlt2 : s < K
    · have hsp := split_pow (K := K) (s := s) hlt2
      rw [HH.out, HN.out] at hsp
      obtain ⟨C, hC⟩ : ∃ C, 2 ^ (K - (s + 1)) = C := ⟨_, rfl⟩
      rw [hC] at hsp
      have hC1 : 1 ≤ C := by rw [← hC]; exact Nat.one_le_two_pow
      have h2H : 2 * H ≤ n := by rw [hsp]; exact Nat.le_mul_of_pos_left _ hC1
      obtain ⟨hA, hE, hSt, hO⟩ := HR.out
      have cm := merge_any (w.heap.size + 1) w.heap.size n n n H C g (fun i => pw (rootk K) i) wr hsp hH1 (by omega) (by omega) (by omega) hE (fun _ _ => pw_bd _ _) hA (HB.out.1.only hO (by omega))
      have HC : Hid (2 ^ (K - (s + 1)) = C) := hC
      clear hsp hC hC1 hA hE hSt hO
      go_wp2_with (go_at_call 70; refine cm.mono ?_; rintro e w3 ⟨rfl, g3, hA3, hE3, hP3, hO3⟩; clear cm)
      go_roundw
      case rel =>
        refine ⟨s + 1, 2 * H, g3, hlt2, ?_, by omega, h2H, by go_num, ?_⟩
        · show 2 ^ (s + 1) = 2 * H
          rw [Nat.pow_succ, HH.out]; omega
        · obtain ⟨hA, hE, hSt, hO⟩ := HR.out
          refine ⟨hA3, hE3, hSt.next hlt2 (by have := HI.out.2.2.1; omega) (merged_of hlt2 (by have := HI.out.2.2.1; omega) ?_), hO.trans hO3⟩
          rw [HC.out, HH.out]
          exact hP3
      case measure => simp [intOf]; omega
    · have hsK' : s = K := by omega
      have hHn' : H = n := by rw [← HH.out, hsK', HN.out]
      subst hsK' hHn'
      have HK : Hid (k ≤ 1000000) := HI.out.2.2.2
      obtain ⟨hsb, hmb⟩ := hlt
      cases inv with
      | false =>
        have hS := (HB.out.2.1.only HR.out.2.2.2 (by omega) (by omega))
        go_wp2
        refine leaves_cons (f := 68) (args := #[.pointer (some ⟨sb, 0, none⟩), .slice (some ⟨w.heap.size, 0, none⟩) H H]) (by simp) (by simp [go_sem]) ?_
        refine (giveBack_any sb mb k w.heap.size H D .returning wr (by omega) HK.out hS).mono ?_
        rintro e u' w'' ⟨rfl, rfl, hS4, hO4⟩
        refine ⟨_, results_tmp rfl _ _ _, rfl, ?_⟩
        obtain ⟨hA, hE, hSt, hO⟩ := HR.out
        obtain ⟨hT, _, hG, hZ⟩ := HB.out
        have hA' := hA.only hO4 (by omega)
        have hT' := (hT.only hO (by omega)).only hO4 (by omega)
        refine ⟨?_, by rw [HN.out]; exact hT', by rw [HN.out]; exact hS4, ((But.of_gw mb hG).of_new hO (by omega)).trans (But.of_only hO4), by rw [hO4.size, hO.size, hZ]⟩
        rw [HN.out]
        exact hA'.congr fun i hi => hSt.done i (by rw [HN.out]; exact hi)
      | true =>
        obtain ⟨hA, hE, hSt, hO⟩ := HR.out
        have ct := turnBack_any (w.heap.size + 1) H g wr hH1 (by omega) hE hA
        clear hA hE hSt hO
        go_wp2_with (go_at_call 71; refine ct.mono ?_; rintro e w3 ⟨rfl, g3, hA3, hE3, hP3, hO3⟩; clear ct)
        have hS := (HB.out.2.1.only HR.out.2.2.2 (by omega) (by omega)).only hO3 (by omega) (by omega)
        refine leaves_cons (f := 68) (args := #[.pointer (some ⟨sb, 0, none⟩), .slice (some ⟨w.heap.size, 0, none⟩) H H]) (by simp) (by simp [go_sem]) ?_
        refine (giveBack_any sb mb k w.heap.size H D .returning w3 (by omega) HK.out hS).mono ?_
        rintro e u' w'' ⟨rfl, rfl, hS4, hO4⟩
        refine ⟨_, results_tmp rfl _ _ _, rfl, ?_⟩
        obtain ⟨hA, hE, hSt, hO⟩ := HR.out
        obtain ⟨hT, _, hG, hZ⟩ := HB.out
        have hA' := hA3.only hO4 (by omega)
        have hT' := ((hT.only hO (by omega)).only hO3 (by omega)).only hO4 (by omega)
        refine ⟨?_, by rw [HN.out]; exact hT', by rw [HN.out]; exact hS4, (((But.of_gw mb hG).of_new hO (by omega)).of_new hO3 (by omega)).trans (But.of_only hO4), by rw [hO4.size, hO3.size, hO.size, hZ]⟩
        rw [HN.out]
        refine hA'.congr fun i hi => ?_
        have hi' : i < 2 ^ s := by rw [HN.out]; exact hi
        rw [hP3 i hi, hSt.done _ (by rw [HN.out]; exact Nat.mod_lt _ (by omega))]
        show _ = (idft s x i * pw ((2 ^ s : Nat) : Int) invE) % PP
        rw [← idft_eq (by have := HI.out.2.2.1; omega) x i hi', HN.out]

end Go.Proofs.YtddpcjgekfmhkabDoor
