/- scatter, walked. -/
import Derived.Test.YtddpcjgekfmhkaaDoorSc
namespace Go.Proofs.YtddpcjgekfmhkaaDoor
open Go.RowKit
set_option linter.unusedSimpArgs false

set_option maxHeartbeats 1000000 in
theorem scatter_any (K b cap : Nat) (x : Nat → Int) (w : World) (hK : K ≤ 10) (ht : Tab w) (ha : Arr w b (2 ^ K) x) :
    Calls Tryd.prog 58 #[.slice (some ⟨b, 0, none⟩) (2 ^ K) cap] w
      fun e w' => e = .returned (.slice (some ⟨w.heap.size, 0, none⟩) (2 ^ K) (2 ^ K)) ∧ (∃ g, Arr w' w.heap.size (2 ^ K) g ∧ ∀ i, i < 2 ^ K → g i = x (rev K i)) ∧ Gw w w' ∧ w'.heap.size = w.heap.size + 1 := by
  have hn : 2 ^ K ≤ 1024 := Nat.pow_le_pow_right (n := 2) (by decide) hK
  have hn1 : 1 ≤ 2 ^ K := Nat.one_le_two_pow
  have hb := ha.lt (by omega)
  have ct := fun w1 (g : Gw w w1) => tz_any K hK w1 (ht.gw g)
  have hrev : Hid (∀ i : Nat, i < 2 ^ K → r64 (i : Int) / 2 ^ (64 - K) = ((rev K i : Nat) : Int) ∧ rev K i < 2 ^ K) := fun i hi => ⟨rev_facts K i hK hi, rev_lt K i⟩
  have hinv : Hid (∀ i : Nat, i < 2 ^ K → rev K (rev K i) = i) := fun i hi => rev_rev hK hi
  obtain ⟨u, hu⟩ : ∃ u, 64 - K = u := ⟨_, rfl⟩
  rw [hu] at hrev
  have hu' : (64 : Int) - (K : Int) = (u : Int) := by omega
  have hu0 : (0 : Int) ≤ (u : Int) := by omega
  have hu1 : (u : Int) ≤ 64 := by omega
  have hK' : (K : Int) ≤ 10 := by omega
  have HA : Hid (Arr w b (2 ^ K) x) := ha
  clear ha ht hu hK
  generalize 2 ^ K = n at *
  go_enter Tryd.func58, Tryd.ntmps58
  go_wp2_with (first
    | (at_make; refine wpList_make_u64 _ rfl _ _ 35 42 rfl Tryd.underlying35 info_u64 n _ rfl rfl rfl (by omega) ?_; intro w1 hA hG hZ)
    | (go_at_call 80; refine (ct _ hG).mono ?_; rintro e w' ⟨rfl, hw⟩; subst w'))
  have HR : Hid (Arr w1 w.heap.size n (fun _ => 0) ∧ (∀ i, i < 0 → (fun _ => (0 : Int)) (rev K i) = x i) ∧ Gw w w1 ∧ w1.heap.size = w.heap.size + 1) := ⟨hA, fun i hi => by omega, hG, hZ⟩
  clear hA hG hZ ct
  go_loopw [17] (fun ti wr => ∃ (k : Nat) (g : Nat → Int), k ≤ n ∧ ti = .int .i64 k ∧ Hid (Arr wr w.heap.size n g ∧ (∀ i, i < k → g (rev K i) = x i) ∧ Gw w wr ∧ wr.heap.size = w.heap.size + 1)) (fun ti _ => n - (intOf ti).toNat)
  case atStart => exact ⟨0, _, Nat.zero_le _, rfl, HR⟩
  case round =>
    obtain ⟨k, g, hk, rfl, HR⟩ := hrel
    by_cases hlt : k < n
    · obtain ⟨hA, hU, hG, hZ⟩ := HR.out
      obtain ⟨r1, r2⟩ := hrev.out k hlt
      have cr := rev64_any (k : Int)
      have hc := ((HA.out.gw hG) k hlt).1
      have hc2 := (hA _ r2).1
      have hf := (hA _ r2).2
      obtain ⟨R, hR⟩ : ∃ R, rev K k = R := ⟨_, rfl⟩
      rw [hR] at r1 r2 hc2 hf
      obtain ⟨v, hv⟩ : ∃ v, x k = v := ⟨_, rfl⟩
      rw [hv] at hc
      have HX : Hid (rev K k = R ∧ x k = v) := ⟨hR, hv⟩
      generalize r64 (k : Int) = q at *
      clear hR hv hA hU hG hZ
      go_wp2_with (go_at_call 81; refine (cr _).mono ?_; rintro e w' ⟨rfl, hw⟩; subst w')
      go_roundw
      case rel =>
        refine ⟨k + 1, upd g R v, by omega, by go_num, ?_⟩
        obtain ⟨hA, hU, hG, hZ⟩ := HR.out
        refine ⟨hA.set r2 v, ?_, hG.setCell (Nat.le_refl _) _, by simpa [World.setCell] using hZ⟩
        intro i hi
        by_cases e : i = k
        · subst e; rw [HX.out.1, upd_same, HX.out.2]
        · rw [upd_other, hU i (by omega)]
          intro he
          rw [← HX.out.1] at he
          have a := hinv.out i (by omega)
          have b := hinv.out k hlt
          rw [he] at a
          omega
      case measure => simp [intOf]; omega
    · obtain rfl : k = n := by omega
      go_wp2
      go_ret
      obtain ⟨hA, hU, hG, hZ⟩ := HR.out
      refine ⟨rfl, ⟨g, hA, fun i hi => ?_⟩, hG, hZ⟩
      have h2 := (hrev.out i hi).2
      have := hU _ h2
      rw [hinv.out i hi] at this
      exact this

end Go.Proofs.YtddpcjgekfmhkaaDoor
