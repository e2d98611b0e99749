/- elements and sameElements, walked. -/
import Derived.Test.YtddpcjgekfmhkaaDoorIa
namespace Go.Proofs.YtddpcjgekfmhkaaDoor
open Go.RowKit
set_option linter.unusedSimpArgs false
set_option linter.unusedVariables false

def ElPost (b : Nat) (R : Nat → Prop) (e : Ending) : Prop := ∃ K, K ≤ 8 ∧ e = .returned (.slice (some ⟨b, 0, none⟩) (2 ^ K) (2 ^ K)) ∧ R K
def Pow8 (n : Nat) : Prop := ∃ K, K ≤ 8 ∧ 2 ^ K = n
theorem Pow8.bd {n : Nat} (h : Pow8 n) : 1 ≤ n ∧ n ≤ 256 := by
  obtain ⟨K, hK, rfl⟩ := h
  exact ⟨Nat.one_le_two_pow, Nat.pow_le_pow_right (n := 2) (by decide) hK⟩
theorem Pow8.next {n : Nat} (h : Pow8 n) (hn : n < 256) : Pow8 (2 * n) := by
  obtain ⟨K, hK, rfl⟩ := h
  refine ⟨K + 1, ?_, by rw [Nat.pow_succ]; omega⟩
  refine Nat.lt_of_not_le fun h => ?_
  have : 2 ^ 8 ≤ 2 ^ K := Nat.pow_le_pow_right (by decide) h
  omega

set_option maxRecDepth 20000 in
set_option maxHeartbeats 1000000 in
theorem elements_pos (b off len cap : Nat) (z : Nat → Int) (w : World) (hlen : 1 ≤ len) (hmax : len ≤ 9223372036854775807) (ha : IArr w b off len z) :
    Calls Tryd.prog 22 #[.slice (some ⟨b, off, none⟩) len cap] w
      fun e w' => ElPost w.heap.size (fun K => Arr w' w.heap.size (2 ^ K) (emb len z) ∧ Gw w w' ∧ w'.heap.size = w.heap.size + 1) e := by
  have HA : Hid (IArr w b off len z) := ha
  clear ha
  obtain ⟨M, hM⟩ : ∃ M : Nat, M = 257 := ⟨_, rfl⟩
  have HM : Hid (M = 257) := hM
  clear hM
  go_enter Tryd.func22, Tryd.ntmps22
  go_wp2
  go_loop [3] (fun tn => ∃ n : Nat, Pow8 n ∧ tn = .int .i64 n) (fun tn => M - (intOf tn).toNat)
  case atStart => exact ⟨1, ⟨0, by omega, rfl⟩, rfl⟩
  case round =>
    obtain ⟨n, HN, rfl⟩ := hrel
    obtain ⟨hn1, hn2⟩ := HN.bd
    by_cases hc : n < 256 ∧ n < len
    · obtain ⟨h1, h2⟩ := hc
      go_wp2
      go_round
      case rel => exact ⟨2 * n, HN.next h1, by go_num⟩
      case measure => have := HM.out; simp [intOf]; omega
    · by_cases h256 : n < 256
      · have hge : len ≤ n := by omega
        go_wp2_with (at_make; refine wpList_make_u64 _ rfl _ _ 35 42 rfl Tryd.underlying35 info_u64 n _ rfl rfl rfl (by omega) ?_; intro w1 hA hG hZ)
        have HR0 : Hid (Arr w1 w.heap.size n (fun _ => 0) ∧ (∀ i, i < 0 → (0 : Int) = z i % PP) ∧ (∀ i, 0 ≤ i → i < n → (0 : Int) = 0) ∧ Gw w w1 ∧ w1.heap.size = w.heap.size + 1) := ⟨hA, fun i hi => by omega, fun _ _ _ => rfl, hG, hZ⟩
        clear hA hG hZ
        go_loopw [5] (fun ti wr => ∃ (k : Nat) (g : Nat → Int), k ≤ n ∧ k ≤ len ∧ ti = .int .i64 k ∧ Hid (Arr wr w.heap.size n g ∧ (∀ i, i < k → g i = z i % PP) ∧ (∀ i, k ≤ i → i < n → g i = 0) ∧ Gw w wr ∧ wr.heap.size = w.heap.size + 1)) (fun ti _ => n - (intOf ti).toNat)
        case atStart => exact ⟨0, fun _ => 0, Nat.zero_le _, Nat.zero_le _, rfl, HR0⟩
        case round =>
          obtain ⟨k, g, hk, hkl, rfl, HR⟩ := hrel
          by_cases hkc : k < n ∧ k < len
          · obtain ⟨hk1, hk2⟩ := hkc
            obtain ⟨hA, hU, hV, hG, hZ⟩ := HR.out
            have hi := (HA.out.gw hG) k hk2
            have c1 := hi.1
            have ce := embed_any (z k) hi.2.1 hi.2.2
            have c2 := (hA k hk1).1
            have f2 := (hA k hk1).2
            obtain ⟨v, hv⟩ : ∃ v, z k = v := ⟨_, rfl⟩
            obtain ⟨u, hu⟩ : ∃ u, v % PP = u := ⟨_, rfl⟩
            rw [hv, hu] at ce
            rw [hv] at c1
            have HU : Hid (z k % PP = u) := by rw [hv, hu]; rfl
            clear hi hA hU hV hG hZ hv hu
            go_wp2_with (go_at_call 23; refine (ce _).mono ?_; rintro e w' ⟨rfl, hw⟩; subst w')
            go_roundw
            case rel =>
              refine ⟨k + 1, upd g k u, by omega, by omega, by go_num, ?_⟩
              obtain ⟨hA, hU, hV, hG, hZ⟩ := HR.out
              refine ⟨hA.set hk1 u, fun i hi => ?_, fun i h1 h2 => ?_, hG.setCell (Nat.le_refl _) _, by simpa [World.setCell] using hZ⟩
              · by_cases e : i = k
                · subst e; rw [upd_same]; exact HU.out.symm
                · rw [upd_other e]; exact hU i (by omega)
              · rw [upd_other (by omega)]; exact hV i (by omega) h2
            case measure => simp [intOf]; omega
          · have fin : Hid (∃ K, K ≤ 8 ∧ 2 ^ K = n ∧ (Arr wr w.heap.size (2 ^ K) (emb len z) ∧ Gw w wr ∧ wr.heap.size = w.heap.size + 1)) := by
              obtain ⟨K, hK, hKn⟩ := HN
              refine ⟨K, hK, hKn, ?_⟩
              obtain ⟨hA, hU, hV, hG, hZ⟩ := HR.out
              rw [hKn]
              refine ⟨hA.congr fun i hi => ?_, hG, hZ⟩
              unfold emb
              by_cases e : i < k
              · rw [if_pos (by omega)]; exact hU i e
              · rw [if_neg (by omega)]; exact hV i (by omega) hi
            by_cases hkn : k < n
            · go_wp2
              go_ret
              obtain ⟨K, hK, rfl, hR⟩ := fin.out
              exact ⟨K, hK, rfl, hR⟩
            · go_wp2
              go_ret
              obtain ⟨K, hK, rfl, hR⟩ := fin.out
              exact ⟨K, hK, rfl, hR⟩
      · go_wp2_with (at_make; refine wpList_make_u64 _ rfl _ _ 35 42 rfl Tryd.underlying35 info_u64 n _ rfl rfl rfl (by omega) ?_; intro w1 hA hG hZ)
        have HR0 : Hid (Arr w1 w.heap.size n (fun _ => 0) ∧ (∀ i, i < 0 → (0 : Int) = z i % PP) ∧ (∀ i, 0 ≤ i → i < n → (0 : Int) = 0) ∧ Gw w w1 ∧ w1.heap.size = w.heap.size + 1) := ⟨hA, fun i hi => by omega, fun _ _ _ => rfl, hG, hZ⟩
        clear hA hG hZ
        go_loopw [5] (fun ti wr => ∃ (k : Nat) (g : Nat → Int), k ≤ n ∧ k ≤ len ∧ ti = .int .i64 k ∧ Hid (Arr wr w.heap.size n g ∧ (∀ i, i < k → g i = z i % PP) ∧ (∀ i, k ≤ i → i < n → g i = 0) ∧ Gw w wr ∧ wr.heap.size = w.heap.size + 1)) (fun ti _ => n - (intOf ti).toNat)
        case atStart => exact ⟨0, fun _ => 0, Nat.zero_le _, Nat.zero_le _, rfl, HR0⟩
        case round =>
          obtain ⟨k, g, hk, hkl, rfl, HR⟩ := hrel
          by_cases hkc : k < n ∧ k < len
          · obtain ⟨hk1, hk2⟩ := hkc
            obtain ⟨hA, hU, hV, hG, hZ⟩ := HR.out
            have hi := (HA.out.gw hG) k hk2
            have c1 := hi.1
            have ce := embed_any (z k) hi.2.1 hi.2.2
            have c2 := (hA k hk1).1
            have f2 := (hA k hk1).2
            obtain ⟨v, hv⟩ : ∃ v, z k = v := ⟨_, rfl⟩
            obtain ⟨u, hu⟩ : ∃ u, v % PP = u := ⟨_, rfl⟩
            rw [hv, hu] at ce
            rw [hv] at c1
            have HU : Hid (z k % PP = u) := by rw [hv, hu]; rfl
            clear hi hA hU hV hG hZ hv hu
            go_wp2_with (go_at_call 23; refine (ce _).mono ?_; rintro e w' ⟨rfl, hw⟩; subst w')
            go_roundw
            case rel =>
              refine ⟨k + 1, upd g k u, by omega, by omega, by go_num, ?_⟩
              obtain ⟨hA, hU, hV, hG, hZ⟩ := HR.out
              refine ⟨hA.set hk1 u, fun i hi => ?_, fun i h1 h2 => ?_, hG.setCell (Nat.le_refl _) _, by simpa [World.setCell] using hZ⟩
              · by_cases e : i = k
                · subst e; rw [upd_same]; exact HU.out.symm
                · rw [upd_other e]; exact hU i (by omega)
              · rw [upd_other (by omega)]; exact hV i (by omega) h2
            case measure => simp [intOf]; omega
          · have fin : Hid (∃ K, K ≤ 8 ∧ 2 ^ K = n ∧ (Arr wr w.heap.size (2 ^ K) (emb len z) ∧ Gw w wr ∧ wr.heap.size = w.heap.size + 1)) := by
              obtain ⟨K, hK, hKn⟩ := HN
              refine ⟨K, hK, hKn, ?_⟩
              obtain ⟨hA, hU, hV, hG, hZ⟩ := HR.out
              rw [hKn]
              refine ⟨hA.congr fun i hi => ?_, hG, hZ⟩
              unfold emb
              by_cases e : i < k
              · rw [if_pos (by omega)]; exact hU i e
              · rw [if_neg (by omega)]; exact hV i (by omega) hi
            by_cases hkn : k < n
            · go_wp2
              go_ret
              obtain ⟨K, hK, rfl, hR⟩ := fin.out
              exact ⟨K, hK, rfl, hR⟩
            · go_wp2
              go_ret
              obtain ⟨K, hK, rfl, hR⟩ := fin.out
              exact ⟨K, hK, rfl, hR⟩

set_option maxRecDepth 20000 in
set_option maxHeartbeats 1000000 in
theorem elements_zero (a : Option Addr) (cap : Nat) (z : Nat → Int) (w : World) :
    Calls Tryd.prog 22 #[.slice a 0 cap] w
      fun e w' => ElPost w.heap.size (fun K => Arr w' w.heap.size (2 ^ K) (emb 0 z) ∧ Gw w w' ∧ w'.heap.size = w.heap.size + 1) e := by
  go_enter Tryd.func22, Tryd.ntmps22
  go_wp2
  go_loop [3] (fun tn => tn = .int .i64 1) (fun _ => 0)
  case atStart => rfl
  case round =>
    subst hrel
    go_wp2_with (at_make; refine wpList_make_u64 _ rfl _ _ 35 42 rfl Tryd.underlying35 info_u64 1 _ rfl rfl rfl (by omega) ?_; intro w1 hA hG hZ)
    go_loop [5] (fun ti => ti = .int .i64 0) (fun _ => 0)
    case atStart => rfl
    case round =>
      subst hrel
      go_wp2
      go_ret
      exact ⟨0, by omega, rfl, hA.congr fun i _ => by unfold emb; rw [if_neg (by omega)], hG, hZ⟩

theorem sameElements_yes (b1 b2 n c1 c2 : Nat) (f : Nat → Int) (w : World) (hmax : n ≤ 1048576) (h1 : Arr w b1 n f) (h2 : Arr w b2 n f) :
    Calls Tryd.prog 25 #[.slice (some ⟨b1, 0, none⟩) n c1, .slice (some ⟨b2, 0, none⟩) n c2] w fun e w' => e = .returned (.bool true) ∧ Gw w w' ∧ w'.heap.size = w.heap.size := by
  have HA : Hid (Arr w b1 n f ∧ Arr w b2 n f) := ⟨h1, h2⟩
  clear h1 h2
  go_enter Tryd.func25, Tryd.ntmps25
  go_wp2
  go_loopw [5] (fun ti wr => ∃ k : Nat, k ≤ n ∧ ti = .int .i64 k ∧ ∃ m : Nat, wr = w.drewN m) (fun ti _ => n - (intOf ti).toNat)
  case atStart => exact ⟨0, Nat.zero_le _, rfl, 0, rfl⟩
  case round =>
    obtain ⟨k, hk, rfl, m, rfl⟩ := hrel
    by_cases hlt : k < n
    · have a1 := (HA.out.1 k hlt).1
      have a2 := (HA.out.2 k hlt).1
      have i1 : (k : Int) < (n : Int) := by omega
      go_wp2
      go_quiet (fail)
      go_wp2
      go_roundw
      case rel => exact ⟨k + 1, by omega, by go_num, _, rfl⟩
      case measure => simp [intOf]; omega
    · go_wp2
      go_ret
      exact ⟨rfl, (Gw.refl w).drewN m, rfl⟩

end Go.Proofs.YtddpcjgekfmhkaaDoor
