/- The law's own: same, lentInts, stillInts, walked. -/
import Derived.Test.YtddpcjgekfmhkaaDoorCv
import Derived.Test.YtddpcjgekfmhkaaDoorXp
namespace Go.Proofs.YtddpcjgekfmhkaaDoor
open Go.RowKit Go.Maps
set_option linter.unusedSimpArgs false
set_option linter.unusedVariables false

theorem same_yes (a0 a1 : Option Addr) (b1 b2 n c1 c2 : Nat) (f : Nat → Int) (w : World) (hmax : n ≤ 1048576) (e0 : 0 < n → a0 = some ⟨b1, 0, none⟩) (e1 : 0 < n → a1 = some ⟨b2, 0, none⟩) (h1 : JArr w b1 n f) (h2 : JArr w b2 n f) :
    Calls Tryd.prog 17 #[.slice a0 n c1, .slice a1 n c2] w fun e w' => e = .returned (.bool true) ∧ ∃ m : Nat, w' = w.drewN m := by
  have HA : Hid (JArr w b1 n f ∧ JArr w b2 n f) := ⟨h1, h2⟩
  have HE : Hid ((0 < n → a0 = some ⟨b1, 0, none⟩) ∧ (0 < n → a1 = some ⟨b2, 0, none⟩)) := ⟨e0, e1⟩
  clear h1 h2 e0 e1
  go_enter Tryd.func17, Tryd.ntmps17
  go_wp2
  go_loopw [5] (fun ti wr => ∃ k : Nat, k ≤ n ∧ ti = .int .i64 k ∧ ∃ m : Nat, wr = w.drewN m) (fun ti _ => n - (intOf ti).toNat)
  case atStart => exact ⟨0, Nat.zero_le _, rfl, 0, rfl⟩
  case round =>
    obtain ⟨k, hk, rfl, m, rfl⟩ := hrel
    by_cases hlt : k < n
    · obtain rfl : a0 = some ⟨b1, 0, none⟩ := HE.out.1 (by omega)
      obtain rfl : a1 = some ⟨b2, 0, none⟩ := HE.out.2 (by omega)
      clear HE
      have a1 := (HA.out.1 k hlt).1
      have a2 := (HA.out.2 k hlt).1
      have i1 : (k : Int) < (n : Int) := by omega
      go_wp2
      go_quiet (fail)
      go_wp2
      go_roundw
      case rel => exact ⟨k + 1, by omega, by go_num, _, rfl⟩
      case measure => simp [intOf]; omega
    · go_wp2
      go_ret
      exact ⟨rfl, m, rfl⟩

def lentI (len : Nat) (z : Nat → Int) (i : Nat) : Int := if i < len then z i else 77

theorem lentInts_zero (a : Option Addr) (cap : Nat) (w : World) :
    Calls Tryd.prog 19 #[.slice a 0 cap] w fun e w' => e = .returned (.slice none 0 0) ∧ w' = w := by
  go_enter Tryd.func19, Tryd.ntmps19
  go_wp2
  go_ret
  exact ⟨rfl, rfl⟩

set_option maxHeartbeats 1000000 in
theorem lentInts_pos (b off len cap : Nat) (z : Nat → Int) (w : World) (hlen : 1 ≤ len) (hmax : len ≤ 17592186044416) (ha : IArr w b off len z) :
    Calls Tryd.prog 19 #[.slice (some ⟨b, off, none⟩) len cap] w
      fun e w' => e = .returned (.slice (some ⟨w.heap.size, 0, none⟩) len (len + 8)) ∧ JArr w' w.heap.size (len + 8) (lentI len z) ∧ Gw w w' ∧ w'.heap.size = w.heap.size + 1 := by
  have HA : Hid (IArr w b off len z) := ha
  have hbw := ha.lt (by omega)
  clear ha
  obtain ⟨n, hn⟩ : ∃ n, n = len + 8 := ⟨_, rfl⟩
  have HN : Hid (n = len + 8) := hn
  have hni : (len : Int) + 8 = (n : Int) := by omega
  have hln : len ≤ n := by omega
  have hn2 : n ≤ 17592186044424 := by omega
  rw [← hn]
  clear hn
  go_enter Tryd.func19, Tryd.ntmps19
  go_wp2_with (at_make; refine wpList_make_i64 _ rfl _ _ 22 3 rfl Tryd.underlying22 info_int n _ rfl rfl rfl (by omega) ?_; intro w1 hA hG hZ)
  have HR0 : Hid (JArr w1 w.heap.size n (fun _ => 0) ∧ (∀ i, i < 0 → (0 : Int) = lentI len z i) ∧ Gw w w1 ∧ w1.heap.size = w.heap.size + 1) := ⟨hA, fun i hi => by omega, hG, hZ⟩
  clear hA hG hZ
  go_loopw [4] (fun ti wr => ∃ (k : Nat) (g : Nat → Int), k ≤ n ∧ ti = .int .i64 k ∧ Hid (JArr wr w.heap.size n g ∧ (∀ i, i < k → g i = lentI len z i) ∧ Gw w wr ∧ wr.heap.size = w.heap.size + 1)) (fun ti _ => n - (intOf ti).toNat)
  case atStart => exact ⟨0, fun _ => 0, Nat.zero_le _, rfl, HR0⟩
  case round =>
    obtain ⟨k, g, hk, rfl, HR⟩ := hrel
    by_cases hlt : k < n
    · obtain ⟨hA, hU, hG, hZ⟩ := HR.out
      have c1 := (hA k hlt).1
      have f1 := (hA k hlt).2
      by_cases hkl : k < len
      · have hb1 : ¬ b = w.heap.size := by omega
        have hb2 : ¬ w.heap.size = b := by omega
        have hz := (HA.out.gw hG) k hkl
        have cz := hz.1
        obtain ⟨v, hv⟩ : ∃ v, z k = v := ⟨_, rfl⟩
        have HU : Hid (lentI len z k = v) := by show lentI len z k = v; unfold lentI; rw [if_pos hkl, hv]
        rw [hv] at cz
        clear hz hv hA hU hG hZ
        go_wp2
        go_roundw
        case rel =>
          refine ⟨k + 1, upd (upd g k 77) k v, by omega, by go_num, ?_⟩
          obtain ⟨hA, hU, hG, hZ⟩ := HR.out
          refine ⟨(hA.set hlt 77).set hlt v, fun i hi => ?_, (hG.setCell (Nat.le_refl _) _).setCell (Nat.le_refl _) _, by simpa [World.setCell] using hZ⟩
          by_cases e : i = k
          · subst e; rw [upd_same]; exact HU.out.symm
          · rw [upd_other e, upd_other e]; exact hU i (by omega)
        case measure => simp [intOf]; omega
      · have HU : Hid (lentI len z k = 77) := by show lentI len z k = 77; unfold lentI; rw [if_neg hkl]
        clear hA hU hG hZ
        go_wp2
        go_roundw
        case rel =>
          refine ⟨k + 1, upd g k 77, by omega, by go_num, ?_⟩
          obtain ⟨hA, hU, hG, hZ⟩ := HR.out
          refine ⟨hA.set hlt 77, fun i hi => ?_, hG.setCell (Nat.le_refl _) _, by simpa [World.setCell] using hZ⟩
          by_cases e : i = k
          · subst e; rw [upd_same]; exact HU.out.symm
          · rw [upd_other e]; exact hU i (by omega)
        case measure => simp [intOf]; omega
    · obtain rfl : k = n := by omega
      go_wp2
      go_ret
      obtain ⟨hA, hU, hG, hZ⟩ := HR.out
      exact ⟨rfl, hA.congr hU, hG, hZ⟩

theorem stillInts_zero (h : Value) (a : Option Addr) (cap : Nat) (w : World) :
    Calls Tryd.prog 20 #[h, .slice a 0 cap] w fun e w' => e = .returned (.bool true) ∧ w' = w := by
  go_enter Tryd.func20, Tryd.ntmps20
  go_wp2
  go_ret
  exact ⟨rfl, rfl⟩

theorem IArr.only {w w' : World} {b off len c : Nat} {z : Nat → Int} (h : IArr w b off len z) (g : Only c w w') (hb : b ≠ c) : IArr w' b off len z := fun i hi => ⟨(g.cell hb).trans (h i hi).1, (h i hi).2⟩

set_option maxHeartbeats 1000000 in
theorem stillInts_pos (hb b off len cap : Nat) (z : Nat → Int) (w : World) (hlen : 1 ≤ len) (hmax : len ≤ 17592186044416) (ha : IArr w b off len z) (hh : JArr w hb (len + 8) (lentI len z)) (hne : b ≠ hb) :
    Calls Tryd.prog 20 #[.slice (some ⟨hb, 0, none⟩) len (len + 8), .slice (some ⟨b, off, none⟩) len cap] w
      fun e w' => e = .returned (.bool true) ∧ Only hb w w' := by
  have HA : Hid (IArr w b off len z) := ha
  obtain ⟨n, hn⟩ : ∃ n, n = len + 8 := ⟨_, rfl⟩
  have hni : (len : Int) + 8 = (n : Int) := by omega
  have hln : len ≤ n := by omega
  have hn2 : n ≤ 17592186044424 := by omega
  rw [← hn] at hh ⊢
  have HH : Hid (JArr w hb n (lentI len z)) := hh
  clear hn hh ha
  have hne1 : ¬ b = hb := hne
  have hne2 : ¬ hb = b := fun e => hne e.symm
  go_enter Tryd.func20, Tryd.ntmps20
  go_wp2
  go_loopw [6, 7] (fun tk ti wr => ∃ (k : Nat) (g : Nat → Int), k ≤ n ∧ tk = .bool true ∧ ti = .int .i64 k ∧ Hid (JArr wr hb n g ∧ (∀ i, k ≤ i → g i = lentI len z i) ∧ Only hb w wr)) (fun _ ti _ => n - (intOf ti).toNat)
  case atStart => exact ⟨0, _, Nat.zero_le _, rfl, rfl, HH.out, fun _ _ => rfl, Only.refl _ _⟩
  case round =>
    obtain ⟨k, g, hk, rfl, rfl, HR⟩ := hrel
    by_cases hlt : k < n
    · obtain ⟨hA, hU, hO⟩ := HR.out
      have c1 := (hA k hlt).1
      have f1 := (hA k hlt).2
      rw [hU k (Nat.le_refl _)] at c1
      have i1 : (k : Int) < (n : Int) := by omega
      by_cases hkl : k < len
      · have cz := ((HA.out.only hO hne) k hkl).1
        obtain ⟨v, hv⟩ : ∃ v, z k = v := ⟨_, rfl⟩
        rw [hv] at cz
        rw [show lentI len z k = v by unfold lentI; rw [if_pos hkl, hv]] at c1
        clear hv hA hU hO
        go_wp2
        go_quiet (fail)
        go_wp2
        go_roundw
        case rel =>
          refine ⟨k + 1, upd g k 5, by omega, rfl, by go_num, ?_⟩
          obtain ⟨hA, hU, hO⟩ := HR.out
          exact ⟨(JArr.set (w := wr.drewN _) hA hlt 5), fun i hi => by rw [upd_other (by omega)]; exact hU i (by omega), (hO.drewN _).setCell rfl _⟩
        case measure => simp [intOf]; omega
      · rw [show lentI len z k = 77 by unfold lentI; rw [if_neg hkl]] at c1
        clear hA hU hO
        go_wp2
        go_roundw
        case rel =>
          refine ⟨k + 1, upd g k 5, by omega, rfl, by go_num, ?_⟩
          obtain ⟨hA, hU, hO⟩ := HR.out
          exact ⟨hA.set hlt 5, fun i hi => by rw [upd_other (by omega)]; exact hU i (by omega), hO.setCell rfl _⟩
        case measure => simp [intOf]; omega
    · obtain rfl : k = n := by omega
      go_wp2
      go_ret
      exact ⟨rfl, HR.out.2.2⟩

end Go.Proofs.YtddpcjgekfmhkaaDoor
