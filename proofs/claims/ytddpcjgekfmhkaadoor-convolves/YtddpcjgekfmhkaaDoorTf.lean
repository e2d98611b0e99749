/- Transform, walked. -/
import Derived.Test.YtddpcjgekfmhkaaDoorTr
namespace Go.Proofs.YtddpcjgekfmhkaaDoor
open Go.RowKit Go.Maps
set_option linter.unusedSimpArgs false

/-- Is each an element? -/
theorem elem_eq {v : Int} (h0 : 0 ≤ v) : (v + 0) % PP = v ↔ v ≤ 18446744069414584320 := by
  rw [Int.add_zero]
  constructor
  · intro h; rw [← h]; exact (md_bd v).2
  · intro h; exact md_small h0 h

set_option maxHeartbeats 1000000 in
theorem allElements_any (b n cap : Nat) (f : Nat → Int) (w : World) (hmax : n ≤ 1048576) (hf : Fits n f) (ha : Arr w b n f) :
    Calls Tryd.prog 37 #[.slice (some ⟨b, 0, none⟩) n cap] w fun e w' => e = .returned (.bool (decide (∀ i, i < n → f i ≤ 18446744069414584320))) ∧ w' = w := by
  have HF : Hid (Fits n f) := hf
  have HA : Hid (Arr w b n f) := ha
  clear hf ha
  go_enter Tryd.func37, Tryd.ntmps37
  go_wp2
  go_loop [7] (fun ti => ∃ k : Nat, k ≤ n ∧ ti = .int .i64 k ∧ Hid (∀ i, i < k → f i ≤ 18446744069414584320)) (fun ti => n - (intOf ti).toNat)
  case atStart => exact ⟨0, Nat.zero_le _, rfl, fun i hi => by omega⟩
  case round =>
    obtain ⟨k, hk, rfl, HK⟩ := hrel
    by_cases hlt : k < n
    · have hc := (HA.out k hlt).1
      have bf := HF.out k hlt
      have ca := add_any (f k) 0 bf.1 bf.2 (by omega) (by omega)
      have hiff := elem_eq bf.1
      obtain ⟨v, hv⟩ : ∃ v, f k = v := ⟨_, rfl⟩
      rw [hv] at hc ca hiff
      obtain ⟨u, hu⟩ : ∃ u, (v + 0) % PP = u := ⟨_, rfl⟩
      rw [hu] at ca hiff
      have HV : Hid (f k = v) := hv
      clear hv hu bf
      by_cases he : u = v
      · have hle := hiff.1 he
        subst he
        clear hiff
        go_wp2_with (go_at_call 24; refine (ca _).mono ?_; rintro e w' ⟨rfl, hw⟩; subst w')
        go_round
        case rel =>
          refine ⟨k + 1, by omega, by go_num, fun i hi => ?_⟩
          by_cases e : i = k
          · subst e; rw [HV.out]; exact hle
          · exact HK.out i (by omega)
        case measure => simp [intOf]; omega
      · have hgt : ¬ v ≤ 18446744069414584320 := fun h => he (hiff.2 h)
        have hne : (u != v) = true := by simpa using he
        clear hiff
        go_wp2_with (go_at_call 24; refine (ca _).mono ?_; rintro e w' ⟨rfl, hw⟩; subst w')
        go_ret
        refine ⟨?_, rfl⟩
        rw [decide_eq_false (fun h => by have := h k hlt; rw [HV.out] at this; omega)]
        rfl
    · obtain rfl : k = n := by omega
      go_wp2
      go_ret
      exact ⟨by rw [decide_eq_true HK.out]; rfl, rfl⟩


theorem Transform_size (lb n cap : Nat) (inv : Bool) (w : World) (hmax : n ≤ 1048576) (hn : ¬ ∃ k, k ≤ 10 ∧ n = 2 ^ k) :
    Calls Tryd.prog 11 #[.slice (some ⟨lb, 0, none⟩) n cap, .bool inv] w fun e w' => e = .returned (.tuple #[.slice none 0 0, .int .i64 1]) ∧ w' = w := by
  have c := isSize_no n hn (by omega)
  clear hn
  go_enter Tryd.func11, Tryd.ntmps11
  go_wp2_with (go_at_call 36; refine (c _).mono ?_; rintro e w' ⟨rfl, hw⟩; subst w')
  go_ret2
  exact ⟨rfl, rfl⟩

theorem Transform_value (K lb cap : Nat) (f : Nat → Int) (inv : Bool) (w : World) (hK : K ≤ 10) (hf : Fits (2 ^ K) f) (ha : Arr w lb (2 ^ K) f) (hx : ¬ ∀ i, i < 2 ^ K → f i ≤ 18446744069414584320) :
    Calls Tryd.prog 11 #[.slice (some ⟨lb, 0, none⟩) (2 ^ K) cap, .bool inv] w fun e w' => e = .returned (.tuple #[.slice none 0 0, .int .i64 2]) ∧ w' = w := by
  have hn : 2 ^ K ≤ 1024 := Nat.pow_le_pow_right (n := 2) (by decide) hK
  have c := isSize_yes K hK
  have ca := allElements_any lb (2 ^ K) cap f w (by omega) hf ha
  rw [decide_eq_false hx] at ca
  clear hf ha hx
  generalize 2 ^ K = n at *
  go_enter Tryd.func11, Tryd.ntmps11
  go_wp2_with (first | (go_at_call 36; refine (c _).mono ?_; rintro e w' ⟨rfl, hw⟩; subst w') | (go_at_call 37; refine ca.mono ?_; rintro e w' ⟨rfl, hw⟩; subst w'))
  go_ret2
  exact ⟨rfl, rfl⟩

/-- What has become of the world behind a Transform. -/
structure Done (K : Nat) (inv : Bool) (x : Nat → Int) (w w' : World) : Prop where
  out : Arr w' (w.heap.size + 3) (2 ^ K) (trans K inv x)
  gw : Gw w w'
  size : w'.heap.size = w.heap.size + 4

theorem Transform_ok (K lb cap : Nat) (f : Nat → Int) (inv : Bool) (w : World) (hK : K ≤ 10) (ht : Tab w) (hf : Elems (2 ^ K) f) (ha : Arr w lb (2 ^ K) f) :
    Calls Tryd.prog 11 #[.slice (some ⟨lb, 0, none⟩) (2 ^ K) cap, .bool inv] w
      fun e w' => e = .returned (.tuple #[.slice (some ⟨w.heap.size + 3, 0, none⟩) (2 ^ K) (2 ^ K), .int .i64 0]) ∧ Done K inv f w w' := by
  have hn : 2 ^ K ≤ 1024 := Nat.pow_le_pow_right (n := 2) (by decide) hK
  have c := isSize_yes K hK
  have ca := allElements_any lb (2 ^ K) cap f w (by omega) hf.fits ha
  rw [decide_eq_true (fun i hi => (hf i hi).2)] at ca
  have cn := newShelf_any w
  have ct := fun w1 (g : Gw w w1) (hz : w1.heap.size = w.heap.size + 2) (hs : Shelf w1 (w.heap.size + 1) w.heap.size 0 (.map [])) => transform_any K (w.heap.size + 1) w.heap.size 0 lb cap f (.map []) inv w1 hK (by omega) (ht.gw g) (ha.gw g) hf hs rfl
  clear hf ha ht
  obtain ⟨n, hnn⟩ : ∃ n, 2 ^ K = n := ⟨_, rfl⟩
  have HN : Hid (2 ^ K = n) := hnn
  rw [hnn] at c ca ct hn ⊢
  clear hnn
  go_enter Tryd.func11, Tryd.ntmps11
  go_wp2_with (first
    | (go_at_call 36; refine (c _).mono ?_; rintro e w' ⟨rfl, hw⟩; subst w')
    | (go_at_call 37; refine ca.mono ?_; rintro e w' ⟨rfl, hw⟩; subst w')
    | (go_at_call 38; refine cn.mono ?_; rintro e w1 ⟨rfl, hS1, hG1, hZ1⟩; clear cn)
    | (go_at_call 39; refine (ct _ hG1 hZ1 hS1).mono ?_; rintro e w2 ⟨rfl, hD2⟩; clear ct))
  go_ret2
  refine ⟨by simp [hZ1], ?_⟩
  have hgw : Gw w w2 := But.gw hG1 hD2.but (Nat.le_refl _)
  have ho := hD2.out
  have hz := hD2.size
  rw [hZ1] at ho hz
  exact ⟨ho, hgw, hz⟩

end Go.Proofs.YtddpcjgekfmhkaaDoor
