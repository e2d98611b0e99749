/- Transform, walked. -/
import Derived.Test.YtmfmpfdpjmakdaaDoorTr
namespace Go.Proofs.YtmfmpfdpjmakdaaDoor
open Go.RowKit Go.Maps
set_option linter.unusedSimpArgs false

theorem Transform_size (lb n cap : Nat) (inv : Bool) (w : World) (hmax : n ≤ 1048576) (hn : ¬ ∃ k, k ≤ 10 ∧ n = 2 ^ k) :
    Calls Tryd.prog 10 #[.slice (some ⟨lb, 0, none⟩) n cap, .bool inv] w fun e w' => e = .returned (.tuple #[.slice none 0 0, .int .i64 1]) ∧ w' = w := by
  have c := isSize_no n hn (by omega)
  clear hn
  go_enter Tryd.func10, Tryd.ntmps10
  go_wp2_with (go_at_call 34; refine (c _).mono ?_; rintro e w' ⟨rfl, hw⟩; subst w')
  go_ret2
  exact ⟨rfl, rfl⟩

theorem Transform_value (K lb cap : Nat) (f : Nat → Int) (inv : Bool) (w : World) (hK : K ≤ 10) (hf : Fits (2 ^ K) f) (ha : Arr w lb (2 ^ K) f) (hx : ¬ ∀ i, i < 2 ^ K → f i ≤ 18446744069414584320) :
    Calls Tryd.prog 10 #[.slice (some ⟨lb, 0, none⟩) (2 ^ K) cap, .bool inv] w fun e w' => e = .returned (.tuple #[.slice none 0 0, .int .i64 2]) ∧ w' = w := by
  have hn : 2 ^ K ≤ 1024 := Nat.pow_le_pow_right (n := 2) (by decide) hK
  have c := isSize_yes K hK
  have ca := allElements_any lb (2 ^ K) cap f w (by omega) hf ha
  rw [decide_eq_false hx] at ca
  clear hf ha hx
  generalize 2 ^ K = n at *
  go_enter Tryd.func10, Tryd.ntmps10
  go_wp2_with (first | (go_at_call 34; refine (c _).mono ?_; rintro e w' ⟨rfl, hw⟩; subst w') | (go_at_call 35; refine ca.mono ?_; rintro e w' ⟨rfl, hw⟩; subst w'))
  go_ret2
  exact ⟨rfl, rfl⟩

/-- What has become of the world behind a Transform. -/
structure Done (K : Nat) (inv : Bool) (x : Nat → Int) (w w' : World) : Prop where
  out : Arr w' (w.heap.size + 3) (2 ^ K) (trans K inv x)
  gw : Gw w w'
  size : w'.heap.size = w.heap.size + 4

theorem Transform_ok (K lb cap : Nat) (f : Nat → Int) (inv : Bool) (w : World) (hK : K ≤ 10) (ht : Tab w) (hf : Elems (2 ^ K) f) (ha : Arr w lb (2 ^ K) f) :
    Calls Tryd.prog 10 #[.slice (some ⟨lb, 0, none⟩) (2 ^ K) cap, .bool inv] w
      fun e w' => e = .returned (.tuple #[.slice (some ⟨w.heap.size + 3, 0, none⟩) (2 ^ K) (2 ^ K), .int .i64 0]) ∧ Done K inv f w w' := by
  have hn : 2 ^ K ≤ 1024 := Nat.pow_le_pow_right (n := 2) (by decide) hK
  have c := isSize_yes K hK
  have ca := allElements_any lb (2 ^ K) cap f w (by omega) hf.fits ha
  rw [decide_eq_true (fun i hi => (hf i hi).2)] at ca
  have cn := newShelf_any w
  have ct := fun w1 (g : Gw w w1) (hz : w1.heap.size = w.heap.size + 2) (hs : Shelf w1 (w.heap.size + 1) w.heap.size 0 (.map [])) => transform_any K (w.heap.size + 1) w.heap.size 0 lb cap f (.map []) inv w1 hK (by omega) (ht.gw g) (ha.gw g) hf hs rfl
  clear hf ha ht
  obtain ⟨n, hnn⟩ : ∃ n, 2 ^ K = n := ⟨_, rfl⟩
  have HN : Hid (2 ^ K = n) := hnn
  rw [hnn] at c ca ct hn ⊢
  clear hnn
  go_enter Tryd.func10, Tryd.ntmps10
  go_wp2_with (first
    | (go_at_call 34; refine (c _).mono ?_; rintro e w' ⟨rfl, hw⟩; subst w')
    | (go_at_call 35; refine ca.mono ?_; rintro e w' ⟨rfl, hw⟩; subst w')
    | (go_at_call 36; refine cn.mono ?_; rintro e w1 ⟨rfl, hS1, hG1, hZ1⟩; clear cn)
    | (go_at_call 37; refine (ct _ hG1 hZ1 hS1).mono ?_; rintro e w2 ⟨rfl, hD2⟩; clear ct))
  go_ret2
  refine ⟨by simp [hZ1], ?_⟩
  have hgw : Gw w w2 := But.gw hG1 hD2.but (Nat.le_refl _)
  have ho := hD2.out
  have hz := hD2.size
  rw [hZ1] at ho hz
  exact ⟨ho, hgw, hz⟩

end Go.Proofs.YtmfmpfdpjmakdaaDoor
