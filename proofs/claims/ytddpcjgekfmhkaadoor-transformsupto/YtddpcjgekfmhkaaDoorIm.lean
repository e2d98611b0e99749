/- DOC.md's first transform, walked. -/
import Derived.Test.YtddpcjgekfmhkaaDoorXp
namespace Go.Proofs.YtddpcjgekfmhkaaDoor
open Go.RowKit
set_option linter.unusedSimpArgs false
set_option linter.unusedVariables false

def imp (i : Nat) : Int := if i = 0 then 1 else 0
theorem imp_dft (j : Nat) : dft 2 imp j = 1 := by
  unfold dft
  have e : sm (fun i => imp i * pw (rootk 2) (i * j)) (2 ^ 2) = 0 + imp 0 * pw (rootk 2) (0 * j) + imp 1 * pw (rootk 2) (1 * j) + imp 2 * pw (rootk 2) (2 * j) + imp 3 * pw (rootk 2) (3 * j) := rfl
  rw [e, Nat.zero_mul, pw_zero]
  simp only [imp]
  simp
  exact md_small (by omega) (by omega)

theorem impulse_any (w : World) (ht : Tab w) :
    Calls Tryd.prog 7 #[] w fun e w' => e = .returned (.bool true) ∧ Gw w w' := by
  have TT := fun (w1 : World) (g : Gw w w1) (ha : Arr w1 w.heap.size 4 imp) => Transform_ok 2 w.heap.size 4 imp false w1 (by omega) (ht.gw g) (fun i _ => by unfold imp; split <;> omega) ha
  have c4 : (2 : Nat) ^ 2 = 4 := rfl
  rw [c4] at TT
  clear c4
  have hA0 : ∀ t : TypeId, Arr (w.alloc (.cells #[.int .u64 1, .int .u64 0, .int .u64 0, .int .u64 0] t)) w.heap.size 4 imp := by
    intro t i hi
    refine ⟨?_, ?_⟩
    · rw [World.cell?_alloc_at _ _ _ _ rfl]
      rcases (show i = 0 ∨ i = 1 ∨ i = 2 ∨ i = 3 by omega) with rfl | rfl | rfl | rfl <;> rfl
    · rw [frozen?_alloc_cells]; simp [World.frozen?]
  go_enter Tryd.func7, Tryd.ntmps7
  go_wp2_with (go_at_call 11; refine (TT _ ((Gw.refl w).alloc _ _) (hA0 _)).mono ?_; rintro e w1 ⟨rfl, D⟩; clear TT hA0; have c0 := (D.out 0 (by decide)).1; have c1 := (D.out 1 (by decide)).1; have c2 := (D.out 2 (by decide)).1; have c3 := (D.out 3 (by decide)).1; have d0 : trans 2 false imp 0 = 1 := imp_dft 0; have d1 : trans 2 false imp 1 = 1 := imp_dft 1; have d2 : trans 2 false imp 2 = 1 := imp_dft 2; have d3 : trans 2 false imp 3 = 1 := imp_dft 3; rw [d0] at c0; rw [d1] at c1; rw [d2] at c2; rw [d3] at c3; clear d0 d1 d2 d3; have HG : Hid (Gw w w1) := ((Gw.refl w).alloc _ _).trans D.gw; clear D; (try simp at c0 c1 c2 c3))
  go_ret
  exact ⟨rfl, HG.out⟩

end Go.Proofs.YtddpcjgekfmhkaaDoor
