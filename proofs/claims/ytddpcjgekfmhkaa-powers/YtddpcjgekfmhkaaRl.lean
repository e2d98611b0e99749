/- The document's own answer, walked on: Inv. -/
import Derived.Test.YtddpcjgekfmhkaaRk
namespace Go.Proofs.Ytddpcjgekfmhkaa
open Go.RowKit
set_option linter.unusedSimpArgs false

theorem prime_minus_two (w : World) :
    Calls Try.prog 47 #[.agg #[.int .i64 4294967295, .int .i64 1], .agg #[.int .i64 0, .int .i64 2]] w fun e w' => e = .returned (nm (invE : Nat)) ∧ Gw w w' := prime_minus 2 (by omega) (by omega) w

set_option maxHeartbeats 1000000 in
theorem invr_ref (a : Int) (a0 : 0 ≤ a) (a1 : a ≤ 18446744073709551615) (w : World) :
    Calls Try.prog 26 #[nm a] w fun e w' => e = .returned (nm (pw a invE)) ∧ Gw w w' := by
  have cm := prime_minus_two
  have cp := powr_ref a invE a0 a1 (by rw [invE_eq]; omega)
  generalize pw a invE = s at *
  generalize ((invE : Nat) : Int) = z at *
  clear a0 a1
  go_enter Try.func26, Try.ntmps26
  go_wp2
  go_region_held3 (fun W => W.cell? ⟨w.heap.size, 0, none⟩ = some (.int .i64 (a / 4294967296)) ∧ W.cell? ⟨w.heap.size, 1, none⟩ = some (.int .i64 (a % 4294967296)) ∧ W.cell? ⟨w.heap.size + 1, 0, none⟩ = some (cellOr W ⟨w.heap.size + 1, 0, none⟩) ∧ W.cell? ⟨w.heap.size + 1, 1, none⟩ = some (cellOr W ⟨w.heap.size + 1, 1, none⟩) ∧ W.frozen? ⟨w.heap.size + 1, 0, none⟩ = false ∧ W.frozen? ⟨w.heap.size + 1, 1, none⟩ = false ∧ Gw w W)
    (first
      | (go_split_ands; exact ⟨hg.at ‹_›, hg.at ‹_›, hg.or ‹_›, hg.or ‹_›, (hg.2 _).trans ‹_›, (hg.2 _).trans ‹_›, Gw.trans ‹_› hg⟩)
      | (go_split_ands; exact ⟨by simp [go_sem, *], by simp [go_sem, *], or_of_some (setCell_ex (setCell_ex ⟨_, ‹_›⟩)), or_of_some (setCell_ex (setCell_ex ⟨_, ‹_›⟩)), by simp [go_sem, *], by simp [go_sem, *], (by repeat (first | assumption | exact Gw.refl _ | apply Gw.drew | apply Gw.alloc | refine Gw.setCell ?_ (by first | (simp; done) | (simp; omega)) _))⟩)
      | (exact ⟨by simp [go_sem], by simp [go_sem], or_of_some ⟨.int .i64 0, by simp [go_sem]⟩, or_of_some ⟨.int .i64 0, by simp [go_sem]⟩, by simp [go_sem], by simp [go_sem], (by repeat (first | assumption | exact Gw.refl _ | apply Gw.drew | apply Gw.alloc | refine Gw.setCell ?_ (by first | (simp; done) | (simp; omega)) _))⟩))
    (first
      | (go_at_call 48; refine (prime_ref _).mono ?_; rintro e w' ⟨rfl, hg⟩)
      | (go_at_call 47; refine (cm _).mono ?_; rintro e w' ⟨rfl, hg⟩)
      | (go_at_call 25; refine (cp _).mono ?_; rintro e w' ⟨rfl, hg⟩; have k0 : ∃ u, w'.cell? ⟨w.heap.size + 1, 0, none⟩ = some u := (by go_split_ands; exact ⟨_, hg.at ‹_›⟩); have k1 : ∃ u, w'.cell? ⟨w.heap.size + 1, 1, none⟩ = some u := (by go_split_ands; exact ⟨_, hg.at ‹_›⟩)))
  go_split_ands
  obtain ⟨u0, k0⟩ := k0
  obtain ⟨u1, k1⟩ := k1
  go_wp2
  exact bodyPost_ret (v := nm s) (by simp [results, Try.results26, go_sem, k0, k1]) rfl ⟨rfl, ‹_›⟩

end Go.Proofs.Ytddpcjgekfmhkaa
