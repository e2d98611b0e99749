/- The document's own answer, walked on: Sub. -/
import Derived.Test.YtddpcjgekfmhkaaRq
namespace Go.Proofs.Ytddpcjgekfmhkaa
open Go.RowKit
set_option linter.unusedSimpArgs false

set_option maxHeartbeats 1000000 in
theorem subr_core (a b y z s : Int) (w : World)
    (cb : ∀ w, Calls Try.prog 46 #[nm b] w fun e w' => e = .returned (nm y) ∧ Gw w w')
    (cm : ∀ w, Calls Try.prog 47 #[.agg #[.int .i64 4294967295, .int .i64 1], nm y] w fun e w' => e = .returned (nm z) ∧ Gw w w')
    (ca : ∀ w, Calls Try.prog 17 #[nm a, nm z] w fun e w' => e = .returned (nm s) ∧ Gw w w') :
    Calls Try.prog 18 #[nm a, nm b] w fun e w' => e = .returned (nm s) ∧ Gw w w' := by
  go_enter Try.func18, Try.ntmps18
  go_wp2
  go_region_held3 (fun W => W.cell? ⟨w.heap.size, 0, none⟩ = some (.int .i64 (a / 4294967296)) ∧ W.cell? ⟨w.heap.size, 1, none⟩ = some (.int .i64 (a % 4294967296)) ∧ W.cell? ⟨w.heap.size + 1, 0, none⟩ = some (.int .i64 (b / 4294967296)) ∧ W.cell? ⟨w.heap.size + 1, 1, none⟩ = some (.int .i64 (b % 4294967296)) ∧ W.cell? ⟨w.heap.size + 2, 0, none⟩ = some (cellOr W ⟨w.heap.size + 2, 0, none⟩) ∧ W.cell? ⟨w.heap.size + 2, 1, none⟩ = some (cellOr W ⟨w.heap.size + 2, 1, none⟩) ∧ W.frozen? ⟨w.heap.size + 2, 0, none⟩ = false ∧ W.frozen? ⟨w.heap.size + 2, 1, none⟩ = false ∧ Gw w W)
    (first
      | (go_split_ands; exact ⟨hg.at ‹_›, hg.at ‹_›, hg.at ‹_›, hg.at ‹_›, hg.or ‹_›, hg.or ‹_›, (hg.2 _).trans ‹_›, (hg.2 _).trans ‹_›, Gw.trans ‹_› hg⟩)
      | (go_split_ands; exact ⟨by simp [go_sem, *], by simp [go_sem, *], by simp [go_sem, *], by simp [go_sem, *], or_of_some (setCell_ex (setCell_ex ⟨_, ‹_›⟩)), or_of_some (setCell_ex (setCell_ex ⟨_, ‹_›⟩)), by simp [go_sem, *], by simp [go_sem, *], (by repeat (first | assumption | exact Gw.refl _ | apply Gw.drew | apply Gw.alloc | refine Gw.setCell ?_ (by first | (simp; done) | (simp; omega)) _))⟩)
      | (exact ⟨by simp [go_sem], by simp [go_sem], by simp [go_sem], by simp [go_sem], or_of_some ⟨.int .i64 0, by simp [go_sem]⟩, or_of_some ⟨.int .i64 0, by simp [go_sem]⟩, by simp [go_sem], by simp [go_sem], (by repeat (first | assumption | exact Gw.refl _ | apply Gw.drew | apply Gw.alloc | refine Gw.setCell ?_ (by first | (simp; done) | (simp; omega)) _))⟩))
    (first
      | (go_at_call 48; refine (prime_ref _).mono ?_; rintro e w' ⟨rfl, hg⟩)
      | (go_at_call 46; refine (cb _).mono ?_; rintro e w' ⟨rfl, hg⟩)
      | (go_at_call 47; refine (cm _).mono ?_; rintro e w' ⟨rfl, hg⟩)
      | (go_at_call 17; refine (ca _).mono ?_; rintro e w' ⟨rfl, hg⟩; have k0 : ∃ u, w'.cell? ⟨w.heap.size + 1 + 1, 0, none⟩ = some u := (by go_split_ands; exact ⟨_, hg.at ‹_›⟩); have k1 : ∃ u, w'.cell? ⟨w.heap.size + 1 + 1, 1, none⟩ = some u := (by go_split_ands; exact ⟨_, hg.at ‹_›⟩)))
  go_split_ands
  obtain ⟨u0, k0⟩ := k0
  obtain ⟨u1, k1⟩ := k1
  go_wp2
  exact bodyPost_ret (v := nm s) (by simp [results, Try.results18, go_sem, k0, k1]) rfl ⟨rfl, ‹_›⟩

theorem subr_ref (a b : Int) (a0 : 0 ≤ a) (a1 : a ≤ 18446744073709551615) (b0 : 0 ≤ b) (b1 : b ≤ 18446744073709551615) (w : World) :
    Calls Try.prog 18 #[nm a, nm b] w fun e w' => e = .returned (nm ((a - b) % PP)) ∧ Gw w w' := by
  have bb := md_bd b
  have e : (a + (18446744069414584321 - b % PP)) % PP = (a - b) % PP := by
    rw [← PP_eq, show a + (PP - b % PP) = a - b % PP + PP by omega, md_add_PP, md_sub_r]
  exact subr_core a b (b % PP) (18446744069414584321 - b % PP) _ w (less_ref b b0 b1) (prime_minus (b % PP) bb.1 bb.2) (fun w => e ▸ addr_ref a _ a0 a1 (by omega) (by omega) w)

end Go.Proofs.Ytddpcjgekfmhkaa
