/- The document's own answer, walked on: Inv, Embed, Lift. -/
import Derived.Test.YtkcccpmnnlbgcaaRk
namespace Go.Proofs.Ytkcccpmnnlbgcaa
open Go.RowKit
set_option linter.unusedSimpArgs false

theorem prime_minus_two (w : World) :
    Calls Try.prog 31 #[.agg #[.int .i64 4294967295, .int .i64 1], .agg #[.int .i64 0, .int .i64 2]] w fun e w' => e = .returned (nm (invE : Nat)) ∧ Gw w w' := prime_minus 2 (by omega) (by omega) w

set_option maxHeartbeats 1000000 in
theorem invr_ref (a : Int) (a0 : 0 ≤ a) (a1 : a ≤ 18446744073709551615) (w : World) :
    Calls Try.prog 24 #[nm a] w fun e w' => e = .returned (nm (pw a invE)) ∧ Gw w w' := by
  have cm := prime_minus_two
  have cp := powr_ref a invE a0 a1 (by rw [invE_eq]; omega)
  generalize pw a invE = s at *
  generalize ((invE : Nat) : Int) = z at *
  clear a0 a1
  go_enter Try.func24, Try.ntmps24
  go_wp2
  go_region_held3 (fun W => W.cell? ⟨w.heap.size, 0, none⟩ = some (.int .i64 (a / 4294967296)) ∧ W.cell? ⟨w.heap.size, 1, none⟩ = some (.int .i64 (a % 4294967296)) ∧ W.cell? ⟨w.heap.size + 1, 0, none⟩ = some (cellOr W ⟨w.heap.size + 1, 0, none⟩) ∧ W.cell? ⟨w.heap.size + 1, 1, none⟩ = some (cellOr W ⟨w.heap.size + 1, 1, none⟩) ∧ W.frozen? ⟨w.heap.size + 1, 0, none⟩ = false ∧ W.frozen? ⟨w.heap.size + 1, 1, none⟩ = false ∧ Gw w W)
    (first
      | (go_split_ands; exact ⟨hg.at ‹_›, hg.at ‹_›, hg.or ‹_›, hg.or ‹_›, (hg.2 _).trans ‹_›, (hg.2 _).trans ‹_›, Gw.trans ‹_› hg⟩)
      | (go_split_ands; exact ⟨by simp [go_sem, *], by simp [go_sem, *], or_of_some (setCell_ex (setCell_ex ⟨_, ‹_›⟩)), or_of_some (setCell_ex (setCell_ex ⟨_, ‹_›⟩)), by simp [go_sem, *], by simp [go_sem, *], (by repeat (first | assumption | exact Gw.refl _ | apply Gw.drew | apply Gw.alloc | refine Gw.setCell ?_ (by first | (simp; done) | (simp; omega)) _))⟩)
      | (exact ⟨by simp [go_sem], by simp [go_sem], or_of_some ⟨.int .i64 0, by simp [go_sem]⟩, or_of_some ⟨.int .i64 0, by simp [go_sem]⟩, by simp [go_sem], by simp [go_sem], (by repeat (first | assumption | exact Gw.refl _ | apply Gw.drew | apply Gw.alloc | refine Gw.setCell ?_ (by first | (simp; done) | (simp; omega)) _))⟩))
    (first
      | (go_at_call 32; refine (prime_ref _).mono ?_; rintro e w' ⟨rfl, hg⟩)
      | (go_at_call 31; refine (cm _).mono ?_; rintro e w' ⟨rfl, hg⟩)
      | (go_at_call 23; refine (cp _).mono ?_; rintro e w' ⟨rfl, hg⟩; have k0 : ∃ u, w'.cell? ⟨w.heap.size + 1, 0, none⟩ = some u := (by go_split_ands; exact ⟨_, hg.at ‹_›⟩); have k1 : ∃ u, w'.cell? ⟨w.heap.size + 1, 1, none⟩ = some u := (by go_split_ands; exact ⟨_, hg.at ‹_›⟩)))
  go_split_ands
  obtain ⟨u0, k0⟩ := k0
  obtain ⟨u1, k1⟩ := k1
  go_wp2
  exact bodyPost_ret (v := nm s) (by simp [results, Try.results24, go_sem, k0, k1]) rfl ⟨rfl, ‹_›⟩


theorem sub_zero_ref (b : Int) (b0 : 0 ≤ b) (b1 : b ≤ 18446744073709551615) (w : World) :
    Calls Try.prog 16 #[.agg #[.int .i64 0, .int .i64 0], nm b] w fun e w' => e = .returned (nm ((0 - b) % PP)) ∧ Gw w w' := subr_ref 0 b (by omega) (by omega) b0 b1 w

theorem embedr_ref (n : Int) (h0 : -9223372036854775808 ≤ n) (h1 : n ≤ 9223372036854775807) (w : World) :
    Calls Try.prog 18 #[.int .i64 n] w fun e w' => e = .returned (nm (n % PP)) ∧ Gw w w' := by
  by_cases h : n < 0
  · have co := of_ref (wrap64 (-n))
    have e : wrap64 (-n) % 18446744073709551616 = -n := by unfold wrap64; omega
    rw [e] at co
    have cs := sub_zero_ref (-n) (by omega) (by omega)
    rw [show 0 - -n = n by omega] at cs
    generalize n % PP = s at *
    clear e
    go_enter Try.func18, Try.ntmps18
    go_wp2_with (first | (go_at_call 8; refine (co _).mono ?_; rintro e w' ⟨rfl, hg⟩; have G : Gw w w' := Gw.trans (by repeat (first | assumption | exact Gw.refl _ | apply Gw.drew | apply Gw.alloc | refine Gw.setCell ?_ (by first | (simp; done) | (simp; omega)) _)) hg; have p0 := hg.at (b := w.heap.size) (o := 0) (v := .int .i64 0) (by simp [go_sem]); have p1 := hg.at (b := w.heap.size) (o := 1) (v := .int .i64 0) (by simp [go_sem]); have hF := hg.frozens; clear hg) | (go_at_call 16; refine (cs _).mono ?_; rintro e w' ⟨rfl, hg⟩; have G : Gw w w' := Gw.trans (by repeat (first | assumption | exact Gw.refl _ | apply Gw.drew | apply Gw.alloc | refine Gw.setCell ?_ (by first | (simp; done) | (simp; omega)) _)) hg; have q0 := hg.at (b := w.heap.size) (o := 0) (v := .int .i64 0) (by simp [go_sem, p0, p1]); have q1 := hg.at (b := w.heap.size) (o := 1) (v := .int .i64 0) (by simp [go_sem, p0, p1]); have hF := hg.frozens; clear hg))
    exact bodyPost_ret (v := nm s) (by simp [results, Try.results18, go_sem, q0, q1]) rfl ⟨rfl, (by repeat (first | assumption | exact Gw.refl _ | apply Gw.drew | apply Gw.alloc | refine Gw.setCell ?_ (by first | (simp; done) | (simp; omega)) _))⟩
  · have co := of_ref n
    have e : n % 18446744073709551616 = n := by omega
    rw [e] at co
    have cs := less_ref n (by omega) (by omega)
    generalize n % PP = s at *
    clear e
    go_enter Try.func18, Try.ntmps18
    go_wp2_with (first | (go_at_call 8; refine (co _).mono ?_; rintro e w' ⟨rfl, hg⟩; have G : Gw w w' := Gw.trans (by repeat (first | assumption | exact Gw.refl _ | apply Gw.drew | apply Gw.alloc | refine Gw.setCell ?_ (by first | (simp; done) | (simp; omega)) _)) hg; have p0 := hg.at (b := w.heap.size) (o := 0) (v := .int .i64 0) (by simp [go_sem]); have p1 := hg.at (b := w.heap.size) (o := 1) (v := .int .i64 0) (by simp [go_sem]); have hF := hg.frozens; clear hg) | (go_at_call 30; refine (cs _).mono ?_; rintro e w' ⟨rfl, hg⟩; have G : Gw w w' := Gw.trans (by repeat (first | assumption | exact Gw.refl _ | apply Gw.drew | apply Gw.alloc | refine Gw.setCell ?_ (by first | (simp; done) | (simp; omega)) _)) hg; have q0 := hg.at (b := w.heap.size) (o := 0) (v := .int .i64 0) (by simp [go_sem, p0, p1]); have q1 := hg.at (b := w.heap.size) (o := 1) (v := .int .i64 0) (by simp [go_sem, p0, p1]); have hF := hg.frozens; clear hg))
    exact bodyPost_ret (v := nm s) (by simp [results, Try.results18, go_sem, q0, q1]) rfl ⟨rfl, (by repeat (first | assumption | exact Gw.refl _ | apply Gw.drew | apply Gw.alloc | refine Gw.setCell ?_ (by first | (simp; done) | (simp; omega)) _))⟩

end Go.Proofs.Ytkcccpmnnlbgcaa
