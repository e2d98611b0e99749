/- The document's own answer, walked on: Lift. -/
import Derived.Test.YtddpcjgekfmhkaaRq
namespace Go.Proofs.Ytddpcjgekfmhkaa
open Go.RowKit
set_option linter.unusedSimpArgs false

theorem prime_minus_lit (y : Int) (y0 : 0 ≤ y) (y1 : y ≤ 18446744069414584320) (w : World) :
    Calls Try.prog 47 #[.agg #[.int .i64 4294967295, .int .i64 1], nm y] w fun e w' => e = .returned (nm (18446744069414584321 - y)) ∧ Gw w w' := prime_minus y y0 y1 w

set_option maxHeartbeats 1000000 in
theorem liftr_ref (v : Int) (v0 : 0 ≤ v) (v1 : v ≤ 18446744073709551615) (w : World) :
    Calls Try.prog 21 #[nm v] w fun e w' => e = .returned (.int .i64 (liftv v)) ∧ Gw w w' := by
  have cl := less_ref v v0 v1
  have b := md_bd v
  unfold liftv
  generalize v % PP = x at *
  by_cases h : x ≤ 9223372034707292160
  · rw [if_pos h]
    have ct := fun w => atLeast_t 2147483647 2147483648 (x / 4294967296) (x % 4294967296) (by omega) w
    have cb := bits_ref x b.1 (by omega)
    rw [show wrap64 x = x by unfold wrap64; omega] at cb
    go_enter Try.func21, Try.ntmps21
    go_wp2_with (first | (go_at_call 46; refine (cl _).mono ?_; rintro e w' ⟨rfl, hg⟩; have G : Gw w w' := Gw.trans (by repeat (first | assumption | exact Gw.refl _ | apply Gw.drew | apply Gw.alloc | refine Gw.setCell ?_ (by first | (simp; done) | (simp; omega)) _)) hg; have p0 := hg.at (b := w.heap.size) (o := 0) (v := .int .i64 (v / 4294967296)) (by simp [go_sem]); have p1 := hg.at (b := w.heap.size) (o := 1) (v := .int .i64 (v % 4294967296)) (by simp [go_sem]); have hF := hg.frozens; have hlt : w.heap.size < w'.heap.size := (by have := hg.1.size; (try simp at this); omega); clear hg) | (go_at_call 50; refine (ct _).mono ?_; rintro e w' ⟨rfl, hg⟩; have G : Gw w w' := Gw.trans (by repeat (first | assumption | exact Gw.refl _ | apply Gw.drew | apply Gw.alloc | refine Gw.setCell ?_ (by first | (simp; done) | (simp; omega)) _)) hg; have q0 := hg.at (b := w.heap.size) (o := 0) (v := .int .i64 (x / 4294967296)) (by simp [go_sem, p0, p1, hlt]); have q1 := hg.at (b := w.heap.size) (o := 1) (v := .int .i64 (x % 4294967296)) (by simp [go_sem, p0, p1, hlt]); have hF := hg.frozens; have hlt : w.heap.size < w'.heap.size := (by have := hg.1.size; (try simp at this); omega); clear hg) | (go_at_call 45; refine (cb _).mono ?_; rintro e w' ⟨rfl, hg⟩; have G : Gw w w' := Gw.trans (by repeat (first | assumption | exact Gw.refl _ | apply Gw.drew | apply Gw.alloc | refine Gw.setCell ?_ (by first | (simp; done) | (simp; omega)) _)) hg; have r0 := hg.at (b := w.heap.size) (o := 0) (v := .int .i64 (x / 4294967296)) (by simp [go_sem, q0, q1]); have r1 := hg.at (b := w.heap.size) (o := 1) (v := .int .i64 (x % 4294967296)) (by simp [go_sem, q0, q1]); have hF := hg.frozens; have hlt : w.heap.size < w'.heap.size := (by have := hg.1.size; (try simp at this); omega); clear hg))
    go_ret
    exact ⟨rfl, (by repeat (first | assumption | exact Gw.refl _ | apply Gw.drew | apply Gw.alloc | refine Gw.setCell ?_ (by first | (simp; done) | (simp; omega)) _))⟩
  · rw [if_neg h]
    have ct := fun w => atLeast_f 2147483647 2147483648 (x / 4294967296) (x % 4294967296) (by omega) w
    have cm := prime_minus_lit x b.1 b.2
    have cb := bits_ref (18446744069414584321 - x) (by omega) (by omega)
    rw [show wrap64 (18446744069414584321 - x) = 18446744069414584321 - x by unfold wrap64; omega] at cb
    go_enter Try.func21, Try.ntmps21
    go_wp2_with (first | (go_at_call 46; refine (cl _).mono ?_; rintro e w' ⟨rfl, hg⟩; have G : Gw w w' := Gw.trans (by repeat (first | assumption | exact Gw.refl _ | apply Gw.drew | apply Gw.alloc | refine Gw.setCell ?_ (by first | (simp; done) | (simp; omega)) _)) hg; have p0 := hg.at (b := w.heap.size) (o := 0) (v := .int .i64 (v / 4294967296)) (by simp [go_sem]); have p1 := hg.at (b := w.heap.size) (o := 1) (v := .int .i64 (v % 4294967296)) (by simp [go_sem]); have hF := hg.frozens; have hlt : w.heap.size < w'.heap.size := (by have := hg.1.size; (try simp at this); omega); clear hg) | (go_at_call 50; refine (ct _).mono ?_; rintro e w' ⟨rfl, hg⟩; have G : Gw w w' := Gw.trans (by repeat (first | assumption | exact Gw.refl _ | apply Gw.drew | apply Gw.alloc | refine Gw.setCell ?_ (by first | (simp; done) | (simp; omega)) _)) hg; have q0 := hg.at (b := w.heap.size) (o := 0) (v := .int .i64 (x / 4294967296)) (by simp [go_sem, p0, p1, hlt]); have q1 := hg.at (b := w.heap.size) (o := 1) (v := .int .i64 (x % 4294967296)) (by simp [go_sem, p0, p1, hlt]); have hF := hg.frozens; have hlt : w.heap.size < w'.heap.size := (by have := hg.1.size; (try simp at this); omega); clear hg))
    go_region_held3 (fun W => W.cell? ⟨w.heap.size, 0, none⟩ = some (.int .i64 (x / 4294967296)) ∧ W.cell? ⟨w.heap.size, 1, none⟩ = some (.int .i64 (x % 4294967296)) ∧ Gw w W)
      (first
        | (go_split_ands; exact ⟨hg.at ‹_›, hg.at ‹_›, Gw.trans ‹_› hg⟩)
        | (exact ⟨by simp [go_sem, *], by simp [go_sem, *], (by repeat (first | assumption | exact Gw.refl _ | apply Gw.drew | apply Gw.alloc | refine Gw.setCell ?_ (by first | (simp; done) | (simp; omega)) _))⟩))
      (first
        | (go_at_call 48; refine (prime_ref _).mono ?_; rintro e w' ⟨rfl, hg⟩)
        | (go_at_call 47; refine (cm _).mono ?_; rintro e w' ⟨rfl, hg⟩)
        | (go_at_call 45; refine (cb _).mono ?_; rintro e w' ⟨rfl, hg⟩))
    go_split_ands
    go_wp2
    go_ret
    refine ⟨ret_int' ?_, ‹_›⟩
    rw [PP_eq]
    first | omega | (rw [IntKind.wrap_i64]; omega)

end Go.Proofs.Ytddpcjgekfmhkaa
