/- The document's own answer, walked on: Embed. -/
import Derived.Test.YtddpcjgekfmhkaaRi
namespace Go.Proofs.Ytddpcjgekfmhkaa
open Go.RowKit
set_option linter.unusedSimpArgs false

theorem sub_zero_ref (b : Int) (b0 : 0 ≤ b) (b1 : b ≤ 18446744073709551615) (w : World) :
    Calls Try.prog 18 #[.agg #[.int .i64 0, .int .i64 0], nm b] w fun e w' => e = .returned (nm ((0 - b) % PP)) ∧ Gw w w' := subr_ref 0 b (by omega) (by omega) b0 b1 w

theorem embedr_ref (n : Int) (h0 : -9223372036854775808 ≤ n) (h1 : n ≤ 9223372036854775807) (w : World) :
    Calls Try.prog 20 #[.int .i64 n] w fun e w' => e = .returned (nm (n % PP)) ∧ Gw w w' := by
  by_cases h : n < 0
  · have co := of_ref (wrap64 (-n))
    have e : wrap64 (-n) % 18446744073709551616 = -n := by unfold wrap64; omega
    rw [e] at co
    have cs := sub_zero_ref (-n) (by omega) (by omega)
    rw [show 0 - -n = n by omega] at cs
    generalize n % PP = s at *
    clear e
    go_enter Try.func20, Try.ntmps20
    go_wp2_with (first | (go_at_call 10; refine (co _).mono ?_; rintro e w' ⟨rfl, hg⟩; have G : Gw w w' := Gw.trans (by repeat (first | assumption | exact Gw.refl _ | apply Gw.drew | apply Gw.alloc | refine Gw.setCell ?_ (by first | (simp; done) | (simp; omega)) _)) hg; have p0 := hg.at (b := w.heap.size) (o := 0) (v := .int .i64 0) (by simp [go_sem]); have p1 := hg.at (b := w.heap.size) (o := 1) (v := .int .i64 0) (by simp [go_sem]); have hF := hg.frozens; clear hg) | (go_at_call 18; refine (cs _).mono ?_; rintro e w' ⟨rfl, hg⟩; have G : Gw w w' := Gw.trans (by repeat (first | assumption | exact Gw.refl _ | apply Gw.drew | apply Gw.alloc | refine Gw.setCell ?_ (by first | (simp; done) | (simp; omega)) _)) hg; have q0 := hg.at (b := w.heap.size) (o := 0) (v := .int .i64 0) (by simp [go_sem, p0, p1]); have q1 := hg.at (b := w.heap.size) (o := 1) (v := .int .i64 0) (by simp [go_sem, p0, p1]); have hF := hg.frozens; clear hg))
    exact bodyPost_ret (v := nm s) (by simp [results, Try.results20, go_sem, q0, q1]) rfl ⟨rfl, (by repeat (first | assumption | exact Gw.refl _ | apply Gw.drew | apply Gw.alloc | refine Gw.setCell ?_ (by first | (simp; done) | (simp; omega)) _))⟩
  · have co := of_ref n
    have e : n % 18446744073709551616 = n := by omega
    rw [e] at co
    have cs := less_ref n (by omega) (by omega)
    generalize n % PP = s at *
    clear e
    go_enter Try.func20, Try.ntmps20
    go_wp2_with (first | (go_at_call 10; refine (co _).mono ?_; rintro e w' ⟨rfl, hg⟩; have G : Gw w w' := Gw.trans (by repeat (first | assumption | exact Gw.refl _ | apply Gw.drew | apply Gw.alloc | refine Gw.setCell ?_ (by first | (simp; done) | (simp; omega)) _)) hg; have p0 := hg.at (b := w.heap.size) (o := 0) (v := .int .i64 0) (by simp [go_sem]); have p1 := hg.at (b := w.heap.size) (o := 1) (v := .int .i64 0) (by simp [go_sem]); have hF := hg.frozens; clear hg) | (go_at_call 46; refine (cs _).mono ?_; rintro e w' ⟨rfl, hg⟩; have G : Gw w w' := Gw.trans (by repeat (first | assumption | exact Gw.refl _ | apply Gw.drew | apply Gw.alloc | refine Gw.setCell ?_ (by first | (simp; done) | (simp; omega)) _)) hg; have q0 := hg.at (b := w.heap.size) (o := 0) (v := .int .i64 0) (by simp [go_sem, p0, p1]); have q1 := hg.at (b := w.heap.size) (o := 1) (v := .int .i64 0) (by simp [go_sem, p0, p1]); have hF := hg.frozens; clear hg))
    exact bodyPost_ret (v := nm s) (by simp [results, Try.results20, go_sem, q0, q1]) rfl ⟨rfl, (by repeat (first | assumption | exact Gw.refl _ | apply Gw.drew | apply Gw.alloc | refine Gw.setCell ?_ (by first | (simp; done) | (simp; omega)) _))⟩

end Go.Proofs.Ytddpcjgekfmhkaa
