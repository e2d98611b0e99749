/- The statement Numbers, walked. -/
import Derived.Test.YtddpcjgekfmhkaaFx
import Derived.Test.YtddpcjgekfmhkaaRn
import Derived.Test.YtddpcjgekfmhkaaRi
import Derived.Test.YtddpcjgekfmhkaaRs
import Derived.Test.YtddpcjgekfmhkaaRm
import Derived.OpenShut
namespace Go.Proofs.Ytddpcjgekfmhkaa
open Go.RowKit
set_option linter.unusedSimpArgs false

theorem is_same (v : Int) (v0 : 0 ≤ v) (v1 : v ≤ 18446744073709551615) (w : World) :
    Calls Try.prog 16 #[.int .u64 v, nm v] w fun e w' => e = .returned (.bool true) ∧ Gw w w' := is_ref v v v0 v1 v0 v1 rfl w

set_option maxHeartbeats 2000000 in
theorem numbers_core (a b A B s d p e l r : Int) (w : World)
    (hA : IntKind.u64.wrap a = A) (hB : IntKind.u64.wrap b = B)
    (s0 : 0 ≤ s) (s1 : s ≤ 18446744073709551615) (d0 : 0 ≤ d) (d1 : d ≤ 18446744073709551615) (p0 : 0 ≤ p) (p1 : p ≤ 18446744073709551615) (e0 : 0 ≤ e) (e1 : e ≤ 18446744073709551615) (r0 : 0 ≤ r) (r1 : r ≤ 18446744073709551615)
    (co : ∀ w, Calls Try.prog 9 #[.int .u64 4294967296, .int .u64 4294967296] w fun e w' => e = .returned (.int .u64 4294967295) ∧ w' = w)
    (cx : ∀ w, Calls Try.prog 10 #[.int .i64 a] w fun e w' => e = .returned (nm A) ∧ Gw w w')
    (cy : ∀ w, Calls Try.prog 10 #[.int .i64 b] w fun e w' => e = .returned (nm B) ∧ Gw w w')
    (cs : ∀ w, Calls Try.prog 11 #[.int .u64 A, .int .u64 B] w fun e w' => e = .returned (.int .u64 s) ∧ w' = w)
    (cd : ∀ w, Calls Try.prog 12 #[.int .u64 A, .int .u64 B] w fun e w' => e = .returned (.int .u64 d) ∧ w' = w)
    (cp : ∀ w, Calls Try.prog 9 #[.int .u64 A, .int .u64 B] w fun e w' => e = .returned (.int .u64 p) ∧ w' = w)
    (ce : ∀ w, Calls Try.prog 13 #[.int .i64 a] w fun e' w' => e' = .returned (.int .u64 e) ∧ w' = w)
    (cl : ∀ w, Calls Try.prog 14 #[.int .u64 A] w fun e w' => e = .returned (.int .i64 l) ∧ w' = w)
    (cr : ∀ w, Calls Try.prog 15 #[.int .i64 b] w fun e w' => e = .returned (.int .u64 r) ∧ w' = w)
    (rs : ∀ w, Calls Try.prog 17 #[nm A, nm B] w fun e w' => e = .returned (nm s) ∧ Gw w w')
    (rd : ∀ w, Calls Try.prog 18 #[nm A, nm B] w fun e w' => e = .returned (nm d) ∧ Gw w w')
    (rp : ∀ w, Calls Try.prog 19 #[nm A, nm B] w fun e w' => e = .returned (nm p) ∧ Gw w w')
    (re : ∀ w, Calls Try.prog 20 #[.int .i64 a] w fun e' w' => e' = .returned (nm e) ∧ Gw w w')
    (rl : ∀ w, Calls Try.prog 21 #[nm A] w fun e w' => e = .returned (.int .i64 l) ∧ Gw w w')
    (rr : ∀ w, Calls Try.prog 22 #[.int .i64 b] w fun e w' => e = .returned (nm r) ∧ Gw w w') :
    Calls Try.prog 3 #[.int .i64 a, .int .i64 b] w fun e w' => e = .returned (.bool true) ∧ Gw w w' := by
  go_enter Try.func3, Try.ntmps3
  go_wp2_with (first
    | (go_at_call 9; first | (refine (co _).mono ?_; rintro e w' ⟨rfl, hw⟩; subst w'; clear co) | (refine (cp _).mono ?_; rintro e w' ⟨rfl, hw⟩; subst w'; clear cp))
    | (go_at_call 10; first | (refine (cx _).mono ?_; rintro e w1 ⟨rfl, g1⟩; clear cx) | ((refine (cy _).mono ?_; rintro e w2 ⟨rfl, g2⟩; clear cy; have h12 : w1.heap.size < w2.heap.size := (by have := g2.1.size; simp at this; omega); have G2 : Gw w w2 := (g1.alloc _ _).trans g2; have qx0 := g2.at (b := w1.heap.size) (o := 0) (v := .int .i64 (A / 4294967296)) (by simp [go_sem]); have qx1 := g2.at (b := w1.heap.size) (o := 1) (v := .int .i64 (A % 4294967296)) (by simp [go_sem]))))
    | (go_at_call 11; refine (cs _).mono ?_; rintro e w' ⟨rfl, hw⟩; subst w'; clear cs)
    | (go_at_call 12; refine (cd _).mono ?_; rintro e w' ⟨rfl, hw⟩; subst w'; clear cd)
    | (go_at_call 13; refine (ce _).mono ?_; rintro e w' ⟨rfl, hw⟩; subst w'; clear ce)
    | (go_at_call 14; refine (cl _).mono ?_; rintro e w' ⟨rfl, hw⟩; subst w'; clear cl)
    | (go_at_call 15; refine (cr _).mono ?_; rintro e w' ⟨rfl, hw⟩; subst w'; clear cr)
    | (go_at_call 16; refine (is_same _ (by assumption) (by assumption) _).mono ?_; rintro e w' ⟨rfl, hg⟩; have G : Gw w w' := Gw.trans (by repeat (first | assumption | exact Gw.refl _ | apply Gw.drew | apply Gw.alloc | refine Gw.setCell ?_ (by first | (simp; done) | (simp; omega)) _)) hg; have kx0 := hg.at (b := w1.heap.size) (o := 0) (v := .int .i64 (A / 4294967296)) (by first | assumption | simp [go_sem, qx0, h12]); have kx1 := hg.at (b := w1.heap.size) (o := 1) (v := .int .i64 (A % 4294967296)) (by first | assumption | simp [go_sem, qx1, h12]); have ky0 := hg.at (b := w2.heap.size) (o := 0) (v := .int .i64 (B / 4294967296)) (by first | assumption | simp [go_sem]); have ky1 := hg.at (b := w2.heap.size) (o := 1) (v := .int .i64 (B % 4294967296)) (by first | assumption | simp [go_sem]); clear hg)
    | (go_at_call 17; refine (rs _).mono ?_; rintro e w' ⟨rfl, hg⟩; have G : Gw w w' := Gw.trans (by repeat (first | assumption | exact Gw.refl _ | apply Gw.drew | apply Gw.alloc | refine Gw.setCell ?_ (by first | (simp; done) | (simp; omega)) _)) hg; have kx0 := hg.at (b := w1.heap.size) (o := 0) (v := .int .i64 (A / 4294967296)) (by first | assumption | simp [go_sem, qx0, h12]); have kx1 := hg.at (b := w1.heap.size) (o := 1) (v := .int .i64 (A % 4294967296)) (by first | assumption | simp [go_sem, qx1, h12]); have ky0 := hg.at (b := w2.heap.size) (o := 0) (v := .int .i64 (B / 4294967296)) (by first | assumption | simp [go_sem]); have ky1 := hg.at (b := w2.heap.size) (o := 1) (v := .int .i64 (B % 4294967296)) (by first | assumption | simp [go_sem]); clear hg; clear rs)
    | (go_at_call 18; refine (rd _).mono ?_; rintro e w' ⟨rfl, hg⟩; have G : Gw w w' := Gw.trans (by repeat (first | assumption | exact Gw.refl _ | apply Gw.drew | apply Gw.alloc | refine Gw.setCell ?_ (by first | (simp; done) | (simp; omega)) _)) hg; have kx0 := hg.at (b := w1.heap.size) (o := 0) (v := .int .i64 (A / 4294967296)) (by first | assumption | simp [go_sem, qx0, h12]); have kx1 := hg.at (b := w1.heap.size) (o := 1) (v := .int .i64 (A % 4294967296)) (by first | assumption | simp [go_sem, qx1, h12]); have ky0 := hg.at (b := w2.heap.size) (o := 0) (v := .int .i64 (B / 4294967296)) (by first | assumption | simp [go_sem]); have ky1 := hg.at (b := w2.heap.size) (o := 1) (v := .int .i64 (B % 4294967296)) (by first | assumption | simp [go_sem]); clear hg; clear rd)
    | (go_at_call 19; refine (rp _).mono ?_; rintro e w' ⟨rfl, hg⟩; have G : Gw w w' := Gw.trans (by repeat (first | assumption | exact Gw.refl _ | apply Gw.drew | apply Gw.alloc | refine Gw.setCell ?_ (by first | (simp; done) | (simp; omega)) _)) hg; have kx0 := hg.at (b := w1.heap.size) (o := 0) (v := .int .i64 (A / 4294967296)) (by first | assumption | simp [go_sem, qx0, h12]); have kx1 := hg.at (b := w1.heap.size) (o := 1) (v := .int .i64 (A % 4294967296)) (by first | assumption | simp [go_sem, qx1, h12]); have ky0 := hg.at (b := w2.heap.size) (o := 0) (v := .int .i64 (B / 4294967296)) (by first | assumption | simp [go_sem]); have ky1 := hg.at (b := w2.heap.size) (o := 1) (v := .int .i64 (B % 4294967296)) (by first | assumption | simp [go_sem]); clear hg; clear rp)
    | (go_at_call 20; refine (re _).mono ?_; rintro e w' ⟨rfl, hg⟩; have G : Gw w w' := Gw.trans (by repeat (first | assumption | exact Gw.refl _ | apply Gw.drew | apply Gw.alloc | refine Gw.setCell ?_ (by first | (simp; done) | (simp; omega)) _)) hg; have kx0 := hg.at (b := w1.heap.size) (o := 0) (v := .int .i64 (A / 4294967296)) (by first | assumption | simp [go_sem, qx0, h12]); have kx1 := hg.at (b := w1.heap.size) (o := 1) (v := .int .i64 (A % 4294967296)) (by first | assumption | simp [go_sem, qx1, h12]); have ky0 := hg.at (b := w2.heap.size) (o := 0) (v := .int .i64 (B / 4294967296)) (by first | assumption | simp [go_sem]); have ky1 := hg.at (b := w2.heap.size) (o := 1) (v := .int .i64 (B % 4294967296)) (by first | assumption | simp [go_sem]); clear hg; clear re)
    | (go_at_call 21; refine (rl _).mono ?_; rintro e w' ⟨rfl, hg⟩; have G : Gw w w' := Gw.trans (by repeat (first | assumption | exact Gw.refl _ | apply Gw.drew | apply Gw.alloc | refine Gw.setCell ?_ (by first | (simp; done) | (simp; omega)) _)) hg; have kx0 := hg.at (b := w1.heap.size) (o := 0) (v := .int .i64 (A / 4294967296)) (by first | assumption | simp [go_sem, qx0, h12]); have kx1 := hg.at (b := w1.heap.size) (o := 1) (v := .int .i64 (A % 4294967296)) (by first | assumption | simp [go_sem, qx1, h12]); have ky0 := hg.at (b := w2.heap.size) (o := 0) (v := .int .i64 (B / 4294967296)) (by first | assumption | simp [go_sem]); have ky1 := hg.at (b := w2.heap.size) (o := 1) (v := .int .i64 (B % 4294967296)) (by first | assumption | simp [go_sem]); clear hg; clear rl)
    | (go_at_call 22; refine (rr _).mono ?_; rintro e w' ⟨rfl, hg⟩; have G : Gw w w' := Gw.trans (by repeat (first | assumption | exact Gw.refl _ | apply Gw.drew | apply Gw.alloc | refine Gw.setCell ?_ (by first | (simp; done) | (simp; omega)) _)) hg; have kx0 := hg.at (b := w1.heap.size) (o := 0) (v := .int .i64 (A / 4294967296)) (by first | assumption | simp [go_sem, qx0, h12]); have kx1 := hg.at (b := w1.heap.size) (o := 1) (v := .int .i64 (A % 4294967296)) (by first | assumption | simp [go_sem, qx1, h12]); have ky0 := hg.at (b := w2.heap.size) (o := 0) (v := .int .i64 (B / 4294967296)) (by first | assumption | simp [go_sem]); have ky1 := hg.at (b := w2.heap.size) (o := 1) (v := .int .i64 (B % 4294967296)) (by first | assumption | simp [go_sem]); clear hg; clear rr))
  go_ret
  exact ⟨rfl, ‹_›⟩

theorem numbers_walk (a0 : Int) (a1 : Int) (w0 : (Lit.int .i64 a0).wf = true) (w1 : (Lit.int .i64 a1).wf = true) (w : World) :
    Calls Try.prog 3 #[.int .i64 a0, .int .i64 a1] w fun e w' => e = .returned (.bool true) ∧ Grown w w' := by
  have ha := bounds_i64 w0
  have hb := bounds_i64 w1
  have hA : IntKind.u64.wrap a0 = a0 % 18446744073709551616 := by rw [IntKind.wrap_u64]
  have hB : IntKind.u64.wrap a1 = a1 % 18446744073709551616 := by rw [IntKind.wrap_u64]
  have A0 : 0 ≤ a0 % 18446744073709551616 := by omega
  have A1 : a0 % 18446744073709551616 ≤ 18446744073709551615 := by omega
  have B0 : 0 ≤ a1 % 18446744073709551616 := by omega
  have B1 : a1 % 18446744073709551616 ≤ 18446744073709551615 := by omega
  have bs := md_bd (a0 % 18446744073709551616 + a1 % 18446744073709551616)
  have bd := md_bd (a0 % 18446744073709551616 - a1 % 18446744073709551616)
  have bp := md_bd (a0 % 18446744073709551616 * (a1 % 18446744073709551616))
  have be := md_bd a0
  have co := mul_any 4294967296 4294967296 (by omega) (by omega) (by omega) (by omega)
  rw [show (4294967296 * 4294967296 : Int) % PP = 4294967295 by decide] at co
  obtain ⟨r, r0, r1, cr, rr⟩ : ∃ r : Int, 0 ≤ r ∧ r ≤ 18446744073709551615 ∧ (∀ w, Calls Try.prog 15 #[.int .i64 a1] w fun e w' => e = .returned (.int .u64 r) ∧ w' = w) ∧ (∀ w, Calls Try.prog 22 #[.int .i64 a1] w fun e w' => e = .returned (nm r) ∧ Gw w w') := by
    by_cases h : ∃ k, k ≤ 32 ∧ a1 = ((2 ^ k : Nat) : Int)
    · obtain ⟨k, hk, rfl⟩ := h
      have br := pw_bd 7 (rootE k)
      exact ⟨rootk k, br.1, Int.le_trans br.2 (by omega), root_yes k hk, rootr_yes k hk⟩
    · exact ⟨0, by omega, by omega, root_no a1 h, rootr_no a1 h⟩
  refine (numbers_core a0 a1 _ _ _ _ _ _ _ r w hA hB bs.1 (Int.le_trans bs.2 (by omega)) bd.1 (Int.le_trans bd.2 (by omega)) bp.1 (Int.le_trans bp.2 (by omega)) be.1 (Int.le_trans be.2 (by omega)) r0 r1 co (of_ref a0) (of_ref a1)
    (add_any _ _ A0 A1 B0 B1) (sub_any _ _ A0 A1 B0 B1) (mul_any _ _ A0 A1 B0 B1) (embed_any a0 ha.1 ha.2) (lift_any _ A0 A1) cr
    (addr_ref _ _ A0 A1 B0 B1) (subr_ref _ _ A0 A1 B0 B1) (mulr_ref _ _ A0 A1 B0 B1) (embedr_ref a0 ha.1 ha.2) (liftr_ref _ A0 A1) rr).mono ?_
  exact fun e w' h => ⟨h.1, h.2.grown⟩

end Go.Proofs.Ytddpcjgekfmhkaa
