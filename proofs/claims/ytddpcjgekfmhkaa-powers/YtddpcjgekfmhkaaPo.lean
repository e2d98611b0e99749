/- The statement Powers, walked. -/
import Derived.Test.YtddpcjgekfmhkaaNu
import Derived.Test.YtddpcjgekfmhkaaRl
namespace Go.Proofs.Ytddpcjgekfmhkaa
open Go.RowKit
set_option linter.unusedSimpArgs false
set_option linter.unusedVariables false

set_option maxHeartbeats 2000000 in
theorem powers_core (a n A N p i : Int) (w : World)
    (hA : IntKind.u64.wrap a = A) (hN : IntKind.u64.wrap n = N)
    (p0 : 0 ≤ p) (p1 : p ≤ 18446744073709551615) (i0 : 0 ≤ i) (i1 : i ≤ 18446744073709551615)
    (co : ∀ w, Calls Try.prog 23 #[.int .u64 2] w fun e w' => e = .returned (.int .u64 9223372034707292161) ∧ w' = w)
    (cx : ∀ w, Calls Try.prog 10 #[.int .i64 a] w fun e w' => e = .returned (nm A) ∧ Gw w w')
    (cn : ∀ w, Calls Try.prog 10 #[.int .i64 n] w fun e w' => e = .returned (nm N) ∧ Gw w w')
    (cp : ∀ w, Calls Try.prog 24 #[.int .u64 A, .int .u64 N] w fun e w' => e = .returned (.int .u64 p) ∧ w' = w)
    (ci : ∀ w, Calls Try.prog 23 #[.int .u64 A] w fun e w' => e = .returned (.int .u64 i) ∧ w' = w)
    (rp : ∀ w, Calls Try.prog 25 #[nm A, nm N] w fun e w' => e = .returned (nm p) ∧ Gw w w')
    (ri : ∀ w, Calls Try.prog 26 #[nm A] w fun e w' => e = .returned (nm i) ∧ Gw w w') :
    Calls Try.prog 4 #[.int .i64 a, .int .i64 n] w fun e w' => e = .returned (.bool true) ∧ Gw w w' := by
  have ip := is_same p p0 p1
  have ii := is_same i i0 i1
  clear p0 p1 i0 i1
  go_enter Try.func4, Try.ntmps4
  go_wp2_with (first
    | (go_at_call 23; first | (refine (co _).mono ?_; rintro e w' ⟨rfl, hw⟩; subst w'; clear co) | (refine (ci _).mono ?_; rintro e w' ⟨rfl, hw⟩; subst w'; clear ci))
    | (go_at_call 10; refine (cx _).mono ?_; rintro e w1 ⟨rfl, g1⟩; clear cx)
    | (go_at_call 24; refine (cp _).mono ?_; rintro e w' ⟨rfl, hw⟩; subst w'; clear cp))
  go_region_held3 (fun W => W.cell? ⟨w1.heap.size, 0, none⟩ = some (.int .i64 (A / 4294967296)) ∧ W.cell? ⟨w1.heap.size, 1, none⟩ = some (.int .i64 (A % 4294967296)) ∧ Gw w W)
    (first
      | (go_split_ands; exact ⟨hg.at ‹_›, hg.at ‹_›, Gw.trans ‹_› hg⟩)
      | (exact ⟨by simp [go_sem], by simp [go_sem], (by repeat (first | assumption | exact Gw.refl _ | apply Gw.drew | apply Gw.alloc | refine Gw.setCell ?_ (by first | (simp; done) | (simp; omega)) _))⟩))
    (first
      | (go_at_call 10; refine (cn _).mono ?_; rintro e w' ⟨rfl, hg⟩)
      | (go_at_call 25; refine (rp _).mono ?_; rintro e w' ⟨rfl, hg⟩)
      | (go_at_call 26; refine (ri _).mono ?_; rintro e w' ⟨rfl, hg⟩)
      | (go_at_call 16; first | (refine (ip _).mono ?_; rintro e w' ⟨rfl, hg⟩; clear ip) | (refine (ii _).mono ?_; rintro e w' ⟨rfl, hg⟩)))
  go_split_ands
  go_wp2
  go_ret
  exact ⟨rfl, ‹_›⟩

theorem inv_two : pw 2 invE = 9223372034707292161 := by rw [← pwf_eq 64 _ _ (by decide)]; decide +kernel

theorem powers_walk (a0 : Int) (a1 : Int) (w0 : (Lit.int .i64 a0).wf = true) (w1 : (Lit.int .i64 a1).wf = true) (w : World) :
    Calls Try.prog 4 #[.int .i64 a0, .int .i64 a1] w fun e w' => e = .returned (.bool true) ∧ Grown w w' := by
  have hA : IntKind.u64.wrap a0 = a0 % 18446744073709551616 := by rw [IntKind.wrap_u64]
  have hB : IntKind.u64.wrap a1 = a1 % 18446744073709551616 := by rw [IntKind.wrap_u64]
  have A0 : 0 ≤ a0 % 18446744073709551616 := by omega
  have A1 : a0 % 18446744073709551616 ≤ 18446744073709551615 := by omega
  obtain ⟨n, hn⟩ : ∃ n : Nat, a1 % 18446744073709551616 = n := ⟨(a1 % 18446744073709551616).toNat, by omega⟩
  have cn := of_ref a1
  rw [hn] at cn hB
  have n1 : n ≤ 18446744073709551615 := by omega
  have bp := pw_bd (a0 % 18446744073709551616) n
  have bi := pw_bd (a0 % 18446744073709551616) invE
  have co := inv_any 2 (by omega) (by omega)
  rw [inv_two] at co
  refine (powers_core a0 a1 _ n _ _ w hA hB bp.1 (Int.le_trans bp.2 (by omega)) bi.1 (Int.le_trans bi.2 (by omega)) co (of_ref a0) cn
    (pow_any _ n A0 A1 n1) (inv_any _ A0 A1) (powr_ref _ n A0 A1 n1) (invr_ref _ A0 A1)).mono ?_
  exact fun e w' h => ⟨h.1, h.2.grown⟩

end Go.Proofs.Ytddpcjgekfmhkaa
