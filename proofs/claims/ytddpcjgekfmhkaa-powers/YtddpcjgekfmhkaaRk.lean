/- The document's own answer, walked on: Pow. -/
import Derived.Test.YtddpcjgekfmhkaaRj
namespace Go.Proofs.Ytddpcjgekfmhkaa
open Go.RowKit
set_option linter.unusedSimpArgs false

theorem bit_cast (n i : Nat) : (n : Int) / 2 ^ i % 2 = ((n / 2 ^ i % 2 : Nat) : Int) := by norm_cast

set_option maxHeartbeats 2000000 in
theorem powr_core (a y : Int) (n : Nat) (w : World) (hy : y = n) (hn : Hid (n ≤ 18446744073709551615)) (ha : Hid (0 ≤ a ∧ a ≤ 18446744073709551615)) :
    Calls Try.prog 25 #[nm a, nm y] w fun e w' => e = .returned (nm (pw a n)) ∧ Gw w w' := by
  have HT : Hid (pw a (n / 2 ^ 64) = 1) := by
    have e : n / 2 ^ 64 = 0 := by rw [show 2 ^ 64 = 18446744073709551616 by decide]; have := hn.out; omega
    show pw a (n / 2 ^ 64) = 1
    rw [e, pw_zero]
  have HY : Hid (y = n) := hy
  clear hy
  go_enter Try.func25, Try.ntmps25
  go_wp2
  obtain ⟨m, hm⟩ : ∃ m, m = w.heap.size + 3 := ⟨_, rfl⟩
  have hnm : w.heap.size + 2 < m := by omega
  have HFour : Four w.heap.size m a y (pw a (n / 2 ^ 64)) w ((((w.alloc (Obj.cells #[Value.int IntKind.i64 (a / 4294967296), Value.int IntKind.i64 (a % 4294967296)] 25)).alloc (Obj.cells #[Value.int IntKind.i64 (y / 4294967296), Value.int IntKind.i64 (y % 4294967296)] 25)).alloc (Obj.cells #[Value.int IntKind.i64 0, Value.int IntKind.i64 0] 25)).alloc (Obj.cells #[Value.int IntKind.i64 0, Value.int IntKind.i64 1] 25)) := by
    rw [HT.out, hm]
    refine ⟨?_, ?_, ?_, ?_, ?_, ?_, ?_, ?_, (by repeat (first | assumption | exact Gw.refl _ | apply Gw.drew | apply Gw.alloc | refine Gw.setCell ?_ (by first | (simp; done) | (simp; omega) | exact hle) _))⟩
    all_goals simp [go_sem]
  clear HT
  rw [show w.heap.size + 1 + 1 + 1 = m from hm.symm]
  generalize (((w.alloc (Obj.cells #[Value.int IntKind.i64 (a / 4294967296), Value.int IntKind.i64 (a % 4294967296)] 25)).alloc (Obj.cells #[Value.int IntKind.i64 (y / 4294967296), Value.int IntKind.i64 (y % 4294967296)] 25)).alloc (Obj.cells #[Value.int IntKind.i64 0, Value.int IntKind.i64 0] 25)).alloc (Obj.cells #[Value.int IntKind.i64 0, Value.int IntKind.i64 1] 25) = w2 at *
  clear hm
  go_loopw [6] (fun k wr => ∃ j : Nat, j ≤ 64 ∧ k = .int .i64 ((j : Int) - 1) ∧ Four w.heap.size m a y (pw a (n / 2 ^ j)) w wr) (fun k _ => (intOf k + 1).toNat)
  case atStart => exact ⟨64, by omega, rfl, HFour⟩
  case round =>
    obtain ⟨j, hj, rfl, F⟩ := hrel
    have ra0 := F.a0; have ra1 := F.a1; have rb0 := F.b0; have rb1 := F.b1; have rc0 := F.c0; have rc1 := F.c1; have rx0 := F.x0; have rx1 := F.x1; have G := F.g
    clear F
    cases j with
    | zero =>
      have f2 : ∀ o, wr.frozen? ⟨w.heap.size + 2, o, none⟩ = false := fun o => G.fz (by omega)
      have hle : w.heap.size ≤ m := by omega
      rw [Nat.pow_zero, Nat.div_one] at rx0 rx1
      clear HFour
      go_wp2
      exact bodyPost_ret (v := nm (pw a n)) (by simp [results, Try.results25, go_sem, rc0, rc1]) rfl ⟨rfl, (by repeat (first | assumption | exact Gw.refl _ | apply Gw.drew | apply Gw.alloc | refine Gw.setCell ?_ (by first | (simp; done) | (simp; omega) | exact hle) _))⟩
    | succ i =>
      have bv := pw_bd a (n / 2 ^ (i + 1))
      have c1 := mulr_ref (pw a (n / 2 ^ (i + 1))) (pw a (n / 2 ^ (i + 1))) (by omega) (by omega) (by omega) (by omega)
      have bv2 := md_bd (pw a (n / 2 ^ (i + 1)) * pw a (n / 2 ^ (i + 1)))
      have c2 := mulr_ref _ a bv2.1 (Int.le_trans bv2.2 (by omega)) ha.out.1 ha.out.2
      have cb := bit_ref y i (by omega)
      have hbc : y / 2 ^ i % 2 = ((n / 2 ^ i % 2 : Nat) : Int) := by rw [HY.out]; exact bit_cast n i
      rw [hbc] at cb
      have ek : ((i + 1 : Nat) : Int) - 1 = (i : Int) := by omega
      rw [ek]
      clear bv bv2 ha hn HY hbc
      have hnm1 : ¬ m = w.heap.size := by omega
      have hnm2 : ¬ m = w.heap.size + 1 := by omega
      have hnm3 : ¬ m = w.heap.size + 2 := by omega
      have hmn1 : ¬ w.heap.size = m := by omega
      have hmn2 : ¬ w.heap.size + 1 = m := by omega
      have hmn3 : ¬ w.heap.size + 2 = m := by omega
      have hle : w.heap.size ≤ m := by omega
      clear HFour
      rcases Nat.mod_two_eq_zero_or_one (n / 2 ^ i) with hbit | hbit
      · have HB := pow_bit0 a n i hbit
        rw [hbit] at cb
        obtain ⟨v3, hv3⟩ : ∃ v3, pw a (n / 2 ^ i) = v3 := ⟨_, rfl⟩
        rw [hv3] at HB
        have H3 : Hid (pw a (n / 2 ^ i) = v3) := hv3
        rw [HB] at c1
        clear hv3 HB hbit c2
        generalize pw a (n / 2 ^ (i + 1)) = v at *
        have f0 := fun o => G.fz (b := m) (o := o) (by omega)
        have cb : ∀ w, Calls Try.prog 49 #[nm y, .int .i64 i] w fun e w' => e = .returned (.int .i64 0) ∧ Gw w w' := cb
        go_wp2_with (first | (go_at_call 19; refine (c1 _).mono ?_; rintro e w' ⟨rfl, hg⟩; have G : Gw w w' := Gw.trans (by repeat (first | assumption | exact Gw.refl _ | apply Gw.drew | apply Gw.alloc | refine Gw.setCell ?_ (by first | (simp; done) | (simp; omega) | exact hle) _)) hg; have sa0 := hg.at (b := w.heap.size) (o := 0) (v := .int .i64 (a / 4294967296)) (by simp [go_sem, ra0, ra1, rb0, rb1, rc0, rc1, rx0, rx1]); have sa1 := hg.at (b := w.heap.size) (o := 1) (v := .int .i64 (a % 4294967296)) (by simp [go_sem, ra0, ra1, rb0, rb1, rc0, rc1, rx0, rx1]); have sb0 := hg.at (b := w.heap.size + 1) (o := 0) (v := .int .i64 (y / 4294967296)) (by simp [go_sem, ra0, ra1, rb0, rb1, rc0, rc1, rx0, rx1]); have sb1 := hg.at (b := w.heap.size + 1) (o := 1) (v := .int .i64 (y % 4294967296)) (by simp [go_sem, ra0, ra1, rb0, rb1, rc0, rc1, rx0, rx1]); have sc0 := hg.at (b := w.heap.size + 2) (o := 0) (v := .int .i64 0) (by simp [go_sem, ra0, ra1, rb0, rb1, rc0, rc1, rx0, rx1]); have sc1 := hg.at (b := w.heap.size + 2) (o := 1) (v := .int .i64 0) (by simp [go_sem, ra0, ra1, rb0, rb1, rc0, rc1, rx0, rx1]); have sx0 := hg.at (b := m) (o := 0) (v := .int .i64 (v / 4294967296)) (by simp [go_sem, ra0, ra1, rb0, rb1, rc0, rc1, rx0, rx1]); have sx1 := hg.at (b := m) (o := 1) (v := .int .i64 (v % 4294967296)) (by simp [go_sem, ra0, ra1, rb0, rb1, rc0, rc1, rx0, rx1]); have hF := hg.frozens; clear hg; clear c1 ra0 ra1 rb0 rb1 rc0 rc1 rx0 rx1) | (go_at_call 49; refine (cb _).mono ?_; rintro e w' ⟨rfl, hg⟩; have G : Gw w w' := Gw.trans (by repeat (first | assumption | exact Gw.refl _ | apply Gw.drew | apply Gw.alloc | refine Gw.setCell ?_ (by first | (simp; done) | (simp; omega) | exact hle) _)) hg; have ta0 := hg.at (b := w.heap.size) (o := 0) (v := .int .i64 (a / 4294967296)) (by simp [go_sem, sa0, sa1, sb0, sb1, sc0, sc1, sx0, sx1, hnm1, hnm2, hnm3, hmn1, hmn2, hmn3]); have ta1 := hg.at (b := w.heap.size) (o := 1) (v := .int .i64 (a % 4294967296)) (by simp [go_sem, sa0, sa1, sb0, sb1, sc0, sc1, sx0, sx1, hnm1, hnm2, hnm3, hmn1, hmn2, hmn3]); have tb0 := hg.at (b := w.heap.size + 1) (o := 0) (v := .int .i64 (y / 4294967296)) (by simp [go_sem, sa0, sa1, sb0, sb1, sc0, sc1, sx0, sx1, hnm1, hnm2, hnm3, hmn1, hmn2, hmn3]); have tb1 := hg.at (b := w.heap.size + 1) (o := 1) (v := .int .i64 (y % 4294967296)) (by simp [go_sem, sa0, sa1, sb0, sb1, sc0, sc1, sx0, sx1, hnm1, hnm2, hnm3, hmn1, hmn2, hmn3]); have tc0 := hg.at (b := w.heap.size + 2) (o := 0) (v := .int .i64 0) (by simp [go_sem, sa0, sa1, sb0, sb1, sc0, sc1, sx0, sx1, hnm1, hnm2, hnm3, hmn1, hmn2, hmn3]); have tc1 := hg.at (b := w.heap.size + 2) (o := 1) (v := .int .i64 0) (by simp [go_sem, sa0, sa1, sb0, sb1, sc0, sc1, sx0, sx1, hnm1, hnm2, hnm3, hmn1, hmn2, hmn3]); have tx0 := hg.at (b := m) (o := 0) (v := .int .i64 (v3 / 4294967296)) (by simp [go_sem, sa0, sa1, sb0, sb1, sc0, sc1, sx0, sx1, hnm1, hnm2, hnm3, hmn1, hmn2, hmn3]); have tx1 := hg.at (b := m) (o := 1) (v := .int .i64 (v3 % 4294967296)) (by simp [go_sem, sa0, sa1, sb0, sb1, sc0, sc1, sx0, sx1, hnm1, hnm2, hnm3, hmn1, hmn2, hmn3]); have hF := hg.frozens; clear hg; clear cb sa0 sa1 sb0 sb1 sc0 sc1 sx0 sx1))
        go_roundw
        case rel => exact ⟨i, by omega, by go_num, by rw [H3.out]; exact ⟨ta0, ta1, tb0, tb1, tc0, tc1, tx0, tx1, G⟩⟩
        case measure => simp [intOf]
      · have HB := pow_bit1 a n i hbit
        rw [hbit] at cb
        obtain ⟨v3, hv3⟩ : ∃ v3, pw a (n / 2 ^ i) = v3 := ⟨_, rfl⟩
        rw [hv3] at HB
        have H3 : Hid (pw a (n / 2 ^ i) = v3) := hv3
        rw [HB] at c2
        clear hv3 HB hbit
        generalize pw a (n / 2 ^ (i + 1)) = v at *
        generalize (v * v) % PP = v2 at *
        have f0 := fun o => G.fz (b := m) (o := o) (by omega)
        have cb : ∀ w, Calls Try.prog 49 #[nm y, .int .i64 i] w fun e w' => e = .returned (.int .i64 1) ∧ Gw w w' := cb
        go_wp2_with (first | (go_at_call 19; first | (refine (c1 _).mono ?_; rintro e w' ⟨rfl, hg⟩; have G : Gw w w' := Gw.trans (by repeat (first | assumption | exact Gw.refl _ | apply Gw.drew | apply Gw.alloc | refine Gw.setCell ?_ (by first | (simp; done) | (simp; omega) | exact hle) _)) hg; have sa0 := hg.at (b := w.heap.size) (o := 0) (v := .int .i64 (a / 4294967296)) (by simp [go_sem, ra0, ra1, rb0, rb1, rc0, rc1, rx0, rx1]); have sa1 := hg.at (b := w.heap.size) (o := 1) (v := .int .i64 (a % 4294967296)) (by simp [go_sem, ra0, ra1, rb0, rb1, rc0, rc1, rx0, rx1]); have sb0 := hg.at (b := w.heap.size + 1) (o := 0) (v := .int .i64 (y / 4294967296)) (by simp [go_sem, ra0, ra1, rb0, rb1, rc0, rc1, rx0, rx1]); have sb1 := hg.at (b := w.heap.size + 1) (o := 1) (v := .int .i64 (y % 4294967296)) (by simp [go_sem, ra0, ra1, rb0, rb1, rc0, rc1, rx0, rx1]); have sc0 := hg.at (b := w.heap.size + 2) (o := 0) (v := .int .i64 0) (by simp [go_sem, ra0, ra1, rb0, rb1, rc0, rc1, rx0, rx1]); have sc1 := hg.at (b := w.heap.size + 2) (o := 1) (v := .int .i64 0) (by simp [go_sem, ra0, ra1, rb0, rb1, rc0, rc1, rx0, rx1]); have sx0 := hg.at (b := m) (o := 0) (v := .int .i64 (v / 4294967296)) (by simp [go_sem, ra0, ra1, rb0, rb1, rc0, rc1, rx0, rx1]); have sx1 := hg.at (b := m) (o := 1) (v := .int .i64 (v % 4294967296)) (by simp [go_sem, ra0, ra1, rb0, rb1, rc0, rc1, rx0, rx1]); have hF := hg.frozens; clear hg; clear c1 ra0 ra1 rb0 rb1 rc0 rc1 rx0 rx1) | (refine (c2 _).mono ?_; rintro e w' ⟨rfl, hg⟩; have G : Gw w w' := Gw.trans (by repeat (first | assumption | exact Gw.refl _ | apply Gw.drew | apply Gw.alloc | refine Gw.setCell ?_ (by first | (simp; done) | (simp; omega) | exact hle) _)) hg; have ua0 := hg.at (b := w.heap.size) (o := 0) (v := .int .i64 (a / 4294967296)) (by simp [go_sem, ta0, ta1, tb0, tb1, tc0, tc1, tx0, tx1]); have ua1 := hg.at (b := w.heap.size) (o := 1) (v := .int .i64 (a % 4294967296)) (by simp [go_sem, ta0, ta1, tb0, tb1, tc0, tc1, tx0, tx1]); have ub0 := hg.at (b := w.heap.size + 1) (o := 0) (v := .int .i64 (y / 4294967296)) (by simp [go_sem, ta0, ta1, tb0, tb1, tc0, tc1, tx0, tx1]); have ub1 := hg.at (b := w.heap.size + 1) (o := 1) (v := .int .i64 (y % 4294967296)) (by simp [go_sem, ta0, ta1, tb0, tb1, tc0, tc1, tx0, tx1]); have uc0 := hg.at (b := w.heap.size + 2) (o := 0) (v := .int .i64 0) (by simp [go_sem, ta0, ta1, tb0, tb1, tc0, tc1, tx0, tx1]); have uc1 := hg.at (b := w.heap.size + 2) (o := 1) (v := .int .i64 0) (by simp [go_sem, ta0, ta1, tb0, tb1, tc0, tc1, tx0, tx1]); have ux0 := hg.at (b := m) (o := 0) (v := .int .i64 (v2 / 4294967296)) (by simp [go_sem, ta0, ta1, tb0, tb1, tc0, tc1, tx0, tx1]); have ux1 := hg.at (b := m) (o := 1) (v := .int .i64 (v2 % 4294967296)) (by simp [go_sem, ta0, ta1, tb0, tb1, tc0, tc1, tx0, tx1]); have hF := hg.frozens; clear hg; clear c2 ta0 ta1 tb0 tb1 tc0 tc1 tx0 tx1)) | (go_at_call 49; refine (cb _).mono ?_; rintro e w' ⟨rfl, hg⟩; have G : Gw w w' := Gw.trans (by repeat (first | assumption | exact Gw.refl _ | apply Gw.drew | apply Gw.alloc | refine Gw.setCell ?_ (by first | (simp; done) | (simp; omega) | exact hle) _)) hg; have ta0 := hg.at (b := w.heap.size) (o := 0) (v := .int .i64 (a / 4294967296)) (by simp [go_sem, sa0, sa1, sb0, sb1, sc0, sc1, sx0, sx1, hnm1, hnm2, hnm3, hmn1, hmn2, hmn3]); have ta1 := hg.at (b := w.heap.size) (o := 1) (v := .int .i64 (a % 4294967296)) (by simp [go_sem, sa0, sa1, sb0, sb1, sc0, sc1, sx0, sx1, hnm1, hnm2, hnm3, hmn1, hmn2, hmn3]); have tb0 := hg.at (b := w.heap.size + 1) (o := 0) (v := .int .i64 (y / 4294967296)) (by simp [go_sem, sa0, sa1, sb0, sb1, sc0, sc1, sx0, sx1, hnm1, hnm2, hnm3, hmn1, hmn2, hmn3]); have tb1 := hg.at (b := w.heap.size + 1) (o := 1) (v := .int .i64 (y % 4294967296)) (by simp [go_sem, sa0, sa1, sb0, sb1, sc0, sc1, sx0, sx1, hnm1, hnm2, hnm3, hmn1, hmn2, hmn3]); have tc0 := hg.at (b := w.heap.size + 2) (o := 0) (v := .int .i64 0) (by simp [go_sem, sa0, sa1, sb0, sb1, sc0, sc1, sx0, sx1, hnm1, hnm2, hnm3, hmn1, hmn2, hmn3]); have tc1 := hg.at (b := w.heap.size + 2) (o := 1) (v := .int .i64 0) (by simp [go_sem, sa0, sa1, sb0, sb1, sc0, sc1, sx0, sx1, hnm1, hnm2, hnm3, hmn1, hmn2, hmn3]); have tx0 := hg.at (b := m) (o := 0) (v := .int .i64 (v2 / 4294967296)) (by simp [go_sem, sa0, sa1, sb0, sb1, sc0, sc1, sx0, sx1, hnm1, hnm2, hnm3, hmn1, hmn2, hmn3]); have tx1 := hg.at (b := m) (o := 1) (v := .int .i64 (v2 % 4294967296)) (by simp [go_sem, sa0, sa1, sb0, sb1, sc0, sc1, sx0, sx1, hnm1, hnm2, hnm3, hmn1, hmn2, hmn3]); have hF := hg.frozens; clear hg; clear cb sa0 sa1 sb0 sb1 sc0 sc1 sx0 sx1))
        go_roundw
        case rel => exact ⟨i, by omega, by go_num, by rw [H3.out]; exact ⟨by simp [go_sem, ua0, hmn1], by simp [go_sem, ua1, hmn1], by simp [go_sem, ub0, hmn2], by simp [go_sem, ub1, hmn2], by simp [go_sem, uc0, hmn3], by simp [go_sem, uc1, hmn3], by simp [go_sem, ux0], by simp [go_sem, ux1], (by repeat (first | assumption | exact Gw.refl _ | apply Gw.drew | apply Gw.alloc | refine Gw.setCell ?_ (by first | (simp; done) | (simp; omega) | exact hle) _))⟩⟩
        case measure => simp [intOf]

theorem powr_ref (a : Int) (n : Nat) (a0 : 0 ≤ a) (a1 : a ≤ 18446744073709551615) (hn : n ≤ 18446744073709551615) (w : World) :
    Calls Try.prog 25 #[nm a, nm n] w fun e w' => e = .returned (nm (pw a n)) ∧ Gw w w' := powr_core a n n w rfl hn ⟨a0, a1⟩

end Go.Proofs.Ytddpcjgekfmhkaa
