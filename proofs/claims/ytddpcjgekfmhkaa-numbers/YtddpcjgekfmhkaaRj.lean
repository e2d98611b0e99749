/- The document's own answer, walked on: Mul. -/
import Derived.Test.YtddpcjgekfmhkaaRq
namespace Go.Proofs.Ytddpcjgekfmhkaa
open Go.RowKit
set_option linter.unusedSimpArgs false

/-- Four numbers in four blocks; those that are written may be. -/
structure Four (n m : Nat) (a b x : Int) (w wr : World) : Prop where
  a0 : wr.cell? ⟨n, 0, none⟩ = some (.int .i64 (a / 4294967296))
  a1 : wr.cell? ⟨n, 1, none⟩ = some (.int .i64 (a % 4294967296))
  b0 : wr.cell? ⟨n + 1, 0, none⟩ = some (.int .i64 (b / 4294967296))
  b1 : wr.cell? ⟨n + 1, 1, none⟩ = some (.int .i64 (b % 4294967296))
  c0 : wr.cell? ⟨n + 2, 0, none⟩ = some (.int .i64 0)
  c1 : wr.cell? ⟨n + 2, 1, none⟩ = some (.int .i64 0)
  x0 : wr.cell? ⟨m, 0, none⟩ = some (.int .i64 (x / 4294967296))
  x1 : wr.cell? ⟨m, 1, none⟩ = some (.int .i64 (x % 4294967296))
  g : Gw w wr

theorem Four.start (n m : Nat) (a y : Int) (w w1 : World) (hn : n + 2 < m) (hm : m = w1.heap.size)
    (a0 : w1.cell? ⟨n, 0, none⟩ = some (.int .i64 (a / 4294967296))) (a1 : w1.cell? ⟨n, 1, none⟩ = some (.int .i64 (a % 4294967296)))
    (b0 : w1.cell? ⟨n + 1, 0, none⟩ = some (.int .i64 (y / 4294967296))) (b1 : w1.cell? ⟨n + 1, 1, none⟩ = some (.int .i64 (y % 4294967296)))
    (c0 : w1.cell? ⟨n + 2, 0, none⟩ = some (.int .i64 0)) (c1 : w1.cell? ⟨n + 2, 1, none⟩ = some (.int .i64 0))
    (g : Gw w w1) (t : TypeId) (u v : Int) (hx : u = v / 4294967296) (hy : u = v % 4294967296) :
    Four n m a y v w (w1.alloc (.cells #[.int .i64 u, .int .i64 u] t)) := by
  have past : ∀ b o, b < m → (w1.alloc (.cells #[.int .i64 u, .int .i64 u] t)).cell? ⟨b, o, none⟩ = w1.cell? ⟨b, o, none⟩ := fun b o h => World.cell?_alloc_past _ _ _ (by omega)
  refine ⟨(past _ _ (by omega)).trans a0, (past _ _ (by omega)).trans a1, (past _ _ (by omega)).trans b0, (past _ _ (by omega)).trans b1, (past _ _ (by omega)).trans c0, (past _ _ (by omega)).trans c1, ?_, ?_, g.alloc _ _⟩
  · rw [World.cell?_alloc_at _ _ _ _ hm, ← hx]; rfl
  · rw [World.cell?_alloc_at _ _ _ _ hm, ← hy]; rfl

set_option maxHeartbeats 2000000 in
theorem mulr_core (a b y : Int) (w : World) (hb : Hid (0 ≤ y ∧ y ≤ 18446744069414584320)) (ha : Hid (0 ≤ a ∧ a ≤ 18446744073709551615))
    (cb : ∀ w, Calls Try.prog 46 #[nm b] w fun e w' => e = .returned (nm y) ∧ Gw w w') :
    Calls Try.prog 19 #[nm a, nm b] w fun e w' => e = .returned (nm ((a * y) % PP)) ∧ Gw w w' := by
  have HT : Hid ((a * (y / 2 ^ 64)) % PP = 0) := mul_top a y hb.out.1 (by have := hb.out.2; omega)
  go_enter Try.func19, Try.ntmps19
  go_wp2_with (go_at_call 46; refine (cb _).mono ?_; rintro e w' ⟨rfl, hg⟩; have G : Gw w w' := Gw.trans (by repeat (first | assumption | exact Gw.refl _ | apply Gw.drew | apply Gw.alloc | refine Gw.setCell ?_ (by first | (simp; done) | (simp; omega) | exact hle) _)) hg; have pa0 := hg.at (b := w.heap.size) (o := 0) (v := .int .i64 (a / 4294967296)) (by simp [go_sem]); have pa1 := hg.at (b := w.heap.size) (o := 1) (v := .int .i64 (a % 4294967296)) (by simp [go_sem]); have pb0 := hg.at (b := w.heap.size + 1) (o := 0) (v := .int .i64 (b / 4294967296)) (by simp [go_sem]); have pb1 := hg.at (b := w.heap.size + 1) (o := 1) (v := .int .i64 (b % 4294967296)) (by simp [go_sem]); have pc0 := hg.at (b := w.heap.size + 2) (o := 0) (v := .int .i64 0) (by simp [go_sem]); have pc1 := hg.at (b := w.heap.size + 2) (o := 1) (v := .int .i64 0) (by simp [go_sem]); have hF := hg.frozens; have hZ := hg.1.size; clear hg; clear cb)
  obtain ⟨m, hm⟩ : ∃ m, m = w'.heap.size := ⟨_, rfl⟩
  have hnm : w.heap.size + 2 < m := by simp at hZ; omega
  have HFour : Four w.heap.size m a y ((a * (y / 2 ^ 64)) % PP) w (((w'.setCell ⟨w.heap.size + 1, 0, none⟩ (Value.int IntKind.i64 (y / 4294967296))).setCell ⟨w.heap.size + 1, 1, none⟩ (Value.int IntKind.i64 (y % 4294967296))).alloc (Obj.cells #[Value.int IntKind.i64 0, Value.int IntKind.i64 0] 25)) := by
    rw [HT.out]
    refine Four.start _ m a y w _ hnm (by simp [hm]) ?_ ?_ ?_ ?_ ?_ ?_ (by repeat (first | assumption | exact Gw.refl _ | apply Gw.drew | apply Gw.alloc | refine Gw.setCell ?_ (by first | (simp; done) | (simp; omega) | exact hle) _)) _ 0 0 rfl rfl
    all_goals simp [go_sem, pa0, pa1, pb0, pb1, pc0, pc1]
  clear pa0 pa1 pb0 pb1 pc0 pc1 hF hZ G HT
  rw [← hm]
  generalize ((w'.setCell ⟨w.heap.size + 1, 0, none⟩ (Value.int IntKind.i64 (y / 4294967296))).setCell ⟨w.heap.size + 1, 1, none⟩ (Value.int IntKind.i64 (y % 4294967296))).alloc (Obj.cells #[Value.int IntKind.i64 0, Value.int IntKind.i64 0] 25) = w2 at *
  clear hm
  go_loopw [6] (fun k wr => ∃ j : Nat, j ≤ 64 ∧ k = .int .i64 ((j : Int) - 1) ∧ Four w.heap.size m a y ((a * (y / 2 ^ j)) % PP) w wr) (fun k _ => (intOf k + 1).toNat)
  case atStart => exact ⟨64, by omega, rfl, HFour⟩
  case round =>
    obtain ⟨j, hj, rfl, F⟩ := hrel
    have HF : Hid (Four w.heap.size m a y ((a * (y / 2 ^ j)) % PP) w wr) := F
    have ra0 := F.a0; have ra1 := F.a1; have rb0 := F.b0; have rb1 := F.b1; have rc0 := F.c0; have rc1 := F.c1; have rx0 := F.x0; have rx1 := F.x1; have G := F.g
    clear F
    cases j with
    | zero =>
      have f2 : ∀ o, wr.frozen? ⟨w.heap.size + 2, o, none⟩ = false := fun o => G.fz (by omega)
      rw [mul_last] at rx0 rx1
      go_wp2
      exact bodyPost_ret (v := nm ((a * y) % PP)) (by simp [results, Try.results19, go_sem, rc0, rc1]) rfl ⟨rfl, (by repeat (first | assumption | exact Gw.refl _ | apply Gw.drew | apply Gw.alloc | refine Gw.setCell ?_ (by first | (simp; done) | (simp; omega) | exact hle) _))⟩
    | succ i =>
      have bv := md_bd (a * (y / 2 ^ (i + 1)))
      have c1 := addr_ref ((a * (y / 2 ^ (i + 1))) % PP) ((a * (y / 2 ^ (i + 1))) % PP) (by omega) (by omega) (by omega) (by omega)
      have bv2 := md_bd ((a * (y / 2 ^ (i + 1))) % PP + (a * (y / 2 ^ (i + 1))) % PP)
      have c2 := addr_ref _ a bv2.1 (Int.le_trans bv2.2 (by omega)) ha.out.1 ha.out.2
      have cb := bit_ref y i (by omega)
      have ek : ((i + 1 : Nat) : Int) - 1 = (i : Int) := by omega
      rw [ek]
      clear bv bv2 hb ha
      have hnm1 : ¬ m = w.heap.size := by omega
      have hnm2 : ¬ m = w.heap.size + 1 := by omega
      have hnm3 : ¬ m = w.heap.size + 2 := by omega
      have hmn1 : ¬ w.heap.size = m := by omega
      have hmn2 : ¬ w.heap.size + 1 = m := by omega
      have hmn3 : ¬ w.heap.size + 2 = m := by omega
      have hle : w.heap.size ≤ m := by omega
      rcases Int.emod_two_eq (y / 2 ^ i) with hbit | hbit
      · have HB : Hid (((a * (y / 2 ^ (i + 1))) % PP + (a * (y / 2 ^ (i + 1))) % PP) % PP = (a * (y / 2 ^ i)) % PP) := mul_bit0 a y i hbit
        rw [hbit] at cb
        obtain ⟨v3, hv3⟩ : ∃ v3, (a * (y / 2 ^ i)) % PP = v3 := ⟨_, rfl⟩
        rw [hv3] at HB
        have H3 : Hid ((a * (y / 2 ^ i)) % PP = v3) := hv3
        clear hv3
        generalize (a * (y / 2 ^ (i + 1))) % PP = v at *
        rw [HB.out] at c1
        clear HB hbit c2
        have f0 := fun o => G.fz (b := m) (o := o) (by omega)
        go_wp2_with (first | (go_at_call 17; refine (c1 _).mono ?_; rintro e w' ⟨rfl, hg⟩; have G : Gw w w' := Gw.trans (by repeat (first | assumption | exact Gw.refl _ | apply Gw.drew | apply Gw.alloc | refine Gw.setCell ?_ (by first | (simp; done) | (simp; omega) | exact hle) _)) hg; have sa0 := hg.at (b := w.heap.size) (o := 0) (v := .int .i64 (a / 4294967296)) (by simp [go_sem, ra0, ra1, rb0, rb1, rc0, rc1, rx0, rx1]); have sa1 := hg.at (b := w.heap.size) (o := 1) (v := .int .i64 (a % 4294967296)) (by simp [go_sem, ra0, ra1, rb0, rb1, rc0, rc1, rx0, rx1]); have sb0 := hg.at (b := w.heap.size + 1) (o := 0) (v := .int .i64 (y / 4294967296)) (by simp [go_sem, ra0, ra1, rb0, rb1, rc0, rc1, rx0, rx1]); have sb1 := hg.at (b := w.heap.size + 1) (o := 1) (v := .int .i64 (y % 4294967296)) (by simp [go_sem, ra0, ra1, rb0, rb1, rc0, rc1, rx0, rx1]); have sc0 := hg.at (b := w.heap.size + 2) (o := 0) (v := .int .i64 0) (by simp [go_sem, ra0, ra1, rb0, rb1, rc0, rc1, rx0, rx1]); have sc1 := hg.at (b := w.heap.size + 2) (o := 1) (v := .int .i64 0) (by simp [go_sem, ra0, ra1, rb0, rb1, rc0, rc1, rx0, rx1]); have sx0 := hg.at (b := m) (o := 0) (v := .int .i64 (v / 4294967296)) (by simp [go_sem, ra0, ra1, rb0, rb1, rc0, rc1, rx0, rx1]); have sx1 := hg.at (b := m) (o := 1) (v := .int .i64 (v % 4294967296)) (by simp [go_sem, ra0, ra1, rb0, rb1, rc0, rc1, rx0, rx1]); have hF := hg.frozens; clear hg; clear c1 ra0 ra1 rb0 rb1 rc0 rc1 rx0 rx1) | (go_at_call 49; refine (cb _).mono ?_; rintro e w' ⟨rfl, hg⟩; have G : Gw w w' := Gw.trans (by repeat (first | assumption | exact Gw.refl _ | apply Gw.drew | apply Gw.alloc | refine Gw.setCell ?_ (by first | (simp; done) | (simp; omega) | exact hle) _)) hg; have ta0 := hg.at (b := w.heap.size) (o := 0) (v := .int .i64 (a / 4294967296)) (by simp [go_sem, sa0, sa1, sb0, sb1, sc0, sc1, sx0, sx1, hnm1, hnm2, hnm3, hmn1, hmn2, hmn3]); have ta1 := hg.at (b := w.heap.size) (o := 1) (v := .int .i64 (a % 4294967296)) (by simp [go_sem, sa0, sa1, sb0, sb1, sc0, sc1, sx0, sx1, hnm1, hnm2, hnm3, hmn1, hmn2, hmn3]); have tb0 := hg.at (b := w.heap.size + 1) (o := 0) (v := .int .i64 (y / 4294967296)) (by simp [go_sem, sa0, sa1, sb0, sb1, sc0, sc1, sx0, sx1, hnm1, hnm2, hnm3, hmn1, hmn2, hmn3]); have tb1 := hg.at (b := w.heap.size + 1) (o := 1) (v := .int .i64 (y % 4294967296)) (by simp [go_sem, sa0, sa1, sb0, sb1, sc0, sc1, sx0, sx1, hnm1, hnm2, hnm3, hmn1, hmn2, hmn3]); have tc0 := hg.at (b := w.heap.size + 2) (o := 0) (v := .int .i64 0) (by simp [go_sem, sa0, sa1, sb0, sb1, sc0, sc1, sx0, sx1, hnm1, hnm2, hnm3, hmn1, hmn2, hmn3]); have tc1 := hg.at (b := w.heap.size + 2) (o := 1) (v := .int .i64 0) (by simp [go_sem, sa0, sa1, sb0, sb1, sc0, sc1, sx0, sx1, hnm1, hnm2, hnm3, hmn1, hmn2, hmn3]); have tx0 := hg.at (b := m) (o := 0) (v := .int .i64 (v3 / 4294967296)) (by simp [go_sem, sa0, sa1, sb0, sb1, sc0, sc1, sx0, sx1, hnm1, hnm2, hnm3, hmn1, hmn2, hmn3]); have tx1 := hg.at (b := m) (o := 1) (v := .int .i64 (v3 % 4294967296)) (by simp [go_sem, sa0, sa1, sb0, sb1, sc0, sc1, sx0, sx1, hnm1, hnm2, hnm3, hmn1, hmn2, hmn3]); have hF := hg.frozens; clear hg; clear cb sa0 sa1 sb0 sb1 sc0 sc1 sx0 sx1))
        go_roundw
        case rel => exact ⟨i, by omega, by go_num, by rw [H3.out]; exact ⟨ta0, ta1, tb0, tb1, tc0, tc1, tx0, tx1, G⟩⟩
        case measure => simp [intOf]
      · have HB : Hid ((((a * (y / 2 ^ (i + 1))) % PP + (a * (y / 2 ^ (i + 1))) % PP) % PP + a) % PP = (a * (y / 2 ^ i)) % PP) := mul_bit1 a y i hbit
        rw [hbit] at cb
        obtain ⟨v3, hv3⟩ : ∃ v3, (a * (y / 2 ^ i)) % PP = v3 := ⟨_, rfl⟩
        rw [hv3] at HB
        have H3 : Hid ((a * (y / 2 ^ i)) % PP = v3) := hv3
        clear hv3
        generalize (a * (y / 2 ^ (i + 1))) % PP = v at *
        generalize (v + v) % PP = v2 at *
        rw [HB.out] at c2
        clear HB hbit
        have f0 := fun o => G.fz (b := m) (o := o) (by omega)
        go_wp2_with (first | (go_at_call 17; first | (refine (c1 _).mono ?_; rintro e w' ⟨rfl, hg⟩; have G : Gw w w' := Gw.trans (by repeat (first | assumption | exact Gw.refl _ | apply Gw.drew | apply Gw.alloc | refine Gw.setCell ?_ (by first | (simp; done) | (simp; omega) | exact hle) _)) hg; have sa0 := hg.at (b := w.heap.size) (o := 0) (v := .int .i64 (a / 4294967296)) (by simp [go_sem, ra0, ra1, rb0, rb1, rc0, rc1, rx0, rx1]); have sa1 := hg.at (b := w.heap.size) (o := 1) (v := .int .i64 (a % 4294967296)) (by simp [go_sem, ra0, ra1, rb0, rb1, rc0, rc1, rx0, rx1]); have sb0 := hg.at (b := w.heap.size + 1) (o := 0) (v := .int .i64 (y / 4294967296)) (by simp [go_sem, ra0, ra1, rb0, rb1, rc0, rc1, rx0, rx1]); have sb1 := hg.at (b := w.heap.size + 1) (o := 1) (v := .int .i64 (y % 4294967296)) (by simp [go_sem, ra0, ra1, rb0, rb1, rc0, rc1, rx0, rx1]); have sc0 := hg.at (b := w.heap.size + 2) (o := 0) (v := .int .i64 0) (by simp [go_sem, ra0, ra1, rb0, rb1, rc0, rc1, rx0, rx1]); have sc1 := hg.at (b := w.heap.size + 2) (o := 1) (v := .int .i64 0) (by simp [go_sem, ra0, ra1, rb0, rb1, rc0, rc1, rx0, rx1]); have sx0 := hg.at (b := m) (o := 0) (v := .int .i64 (v / 4294967296)) (by simp [go_sem, ra0, ra1, rb0, rb1, rc0, rc1, rx0, rx1]); have sx1 := hg.at (b := m) (o := 1) (v := .int .i64 (v % 4294967296)) (by simp [go_sem, ra0, ra1, rb0, rb1, rc0, rc1, rx0, rx1]); have hF := hg.frozens; clear hg; clear c1 ra0 ra1 rb0 rb1 rc0 rc1 rx0 rx1) | (refine (c2 _).mono ?_; rintro e w' ⟨rfl, hg⟩; have G : Gw w w' := Gw.trans (by repeat (first | assumption | exact Gw.refl _ | apply Gw.drew | apply Gw.alloc | refine Gw.setCell ?_ (by first | (simp; done) | (simp; omega) | exact hle) _)) hg; have ua0 := hg.at (b := w.heap.size) (o := 0) (v := .int .i64 (a / 4294967296)) (by simp [go_sem, ta0, ta1, tb0, tb1, tc0, tc1, tx0, tx1]); have ua1 := hg.at (b := w.heap.size) (o := 1) (v := .int .i64 (a % 4294967296)) (by simp [go_sem, ta0, ta1, tb0, tb1, tc0, tc1, tx0, tx1]); have ub0 := hg.at (b := w.heap.size + 1) (o := 0) (v := .int .i64 (y / 4294967296)) (by simp [go_sem, ta0, ta1, tb0, tb1, tc0, tc1, tx0, tx1]); have ub1 := hg.at (b := w.heap.size + 1) (o := 1) (v := .int .i64 (y % 4294967296)) (by simp [go_sem, ta0, ta1, tb0, tb1, tc0, tc1, tx0, tx1]); have uc0 := hg.at (b := w.heap.size + 2) (o := 0) (v := .int .i64 0) (by simp [go_sem, ta0, ta1, tb0, tb1, tc0, tc1, tx0, tx1]); have uc1 := hg.at (b := w.heap.size + 2) (o := 1) (v := .int .i64 0) (by simp [go_sem, ta0, ta1, tb0, tb1, tc0, tc1, tx0, tx1]); have ux0 := hg.at (b := m) (o := 0) (v := .int .i64 (v2 / 4294967296)) (by simp [go_sem, ta0, ta1, tb0, tb1, tc0, tc1, tx0, tx1]); have ux1 := hg.at (b := m) (o := 1) (v := .int .i64 (v2 % 4294967296)) (by simp [go_sem, ta0, ta1, tb0, tb1, tc0, tc1, tx0, tx1]); have hF := hg.frozens; clear hg; clear c2 ta0 ta1 tb0 tb1 tc0 tc1 tx0 tx1)) | (go_at_call 49; refine (cb _).mono ?_; rintro e w' ⟨rfl, hg⟩; have G : Gw w w' := Gw.trans (by repeat (first | assumption | exact Gw.refl _ | apply Gw.drew | apply Gw.alloc | refine Gw.setCell ?_ (by first | (simp; done) | (simp; omega) | exact hle) _)) hg; have ta0 := hg.at (b := w.heap.size) (o := 0) (v := .int .i64 (a / 4294967296)) (by simp [go_sem, sa0, sa1, sb0, sb1, sc0, sc1, sx0, sx1, hnm1, hnm2, hnm3, hmn1, hmn2, hmn3]); have ta1 := hg.at (b := w.heap.size) (o := 1) (v := .int .i64 (a % 4294967296)) (by simp [go_sem, sa0, sa1, sb0, sb1, sc0, sc1, sx0, sx1, hnm1, hnm2, hnm3, hmn1, hmn2, hmn3]); have tb0 := hg.at (b := w.heap.size + 1) (o := 0) (v := .int .i64 (y / 4294967296)) (by simp [go_sem, sa0, sa1, sb0, sb1, sc0, sc1, sx0, sx1, hnm1, hnm2, hnm3, hmn1, hmn2, hmn3]); have tb1 := hg.at (b := w.heap.size + 1) (o := 1) (v := .int .i64 (y % 4294967296)) (by simp [go_sem, sa0, sa1, sb0, sb1, sc0, sc1, sx0, sx1, hnm1, hnm2, hnm3, hmn1, hmn2, hmn3]); have tc0 := hg.at (b := w.heap.size + 2) (o := 0) (v := .int .i64 0) (by simp [go_sem, sa0, sa1, sb0, sb1, sc0, sc1, sx0, sx1, hnm1, hnm2, hnm3, hmn1, hmn2, hmn3]); have tc1 := hg.at (b := w.heap.size + 2) (o := 1) (v := .int .i64 0) (by simp [go_sem, sa0, sa1, sb0, sb1, sc0, sc1, sx0, sx1, hnm1, hnm2, hnm3, hmn1, hmn2, hmn3]); have tx0 := hg.at (b := m) (o := 0) (v := .int .i64 (v2 / 4294967296)) (by simp [go_sem, sa0, sa1, sb0, sb1, sc0, sc1, sx0, sx1, hnm1, hnm2, hnm3, hmn1, hmn2, hmn3]); have tx1 := hg.at (b := m) (o := 1) (v := .int .i64 (v2 % 4294967296)) (by simp [go_sem, sa0, sa1, sb0, sb1, sc0, sc1, sx0, sx1, hnm1, hnm2, hnm3, hmn1, hmn2, hmn3]); have hF := hg.frozens; clear hg; clear cb sa0 sa1 sb0 sb1 sc0 sc1 sx0 sx1))
        go_roundw
        case rel => exact ⟨i, by omega, by go_num, by rw [H3.out]; exact ⟨by simp [go_sem, ua0, hmn1], by simp [go_sem, ua1, hmn1], by simp [go_sem, ub0, hmn2], by simp [go_sem, ub1, hmn2], by simp [go_sem, uc0, hmn3], by simp [go_sem, uc1, hmn3], by simp [go_sem, ux0], by simp [go_sem, ux1], (by repeat (first | assumption | exact Gw.refl _ | apply Gw.drew | apply Gw.alloc | refine Gw.setCell ?_ (by first | (simp; done) | (simp; omega) | exact hle) _))⟩⟩
        case measure => simp [intOf]

theorem mulr_ref (a b : Int) (a0 : 0 ≤ a) (a1 : a ≤ 18446744073709551615) (b0 : 0 ≤ b) (b1 : b ≤ 18446744073709551615) (w : World) :
    Calls Try.prog 19 #[nm a, nm b] w fun e w' => e = .returned (nm ((a * b) % PP)) ∧ Gw w w' := by
  have c := mulr_core a b (b % PP) w (md_bd b) ⟨a0, a1⟩ (less_ref b b0 b1)
  rw [md_mul_r] at c; exact c

end Go.Proofs.Ytddpcjgekfmhkaa
