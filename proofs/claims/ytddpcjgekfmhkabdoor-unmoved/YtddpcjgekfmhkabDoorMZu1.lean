/- Texts joined: Pg Ph1 Zu1. -/
import Derived.Test.YtddpcjgekfmhkabDoorM25
import Derived.Test.YtddpcjgekfmhkabDoorM24
import Derived.Test.YtddpcjgekfmhkabDoorCards
import Derived.Test.YtddpcjgekfmhkabDoorTie
import Derived.Lib.LaidTab
import Derived.Deep.DeepHandedRow
import Derived.ProofKit
import Derived.OpenShut
import Derived.ChangeOld
import Derived.Below
import Derived.Test.YtddpcjgekfmhkabDoorM21

/- Unmoved, walked, whatever filter keeps its contract. -/
namespace Go.Proofs.YtddpcjgekfmhkabDoor
open Go.RowKit
set_option linter.unusedSimpArgs false
set_option linter.unusedVariables false

theorem if_ctx {c : Prop} [Decidable c] {a : Int} : (if c then a else a) = a := by split <;> rfl

set_option maxHeartbeats 8000000 in
set_option maxRecDepth 20000 in
theorem unmoved_core {FI : Nat → Nat → FlS → Res} (ok : FltOk FI) (w : World) (B R V at_ : Int) (a1 a2 a3 : Option Addr) (c1 c2 c3 : Nat) (t1 t2 t3 : List Int) (i1 : InW w a1 c1 t1) (i2 : InW w a2 c2 t2) (i3 : InW w a3 c3 t3) (rB : I64 B) (rR : I64 R) (rV : I64 V) (ra : I64 at_) :
    Calls Tryd.prog 4 #[.agg #[.int .i64 B, .int .i64 R, .int .i64 V], .slice a1 t1.length c1, .slice a2 t2.length c2, .slice a3 t3.length c3, .int .i64 at_] w fun e w' => e = .returned (.bool true) ∧ Bt (fun _ => False) w w' := by
  have CF := fun w' => fit_law B R V w' rB rV
  have S1 : ∀ w', Bt (fun _ => False) w w' → Calls Tryd.prog 7 #[.slice a1 t1.length c1, .int .i64 300] w' fun e w'' => Hid (SmallT w' 300 e w'') := fun w' b => (small_law a1 c1 t1 300 w' (i1.bt b).src i1.rng (by have := i1.len; omega) (by omega) (by omega)).mono (fun e w'' q => q.tab (i1.bt b).tab)
  have S2 : ∀ w', Bt (fun _ => False) w w' → Calls Tryd.prog 7 #[.slice a2 t2.length c2, .int .i64 300] w' fun e w'' => Hid (SmallT w' 300 e w'') := fun w' b => (small_law a2 c2 t2 300 w' (i2.bt b).src i2.rng (by have := i2.len; omega) (by omega) (by omega)).mono (fun e w'' q => q.tab (i2.bt b).tab)
  have S3 : ∀ w', Bt (fun _ => False) w w' → Calls Tryd.prog 7 #[.slice a3 t3.length c3, .int .i64 900] w' fun e w'' => Hid (SmallT w' 900 e w'') := fun w' b => (small_law a3 c3 t3 900 w' (i3.bt b).src i3.rng (by have := i3.len; omega) (by omega) (by omega)).mono (fun e w'' q => q.tab (i3.bt b).tab)
  have CK : ∀ (n : Nat) w', 1 ≤ n → n ≤ 1000 → Calls Tryd.prog 11 #[.int .i64 at_, .int .i64 (n : Nat)] w' fun e w'' => e = .returned (.int .i64 (pickv at_ n)) ∧ w'' = w' := fun n w' h1 h2 => pick_keep at_ n w' ra.1 ra.2 (by omega) (by omega)
  have HO : Hid (FltOk FI) := ok
  generalize t1.length = n1 at *
  generalize t2.length = n2 at *
  generalize t3.length = n3 at *
  clear i1 i2 i3 ok
  go_enter Tryd.func4, Tryd.ntmps4
  go_wp2_with (first
    | (go_at_call 9; refine (CF _).mono ?_; rintro e w1 ⟨Bf, Vf, rfl, okB, v0, v1, b1⟩; have H1 : Hid (Bt (fun _ => False) w w1) := ((Bt.refl _ _).alloc _).trans b1 (fun _ _ x => x); have HF : Hid (okBlock Bf ∧ 1 ≤ Vf ∧ Vf ≤ 64) := ⟨okB, v0, v1⟩; clear okB v0 v1 b1)
    | (go_at_call 7; have _t := S1; refine (S1 _ (H1.out.alloc _)).mono ?_; clear _t S1; rintro e w2 q; obtain ⟨bh, oh, ch, h, rfl, o1, o2, o3, o4, o5⟩ := q.out.own (by omega); have H2 : Hid (OwnL w2 bh oh ch h ∧ 1 ≤ h.length ∧ h.length ≤ 300 ∧ (∀ x ∈ h, -30000 ≤ x ∧ x ≤ 30000) ∧ Bt (fun _ => False) (w1.alloc (.cells #[.int .i64 Bf, .int .i64 65536, .int .i64 Vf] 23)) w2) := ⟨o1, o2, o3, o4, o5⟩; clear q o1 o2 o3 o4 o5)
    | (go_at_call 7; have _t := S2; refine (S2 _ ((H1.out.alloc _).trans H2.out.2.2.2.2 (fun _ _ x => x))).mono ?_; clear _t S2; rintro e w3 q; obtain ⟨bk, ok', ck, k, rfl, o1, o2, o3, o4, o5⟩ := q.out.own (by omega); have H3 : Hid (OwnL w3 bk ok' ck k ∧ 1 ≤ k.length ∧ k.length ≤ 300 ∧ (∀ x ∈ k, -30000 ≤ x ∧ x ≤ 30000) ∧ Bt (fun _ => False) w2 w3) := ⟨o1, o2, o3, o4, o5⟩; clear q o1 o2 o3 o4 o5)
    | (go_at_call 7; have _t := S3; refine (S3 _ (((H1.out.alloc _).trans H2.out.2.2.2.2 (fun _ _ x => x)).trans H3.out.2.2.2.2 (fun _ _ x => x))).mono ?_; clear _t S3; rintro e w4 q; obtain ⟨bl, ol, cl, l, rfl, o1, o2, o3, o4, o5⟩ := q.out.own (by omega); have H4 : Hid (OwnL w4 bl ol cl l ∧ 1 ≤ l.length ∧ l.length ≤ 900 ∧ (∀ x ∈ l, -30000 ≤ x ∧ x ≤ 30000) ∧ Bt (fun _ => False) w3 w4) := ⟨o1, o2, o3, o4, o5⟩; clear q o1 o2 o3 o4 o5; have HGC : Hid (∀ w', Bt (fun _ => False) w4 w' → w'.cell? ⟨w1.heap.size, 0, none⟩ = some (.int .i64 Bf) ∧ w'.cell? ⟨w1.heap.size, 1, none⟩ = some (.int .i64 65536) ∧ w'.cell? ⟨w1.heap.size, 2, none⟩ = some (.int .i64 Vf)) := (fun w' b => (by have bb := ((H2.out.2.2.2.2.trans H3.out.2.2.2.2 (fun _ _ x => x)).trans H4.out.2.2.2.2 (fun _ _ x => x)).trans b (fun _ _ x => x); exact ⟨bb.cell (fun x => x) (by simp [go_sem]), bb.cell (fun x => x) (by simp [go_sem]), bb.cell (fun x => x) (by simp [go_sem])⟩)); obtain ⟨x0, x1, x2⟩ := HGC.out w4 (Bt.refl _ _))
    | (go_at_call 11; refine (CK l.length _ H4.out.2.1 (by have := H4.out.2.2.1; omega)).mono ?_; rintro e w' ⟨rfl, hw⟩; subst w')
    | (go_at_call 8; have _t := CF; clear _t CF; refine (all_at HO.out w4 Bf Vf HF.out.1 HF.out.2 ((H2.out.1.bt H3.out.2.2.2.2).bt H4.out.2.2.2.2) H4.out.1 H2.out.2.1 (by have := H2.out.2.2.1; omega) H2.out.2.2.2.1 H4.out.2.1 (by have := H4.out.2.2.1; omega) H4.out.2.2.2.1).mono ?_; rintro e w5 q; obtain ⟨bo, oo, co, rfl, q1, q2⟩ := q.out; have H5 : Hid ((∀ i, i < upN Bf.toNat l.length → w5.cell? ⟨bo, oo + i, none⟩ = some (.int .i64 (yv h l i))) ∧ Bt (fun _ => False) w4 w5) := ⟨q1, q2⟩; clear q q1 q2; obtain ⟨y0, y1, y2⟩ := HGC.out w5 H5.out.2)
    | (go_at_call 8; refine (all_at HO.out w5 Bf Vf HF.out.1 HF.out.2 ((H3.out.1.bt H4.out.2.2.2.2).bt H5.out.2) (H4.out.1.bt H5.out.2) H3.out.2.1 (by have := H3.out.2.2.1; omega) H3.out.2.2.2.1 H4.out.2.1 (by have := H4.out.2.2.1; omega) H4.out.2.2.2.1).mono ?_; rintro e w6 q; obtain ⟨by', oy, cy, rfl, q1, q2⟩ := q.out; have H6 : Hid ((∀ i, i < upN Bf.toNat l.length → w6.cell? ⟨by', oy + i, none⟩ = some (.int .i64 (yv k l i))) ∧ Bt (fun _ => False) w5 w6) := ⟨q1, q2⟩; clear q q1 q2))
  obtain ⟨Bn, rfl⟩ : ∃ Bn : Nat, Bf = Bn := ⟨Bf.toNat, by have := HF.out.1; unfold okBlock at this; omega⟩
  simp only [Int.toNat_natCast] at H5 H6 ⊢
  obtain ⟨N, hN⟩ : ∃ N, upN Bn l.length = N := ⟨_, rfl⟩
  have HN : Hid (upN Bn l.length = N) := hN
  simp only [hN] at H5 H6 ⊢
  clear hN
  have hp := pickv_range at_ (l.length : Int) (by have := H4.out.2.1; omega)
  obtain ⟨n, hpn⟩ : ∃ n : Nat, pickv at_ (l.length : Int) = n := ⟨(pickv at_ (l.length : Int)).toNat, by omega⟩
  simp only [hpn] at hp ⊢
  have hn : n < l.length := by omega
  have hl1 : l.length ≤ 1000 := by have := H4.out.2.2.1; omega
  have b46 : Bt (fun _ => False) w4 w6 := H5.out.2.trans H6.out.2 (fun _ _ x => x)
  have HV : Hid (OwnL w6 bh oh ch h ∧ OwnL w6 bk ok' ck k ∧ OwnL w6 bl ol cl l ∧ okTaps h ∧ okTaps k ∧ (∀ x ∈ l, -30000 ≤ x ∧ x ≤ 30000)) := ⟨((H2.out.1.bt H3.out.2.2.2.2).bt H4.out.2.2.2.2).bt b46, (H3.out.1.bt H4.out.2.2.2.2).bt b46, H4.out.1.bt b46, small_taps H2.out.2.1 (by have := H2.out.2.2.1; omega) H2.out.2.2.2.1, small_taps H3.out.2.1 (by have := H3.out.2.2.1; omega) H3.out.2.2.2.1, H4.out.2.2.2.1⟩
  have HGB : Hid (∀ w', Bt (fun _ => False) w6 w' → w'.cell? ⟨w1.heap.size, 0, none⟩ = some (.int .i64 (Bn : Int)) ∧ w'.cell? ⟨w1.heap.size, 1, none⟩ = some (.int .i64 65536) ∧ w'.cell? ⟨w1.heap.size, 2, none⟩ = some (.int .i64 Vf)) := fun w' b => HGC.out w' (b46.trans b (fun _ _ x => x))
  have HOL : Hid ((∀ j, j < N → w6.cell? ⟨bo, oo + j, none⟩ = some (.int .i64 (yv h l j))) ∧ ∀ j, j < N → w6.cell? ⟨by', oy + j, none⟩ = some (.int .i64 (yv k l j))) := ⟨fun j hj => H6.out.2.cell (fun x => x) (H5.out.1 j hj), H6.out.1⟩
  have HW : Hid (Bt (fun _ => False) w w6) := ((((H1.out.alloc _).trans H2.out.2.2.2.2 (fun _ _ x => x)).trans H3.out.2.2.2.2 (fun _ _ x => x)).trans H4.out.2.2.2.2 (fun _ _ x => x)).trans b46 (fun _ _ x => x)
  have hBn : ¬ ((Bn : Int) = 0) := by have := HF.out.1; unfold okBlock at this; omega
  have hcl : l.length ≤ cl := H4.out.1.cap
  have hNb : N ≤ 2000 := by
    have h1 := HN.out
    have h2 := HF.out.1
    unfold okBlock at h2
    unfold upN at h1
    have h3 := Nat.mod_lt (Bn - l.length % Bn) (by omega : 0 < Bn)
    omega
  clear b46 H1 H2 H3 H4 H5 H6 HGC x0 x1 x2 y0 y1 y2 hpn CK
  go_loopw [20] (fun tt wr => ∃ t : Nat, t ≤ 2 ∧ tt = .int .i64 t ∧ Hid (Bt (fun _ => False) w6 wr)) (fun tt _ => 2 - (intOf tt).toNat)
  case atStart => exact ⟨0, by omega, rfl, Bt.refl _ _⟩
  case round =>
    obtain ⟨t, ht, rfl, HT⟩ := hrel
    by_cases t0 : t = 0
    · subst t0
      obtain ⟨S, M0, M1, M2, M3, M4, s1, s2, s3, m0, m1, m2, m3, m4, m5⟩ := turn_calls HO.out wr (Bn : Int) Vf HF.out.1 HF.out.2 (HV.out.1.bt HT.out) (HV.out.1.bt HT.out) (HV.out.2.2.1.bt HT.out) HV.out.2.2.2.1 HV.out.2.2.2.1 hl1 HV.out.2.2.2.2.2 n hn
      simp only [Int.toNat_natCast, HN.out] at s2 m5
      have HM1 : Hid (∀ xb w1, M0 xb w1 → Calls Tryd.prog 13 #[.pointer (some ⟨xb, 0, none⟩), .slice (some ⟨bl, ol, none⟩) n cl] w1 fun e w2 => Hid (∃ R : Int, e = .returned (.tuple #[.int .i64 R, .int .i64 0]) ∧ M1 xb w2)) := m1
      have HM3 : Hid (∀ xb w1, M2 xb w1 → ∀ o' n' c' : Nat, o' = ol + n → n' = l.length - n → c' = cl - n → Calls Tryd.prog 13 #[.pointer (some ⟨xb, 0, none⟩), .slice (some ⟨bl, o', none⟩) n' c'] w1 fun e w2 => Hid (∃ R : Int, e = .returned (.tuple #[.int .i64 R, .int .i64 0]) ∧ M3 xb w2)) := m3
      clear m1 m3
      obtain ⟨g0, g1, g2⟩ := HGB.out wr HT.out
      have dS : (S : Int).tmod (Bn : Int) = 0 := by rw [Int.tmod_eq_emod_of_nonneg (by omega)]; have e : (S : Int) % (Bn : Int) = ((S % Bn : Nat) : Int) := rfl; rw [e, s2]; rfl
      have dS2 : (S : Int) % (Bn : Int) = 0 := by have e : (S : Int) % (Bn : Int) = ((S % Bn : Nat) : Int) := rfl; rw [e, s2]; rfl
      have hSn : ¬ (S : Int) ≤ (n : Int) := by omega
      have HS2 : Hid (S % Bn = 0) := s2
      clear s2
      go_wp2_with (first
        | (go_at_call 12; refine m0.mono ?_; rintro e w1 H1; obtain ⟨xb, rfl, q1⟩ := H1.out; have P0 : Hid (M0 xb w1) := q1; clear H1 q1)
        | (go_at_call 13; have _t := P0; refine (HM1.out xb _ P0.out).mono ?_; clear _t; rintro e w2 H2; obtain ⟨R1, rfl, q2⟩ := H2.out; have P1 : Hid (M1 xb w2) := q2; clear H2 q2 P0)
        | (go_at_call 14; refine (m2 xb _ P1.out).mono ?_; rintro e w3 ⟨rfl, P2⟩)
        | (go_at_call 13; refine (HM3.out xb _ P2.out _ _ _ (by first | rfl | omega) (by omega) (by first | rfl | omega)).mono ?_; rintro e w4 H4; obtain ⟨R2, rfl, q4⟩ := H4.out; have P3 : Hid (M3 xb w4) := q4; clear H4 q4)
        | (go_at_call 15; refine (m4 xb _ P3.out).mono ?_; rintro e w5 H5; obtain ⟨R3, rfl, q5⟩ := H5.out; have P4 : Hid (M4 xb w5) := q5; clear H5 q5)
        | (go_at_call 16; refine (m5 xb _ P4.out).mono ?_; rintro e w6 H6; obtain ⟨lb, rfl, q6, b6⟩ := H6.out; have P5 : Hid ((∀ j, j < N → w6.cell? ⟨lb, j, none⟩ = some (.int .i64 (if S ≤ j then yv h l j else yv h l j))) ∧ Bt (fun _ => False) wr w6) := ⟨fun j hj => q6 j hj, b6⟩; clear H6 q6 b6; obtain ⟨k0, k1, k2⟩ := HGB.out w6 (HT.out.trans P5.out.2 (fun _ _ x => x))))
      go_loop [33] (fun tj => ∃ j : Nat, j ≤ N ∧ tj = .int .i64 j) (fun tj => N - (intOf tj).toNat)
      case atStart => exact ⟨0, Nat.zero_le _, rfl⟩
      case round =>
        obtain ⟨j, hj, rfl⟩ := hrel
        by_cases hjN : j < N
        · have hjN1 : (j : Int) < (N : Int) := by omega
          have y0 := P5.out.1 j hjN
          have o0 := (HT.out.trans P5.out.2 (fun _ _ x => x)).cell (fun x => x) (HOL.out.1 j hjN)
          have u0 := (HT.out.trans P5.out.2 (fun _ _ x => x)).cell (fun x => x) (HOL.out.2 j hjN)
          rw [if_ctx] at y0
          generalize yv h l j = v1 at *
          generalize yv k l j = v2 at *
          go_wp2
          go_round
          case rel => exact ⟨j + 1, by omega, by go_num⟩
          case measure => simp [intOf]; omega
        · obtain rfl : j = N := by omega
          go_wp2
          go_roundw
          case rel => exact ⟨1, by omega, rfl, HT.out.trans P5.out.2 (fun _ _ x => x)⟩
          case measure => simp [intOf]
    by_cases t1 : t = 1
    · subst t1
      obtain ⟨S, M0, M1, M2, M3, M4, s1, s2, s3, m0, m1, m2, m3, m4, m5⟩ := turn_calls HO.out wr (Bn : Int) Vf HF.out.1 HF.out.2 (HV.out.1.bt HT.out) (HV.out.2.1.bt HT.out) (HV.out.2.2.1.bt HT.out) HV.out.2.2.2.1 HV.out.2.2.2.2.1 hl1 HV.out.2.2.2.2.2 n hn
      simp only [Int.toNat_natCast, HN.out] at s2 m5
      have HM1 : Hid (∀ xb w1, M0 xb w1 → Calls Tryd.prog 13 #[.pointer (some ⟨xb, 0, none⟩), .slice (some ⟨bl, ol, none⟩) n cl] w1 fun e w2 => Hid (∃ R : Int, e = .returned (.tuple #[.int .i64 R, .int .i64 0]) ∧ M1 xb w2)) := m1
      have HM3 : Hid (∀ xb w1, M2 xb w1 → ∀ o' n' c' : Nat, o' = ol + n → n' = l.length - n → c' = cl - n → Calls Tryd.prog 13 #[.pointer (some ⟨xb, 0, none⟩), .slice (some ⟨bl, o', none⟩) n' c'] w1 fun e w2 => Hid (∃ R : Int, e = .returned (.tuple #[.int .i64 R, .int .i64 0]) ∧ M3 xb w2)) := m3
      clear m1 m3
      obtain ⟨g0, g1, g2⟩ := HGB.out wr HT.out
      have dS : (S : Int).tmod (Bn : Int) = 0 := by rw [Int.tmod_eq_emod_of_nonneg (by omega)]; have e : (S : Int) % (Bn : Int) = ((S % Bn : Nat) : Int) := rfl; rw [e, s2]; rfl
      have dS2 : (S : Int) % (Bn : Int) = 0 := by have e : (S : Int) % (Bn : Int) = ((S % Bn : Nat) : Int) := rfl; rw [e, s2]; rfl
      have hSn : ¬ (S : Int) ≤ (n : Int) := by omega
      have HS2 : Hid (S % Bn = 0) := s2
      clear s2
      go_wp2_with (first
        | (go_at_call 12; refine m0.mono ?_; rintro e w1 H1; obtain ⟨xb, rfl, q1⟩ := H1.out; have P0 : Hid (M0 xb w1) := q1; clear H1 q1)
        | (go_at_call 13; have _t := P0; refine (HM1.out xb _ P0.out).mono ?_; clear _t; rintro e w2 H2; obtain ⟨R1, rfl, q2⟩ := H2.out; have P1 : Hid (M1 xb w2) := q2; clear H2 q2 P0)
        | (go_at_call 14; refine (m2 xb _ P1.out).mono ?_; rintro e w3 ⟨rfl, P2⟩)
        | (go_at_call 13; refine (HM3.out xb _ P2.out _ _ _ (by first | rfl | omega) (by omega) (by first | rfl | omega)).mono ?_; rintro e w4 H4; obtain ⟨R2, rfl, q4⟩ := H4.out; have P3 : Hid (M3 xb w4) := q4; clear H4 q4)
        | (go_at_call 15; refine (m4 xb _ P3.out).mono ?_; rintro e w5 H5; obtain ⟨R3, rfl, q5⟩ := H5.out; have P4 : Hid (M4 xb w5) := q5; clear H5 q5)
        | (go_at_call 16; refine (m5 xb _ P4.out).mono ?_; rintro e w6 H6; obtain ⟨lb, rfl, q6, b6⟩ := H6.out; have P5 : Hid ((∀ j, j < N → w6.cell? ⟨lb, j, none⟩ = some (.int .i64 (if S ≤ j then yv k l j else yv h l j))) ∧ Bt (fun _ => False) wr w6) := ⟨fun j hj => q6 j hj, b6⟩; clear H6 q6 b6; obtain ⟨k0, k1, k2⟩ := HGB.out w6 (HT.out.trans P5.out.2 (fun _ _ x => x))))
      go_loop [33] (fun tj => ∃ j : Nat, j ≤ N ∧ tj = .int .i64 j) (fun tj => N - (intOf tj).toNat)
      case atStart => exact ⟨0, Nat.zero_le _, rfl⟩
      case round =>
        obtain ⟨j, hj, rfl⟩ := hrel
        by_cases hjN : j < N
        · have hjN1 : (j : Int) < (N : Int) := by omega
          have y0 := P5.out.1 j hjN
          have o0 := (HT.out.trans P5.out.2 (fun _ _ x => x)).cell (fun x => x) (HOL.out.1 j hjN)
          have u0 := (HT.out.trans P5.out.2 (fun _ _ x => x)).cell (fun x => x) (HOL.out.2 j hjN)
          by_cases hSj : S ≤ j
          · have hSj1 : (S : Int) ≤ (j : Int) := by omega
            rw [if_pos hSj] at y0
            generalize yv h l j = v1 at *
            generalize yv k l j = v2 at *
            go_wp2
            go_round
            case rel => exact ⟨j + 1, by omega, by go_num⟩
            case measure => simp [intOf]; omega
          · have hSj1 : ¬ (S : Int) ≤ (j : Int) := by omega
            rw [if_neg hSj] at y0
            generalize yv h l j = v1 at *
            generalize yv k l j = v2 at *
            go_wp2
            go_round
            case rel => exact ⟨j + 1, by omega, by go_num⟩
            case measure => simp [intOf]; omega
        · obtain rfl : j = N := by omega
          go_wp2
          go_roundw
          case rel => exact ⟨2, by omega, rfl, HT.out.trans P5.out.2 (fun _ _ x => x)⟩
          case measure => simp [intOf]
    · obtain rfl : t = 2 := by omega
      go_wp2
      go_ret
      exact ⟨rfl, HW.out.trans HT.out (fun _ _ x => x)⟩
end Go.Proofs.YtddpcjgekfmhkabDoor

/- The statement Unmoved: its first form's row, whatever filter keeps its contract. -/
namespace Go.Proofs.YtddpcjgekfmhkabDoor.unmoved
open Go.ChangeShapes Go.WideShapes Go.ChangeAt Go.RowKit
set_option linter.unusedVariables false

theorem cells_ac : Tryd.prog.cellsOf 23 = 3 := by kernel_rfl
set_option maxRecDepth 20000 in
/-- A configuration that came in. -/
theorem acon_in {H : Type} {enc : TypeId × Value → H} {W : World} {cs : Array Value} {fuel : Nat} {x : DataW H × List MemPlace} (hs : cs.size = Tryd.prog.cellsOf 23) (h : DataW.trod enc Tryd.prog W 0 (fun _ => true) true fuel 23 (Value.agg cs).cells.toList = some x) :
    ∃ B R V : Int, cs = #[.int .i64 B, .int .i64 R, .int .i64 V] ∧ I64 B ∧ I64 R ∧ I64 V := by
  obtain ⟨xs, k, hk, hxy, _, hxl, hf⟩ := DataW.trod_struct Tryd.underlying23 h
  rw [cells_ac] at hs
  obtain ⟨l⟩ := cs
  match l, hs, xs, hxl with
  | [v0, v1, v2], _, [y0, y1, y2], _ =>
    have g0 := hf 0 _ rfl
    have g1 := hf 1 _ rfl
    have g2 := hf 2 _ rfl
    simp [cells_int, Value.cells] at g0 g1 g2
    obtain ⟨z0, q0, _, w0⟩ := DataW.trod_int Tryd.underlying3 g0
    obtain ⟨z1, q1, _, w1⟩ := DataW.trod_int Tryd.underlying3 g1
    obtain ⟨z2, q2, _, w2⟩ := DataW.trod_int Tryd.underlying3 g2
    simp at q0 q1 q2
    subst q0 q1 q2
    exact ⟨z0, z1, z2, rfl, bounds_i64 w0, bounds_i64 w1, bounds_i64 w2⟩

theorem gTab : Tryd.prog.globalNamed "math/bits.deBruijn64tab" = some 1 := by kernel_rfl
theorem gType : (Tryd.prog.globals[1]?).map (·.type) = some 142 := by kernel_rfl
theorem cells64 : Tryd.prog.cellsOf 142 = 64 := by kernel_rfl
theorem cells8 : Tryd.prog.cellsOf 5 = 1 := by kernel_rfl
/-- What the row's list gives: the table's cells. -/
theorem tab_of {W : World} (h : laidMetH Tryd.prog Rows.unmovedRow.laid W) : Tab W := by
  have h' : laidMet Tryd.prog [("math/bits.deBruijn32tab", Rows.laid_math_bits_deBruijn32tab), ("math/bits.deBruijn64tab", Lib.tabData .u8 tzTab)] W := h
  obtain ⟨ps, ⟨g0, t0, cs0, f0, p0, q0, hg0, ht0, hv0, hd0, ⟨g1, t1, cs1, f1, p1, q1, hg1, ht1, hv1, hd1, _, _⟩, _⟩, _⟩ := h'
  obtain rfl := Option.some.inj (gTab.symm.trans hg1)
  obtain rfl := Option.some.inj (gType.symm.trans ht1)
  have e := Lib.cells_of_tab Tryd.underlying142 Tryd.underlying5 cells8 cells64 hd1
  intro i hi
  have hc := World.var?_cell hg1 hv1 i
  rw [hc]
  have hl : tzTab.length = 64 := rfl
  have e2 : cs1[i]? = cs1.toList[i]? := by simp
  rw [e2, e]
  simp [List.getD, hl, hi]

set_option maxRecDepth 100000 in
theorem contract {FI : Nat → Nat → FlS → Res} (ok : FltOk FI) (H : Type) (enc : TypeId × Value → H) (W : World) (base : Nat) (args : Array Value) (ds gs : List (DataW H)) (before : List MemPlace)
    (hval : ∀ (j : Nat) t v, Tryd.f4.params[j]? = some t → args[j]? = some v → Value.okWide Tryd.prog W .any base t v)
    (hW : DataW.Whole enc Tryd.prog Tryd.f4.params.toList Rows.unmovedSpec.vars false W args.toList ds gs before) (hL : laidMetH Tryd.prog Rows.unmovedRow.laid W) (hsz0 : (DataW.weightsEach Tryd.prog (Tryd.f4.params.toList ++ (OpenSpec.ofChange Rows.unmovedSpec).bare.plain.varTypes Tryd.prog) (ds ++ gs)).all (· ≤ reachBytes) = true) :
    Calls Tryd.prog 4 args W fun e W' => ∃ v, e = .returned v ∧ Rows.unmovedSpec.post enc Tryd.prog Tryd.f4 false true false false W args v W' := by
  have hW' := hW
  obtain ⟨p, q, hA0, hV, rfl, hfz, hnd⟩ := hW
  have hA : DataW.TrodAll enc Tryd.prog W 0 (fun _ => true) true Tryd.f4.params.toList args.toList ds p := hA0
  rw [Tryd.params4] at hA hval hsz0
  obtain ⟨v0, vs0, d0, ds0, p0, q0, hargs, rfl, rfl, h0, r0⟩ := trodAll_cons hA
  obtain ⟨v1, vs1, d1, ds1, p1, q1, rfl, rfl, rfl, h1, r1⟩ := trodAll_cons r0
  obtain ⟨v2, vs2, d2, ds2, p2, q2, rfl, rfl, rfl, h2, r2⟩ := trodAll_cons r1
  obtain ⟨v3, vs3, d3, ds3, p3, q3, rfl, rfl, rfl, h3, r3⟩ := trodAll_cons r2
  obtain ⟨v4, vs4, d4, ds4, p4, q4, rfl, rfl, rfl, h4, r4⟩ := trodAll_cons r3
  obtain ⟨rfl, rfl, rfl⟩ := trodAll_nil r4
  obtain rfl : args = #[v0, v1, v2, v3, v4] := by cases args; simp_all
  obtain ⟨rfl, rfl⟩ := trodVars_none hV
  obtain ⟨cs0, rfl, hs0⟩ := okWide_struct Tryd.underlying23 (hval 0 23 v0 rfl rfl)
  obtain ⟨a1, len1, cap1, rfl⟩ := okWide_slice Tryd.underlying24 (hval 1 24 v1 rfl rfl)
  obtain ⟨a2, len2, cap2, rfl⟩ := okWide_slice Tryd.underlying24 (hval 2 24 v2 rfl rfl)
  obtain ⟨a3, len3, cap3, rfl⟩ := okWide_slice Tryd.underlying24 (hval 3 24 v3 rfl rfl)
  obtain ⟨z4, rfl, rfl, rfl, wz4⟩ := open_int Tryd.underlying3 (hval 4 3 v4 rfl rfl) h4
  have k0 := h0
  have lt0 : ∀ x ∈ p0, x.block < W.heap.size := by obtain ⟨m, hm⟩ := k0; exact DataW.trod_lt m _ _ _ hm
  have k1 := h1
  have lt1 : ∀ x ∈ p1, x.block < W.heap.size := by obtain ⟨m, hm⟩ := k1; exact DataW.trod_lt m _ _ _ hm
  have k2 := h2
  have lt2 : ∀ x ∈ p2, x.block < W.heap.size := by obtain ⟨m, hm⟩ := k2; exact DataW.trod_lt m _ _ _ hm
  have k3 := h3
  have lt3 : ∀ x ∈ p3, x.block < W.heap.size := by obtain ⟨m, hm⟩ := k3; exact DataW.trod_lt m _ _ _ hm
  obtain ⟨f0, hf0⟩ := h0
  obtain ⟨f1, hf1⟩ := h1
  obtain ⟨f2, hf2⟩ := h2
  obtain ⟨f3, hf3⟩ := h3
  obtain ⟨B0, R0, V0, rfl, x0, y0, z0⟩ := acon_in hs0 hf0
  obtain ⟨l1, rfl, i1⟩ := nums_wide hf1 (fun es sp e => sized_slice hsz0 (j := 1) (t := 24) (e := 3) rfl (by subst e; rfl) Tryd.underlying24) (tab_of hL)
  obtain ⟨l2, rfl, i2⟩ := nums_wide hf2 (fun es sp e => sized_slice hsz0 (j := 2) (t := 24) (e := 3) rfl (by subst e; rfl) Tryd.underlying24) (tab_of hL)
  obtain ⟨l3, rfl, i3⟩ := nums_wide hf3 (fun es sp e => sized_slice hsz0 (j := 3) (t := 24) (e := 3) rfl (by subst e; rfl) Tryd.underlying24) (tab_of hL)
  have bz4 := bounds_i64 wz4
  clear hA0
  refine (unmoved_core ok W B0 R0 V0 z4 a1 a2 a3 cap1 cap2 cap3 l1 l2 l3 i1 i2 i3 x0 y0 z0 bz4).mono fun e W' ⟨he, bt⟩ => ?_
  have bel : Below W.heap.size W W' := bt.below (Nat.le_refl _) (fun _ _ x => x)
  subst he
  exact ⟨_, rfl, _, _, _, [], _, [], hW', trodAll_mk1 (shut_bool Tryd.underlying4 _), (trodAll_cons_mk (Below.trod laid_out (by kernel_rfl) (of_decide_eq_true (by kernel_rfl)) k0 bel lt0) (trodAll_cons_mk (Below.trod laid_out (by kernel_rfl) (of_decide_eq_true (by kernel_rfl)) k1 bel lt1) (trodAll_cons_mk (Below.trod laid_out (by kernel_rfl) (of_decide_eq_true (by kernel_rfl)) k2 bel lt2) (trodAll_cons_mk (Below.trod laid_out (by kernel_rfl) (of_decide_eq_true (by kernel_rfl)) k3 bel lt3) (trodAll_cons_mk (shut_int Tryd.underlying3 wz4) trodAll_mk0))))), rfl, bel.frame _, fun h => by cases h⟩

theorem laid_met (os : Os) : laidMet Tryd.prog Rows.unmovedRow.laid (({ World.holding Tryd.prog os ⟨#[], #[], []⟩ with heap := ((World.holding Tryd.prog os ⟨#[], #[], []⟩).heap.modify 0 fun | .cells _ t frozen => .cells #[.int .u8 0, .int .u8 1, .int .u8 28, .int .u8 2, .int .u8 29, .int .u8 14, .int .u8 24, .int .u8 3, .int .u8 30, .int .u8 22, .int .u8 20, .int .u8 15, .int .u8 25, .int .u8 17, .int .u8 4, .int .u8 8, .int .u8 31, .int .u8 27, .int .u8 13, .int .u8 23, .int .u8 21, .int .u8 19, .int .u8 16, .int .u8 7, .int .u8 26, .int .u8 12, .int .u8 18, .int .u8 6, .int .u8 11, .int .u8 5, .int .u8 10, .int .u8 9] t frozen | o => o).modify 1 fun | .cells _ t frozen => .cells #[.int .u8 0, .int .u8 1, .int .u8 56, .int .u8 2, .int .u8 57, .int .u8 49, .int .u8 28, .int .u8 3, .int .u8 61, .int .u8 58, .int .u8 42, .int .u8 50, .int .u8 38, .int .u8 29, .int .u8 17, .int .u8 4, .int .u8 62, .int .u8 47, .int .u8 59, .int .u8 36, .int .u8 45, .int .u8 43, .int .u8 51, .int .u8 22, .int .u8 53, .int .u8 39, .int .u8 33, .int .u8 30, .int .u8 24, .int .u8 18, .int .u8 12, .int .u8 5, .int .u8 63, .int .u8 55, .int .u8 48, .int .u8 27, .int .u8 60, .int .u8 41, .int .u8 37, .int .u8 16, .int .u8 46, .int .u8 35, .int .u8 44, .int .u8 21, .int .u8 52, .int .u8 32, .int .u8 23, .int .u8 11, .int .u8 54, .int .u8 26, .int .u8 40, .int .u8 15, .int .u8 34, .int .u8 20, .int .u8 31, .int .u8 10, .int .u8 25, .int .u8 14, .int .u8 19, .int .u8 9, .int .u8 13, .int .u8 8, .int .u8 7, .int .u8 6] t frozen | o => o } : World).forCall (fun _ _ => 0) ⟨#[], #[.agg #[.int .i64 0, .int .i64 0, .int .i64 0], .slice none 0 0, .slice none 0 0, .slice none 0 0, .int .i64 0], []⟩).memory :=
  laidMet_of_run' 8 (by kernel_rfl) (by kernel_rfl)
theorem reads (os : Os) {H : Type} (enc : TypeId × Value → H) : ∃ places, DataW.whole enc Tryd.prog (({ World.holding Tryd.prog os ⟨#[], #[], []⟩ with heap := ((World.holding Tryd.prog os ⟨#[], #[], []⟩).heap.modify 0 fun | .cells _ t frozen => .cells #[.int .u8 0, .int .u8 1, .int .u8 28, .int .u8 2, .int .u8 29, .int .u8 14, .int .u8 24, .int .u8 3, .int .u8 30, .int .u8 22, .int .u8 20, .int .u8 15, .int .u8 25, .int .u8 17, .int .u8 4, .int .u8 8, .int .u8 31, .int .u8 27, .int .u8 13, .int .u8 23, .int .u8 21, .int .u8 19, .int .u8 16, .int .u8 7, .int .u8 26, .int .u8 12, .int .u8 18, .int .u8 6, .int .u8 11, .int .u8 5, .int .u8 10, .int .u8 9] t frozen | o => o).modify 1 fun | .cells _ t frozen => .cells #[.int .u8 0, .int .u8 1, .int .u8 56, .int .u8 2, .int .u8 57, .int .u8 49, .int .u8 28, .int .u8 3, .int .u8 61, .int .u8 58, .int .u8 42, .int .u8 50, .int .u8 38, .int .u8 29, .int .u8 17, .int .u8 4, .int .u8 62, .int .u8 47, .int .u8 59, .int .u8 36, .int .u8 45, .int .u8 43, .int .u8 51, .int .u8 22, .int .u8 53, .int .u8 39, .int .u8 33, .int .u8 30, .int .u8 24, .int .u8 18, .int .u8 12, .int .u8 5, .int .u8 63, .int .u8 55, .int .u8 48, .int .u8 27, .int .u8 60, .int .u8 41, .int .u8 37, .int .u8 16, .int .u8 46, .int .u8 35, .int .u8 44, .int .u8 21, .int .u8 52, .int .u8 32, .int .u8 23, .int .u8 11, .int .u8 54, .int .u8 26, .int .u8 40, .int .u8 15, .int .u8 34, .int .u8 20, .int .u8 31, .int .u8 10, .int .u8 25, .int .u8 14, .int .u8 19, .int .u8 9, .int .u8 13, .int .u8 8, .int .u8 7, .int .u8 6] t frozen | o => o } : World).forCall (fun _ _ => 0) ⟨#[], #[.agg #[.int .i64 0, .int .i64 0, .int .i64 0], .slice none 0 0, .slice none 0 0, .slice none 0 0, .int .i64 0], []⟩).memory Tryd.f4.params.toList Rows.unmovedSpec.vars false (#[.agg #[.int .i64 0, .int .i64 0, .int .i64 0], .slice none 0 0, .slice none 0 0, .slice none 0 0, .int .i64 0] : Array Value).toList 8 = some ([.agg [.lit (.int .i64 0), .lit (.int .i64 0), .lit (.int .i64 0)], .nil, .nil, .nil, .lit (.int .i64 0)], [], places) :=
  ⟨[], by kernel_rfl⟩

set_option maxRecDepth 100000 in
theorem lifted {FI : Nat → Nat → FlS → Res} (ok : FltOk FI) (os : Os) (started : os.Started) (H : Type) (enc : TypeId × Value → H) (F : Stop.Interp) :
    ReturnsInHanded {} Tryd.checked os 4 .any ((OpenSpec.ofChange Rows.unmovedSpec).preRow enc Tryd.prog Tryd.f4 Rows.unmovedRow.domain false Rows.unmovedRow.laid) (((OpenSpec.ofChange Rows.unmovedSpec).at F).post enc Tryd.prog Tryd.f4 false true false false) := by
  obtain ⟨places, hx⟩ := reads os enc
  refine returnsInHanded_of_row (C := Tryd.checked) (s := OpenSpec.ofChange Rows.unmovedSpec) own_knob started (by kernel_rfl) Tryd.func4
    (witness_row_at (enc := enc) (C := Tryd.checked) false ({ World.holding Tryd.prog os ⟨#[], #[], []⟩ with heap := ((World.holding Tryd.prog os ⟨#[], #[], []⟩).heap.modify 0 fun | .cells _ t frozen => .cells #[.int .u8 0, .int .u8 1, .int .u8 28, .int .u8 2, .int .u8 29, .int .u8 14, .int .u8 24, .int .u8 3, .int .u8 30, .int .u8 22, .int .u8 20, .int .u8 15, .int .u8 25, .int .u8 17, .int .u8 4, .int .u8 8, .int .u8 31, .int .u8 27, .int .u8 13, .int .u8 23, .int .u8 21, .int .u8 19, .int .u8 16, .int .u8 7, .int .u8 26, .int .u8 12, .int .u8 18, .int .u8 6, .int .u8 11, .int .u8 5, .int .u8 10, .int .u8 9] t frozen | o => o).modify 1 fun | .cells _ t frozen => .cells #[.int .u8 0, .int .u8 1, .int .u8 56, .int .u8 2, .int .u8 57, .int .u8 49, .int .u8 28, .int .u8 3, .int .u8 61, .int .u8 58, .int .u8 42, .int .u8 50, .int .u8 38, .int .u8 29, .int .u8 17, .int .u8 4, .int .u8 62, .int .u8 47, .int .u8 59, .int .u8 36, .int .u8 45, .int .u8 43, .int .u8 51, .int .u8 22, .int .u8 53, .int .u8 39, .int .u8 33, .int .u8 30, .int .u8 24, .int .u8 18, .int .u8 12, .int .u8 5, .int .u8 63, .int .u8 55, .int .u8 48, .int .u8 27, .int .u8 60, .int .u8 41, .int .u8 37, .int .u8 16, .int .u8 46, .int .u8 35, .int .u8 44, .int .u8 21, .int .u8 52, .int .u8 32, .int .u8 23, .int .u8 11, .int .u8 54, .int .u8 26, .int .u8 40, .int .u8 15, .int .u8 34, .int .u8 20, .int .u8 31, .int .u8 10, .int .u8 25, .int .u8 14, .int .u8 19, .int .u8 9, .int .u8 13, .int .u8 8, .int .u8 7, .int .u8 6] t frozen | o => o } : World) #[.agg #[.int .i64 0, .int .i64 0, .int .i64 0], .slice none 0 0, .slice none 0 0, .slice none 0 0, .int .i64 0] rfl (by kernel_rfl) (by kernel_rfl) (by kernel_rfl)
      (OpenSpec.preRow_of_cond 8 hx (by kernel_rfl) (fun k hk => by cases hk) (by kernel_rfl) (laid_met os))) ?_
  intro W base args ds gs before hval hW k1 hcond hsz hL _ _
  exact contract ok H enc W base args ds gs before hval hW hL hsz

theorem said {FI : Nat → Nat → FlS → Res} (ok : FltOk FI) : Rows.UnmovedSaid :=
  OpenClaim.holds_of_cond 4 Tryd.f4 rfl rfl rfl rfl rfl rfl rfl ⟨rfl, rfl, rfl, rfl, rfl⟩ rfl rfl rfl rfl rfl (by kernel_rfl) Tryd.func4 (by kernel_rfl)
    (of_decide_eq_true (by kernel_rfl)) (by unfold Func.isWrapper; first | (rw [if_pos (by decide +kernel)]; kernel_rfl) | (rw [if_neg (by decide +kernel)]; exact ⟨rfl, rfl⟩))
    (fun os started H enc _ F => by rw [OpenClaim.pre_eq_preRow]; exact lifted ok os started H enc F)

theorem plain (f : FuncId) (fn : Func) (hf : Tryd.pinned.checked.prog.funcNamed "weave/weavekeep.Unmoved" = some f) (hfn : Tryd.pinned.checked.prog.funcs[f]? = some fn) :
    false = Tryd.pinned.checked.prog.looks [] ∧ ∀ (j : Nat) t, fn.params[j]? = some t → Tryd.pinned.checked.prog.wantsStandIn t = false := by
  obtain rfl : f = 4 := Option.some.inj ((show Tryd.prog.funcNamed "weave/weavekeep.Unmoved" = some 4 by kernel_rfl).symm.trans hf) |>.symm
  obtain rfl : fn = Tryd.f4 := (Option.some.inj (Tryd.func4.symm.trans hfn)).symm
  refine ⟨by kernel_rfl, fun j t ht => ?_⟩
  rw [Tryd.params4] at ht
  rcases j with _ | _ | _ | _ | _ | j <;> simp at ht <;> subst ht <;> kernel_rfl

theorem card {FI : Nat → Nat → FlS → Res} (ok : FltOk FI) : Rows.UnmovedCardSaid :=
  Claim7.holds_tied_plain_at .later [] _ _ _ _ (said ok) (fun _ h => by cases h) (by kernel_rfl) (fun _ h => by cases h) unmoved_row_tie rfl ⟨rfl, rfl⟩ (by kernel_rfl) rfl plain (by kernel_rfl)

end Go.Proofs.YtddpcjgekfmhkabDoor.unmoved

/- The statement Unmoved, proved: its first form's card. -/
namespace Go.Proofs.YtddpcjgekfmhkabDoor.unmoved
theorem proved : Rows.UnmovedCardSaid := card flt_ok
#print axioms proved
end Go.Proofs.YtddpcjgekfmhkabDoor.unmoved
