/- Rings, walked: the law itself. -/
import Derived.Test.YtddpcjgekfmhkaaGf
namespace Go.Proofs.Ytddpcjgekfmhkaa
open Go.RowKit Go.Maps
set_option linter.unusedSimpArgs false
set_option linter.unusedVariables false

set_option maxHeartbeats 4000000 in
set_option maxRecDepth 20000 in
theorem rings_core (a b : Int) (sp : Option Addr) (sb so len cap : Nat) (W K N U : Nat → Int) (T : Nat → ByteArray) (w : World) (ha1 : -9223372036854775808 ≤ a) (ha2 : a ≤ 9223372036854775807) (hb1 : -9223372036854775808 ≤ b) (hb2 : b ≤ 9223372036854775807)
    (hlen : len ≤ 1048576) (hsp : 0 < len → sp = some ⟨sb, so, none⟩) (hD : DArr w sb so len W K N U T) :
    Calls Try.prog 7 #[.int .i64 a, .int .i64 b, .slice sp len cap] w fun e w' => e = .returned (.bool true) ∧ Below w.heap.size w w' := by
  have HD : Hid ((0 < len → sp = some ⟨sb, so, none⟩) ∧ DArr w sb so len W K N U T) := ⟨hsp, hD⟩
  have t1 : True := trivial
  have t2 : True := trivial
  clear hsp hD
  go_enter Try.func7, Try.ntmps7
  go_wp2_with (first
    | (go_at_call 28; first
        | (have _t := t1; refine (newLine_any a w.heap.size w ha1 ha2 (Nat.le_refl _)).mono ?_; rintro e w1 ⟨rfl, L1⟩; have H1 : Hid (Line w1 w.heap.size (w.heap.size + 1) (fun k => k = w.heap.size + 1 ∨ k = w.heap.size) 0 (max a 0) 0 ∧ Bt (fun _ => False) w w1 ∧ w1.heap.size = w.heap.size + 2) := L1; clear L1 t1)
        | (have _t := t2; refine (newLine_any b w.heap.size w1 hb1 hb2 H1.out.2.1.size).mono ?_; rintro e w2 ⟨rfl, L2⟩; have H2 : Hid (Line w2 w.heap.size (w1.heap.size + 1) (fun k => k = w1.heap.size + 1 ∨ k = w1.heap.size) 0 (max b 0) 0 ∧ Bt (fun _ => False) w1 w2 ∧ w2.heap.size = w1.heap.size + 2) := L2; clear L2 t2)
        | (refine (newLine_any 3 w.heap.size w2 (by omega) (by omega) (Nat.le_trans H1.out.2.1.size H2.out.2.1.size)).mono ?_; rintro e w3 ⟨rfl, L3⟩; have H3 : Hid (Line w3 w.heap.size (w2.heap.size + 1) (fun k => k = w2.heap.size + 1 ∨ k = w2.heap.size) 0 3 0 ∧ Bt (fun _ => False) w2 w3 ∧ w3.heap.size = w2.heap.size + 2) := L3; clear L3))
    | (go_at_call 29; refine (g3_start w w1 w2 w3 _ _ H1.out H2.out H3.out _).mono ?_; rintro e w4 ⟨rfl, C4⟩)
    | (go_at_call 30; refine C4.out.mono ?_; rintro e w5 ⟨rfl, ⟨rb5, c5, C5⟩, H5⟩; clear C4)
    | (go_at_call 31; refine C5.out.mono ?_; rintro e w' ⟨rfl, hw⟩; subst w'; clear C5))
  obtain ⟨x1, hx1⟩ : ∃ x1, w.heap.size + 1 = x1 := ⟨_, rfl⟩
  obtain ⟨x2, hx2⟩ : ∃ x2, w1.heap.size + 1 = x2 := ⟨_, rfl⟩
  rw [hx1, hx2] at H5
  rw [hx1, hx2]
  clear hx1 hx2 H1 H2 H3 c5
  go_loopw [12] (fun ti wr => ∃ i : Nat, i ≤ len ∧ ti = .int .i64 i ∧ Hid (G3x w wr x1 x2 i)) (fun ti _ => len - (intOf ti).toNat)
  case atStart => exact ⟨0, Nat.zero_le _, rfl, H5⟩
  case round =>
    clear H5
    obtain ⟨i, hi, rfl, HR⟩ := hrel
    by_cases hlt : i < len
    · obtain rfl := HD.out.1 (by omega)
      have hbel : Bt (fun _ => False) w wr := by obtain ⟨F1, F2, h⟩ := HR.out; exact h.bel
      obtain ⟨e0, e1, e2, e3, e4, n1, n2⟩ := HD.out.2 i hlt
      have f0 := hbel.cell (fun x => x) e0
      have f1 := hbel.cell (fun x => x) e1
      have f2 := hbel.cell (fun x => x) e2
      have f3 := hbel.cell (fun x => x) e3
      have f4 := hbel.cell (fun x => x) e4
      clear hbel e0 e1 e2 e3 e4
      generalize W i = wi at *
      generalize K i = ki at *
      generalize N i = ni at *
      generalize U i = ui at *
      generalize T i = si at *
      have i1 : (i : Int) < (len : Int) := by omega
      have hwc : Int.tmod wi 2 = 0 ∨ ¬ Int.tmod wi 2 = 0 := Decidable.em _
      have tw1 : True := trivial
      by_cases k1 : ki = 1
      · subst k1
        rcases hwc with hw | hw
        all_goals
          go_wp2_with (first
            | (go_at_call 32; refine (things_any wi 1 ni ui si _ n1 n2).mono ?_; rintro e u1 ⟨v1, m1, rfl, hm1, T1⟩; have H5 := g3_put (HR.out.bt ((Bt.refl _ _).alloc _)) (by omega) T1 hm1; clear T1)
            | (go_at_call 29; refine (H5 _ (by first | exact .inl rfl | exact .inr rfl)).mono ?_; rintro e u2 ⟨rfl, H6⟩; clear H5)
            | (go_at_call 33; first | (have _t := tw1; refine (g3_whole H6.out (by omega) _ (.inl rfl)).mono ?_; rintro e w' ⟨rfl, hw⟩; subst w'; clear tw1) | (refine (g3_whole H6.out (by omega) _ (.inr rfl)).mono ?_; rintro e w' ⟨rfl, hw⟩; subst w')))
          go_roundw
          case rel => exact ⟨i + 1, by omega, by go_num, H6⟩
          case measure => simp [intOf]; omega
      · by_cases k2 : ki = 2
        · subst k2
          rcases hwc with hw | hw
          all_goals
            go_wp2_with (first
              | (go_at_call 30; refine (g3_take (HR.out.bt ((Bt.refl _ _).alloc _)) (by omega) ni n1 n2 _ (by first | exact .inl rfl | exact .inr rfl)).mono ?_; rintro e u2 ⟨rfl, H6⟩)
              | (go_at_call 33; first | (have _t := tw1; refine (g3_whole H6.out (by omega) _ (.inl rfl)).mono ?_; rintro e w' ⟨rfl, hw⟩; subst w'; clear tw1) | (refine (g3_whole H6.out (by omega) _ (.inr rfl)).mono ?_; rintro e w' ⟨rfl, hw⟩; subst w')))
            go_roundw
            case rel => exact ⟨i + 1, by omega, by go_num, H6⟩
            case measure => simp [intOf]; omega
        · obtain ⟨u2, hu2⟩ : ∃ u2, u2 = wr.alloc (.cells #[.int .i64 wi, .int .i64 ki, .int .i64 ni, .int .i64 ui, .string si] 52) := ⟨_, rfl⟩
          have H6 : Hid (G3x w u2 x1 x2 (i + 1)) := by rw [hu2]; exact (HR.out.bt ((Bt.refl _ _).alloc _)).mono (by omega)
          by_cases k3 : ki = 3
          · subst k3
            obtain ⟨ra, na, aa, ca, p0, p2, pl⟩ := g3_len H6.out x1 (.inl rfl)
            obtain ⟨rc, nc, ac, cc, q0, q2, ql⟩ := g3_len H6.out x2 (.inr rfl)
            rw [hu2] at p0 p2 q0 q2
            rcases hwc with hw | hw
            · clear ql
              go_wp2
              rw [← hu2] at p0 p2 q0 q2
              rw [← hu2]
              clear hu2
              go_quiet ((go_at_call 31; exact Calls.quiet_of_same (pl _ ((Bt.refl _ u2).drewN _))))
              have H7 : ∀ q, Hid (G3x w (u2.drewN q) x1 x2 (i + 1)) := fun q => H6.out.bt ((Bt.refl _ u2).drewN q)
              go_wp2_with ((go_at_call 33; first | (have _t := tw1; refine (g3_whole (H7 _).out (by omega) _ (.inl rfl)).mono ?_; rintro e w' ⟨rfl, hw⟩; subst w'; clear tw1) | (refine (g3_whole (H7 _).out (by omega) _ (.inr rfl)).mono ?_; rintro e w' ⟨rfl, hw⟩; subst w')))
              go_roundw
              case rel => exact ⟨i + 1, by omega, by go_num, H7 _⟩
              case measure => simp [intOf]; omega
            · clear pl
              go_wp2
              rw [← hu2] at p0 p2 q0 q2
              rw [← hu2]
              clear hu2
              go_quiet ((go_at_call 31; exact Calls.quiet_of_same (ql _ ((Bt.refl _ u2).drewN _))))
              have H7 : ∀ q, Hid (G3x w (u2.drewN q) x1 x2 (i + 1)) := fun q => H6.out.bt ((Bt.refl _ u2).drewN q)
              go_wp2_with ((go_at_call 33; first | (have _t := tw1; refine (g3_whole (H7 _).out (by omega) _ (.inl rfl)).mono ?_; rintro e w' ⟨rfl, hw⟩; subst w'; clear tw1) | (refine (g3_whole (H7 _).out (by omega) _ (.inr rfl)).mono ?_; rintro e w' ⟨rfl, hw⟩; subst w')))
              go_roundw
              case rel => exact ⟨i + 1, by omega, by go_num, H7 _⟩
              case measure => simp [intOf]; omega
          · rcases hwc with hw | hw
            all_goals
              rw [hu2] at H6
              go_wp2_with ((go_at_call 33; first | (have _t := tw1; refine (g3_whole H6.out (by omega) _ (.inl rfl)).mono ?_; rintro e w' ⟨rfl, hw⟩; subst w'; clear tw1) | (refine (g3_whole H6.out (by omega) _ (.inr rfl)).mono ?_; rintro e w' ⟨rfl, hw⟩; subst w')))
              go_roundw
              case rel => exact ⟨i + 1, by omega, by go_num, H6⟩
              case measure => simp [intOf]; omega
    · obtain rfl : len = i := by omega
      obtain ⟨ra, na, aa, ca, p0, p2, pl⟩ := g3_len HR.out x1 (.inl rfl)
      obtain ⟨rc, nc, ac, cc, q0, q2, ql⟩ := g3_len HR.out x2 (.inr rfl)
      go_wp2
      go_quiet ((go_at_call 31; first | with_reducible exact Calls.quiet_of_same (pl _ ((Bt.refl _ wr).drewN _)) | exact Calls.quiet_of_same (ql _ ((Bt.refl _ wr).drewN _))))
      all_goals
        go_wp2
        go_ret
        refine ⟨rfl, ?_⟩
        obtain ⟨F1, F2, h⟩ := HR.out
        exact (h.bel.drewN _).below (Nat.le_refl _) (fun _ _ x => x)

end Go.Proofs.Ytddpcjgekfmhkaa
