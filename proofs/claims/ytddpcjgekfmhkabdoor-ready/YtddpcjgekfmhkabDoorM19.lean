/- Texts joined: Xq Xr Xs Xt. -/
import Derived.Test.YtddpcjgekfmhkabDoorM18

/- Push, Flush, Pull, State, walked. -/
namespace Go.Proofs.YtddpcjgekfmhkabDoor
open Go.RowKit
set_option linter.unusedSimpArgs false
set_option linter.unusedVariables false

theorem FI.fr (base xb : Nat) (s : FlS) : Fr base (FI base xb s) :=
  ⟨fun h b hs hb => by obtain ⟨p, h1, h2, h3⟩ := h; exact ⟨p, h1, h2, (FP.fr _ _ _).btw h3 b hs hb⟩, fun h hk => by obtain ⟨p, h1, h2, h3⟩ := h; exact (FP.fr _ _ _).lt h3 hk⟩
section
variable {base xb : Nat} {p : Par} {s : FlS} {w : World} {F : Nat → Prop}
theorem fp_lena (h : FP base xb p w F) (m : Nat) : Calls Tryd.prog 31 #[.pointer (some ⟨p.ab, 0, none⟩)] (w.drewN m) fun e w' => e = .returned (.int .i64 p.Y.length) ∧ w' = w.drewN m := by
  have h' := (FP.fr base xb p).bt h ((Bt.refl (fun _ => False) w).drewN m) (fun _ _ x => x)
  obtain ⟨G, hG, _⟩ := h'.step 2 (by omega)
  exact ri_len (hG : RI base p.ab p.R p.Y (w.drewN m) G)
theorem Rep.Y_len (r : Rep s p) : p.Y.length = s.whole - s.pulled := by rw [r.Y]; unfold FlS.outs; rw [List.length_map, List.length_range]
theorem Rep.waits (r : Rep s p) (ok : s.Ok) : (p.S.length : Int) + (p.Y.length : Int) = ((s.X.length - s.pulled : Nat) : Int) ∧ p.S.length ≤ 65536 ∧ p.Y.length ≤ 65536 := by
  rw [r.S_len, r.Y_len]
  have h1 := s.whole_le' ok.B0
  have h2 := ok.pl
  have h3 := ok.rm
  have h4 := ok.r1
  omega
theorem waiting_any (h : FP base xb p w F) (n : Nat) (hn : (p.S.length : Int) + (p.Y.length : Int) = (n : Int)) (h1 : p.S.length ≤ 65536) (h2 : p.Y.length ≤ 65536) :
    Calls Tryd.prog 33 #[.pointer (some ⟨xb, 0, none⟩)] w fun e w' => e = .returned (.int .i64 n) ∧ ∃ m : Nat, w' = w.drewN m := by
  have c4 := h.blk.c4
  have c5 := h.blk.c5
  have cs := fp_len h
  have ca := fp_lena h
  generalize p.S.length = a at *
  generalize p.Y.length = b at *
  have tk : True := trivial
  by_cases e : p.sb = p.ab
  · exfalso
    obtain ⟨_, _, Fs, q1, q2, q3⟩ := h
    obtain ⟨g1, _, _, _, k1⟩ := q1 1 (by omega)
    obtain ⟨g2, _, _, _, k2⟩ := q1 2 (by omega)
    have := q2 1 2 p.sb (by omega) (by omega) ((k1 _).2 (.inl rfl)) ((k2 _).2 (.inl e))
    omega
  · generalize p.sb = sb at *
    generalize p.ab = ab at *
    clear h tk
    go_enter Tryd.func33, Tryd.ntmps33
    go_wp2
    go_quiet ((go_at_call 31; first | (with_reducible exact Calls.quiet_of_same (cs _)) | (with_reducible exact Calls.quiet_of_same (ca _))))
    go_wp2
    go_ret
    exact ⟨by first | go_num | simp [hn], _, rfl⟩
theorem room_any' (h : FP base xb p w F) (r : Rep s p) (ok : s.Ok) (m0 : Nat) : Calls Tryd.prog 29 #[.pointer (some ⟨xb, 0, none⟩)] (w.drewN m0) fun e w' => e = .returned (.int .i64 (s.room : Nat)) ∧ ∃ m : Nat, w' = (w.drewN m0).drewN m := by
  have h' := (FP.fr base xb p).bt h ((Bt.refl (fun _ => False) w).drewN m0) (fun _ _ x => x)
  have ht := r.waits ok
  have c1 := h'.blk.c1
  have hR := r.R
  have h1 := ok.r1
  have h2 := ok.rm
  obtain ⟨n, hn⟩ : ∃ n, s.X.length - s.pulled = n := ⟨_, rfl⟩
  have hrm : ((s.room : Nat) : Int) = (p.R : Int) - (n : Int) := by unfold FlS.room; omega
  rw [hn] at ht
  have cw : ∀ m, Calls Tryd.prog 33 #[.pointer (some ⟨xb, 0, none⟩)] ((w.drewN m0).drewN m) fun e w' => e = .returned (.int .i64 n) ∧ ∃ m' : Nat, w' = ((w.drewN m0).drewN m).drewN m' := fun m =>
    waiting_any ((FP.fr base xb p).bt h' ((Bt.refl (fun _ => False) (w.drewN m0)).drewN m) (fun _ _ x => x)) n ht.1 ht.2.1 ht.2.2
  have hR2 : p.R ≤ 65536 := by omega
  have hn2 : n ≤ 65536 := by omega
  rw [hrm]
  generalize p.R = R at *
  generalize w.drewN m0 = w at *
  clear h h' r ok ht hR h1 h2 hn hrm
  go_enter Tryd.func29, Tryd.ntmps29
  go_wp2
  go_quiet ((go_at_call 33; exact Calls.quiet_of (cw _)))
  go_wp2
  go_ret
  exact ⟨by first | rfl | go_num, _, rfl⟩
end
end Go.Proofs.YtddpcjgekfmhkabDoor

/- Push, Flush, Pull, State, walked. -/
namespace Go.Proofs.YtddpcjgekfmhkabDoor
open Go.RowKit
set_option linter.unusedSimpArgs false
set_option linter.unusedVariables false

section
variable {base xb : Nat} {s : FlS} {w : World} {F : Nat → Prop}
theorem Rw.jr {w : World} {g : Nat} {l : List Int} (h : Rw w g 3 (ints l)) : Jr w g l.length (at0 l) := by
  intro i hi
  have e := at0_some hi
  unfold Rw at h
  rw [ints_flat] at h
  refine ⟨?_, ?_⟩
  · simp [World.cell?, h, e]
  · simp [World.frozen?, h]
theorem outs_take {a b : Nat} (h : a ≤ b) : (s.outs b).take a = s.outs a := by
  unfold FlS.outs
  rw [← List.map_take, List.take_range, Nat.min_eq_left h]
theorem outs_drop {a b : Nat} (h : a ≤ b) : (s.outs b).drop a = (s.took a).outs (b - a) := by
  unfold FlS.outs FlS.took
  rw [← List.map_drop]
  apply List.ext_getElem?
  intro i
  simp only [List.getElem?_map, List.getElem?_drop]
  by_cases e : i < b - a
  · rw [List.getElem?_range (by omega), List.getElem?_range e]
    simp only [Option.map_some, Nat.add_assoc]
    rfl
  · rw [List.getElem?_eq_none (by simp; omega), List.getElem?_eq_none (by simp; omega)]; rfl

theorem pull_any (h : FI base xb s w F) (hs : s.Small) (n : Int) (h0 : -9223372036854775808 ≤ n) (h1 : n ≤ 9223372036854775807) :
    Calls Tryd.prog 16 #[.pointer (some ⟨xb, 0, none⟩), .int .i64 n] w fun e w' => PullP FI base xb s n w F e w' := by
  obtain ⟨p, p1, r, hp⟩ := h
  have hcan : s.can n = min n.toNat (s.whole - s.pulled) := rfl
  have C1 : Calls Tryd.prog 32 #[.pointer (some ⟨p.ab, 0, none⟩), .int .i64 n] w fun e w' => e = .returned (.slice (some ⟨w.heap.size, 0, none⟩) (s.can n) (s.can n)) ∧ Hid (PullP FI base xb s n w F e w') := by
    obtain ⟨G, hG, hGF, step⟩ := hp.step 2 (by omega)
    refine (ri_take (hG : RI base p.ab p.R p.Y w G) n (s.can n) (by rw [r.Y_len, hcan]; omega)).mono ?_
    rintro e w' ⟨rfl, q1, q2, q3⟩
    obtain ⟨F', k1, k2, k3⟩ := step { p with Y := p.Y.drop (s.can n) } w' G (fun i hi hne => by
      match i, hi, hne with
      | 0, _, _ => rfl
      | 1, _, _ => rfl
      | 2, _, q => exact absurd rfl q
      | 3, _, _ => rfl
      | 4, _, _ => rfl
      | 5, _, _ => rfl
      | 6, _, _ => rfl) q2 ⟨q3, fun k hk => .inl hk⟩
    have hle : s.can n ≤ s.whole - s.pulled := by rw [hcan]; exact Nat.min_le_right _ _
    have e1 : p.Y.take (s.can n) = s.outs (s.can n) := by rw [r.Y, outs_take hle]
    rw [e1] at q1
    have hlen : (s.outs (s.can n)).length = s.can n := by unfold FlS.outs; rw [List.length_map, List.length_range]
    have hj := q1.jr
    rw [hlen] at hj
    refine ⟨rfl, some ⟨w.heap.size, 0, none⟩, w.heap.size, rfl, fun _ => rfl, fun e => (by cases e), hj, fun _ => Nat.le_refl _, F', ⟨{ p with Y := p.Y.drop (s.can n) }, p1, ?_, k1⟩, k2, fun _ e => ?_⟩
    · refine ⟨r.B, r.R, r.W, r.K, r.K10, r.acc, r.pend, r.S, ?_, r.nb, r.z, r.h, r.hn, r.one⟩
      show p.Y.drop (s.can n) = (s.took (s.can n)).outs (s.whole - (s.pulled + s.can n))
      rw [r.Y, outs_drop hle, show s.whole - s.pulled - s.can n = s.whole - (s.pulled + s.can n) by omega]
    · rcases k3 _ e with q | q
      · have := ((FP.fr _ _ _).lt hp (hGF _ q)).2; omega
      · have := ((FP.fr _ _ _).lt hp q).2; omega
  have c5 := hp.blk.c5
  clear hcan
  generalize s.can n = m at *
  clear hp r hs
  go_enter Tryd.func16, Tryd.ntmps16
  go_wp2_with (go_at_call 32; refine C1.mono ?_; rintro e w1 ⟨rfl, H1⟩)
  go_ret
  exact H1.out

set_option maxHeartbeats 1000000 in
theorem state_any (h : FI base xb s w F) (hs : s.Small) : Calls Tryd.prog 17 #[.pointer (some ⟨xb, 0, none⟩)] w fun e w' => e = .returned (stateV s) ∧ Bt (fun _ => False) w w' := by
  obtain ⟨p, p1, r, hp⟩ := h
  have ht := r.waits hs.ok
  obtain ⟨n, hn⟩ : ∃ n, s.X.length - s.pulled = n := ⟨_, rfl⟩
  rw [hn] at ht
  have hpX := hs.ok.pX
  have hpl := hs.ok.pl
  have hx := hs.x
  have FPA : ∀ w', Bt (fun _ => False) w w' → FP base xb p w' F := fun w' b => (FP.fr base xb p).bt hp b (fun _ _ x => x)
  have CW : ∀ w', Bt (fun _ => False) w w' → Calls Tryd.prog 33 #[.pointer (some ⟨xb, 0, none⟩)] w' fun e w'' => e = .returned (.int .i64 n) ∧ ∃ m : Nat, w'' = w'.drewN m := fun w' b => waiting_any (FPA w' b) n ht.1 ht.2.1 ht.2.2
  have CL : ∀ w', Bt (fun _ => False) w w' → Calls Tryd.prog 31 #[.pointer (some ⟨p.ab, 0, none⟩)] w' fun e w'' => e = .returned (.int .i64 p.Y.length) ∧ ∃ m : Nat, w'' = w'.drewN m := fun w' b => by
    obtain ⟨G, hG, _⟩ := (FPA w' b).step 2 (by omega)
    refine (ri_len (hG : RI base p.ab p.R p.Y w' G)).mono ?_
    rintro e w'' ⟨rfl, rfl⟩
    exact ⟨rfl, 0, rfl⟩
  have c3 := hp.blk.c3
  have c5 := hp.blk.c5
  have c9 := hp.blk.c9
  have hxb := hp.blk.lt
  have BA : ∀ o, Bt (fun _ => False) w (w.alloc o) := fun o => (Bt.refl _ _).alloc o
  have hne : ¬ w.heap.size = xb := by omega
  have hne2 : ¬ xb = w.heap.size := by omega
  have ev : stateV s = .agg #[.int .i64 p.acc, .int .i64 ((p.acc : Int) - (n : Int)), .int .i64 p.Y.length, .int .i64 p.pend] := by
    unfold stateV
    rw [r.acc, r.Y_len, r.pend, show (s.X.length : Int) - (n : Int) = (s.pulled : Int) by omega]
  rw [ev]
  have ha : p.acc ≤ 18014398509481984 := by rw [r.acc]; exact hx
  have hn2 : n ≤ 18014398509481984 := by omega
  generalize p.acc = ac at *
  generalize p.Y.length = yl at *
  generalize p.pend = pe at *
  generalize p.ab = ab at *
  clear hp r hs FPA ev ht
  go_enter Tryd.func17, Tryd.ntmps17
  go_wp2
  refine wp_region_quiet_seq 21 0 (by kernel_rfl) (by kernel_rfl) (by kernel_rfl) ?_
  repeat (quiet_step ((first
    | (go_at_call 33; exact Calls.quiet_of (CW _ ((BA _).drewN _)))
    | (go_at_call 31; exact Calls.quiet_of (CL _ ((BA _).drewN _))))))
  refine wpQuiet_nil ?_
  rintro _ ⟨nq, rfl⟩
  go_wp2
  exact bodyPost_ret (v := .agg #[.int .i64 ac, .int .i64 ((ac : Int) - (n : Int)), .int .i64 yl, .int .i64 pe]) (by simp [results, Tryd.results17, go_sem]) rfl ⟨rfl, by repeat (first | exact Bt.refl _ _ | apply Bt.drew | apply Bt.drewN | apply Bt.alloc | (refine Bt.setCell ?_ ?_ _; rotate_left; · intro q; simp at q))⟩

set_option maxHeartbeats 1000000 in
set_option maxRecDepth 20000 in
theorem push_any (h : FI base xb s w F) (hs : s.Small) (a : Option Addr) (c : Nat) (l : List Int) (src : Src w a (ints l)) (hl : l.length ≤ 1048576) (hlc : l.length ≤ c) (hnil : a = none → c = 0) (haF : ∀ b o, a = some ⟨b, o, none⟩ → ¬ F b) :
    Calls Tryd.prog 13 #[.pointer (some ⟨xb, 0, none⟩), .slice a l.length c] w fun e w' => e = .returned (.tuple #[.int .i64 (pushR s l), .int .i64 (pushE s l)]) ∧ Steps w F (FI base xb (pushS s l)) w' := by
  have C1 := areSamples_any a c l w src (by omega)
  have hx := hs.x
  have hroom : s.room ≤ 65536 := by have := hs.ok.r1; unfold FlS.room; omega
  by_cases hall : ∀ v ∈ l, okSample v
  · have C2 : ∀ m, Calls Tryd.prog 29 #[.pointer (some ⟨xb, 0, none⟩)] (w.drewN m) fun e w' => e = .returned (.int .i64 (s.room : Nat)) ∧ ∃ m' : Nat, w' = (w.drewN m).drewN m' := fun m => by
      obtain ⟨p, p1, r, hp⟩ := h
      exact room_any' hp r hs.ok m
    have C3 : ∀ (m n : Nat), n = pushN s l → Calls Tryd.prog 30 #[.pointer (some ⟨xb, 0, none⟩), .slice a n c] (w.drewN m) fun e w' => e = .returned (.tuple #[]) ∧ Hid (Steps w F (FI base xb (pushS s l)) w') := by
      intro m n hn
      have b0 : Bt (fun _ => False) w (w.drewN m) := (Bt.refl _ _).drewN m
      have hlen : (l.take n).length = n := by rw [List.length_take, hn]; unfold pushN; omega
      have hsrc : Src (w.drewN m) a (ints (l.take n)) := by rw [ints_take]; exact (src.bt b0 (fun _ _ _ x => x)).take (ints_el l) n
      have := accept_any ((FI.fr base xb s).bt h b0 (fun _ _ x => x)) hs.ok (by omega) (l.take n) (by rw [hlen, hn]; unfold pushN; omega) (fun v hv => hall v (List.mem_of_mem_take hv)) a c hsrc (by rw [hlen, hn]; unfold pushN; omega) haF
      rw [hlen] at this
      refine this.mono ?_
      rintro e w' ⟨rfl, F', q1, q2⟩
      refine ⟨rfl, F', ?_, (Stp.of_bt b0).trans q2⟩
      unfold pushS
      rw [if_pos hall, ← hn]; exact q1
    have e1 : pushR s l = (pushN s l : Nat) := by unfold pushR; rw [if_pos hall]
    have e2 : pushE s l = 0 := by unfold pushE; rw [if_pos hall]
    have hpN : pushN s l = min l.length s.room := rfl
    have C1' : Calls Tryd.prog 28 #[.slice a l.length c] w fun e w' => e = .returned (.bool true) ∧ w' = w := by
      refine C1.mono ?_
      rintro e w' ⟨⟨ok, rfl, hk⟩, rfl⟩
      rw [hk.2 hall]; exact ⟨rfl, rfl⟩
    rw [e1, e2]
    obtain ⟨N, hN⟩ : ∃ N, pushN s l = N := ⟨_, rfl⟩
    obtain ⟨M, hM⟩ : ∃ M, l.length = M := ⟨_, rfl⟩
    obtain ⟨R, hR⟩ : ∃ R, s.room = R := ⟨_, rfl⟩
    have C3' : ∀ (m n : Nat), n = N → Calls Tryd.prog 30 #[.pointer (some ⟨xb, 0, none⟩), .slice a n c] (w.drewN m) fun e w' => e = .returned (.tuple #[]) ∧ Hid (Steps w F (FI base xb (pushS s l)) w') := fun m n hn => C3 m n (by rw [hN]; exact hn)
    rw [hM] at C1' hl hlc ⊢
    rw [hR] at C2 hroom
    rw [hN]
    rw [hN, hM, hR] at hpN
    clear C1 C3 e1 e2 h hs src haF hall hx hN hM hR
    rcases Nat.lt_or_ge R M with c1 | c1
    · obtain rfl : R = N := by omega
      have i1 : (R : Int) < (M : Int) := by omega
      have i2 : (R : Int) ≤ (c : Int) := by omega
      cases a with
      | none => have := hnil rfl; omega
      | some x =>
        clear hnil hpN
        go_enter Tryd.func13, Tryd.ntmps13
        go_wp2_with (first
          | (go_at_call 28; refine C1'.mono ?_; rintro e w1 ⟨rfl, hw⟩; subst w1; clear C1')
          | (go_at_call 29; refine (C2 0).mono ?_; rintro e w1 ⟨rfl, m1, hw⟩; subst w1; clear C2)
          | (go_at_call 30; refine (C3' _ _ rfl).mono ?_; rintro e w2 ⟨rfl, H2⟩; clear C3'))
        go_ret2
        exact ⟨rfl, H2.out⟩
    · obtain rfl : M = N := by omega
      have i1 : ¬ (R : Int) < (M : Int) := by omega
      have i2 : (M : Int) ≤ (c : Int) := by omega
      have i3 : (M : Int) ≤ (R : Int) := by omega
      cases a with
      | none =>
        have hc0 := hnil rfl
        obtain rfl : M = 0 := by omega
        subst hc0
        clear hnil hpN
        go_enter Tryd.func13, Tryd.ntmps13
        go_wp2_with (first
          | (go_at_call 28; refine C1'.mono ?_; rintro e w1 ⟨rfl, hw⟩; subst w1; clear C1')
          | (go_at_call 29; refine (C2 0).mono ?_; rintro e w1 ⟨rfl, m1, hw⟩; subst w1; clear C2)
          | (go_at_call 30; refine (C3' _ _ rfl).mono ?_; rintro e w2 ⟨rfl, H2⟩; clear C3'))
        go_ret2
        exact ⟨rfl, H2.out⟩
      | some x =>
        clear hnil hpN
        go_enter Tryd.func13, Tryd.ntmps13
        go_wp2_with (first
          | (go_at_call 28; refine C1'.mono ?_; rintro e w1 ⟨rfl, hw⟩; subst w1; clear C1')
          | (go_at_call 29; refine (C2 0).mono ?_; rintro e w1 ⟨rfl, m1, hw⟩; subst w1; clear C2)
          | (go_at_call 30; refine (C3' _ _ rfl).mono ?_; rintro e w2 ⟨rfl, H2⟩; clear C3'))
        go_ret2
        exact ⟨rfl, H2.out⟩
  · have e1 : pushR s l = 0 := by unfold pushR; rw [if_neg hall]
    have e2 : pushE s l = 5 := by unfold pushE; rw [if_neg hall]
    have e3 : pushS s l = s := by unfold pushS; rw [if_neg hall]
    have C1' : Calls Tryd.prog 28 #[.slice a l.length c] w fun e w' => e = .returned (.bool false) ∧ w' = w := by
      refine C1.mono ?_
      rintro e w' ⟨⟨ok, rfl, hk⟩, rfl⟩
      cases ok with
      | false => exact ⟨rfl, rfl⟩
      | true => exact absurd (hk.1 rfl) hall
    have HF : Hid (FI base xb s w F) := h
    rw [e1, e2, e3]
    clear C1 h hs e1 e2 e3 src haF hall
    go_enter Tryd.func13, Tryd.ntmps13
    go_wp2_with (go_at_call 28; refine C1'.mono ?_; rintro e w1 ⟨rfl, hw⟩; subst w1; clear C1')
    go_ret2
    exact ⟨rfl, F, HF.out, Stp.refl _ _⟩

theorem missing_zero {s : FlS} (ok : s.Ok) (h : s.X.length = s.whole) : s.missing = 0 := by
  unfold FlS.missing
  have e : s.X.length % s.B = 0 := by
    have h1 := Nat.div_add_mod s.X.length s.B
    unfold FlS.whole at h
    rw [Nat.mul_comm] at h1
    omega
  rw [e, Nat.sub_zero, Nat.mod_self]
theorem missing_pos {s : FlS} (ok : s.Ok) (h : s.X.length ≠ s.whole) : s.missing = s.B - (s.X.length - s.whole) ∧ 0 < s.X.length - s.whole ∧ s.X.length - s.whole < s.B := by
  have hw := s.whole_le' ok.B0
  have e : s.X.length % s.B = s.X.length - s.whole := by
    have h1 := Nat.div_add_mod s.X.length s.B
    unfold FlS.whole
    rw [Nat.mul_comm] at h1
    omega
  unfold FlS.missing
  rw [e, Nat.mod_eq_of_lt (by omega)]
  omega

set_option maxHeartbeats 1000000 in
set_option maxRecDepth 20000 in
theorem flush_any (h : FI base xb s w F) (hs : s.Small) : Calls Tryd.prog 15 #[.pointer (some ⟨xb, 0, none⟩)] w fun e w' => e = .returned (.tuple #[.int .i64 (flushR s), .int .i64 (flushE s)]) ∧ Steps w F (FI base xb (flushS s)) w' := by
  have hx := hs.x
  have ok := hs.ok
  have hw := s.whole_le' ok.B0
  have hB1 := ok.B1
  have hroom : s.room ≤ 65536 := by have := hs.ok.r1; unfold FlS.room; omega
  have h0 := h
  obtain ⟨p, p1, r, hp⟩ := h0
  have C1 : ∀ m, Calls Tryd.prog 31 #[.pointer (some ⟨p.sb, 0, none⟩)] (w.drewN m) fun e w' => e = .returned (.int .i64 p.S.length) ∧ w' = w.drewN m := fp_len hp
  have C2 : ∀ m, Calls Tryd.prog 29 #[.pointer (some ⟨xb, 0, none⟩)] (w.drewN m) fun e w' => e = .returned (.int .i64 (s.room : Nat)) ∧ ∃ m' : Nat, w' = (w.drewN m).drewN m' := fun m => room_any' hp r ok m
  have c4 := hp.blk.c4
  have c0 := hp.blk.c0
  rw [r.B] at c0
  rw [r.S_len] at C1
  generalize p.sb = sb at *
  by_cases e0 : s.X.length = s.whole
  · have em := missing_zero ok e0
    have e1 : flushR s = 0 := by unfold flushR; rw [em]; split <;> rfl
    have e2 : flushE s = 0 := by unfold flushE; rw [em, if_neg (by omega)]
    have e3 : flushS s = s := by unfold flushS; rw [em, if_neg (by omega)]; exact more_nil s
    have HF : Hid (FI base xb s w F) := h
    have C1' : Calls Tryd.prog 31 #[.pointer (some ⟨sb, 0, none⟩)] w fun e w' => e = .returned (.int .i64 0) ∧ w' = w := by
      refine (C1 0).mono ?_
      rintro e w' ⟨rfl, rfl⟩
      exact ⟨by rw [show s.X.length - s.whole = 0 by omega]; rfl, rfl⟩
    rw [e1, e2, e3]
    clear C1 C2 h hs e1 e2 e3 hp r ok hx hw em e0
    go_enter Tryd.func15, Tryd.ntmps15
    go_wp2_with (go_at_call 31; refine C1'.mono ?_; rintro e w1 ⟨rfl, hw⟩; subst w1; clear C1')
    go_ret2
    exact ⟨rfl, F, HF.out, Stp.refl _ _⟩
  · obtain ⟨em, m0, m1⟩ := missing_pos ok e0
    obtain ⟨S, hS⟩ : ∃ S, s.X.length - s.whole = S := ⟨_, rfl⟩
    obtain ⟨M, hM⟩ : ∃ M, s.missing = M := ⟨_, rfl⟩
    obtain ⟨B, hB⟩ : ∃ B, s.B = B := ⟨_, rfl⟩
    obtain ⟨R, hR⟩ : ∃ R, s.room = R := ⟨_, rfl⟩
    rw [hS] at C1 em m0 m1
    rw [hM, hB] at em
    rw [hB] at c0 m1 hB1
    rw [hR] at C2 hroom
    have i1 : (B : Int) - (S : Int) = (M : Int) := by omega
    have i2 : ¬ (S : Int) = 0 := by omega
    by_cases full : R < M
    · have e1 : flushR s = 0 := by unfold flushR; rw [hM, hR, if_pos full]
      have e2 : flushE s = 7 := by unfold flushE; rw [hM, hR, if_pos full]
      have e3 : flushS s = s := by unfold flushS; rw [hM, hR, if_pos full]
      have HF : Hid (FI base xb s w F) := h
      have i3 : (R : Int) < (M : Int) := by omega
      rw [e1, e2, e3]
      have C1' := C1 0
      clear h hs e1 e2 e3 hp r ok hx hw em e0 hS hM hB hR full
      go_enter Tryd.func15, Tryd.ntmps15
      go_wp2_with (go_at_call 31; refine C1'.mono ?_; rintro e w1 ⟨rfl, hw⟩; subst w1; clear C1')
      go_quiet ((go_at_call 31; exact Calls.quiet_of_same (C1 _)))
      go_wp2_with (go_at_call 29; refine (C2 _).mono ?_; rintro e w1 ⟨rfl, m1, hw⟩; subst w1; clear C2)
      go_ret2
      exact ⟨rfl, F, (FI.fr base xb s).bt HF.out ((Bt.refl (fun _ => False) w).drewN _) (fun _ _ x => x), Stp.drewN _⟩
    · have e1 : flushR s = (M : Nat) := by unfold flushR; rw [hM, hR, if_neg full]
      have e2 : flushE s = 0 := by unfold flushE; rw [hM, hR, if_neg full]
      have e3 : flushS s = s.more (List.replicate M 0) := by unfold flushS; rw [hM, hR, if_neg full]
      have i3 : ¬ (R : Int) < (M : Int) := by omega
      have C3 : ∀ (w1 w2 : World), Bt (fun _ => False) w w1 → Gw w1 w2 → JArr w2 w1.heap.size M (fun _ => 0) → Calls Tryd.prog 30 #[.pointer (some ⟨xb, 0, none⟩), .slice (some ⟨w1.heap.size, 0, none⟩) M M] w2 fun e w' => e = .returned (.tuple #[]) ∧ Hid (Steps w F (FI base xb (s.more (List.replicate M 0))) w') := by
        intro w1 w2 b1 g2 hj
        have b2 : Bt (fun _ => False) w w2 := b1.trans (g2.bt _) (fun _ _ x => x)
        have hlen : (List.replicate M (0 : Int)).length = M := List.length_replicate
        have hsrc := JArr.src' hj (List.replicate M 0) hlen (fun i hi => by unfold at0; rw [List.getD_eq_getElem?_getD, List.getElem?_replicate, if_pos hi]; rfl)
        have hF := fun k hk => ((FI.fr base xb s).lt h (k := k) hk).2
        have := accept_any ((FI.fr base xb s).bt h b2 (fun _ _ x => x)) ok (by omega) (List.replicate M 0) (by rw [hlen, hR]; omega) (fun v hv => by rw [List.eq_of_mem_replicate hv]; unfold okSample; omega) (some ⟨w1.heap.size, 0, none⟩) M hsrc (by rw [hlen]; exact Nat.le_refl _) (fun b o e q => by
          have e' : w1.heap.size = b := (by simpa using congrArg (fun (x : Option Addr) => x.map (·.block)) e)
          have := hF b q; have := b1.size; omega)
        rw [hlen] at this
        refine this.mono ?_
        rintro e w' ⟨rfl, F', q1, q2⟩
        exact ⟨rfl, F', q1, (Stp.of_bt b2).trans q2⟩
      rw [e1, e2, e3]
      have C1' := C1 0
      have hM5 : M ≤ 256 := by omega
      clear h hs e1 e2 e3 hp r ok hx hw em e0 hS hM hB hR full
      go_enter Tryd.func15, Tryd.ntmps15
      go_wp2_with (go_at_call 31; refine C1'.mono ?_; rintro e w1 ⟨rfl, hw⟩; subst w1; clear C1')
      go_quiet ((go_at_call 31; exact Calls.quiet_of_same (C1 _)))
      go_wp2_with (first
        | (go_at_call 29; refine (C2 _).mono ?_; rintro e w1 ⟨rfl, m1, hw⟩; subst w1; clear C2)
        | (at_make; refine wpList_make_i64 _ rfl _ _ 24 3 rfl Tryd.underlying24 info_int M _ rfl rfl rfl (by omega) ?_; intro w2 hA hG hZ)
        | (go_at_call 30; refine (C3 _ _ (by first | exact ((Bt.refl (fun _ => False) w).drewN _).drewN _ | exact (Bt.refl (fun _ => False) w).drewN _) hG hA).mono ?_; rintro e w3 ⟨rfl, H3⟩; clear C3))
      go_ret2
      exact ⟨rfl, H3.out⟩
end
end Go.Proofs.YtddpcjgekfmhkabDoor

/- Lists one behind the other. -/
namespace Go.Proofs.YtddpcjgekfmhkabDoor
open Go.RowKit
set_option linter.unusedSimpArgs false
set_option linter.unusedVariables false

/-- A list that is not nil: where it lies. -/
theorem Lst.at_pos {w : World} {base : Nat} {e : TypeId} {v : Value} {L : List (List Value)} (h : Lst w base e 1 v L) (h0 : 0 < L.length) : ∃ g off cap, v = .slice (some ⟨g, off, none⟩) L.length cap ∧ L.length ≤ cap ∧ base ≤ g ∧ Lst w base e 1 (.slice (some ⟨g, off, none⟩) 0 cap) [] := by
  rcases h.2 with ⟨_, rfl⟩ | ⟨g, off, cap, C, rfl, h1, h2, h3, h4, h5, h6, h7⟩
  · simp at h0
  · refine ⟨g, off * 1, cap, rfl, h5, h1, fun x hx => by simp at hx, .inr ⟨g, off, cap, C, rfl, h1, h2, h3, h4, Nat.zero_le _, h6, by simp⟩⟩

set_option maxHeartbeats 1000000 in
set_option maxRecDepth 20000 in
theorem Grow_any (n : Nat) (hn : 0 < n) (hn2 : n ≤ 1048576) (w : World) :
    Calls Tryd.prog 78 #[.slice none 0 0, .int .i64 n] w fun e w' => ∃ g off cap, e = .returned (.slice (some ⟨g, off, none⟩) 0 cap) ∧ Hid (Lst w' w.heap.size 3 1 (.slice (some ⟨g, off, none⟩) 0 cap) [] ∧ Bt (fun _ => False) w w') := by
  obtain ⟨v, w1, hr, hl, hb, ho⟩ := append_nulls (w := w) 24 w.heap.size (.slice none 0 0) [] (Lst.nil _ _ _ _) n (by simp; omega) (Nat.le_refl _)
  have hlen : (ints ([] ++ List.replicate n 0)).length = n := by rw [ints_len]; simp
  obtain ⟨g, off, cap, rfl, k1, k2, k3⟩ := hl.at_pos (by omega)
  rw [hlen] at hr k1
  have HF : Hid (Lst w1 w.heap.size 3 1 (.slice (some ⟨g, off, none⟩) 0 cap) [] ∧ Bt (fun _ => False) w w1) := ⟨k3, hb.mono (fun k _ e => by cases e)⟩
  have i1 : (0 : Int) < (n : Int) := by omega
  have i2 : (n : Int) ≤ (cap : Int) := by omega
  have i3 : (0 : Int) ≤ (cap : Int) := by omega
  clear hl hb ho hlen k3
  go_enter Tryd.func78, Tryd.ntmps78
  go_wp2_with (at_builtin; refine wpList_append_run rfl _ _ 24 3 rfl _ _ _ _ rfl rfl hr ?_)
  go_ret
  exact ⟨g, off, cap, rfl, HF.out⟩

set_option maxHeartbeats 2000000 in
set_option maxRecDepth 20000 in
theorem Concat_any (sb zb B : Nat) (a : Option Addr) (c : Nat) (l : List Int) (w : World) (hB : 0 < B) (hB2 : B ≤ 256) (hl : l.length ≤ 1024) (c0 : w.cell? ⟨sb, 0, none⟩ = some (.slice (some ⟨zb, 0, none⟩) B B)) (c1 : w.cell? ⟨sb, 1, none⟩ = some (.slice a l.length c)) (s0 : Src w (some ⟨zb, 0, none⟩) (ints (List.replicate B 0))) (s1 : Src w a (ints l)) (hlt : 0 < l.length → ∀ b o, a = some ⟨b, o, none⟩ → b < w.heap.size) (hzl : zb < w.heap.size) :
    Calls Tryd.prog 46 #[.slice (some ⟨sb, 0, none⟩) 2 2] w fun e w' => ∃ g off cap, e = .returned (.slice (some ⟨g, off, none⟩) (B + l.length) cap) ∧ B + l.length ≤ cap ∧ Hid (Src w' (some ⟨g, off, none⟩) (ints (List.replicate B 0 ++ l)) ∧ w.heap.size ≤ g ∧ Bt (fun _ => False) w w') := by
  obtain ⟨L, hL⟩ : ∃ L, l.length = L := ⟨_, rfl⟩
  have CG := fun w' => Grow_any (B + L) (by omega) (by omega) w'
  have hsb := World.block_lt_of_cell? w _ c0
  -- the two appends
  have A1 : ∀ (w1 : World) (g off cap : Nat), Lst w1 w.heap.size 3 1 (.slice (some ⟨g, off, none⟩) 0 cap) [] → Bt (fun _ => False) w w1 → ∃ g' off' cap' w2, (Builtin.append_ #[24, 24] 24 #[.slice (some ⟨g, off, none⟩) 0 cap, .slice (some ⟨zb, 0, none⟩) B B]).run Tryd.prog w1 = .ok (.slice (some ⟨g', off', none⟩) B cap') w2 ∧ w2.cell? ⟨sb, 1, none⟩ = some (.slice a L c) ∧ Hid (Lst w2 w.heap.size 3 1 (.slice (some ⟨g', off', none⟩) B cap') (ints (List.replicate B 0)) ∧ Bt (fun _ => False) w w2) := by
    intro w1 g off cap h1 b1
    obtain ⟨v, w2, hr, q1, q2, q3⟩ := append_nums (w := w1) 24 w.heap.size (.slice (some ⟨g, off, none⟩) 0 cap) [] h1 (some ⟨zb, 0, none⟩) B B (List.replicate B 0) (by simp) (s0.bt b1 (fun _ _ _ x => x)) (by simp; omega) b1.size
    rw [List.nil_append] at q1
    have hlen : (ints (List.replicate B 0)).length = B := by rw [ints_len]; simp
    obtain ⟨g', off', cap', rfl, k1, k2, k3⟩ := q1.at_pos (by omega)
    rw [hlen] at hr q1
    have b2 : Bt (fun _ => False) w w2 := b1.trans q2 (fun k hk e => by have := (h1.ge e).1; omega)
    exact ⟨g', off', cap', w2, hr, b2.cell (fun x => x) (by rw [← hL]; exact c1), q1, b2⟩
  have A2 : ∀ (w2 : World) (g off cap : Nat), Lst w2 w.heap.size 3 1 (.slice (some ⟨g, off, none⟩) B cap) (ints (List.replicate B 0)) → Bt (fun _ => False) w w2 → ∃ g' off' cap' w3, (Builtin.append_ #[24, 24] 24 #[.slice (some ⟨g, off, none⟩) B cap, .slice a L c]).run Tryd.prog w2 = .ok (.slice (some ⟨g', off', none⟩) (B + L) cap') w3 ∧ B + L ≤ cap' ∧ Hid (Src w3 (some ⟨g', off', none⟩) (ints (List.replicate B 0 ++ l)) ∧ w.heap.size ≤ g' ∧ Bt (fun _ => False) w w3) := by
    intro w2 g off cap h1 b1
    obtain ⟨v, w3, hr, q1, q2, q3⟩ := append_nums (w := w2) 24 w.heap.size (.slice (some ⟨g, off, none⟩) B cap) (List.replicate B 0) h1 a L c l hL (s1.bt b1 (fun _ _ _ x => x)) (by simp; omega) b1.size
    have hlen : (ints (List.replicate B 0 ++ l)).length = B + L := by rw [ints_len]; simp [hL]
    obtain ⟨g', off', cap', rfl, k1, k2, k3⟩ := q1.at_pos (by omega)
    obtain ⟨a', c'', hv, _, hsrc⟩ := q1.form
    simp only [Value.slice.injEq] at hv
    obtain ⟨rfl, _, rfl⟩ := hv
    rw [hlen] at hr k1
    exact ⟨g', off', cap', w3, hr, k1, hsrc, k2, b1.trans q2 (fun k hk e => by have := (h1.ge e).1; omega)⟩
  rw [hL] at c1 hl ⊢
  clear s0 s1 hlt hL
  go_enter Tryd.func46, Tryd.ntmps46
  go_wp2
  go_loop [3, 11] (fun ts ti => (ts = .int .i64 0 ∧ ti = .int .i64 0) ∨ (ts = .int .i64 B ∧ ti = .int .i64 1) ∨ (ts = .int .i64 ((B + L : Nat) : Int) ∧ ti = .int .i64 2)) (fun _ ti => 2 - (intOf ti).toNat)
  case atStart => exact .inl ⟨rfl, rfl⟩
  case round =>
    rcases hrel with ⟨rfl, rfl⟩ | ⟨rfl, rfl⟩ | ⟨rfl, rfl⟩
    · go_wp2
      go_round
      case rel => exact .inr (.inl ⟨by go_num, by go_num⟩)
      case measure => simp [intOf]
    · go_wp2
      go_round
      case rel => exact .inr (.inr ⟨by go_num, by go_num⟩)
      case measure => simp [intOf]
    · go_wp2_with (go_at_call 78; refine (CG _).mono ?_; rintro e w1 ⟨g, off, cap, rfl, H1⟩)
      have d0 := H1.out.2.cell (fun x => x) c0
      go_loopw [6, 27] (fun tv ti wr => (ti = .int .i64 0 ∧ tv = .slice (some ⟨g, off, none⟩) 0 cap ∧ wr = w1) ∨ (ti = .int .i64 1 ∧ ∃ g' off' cap' : Nat, tv = .slice (some ⟨g', off', none⟩) B cap' ∧ wr.cell? ⟨sb, 1, none⟩ = some (.slice a L c) ∧ Hid (Lst wr w.heap.size 3 1 (.slice (some ⟨g', off', none⟩) B cap') (ints (List.replicate B 0)) ∧ Bt (fun _ => False) w wr)) ∨ (ti = .int .i64 2 ∧ ∃ g' off' cap' : Nat, tv = .slice (some ⟨g', off', none⟩) (B + L) cap' ∧ B + L ≤ cap' ∧ Hid (Src wr (some ⟨g', off', none⟩) (ints (List.replicate B 0 ++ l)) ∧ w.heap.size ≤ g' ∧ Bt (fun _ => False) w wr))) (fun _ ti _ => 2 - (intOf ti).toNat)
      case atStart => exact .inl ⟨rfl, rfl, rfl⟩
      case round =>
        rcases hrel with ⟨rfl, rfl, hw⟩ | ⟨rfl, g', off', cap', rfl, d1, HR⟩ | ⟨rfl, g', off', cap', rfl, hcap, HR⟩
        · subst hw
          obtain ⟨g2, off2, cap2, w2, hr, k1, K2⟩ := A1 wr g off cap H1.out.1 H1.out.2
          clear A1 A2 CG
          go_wp2_with (at_builtin; refine wpList_append_run rfl _ _ 24 24 rfl _ _ _ _ rfl rfl hr ?_)
          go_roundw
          case rel => exact .inr (.inl ⟨by go_num, g2, off2, cap2, rfl, k1, K2⟩)
          case measure => simp [intOf]
        · obtain ⟨g2, off2, cap2, w2, hr, k1, K2⟩ := A2 wr g' off' cap' HR.out.1 HR.out.2
          clear A1 A2 CG
          go_wp2_with (at_builtin; refine wpList_append_run rfl _ _ 24 24 rfl _ _ _ _ rfl rfl hr ?_)
          go_roundw
          case rel => exact .inr (.inr ⟨by go_num, g2, off2, cap2, rfl, k1, K2⟩)
          case measure => simp [intOf]
        · clear A1 A2 CG
          go_wp2
          go_ret
          exact ⟨g', off', cap', rfl, hcap, HR.out⟩
end Go.Proofs.YtddpcjgekfmhkabDoor

/- Taps as windows, walked. -/
namespace Go.Proofs.YtddpcjgekfmhkabDoor
open Go.RowKit
set_option linter.unusedSimpArgs false
set_option linter.unusedVariables false

/-- A row of values. -/
def RV (w : World) (g : Nat) (t : TypeId) (V : List Value) : Prop := w.heap[g]? = some (.cells V.toArray t (0, 0))
theorem RV.set {w : World} {g : Nat} {t : TypeId} {V : List Value} (h : RV w g t V) {j : Nat} (hj : j < V.length) (v : Value) : RV (w.setCell ⟨g, j, none⟩ v) g t (V.set j v) := by
  unfold RV at h ⊢
  rw [setCell_eq_setRow w g j V.toArray t (0, 0) v h, setRow_heap w g _ _ t _ h]
  simp [Array.setIfInBounds]
  intro q; omega
theorem RV.at {w : World} {g : Nat} {t : TypeId} {V : List Value} (h : RV w g t V) {j : Nat} {v : Value} (hj : V[j]? = some v) : w.cell? ⟨g, j, none⟩ = some v := by unfold RV at h; simp [World.cell?, h, hj]
theorem RV.fz {w : World} {g : Nat} {t : TypeId} {V : List Value} (h : RV w g t V) (j : Nat) : w.frozen? ⟨g, j, none⟩ = false := by unfold RV at h; simp [World.frozen?, h]
theorem RV.bt {w w' : World} {g : Nat} {t : TypeId} {V : List Value} {S : Nat → Prop} (h : RV w g t V) (k : Bt S w w') (hs : ¬ S g) : RV w' g t V := k.heap hs h
theorem RV.lt {w : World} {g : Nat} {t : TypeId} {V : List Value} (h : RV w g t V) : g < w.heap.size := lt_of_some h
theorem rep_flat (n : Nat) (v : Value) : (List.replicate n [v]).flatten = List.replicate n v := by
  induction n with
  | zero => rfl
  | succ n ih => rw [List.replicate_succ, List.flatten_cons, ih]; rfl
def nilv : Value := .slice none 0 0
def rowV (n J : Nat) (bs : List Nat) : List Value := bs.map (sl n) ++ List.replicate (J - bs.length) nilv
theorem rowV_len {n J : Nat} {bs : List Nat} (h : bs.length ≤ J) : (rowV n J bs).length = J := by unfold rowV; simp; omega
theorem rowV_next {n J : Nat} {bs : List Nat} (h : bs.length < J) (b : Nat) : (rowV n J bs).set bs.length (sl n b) = rowV n J (bs ++ [b]) := by
  unfold rowV
  obtain ⟨m, hm⟩ : ∃ m, J - bs.length = m + 1 := ⟨J - bs.length - 1, by omega⟩
  rw [hm, List.replicate_succ, List.set_append_right _ _ (by simp)]
  simp [hm]
  congr 1
  omega
theorem emb_win {K B : Nat} (hN : 2 ^ K = 2 * B) (l : List Int) (j len : Nat) (h1 : len = min ((j + 2) * B) (B + l.length) - j * B) (k : Nat) : dft K (emb len (fun i => at0 (List.replicate B 0 ++ l) (j * B + i))) k = dft K (win B (at0 l) j) k := by
  refine dft_md (fun i hi => ?_) k
  have e2 : (j + 2) * B = j * B + 2 * B := by rw [Nat.add_mul]
  unfold emb win
  have hz : ∀ m, at0 (List.replicate B 0 ++ l) m = if B ≤ m then at0 l (m - B) else 0 := by
    intro m
    by_cases e : B ≤ m
    · rw [if_pos e, at0_app' (by simpa using e)]; simp
    · rw [if_neg e, at0_app (by simpa using e)]
      unfold at0
      rw [List.getD_eq_getElem?_getD, List.getElem?_replicate, if_pos (by omega)]; rfl
  by_cases e : i < len
  · rw [if_pos e]
    show at0 (List.replicate B 0 ++ l) (j * B + i) % PP % PP = _
    rw [hz, md_md]
  · rw [if_neg e]
    by_cases q : B ≤ j * B + i
    · rw [if_pos q, at0_out l _ (by omega)]
    · rw [if_neg q]

/-- What lasts from window to window. -/
structure WI (base n K shb mb B J tb g off : Nat) (l : List Int) (w : World) (G : Nat → Prop) (bs : List Nat) (Gj : Nat → Prop) (wr : World) : Prop where
  row : RV wr tb 59 (rowV n J bs)
  sps : Sps wr n bs (fun j => dft K (win B (at0 l) j))
  far : ∀ b ∈ bs, w.heap.size ≤ b ∧ ¬ Gj b ∧ b ≠ tb
  sh : ShR base n K shb mb bs.length wr Gj
  tb0 : ¬ Gj tb
  tb1 : w.heap.size ≤ tb
  st : Stp w G wr Gj
  src : Src wr (some ⟨g, off, none⟩) (ints (List.replicate B 0 ++ l))
  g0 : ¬ Gj g
  gt : g ≠ tb
  tab : Tab wr

theorem win_round {base n K shb mb B J tb g off : Nat} {l : List Int} {w : World} {G : Nat → Prop} {bs : List Nat} {Gj : Nat → Prop} {wr : World} (h : WI base n K shb mb B J tb g off l w G bs Gj wr) (hB : okBlock (B : Int)) (hK : 2 ^ K = n) (hn : n = 2 * B) (hK10 : K ≤ 10) (hb1 : 1 < base) (hG1 : ∀ k, G k → base ≤ k) (hwb : base ≤ w.heap.size) (hr : Rng l) (hl1 : l.length ≤ 1024) (hJ : J = wins l.length B) (hl0 : 1 ≤ l.length) (hj : bs.length < J) (len cap : Nat) (hlen : len = min ((bs.length + 2) * B) (B + l.length) - bs.length * B) :
    0 < len ∧ Calls Tryd.prog 42 #[.slice (some ⟨g, off + bs.length * B, none⟩) len cap, .int .i64 n] wr fun e w1 => e = .returned (.slice (some ⟨wr.heap.size, 0, none⟩) n n) ∧ Hid (Calls Tryd.prog 41 #[.pointer (some ⟨shb, 0, none⟩), .slice (some ⟨wr.heap.size, 0, none⟩) n n, .bool false] w1 fun e w2 => ∃ ob, e = .returned (.slice (some ⟨ob, 0, none⟩) n n) ∧ w2.cell? ⟨tb, bs.length, none⟩ = some (.slice none 0 0) ∧ w2.frozen? ⟨tb, bs.length, none⟩ = false ∧ Hid (∃ Gj', WI base n K shb mb B J tb g off l w G (bs ++ [ob]) Gj' (w2.setCell ⟨tb, bs.length, none⟩ (.slice (some ⟨ob, 0, none⟩) n n)))) := by
  have hB' := hB
  unfold okBlock at hB'
  have hlo : bs.length * B < B + l.length := by
    have h2 : bs.length * B ≤ (l.length + B - 2) / B * B := Nat.mul_le_mul_right _ (by rw [hJ] at hj; unfold wins at hj; omega)
    have h3 := Nat.div_mul_le_self (l.length + B - 2) B
    omega
  have e2 : (bs.length + 2) * B = bs.length * B + 2 * B := by rw [Nat.add_mul]
  have hl0' : 0 < len := by omega
  refine ⟨hl0', ?_⟩
  have hlenP : (List.replicate B (0 : Int) ++ l).length = B + l.length := by simp
  have hia : IArr wr g (off + bs.length * B) len (fun i => at0 (List.replicate B 0 ++ l) (bs.length * B + i)) := by
    intro i hi
    have hp : bs.length * B + i < (List.replicate B (0 : Int) ++ l).length := by rw [hlenP]; omega
    have e := at0_some hp
    obtain ⟨b', o', e', q⟩ := h.src.int e
    simp at e'
    obtain ⟨rfl, rfl⟩ := e'
    refine ⟨by rw [Nat.add_assoc]; exact q, ?_⟩
    have hm : at0 (List.replicate B 0 ++ l) (bs.length * B + i) ∈ List.replicate B (0 : Int) ++ l := List.mem_of_getElem? e
    show -9223372036854775808 ≤ at0 (List.replicate B 0 ++ l) (bs.length * B + i) ∧ at0 (List.replicate B 0 ++ l) (bs.length * B + i) ≤ 9223372036854775807
    rcases List.mem_append.1 hm with m | m
    · rw [List.eq_of_mem_replicate m]; omega
    · exact hr _ m
  refine (embedAll_any g (off + bs.length * B) len cap n _ wr hl0' (by omega) (by omega) hia).mono ?_
  rintro e w1 ⟨rfl, q1, q2, q3⟩
  have b1 : Bt (fun _ => False) wr w1 := q2.bt _
  have hsz := h.st.bt.size
  have sh1 := (ShR.fr base n K shb mb bs.length (by omega)).bt h.sh b1 (fun _ _ x => x)
  have hGlt : ∀ k, Gj k → k < wr.heap.size := fun k hk => ((ShR.fr base n K shb mb bs.length (by omega)).lt h.sh hk).2
  have hJ66 : J ≤ 65 := by rw [hJ]; exact Nat.le_trans (wins_mono hl1) (wins_le hB)
  refine ⟨rfl, ?_⟩
  refine (tra base n K shb mb bs.length hK10 hK hb1 sh1 (by omega) (h.tab.bt b1 (fun x => x)) wr.heap.size n _ false q1 (emb_elems _ _ _) (fun e => by have := hGlt _ e; omega)).mono ?_
  intro e w2 hq
  obtain ⟨ob, G', he, r1, r2, r3, r4, r5⟩ := hq.stp sh1
  have hG'new : ∀ k, G' k → Gj k ∨ wr.heap.size ≤ k := fun k hk => (r4.new k hk).imp id (fun q => by omega)
  have htl := h.row.lt
  have b2 : Bt Gj wr w2 := (b1.mono (fun _ _ x => x.elim)).trans r4.bt (fun _ _ x => x)
  have row2 := h.row.bt b2 h.tb0
  have hnil : (rowV n J bs)[bs.length]? = some nilv := by
    unfold rowV
    rw [List.getElem?_append_right (by simp)]
    simp [List.getElem?_replicate]; omega
  refine ⟨ob, he, row2.at hnil, row2.fz _, G', ?_⟩
  have b3 : Bt (fun k => k = tb) w2 (w2.setCell ⟨tb, bs.length, none⟩ (.slice (some ⟨ob, 0, none⟩) n n)) := (Bt.refl (fun k => k = tb) w2).setCell (fun _ => rfl) _
  have hobs : w1.heap.size ≤ ob := r2
  have tb' : ¬ G' tb := fun e => (hG'new tb e).elim h.tb0 (fun q => by omega)
  refine ⟨?_, ?_, ?_, ?_, tb', h.tb1, ⟨?_, ?_⟩, ?_, ?_, h.gt, ?_⟩
  · have := row2.set (j := bs.length) (by rw [rowV_len (by omega)]; exact hj) (.slice (some ⟨ob, 0, none⟩) n n)
    rw [← rowV_next hj ob]
    exact this
  · have o1 : Sps (w2.setCell ⟨tb, bs.length, none⟩ (.slice (some ⟨ob, 0, none⟩) n n)) n bs (fun j => dft K (win B (at0 l) j)) := (h.sps.bt b2 (fun b hb => (h.far b hb).2.1)).bt b3 (fun b hb => (h.far b hb).2.2)
    refine o1.snoc ?_
    refine ((r1.congr (fun k _ => ?_)).bt b3 (by omega))
    show dft K _ k = _
    exact emb_win (by omega) l bs.length len hlen k
  · intro b hb
    rcases List.mem_append.1 hb with q | q
    · have := h.far b q
      have hlt := h.sps.lt (by omega) q
      exact ⟨this.1, fun e => (hG'new b e).elim this.2.1 (fun q => by omega), this.2.2⟩
    · obtain rfl : b = ob := by simpa using q
      exact ⟨by omega, r5, by omega⟩
  · rw [List.length_append]
    exact (ShR.fr base n K shb mb (bs.length + 1) (by omega)).btw r3 b3 (fun k hk e => by subst e; exact tb' hk) (fun k e => by subst e; have := h.tb1; omega)
  · exact (h.st.bt.trans b2 (fun k hk e => (h.st.new k e).elim id (fun q => by omega))).trans b3 (fun k hk e => by have := h.tb1; omega)
  · intro k hk
    rcases hG'new k hk with q | q
    · exact h.st.new k q
    · exact .inr (by omega)
  · exact (h.src.bt b2 (fun b o e q => h.g0 (by have e' : g = b := (by simpa using congrArg (fun (x : Option Addr) => x.map (·.block)) e); rw [e']; exact q))).bt b3 (fun b o e q => h.gt (by have e' : g = b := (by simpa using congrArg (fun (x : Option Addr) => x.map (·.block)) e); omega))
  · intro e
    rcases hG'new g e with q | q
    · exact h.g0 q
    · have hgl : g < wr.heap.size := by
        obtain ⟨b', o', e', q'⟩ := h.src.int (at0_some (l := List.replicate B (0 : Int) ++ l) (i := 0) (by rw [hlenP]; omega))
        simp at e'
        obtain ⟨rfl, rfl⟩ := e'
        exact World.block_lt_of_cell? wr _ q'
      omega
  · exact (h.tab.bt b2 (fun e => by have := ((ShR.fr base n K shb mb bs.length (by omega)).lt h.sh e).1; omega)).bt b3 (fun e => by have := h.tb1; omega)
end Go.Proofs.YtddpcjgekfmhkabDoor
