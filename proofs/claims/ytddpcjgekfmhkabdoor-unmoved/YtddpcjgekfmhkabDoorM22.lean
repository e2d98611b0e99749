/- Texts joined: Nv Nx Ny Oa. -/
import Derived.Test.YtddpcjgekfmhkabDoorM21

/- A pair: state; one step of a script. -/
namespace Go.Proofs.YtddpcjgekfmhkabDoor
open Go.RowKit
set_option linter.unusedSimpArgs false
set_option linter.unusedVariables false

set_option maxHeartbeats 2000000 in
theorem pair_state {FI : Nat → Nat → FlS → Res} (ok : FltOk FI) {base pb xb fb bb : Nat} {s : FlS} {w : World} {F : Nat → Prop} (h : PS FI base pb xb fb bb s s w F) (hs : s.Little) :
    Calls Tryd.prog 38 #[.pointer (some ⟨pb, 0, none⟩)] w fun e w' => e = .returned (.bool true) ∧ Bt (fun _ => False) w w' := by
  have hok := hs.ok
  have hsx := hs.x
  have hsp := hs.p
  have c0 := (PS.blk h).c0
  have CX : Calls Tryd.prog 17 #[.pointer (some ⟨xb, 0, none⟩)] w fun e w' => e = .returned (stateV s) ∧ Bt (fun _ => False) w w' := by
    obtain ⟨F1, q1, q2, q3⟩ := PS.x ok h
    exact ok.state q1 hs.small
  have CY : ∀ w1, Bt (fun _ => False) w w1 → Calls Tryd.prog 63 #[.pointer (some ⟨fb, 0, none⟩)] w1 fun e w' => e = .returned (stateV s) ∧ Bt (fun _ => False) w1 w' := by
    intro w1 b
    obtain ⟨F1, q1, q2, q3⟩ := PS.y ok ((PS.fr ok).bt h b (fun _ _ x => x))
    exact state_ref q1 (by omega) hok.pl hok.B0 hok.B1 hok.p0 (by omega) (by have := hok.from_le; omega)
  have HB : Hid (∀ w1, Bt (fun _ => False) w w1 → w1.cell? ⟨pb, 1, none⟩ = some (.pointer (some ⟨fb, 0, none⟩)) ∧ pb < w.heap.size) := fun w1 b => ⟨((PS.blk h).bt b (fun x => x)).c1, (PS.blk h).lt⟩
  have hpb := (PS.blk h).lt
  unfold stateV at *
  generalize (s.X.length : Int) = v0 at *
  generalize (s.pulled : Int) = v1 at *
  generalize ((s.whole - s.pulled : Nat) : Int) = v2 at *
  generalize s.pending = v3 at *
  clear h
  go_enter Tryd.func38, Tryd.ntmps38
  go_wp2_with (first
    | (go_at_call 17; refine CX.mono ?_; rintro e w1 ⟨rfl, B1⟩; have H1 : Hid (Bt (fun _ => False) w w1) := B1; clear B1; obtain ⟨c1, _⟩ := HB.out w1 H1.out; have hpb1 : pb < w1.heap.size := Nat.lt_of_lt_of_le hpb H1.out.size; have hpn : ¬ w1.heap.size = pb := (by omega); have hpn2 : ¬ pb = w1.heap.size := (by omega))
    | (go_at_call 63; refine (CY _ (by repeat (first | exact H1.out | apply Bt.drewN | apply Bt.drew | apply Bt.alloc | refine Bt.setCell ?_ (by have := H1.out.size; first | (simp; done) | (simp; omega) | (intro h; simp at h; omega)) _))).mono ?_; rintro e w2 ⟨rfl, B2⟩; have d0 : w2.cell? ⟨w1.heap.size, 0, none⟩ = some (.int .i64 v0) := B2.cell (fun x => x) (by simp [go_sem]); have d1 : w2.cell? ⟨w1.heap.size, 1, none⟩ = some (.int .i64 v1) := B2.cell (fun x => x) (by simp [go_sem]); have d2 : w2.cell? ⟨w1.heap.size, 2, none⟩ = some (.int .i64 v2) := B2.cell (fun x => x) (by simp [go_sem]); have d3 : w2.cell? ⟨w1.heap.size, 3, none⟩ = some (.int .i64 v3) := B2.cell (fun x => x) (by simp [go_sem]); have hz : w1.heap.size < w2.heap.size := (by have := B2.size; simp at this; omega); have hz1 : ¬ w1.heap.size = w2.heap.size := (by omega); have hz2 : ¬ w2.heap.size = w1.heap.size := (by omega); have H2 : Hid (Bt (fun _ => False) w w2) := (H1.out.alloc _).trans B2 (fun _ _ x => x); clear B2))
  go_ret
  exact ⟨rfl, H2.out.alloc _⟩
end Go.Proofs.YtddpcjgekfmhkabDoor

/- What two pairs and a book keep; the steps of a script. -/
namespace Go.Proofs.YtddpcjgekfmhkabDoor
open Go.RowKit
set_option linter.unusedSimpArgs false
set_option linter.unusedVariables false

/-- A pair behind at most i steps. -/
def PN (FI : Nat → Nat → FlS → Res) (base pb bb i : Nat) : Res := fun w F => ∃ xb fb s, PS FI base pb xb fb bb s s w F ∧ s.Ok ∧ s.X.length ≤ 65536 * i ∧ s.parts.length ≤ i + 1
/-- A book behind at most i keeps. -/
def BN (base bb i : Nat) : Res := fun w F => ∃ r, r ≤ i ∧ BK base bb r w F
theorem PN.fr {FI : Nat → Nat → FlS → Res} (ok : FltOk FI) (base pb bb i : Nat) : Fr base (PN FI base pb bb i) :=
  ⟨fun h b hs hb => by obtain ⟨xb, fb, s, h, q⟩ := h; exact ⟨xb, fb, s, (PS.fr ok).btw h b hs hb, q⟩, fun h hk => by obtain ⟨xb, fb, s, h, q⟩ := h; exact (PS.fr ok).lt h hk⟩
theorem BN.fr (base bb i : Nat) : Fr base (BN base bb i) :=
  ⟨fun h b hs hb => by obtain ⟨r, hr, h⟩ := h; exact ⟨r, hr, (BK.fr _ _ _).btw h b hs hb⟩, fun h hk => by obtain ⟨r, hr, h⟩ := h; exact (BK.fr _ _ _).lt h hk⟩
def PBn (FI : Nat → Nat → FlS → Res) (base pb bb i : Nat) : Res := Sep (PN FI base pb bb i) (BN base bb i)
theorem PBn.fr {FI : Nat → Nat → FlS → Res} (ok : FltOk FI) (base pb bb i : Nat) : Fr base (PBn FI base pb bb i) := (PN.fr ok _ _ _ _).sep (BN.fr _ _ _)
theorem small_of {s : FlS} {i : Nat} (h : s.Ok) (hx : s.X.length ≤ 65536 * i) (hp : s.parts.length ≤ i + 1) (hi : i ≤ 2097150) : s.Little := ⟨h, by omega, by omega⟩

section
variable {FI : Nat → Nat → FlS → Res} (ok : FltOk FI) {base pb bb i : Nat} {w : World} {H : Nat → Prop}
/-- The pair steps, the book stands by. -/
theorem PBn.pair {ok : FltOk FI} {xb fb : Nat} {s : FlS} (h : PBn FI base pb bb i w H) : ∃ F xb fb s, PS FI base pb xb fb bb s s w F ∧ s.Ok ∧ s.X.length ≤ 65536 * i ∧ s.parts.length ≤ i + 1 ∧ (∀ k, F k → H k) ∧
    ∀ (s' : FlS) (w' : World), s'.Ok → s'.X.length ≤ 65536 * (i + 1) → s'.parts.length ≤ i + 2 → Steps w F (PS FI base pb xb fb bb s' s') w' → Steps w H (PBn FI base pb bb (i + 1)) w' := by
  obtain ⟨F, hF, hs, k⟩ := Sep.l (PN.fr ok base pb bb i) (BN.fr base bb i) h
  obtain ⟨xb, fb, s, hps, h1, h2, h3⟩ := hF
  refine ⟨F, xb, fb, s, hps, h1, h2, h3, hs, fun s' w' g1 g2 g3 g4 => ?_⟩
  obtain ⟨F', q1, q2⟩ := g4
  obtain ⟨H', ⟨A, B, a1, ⟨r, hr, a2⟩, a3, a4⟩, k2⟩ := k (PN FI base pb bb (i + 1)) w' F' ⟨xb, fb, s', q1, g1, g2, g3⟩ q2
  exact ⟨H', ⟨A, B, a1, ⟨r, by omega, a2⟩, a3, a4⟩, k2⟩
end

theorem n_push {FI : Nat → Nat → FlS → Res} (ok : FltOk FI) {base pb bb i : Nat} {w : World} {H : Nat → Prop} (h : PBn FI base pb bb i w H) (hi : i ≤ 2097150)
    (a : Option Addr) (c : Nat) (l : List Int) (src : Src w a (ints l)) (hr : Rng l) (hl : l.length ≤ 1048576) (hlc : l.length ≤ c) (hnil : a = none → c = 0) (hfar : 0 < l.length → ∀ b o, a = some ⟨b, o, none⟩ → ¬ H b ∧ b < w.heap.size) :
    Calls Tryd.prog 58 #[.pointer (some ⟨pb, 0, none⟩), .slice a l.length c] w fun e w' => e = .returned (.bool true) ∧ Hid (Steps w H (PBn FI base pb bb (i + 1)) w') := by
  obtain ⟨F, xb, fb, s, h1, h2, h3, h4, h5, k⟩ := PBn.pair (ok := ok) (xb := 0) (fb := 0) (s := ⟨0, 0, 0, [], [], 0⟩) h
  refine (pair_push ok h1 (small_of h2 h3 h4 hi) a c l src hr hl hlc hnil (fun h0 b o e => ⟨fun q => (hfar h0 b o e).1 (h5 b q), (hfar h0 b o e).2⟩)).mono ?_
  rintro e w' ⟨rfl, q⟩
  have hp := h2.push l
  exact ⟨rfl, k _ w' hp.1 (by have := hp.2.1; omega) (by rw [hp.2.2]; omega) q⟩
theorem n_swap {FI : Nat → Nat → FlS → Res} (ok : FltOk FI) {base pb bb i : Nat} {w : World} {H : Nat → Prop} (h : PBn FI base pb bb i w H) (hi : i ≤ 2097150)
    (a : Option Addr) (c : Nat) (l : List Int) (src : Src w a (ints l)) (hr : Rng l) (hl : l.length ≤ 1048576) (hlc : l.length ≤ c) (hnil : a = none → c = 0) (hfar : 0 < l.length → ∀ b o, a = some ⟨b, o, none⟩ → ¬ H b ∧ b < w.heap.size) :
    Calls Tryd.prog 60 #[.pointer (some ⟨pb, 0, none⟩), .slice a l.length c] w fun e w' => e = .returned (.bool true) ∧ Hid (Steps w H (PBn FI base pb bb (i + 1)) w') := by
  obtain ⟨F, xb, fb, s, h1, h2, h3, h4, h5, k⟩ := PBn.pair (ok := ok) (xb := 0) (fb := 0) (s := ⟨0, 0, 0, [], [], 0⟩) h
  refine (pair_swap ok h1 (small_of h2 h3 h4 hi) a c l src hr hl hlc hnil (fun h0 b o e => ⟨fun q => (hfar h0 b o e).1 (h5 b q), (hfar h0 b o e).2⟩)).mono ?_
  rintro e w' ⟨rfl, q⟩
  have hp := h2.swap l
  exact ⟨rfl, k _ w' hp.1 (by rw [hp.2.1]; omega) (by have := hp.2.2; omega) q⟩
theorem n_state {FI : Nat → Nat → FlS → Res} (ok : FltOk FI) {base pb bb i : Nat} {w : World} {H : Nat → Prop} (h : PBn FI base pb bb i w H) (hi : i ≤ 2097150) :
    Calls Tryd.prog 38 #[.pointer (some ⟨pb, 0, none⟩)] w fun e w' => e = .returned (.bool true) ∧ Hid (Bt (fun _ => False) w w') := by
  obtain ⟨F, xb, fb, s, h1, h2, h3, h4, h5, k⟩ := PBn.pair (ok := ok) (xb := 0) (fb := 0) (s := ⟨0, 0, 0, [], [], 0⟩) h
  exact pair_state ok h1 (small_of h2 h3 h4 hi)
theorem n_pull {FI : Nat → Nat → FlS → Res} (ok : FltOk FI) {base pb bb i : Nat} {w : World} {H : Nat → Prop} (h : PBn FI base pb bb i w H) (hi : i ≤ 2097150) (n : Int) (hn0 : -9223372036854775808 ≤ n) (hn1 : n ≤ 9223372036854775807) :
    Calls Tryd.prog 39 #[.pointer (some ⟨pb, 0, none⟩), .int .i64 n] w fun e w' => e = .returned (.bool true) ∧ Hid (Steps w H (PBn FI base pb bb (i + 1)) w') := by
  obtain ⟨F, G, ⟨xb, fb, s, h1, h2, h3, h4⟩, ⟨r, hr, hG⟩, hd, hH⟩ := h
  refine (pair_pull ok ⟨F, G, h1, hG, hd, hH⟩ (small_of h2 h3 h4 hi) (by omega) n hn0 hn1).mono ?_
  rintro e w' ⟨rfl, H', ⟨A, B, a1, a2, a3, a4⟩, st⟩
  refine ⟨rfl, H', ⟨A, B, ⟨xb, fb, _, a1, h2.took n, ?_, ?_⟩, ⟨r + 1, by omega, a2⟩, a3, a4⟩, st⟩
  · show s.X.length ≤ _; omega
  · show s.parts.length ≤ _; omega
/-- Flush, both halves one after the other. -/
theorem n_flush {FI : Nat → Nat → FlS → Res} (ok : FltOk FI) {base pb bb i : Nat} {w : World} {H : Nat → Prop} (h : PBn FI base pb bb i w H) (hi : i ≤ 2097150) :
    ∃ (xb fb : Nat) (R E : Int) (M : World → Prop), (w.cell? ⟨pb, 0, none⟩ = some (.pointer (some ⟨xb, 0, none⟩))) ∧ (∀ w1, M w1 → w1.cell? ⟨pb, 1, none⟩ = some (.pointer (some ⟨fb, 0, none⟩))) ∧
      (Calls Tryd.prog 15 #[.pointer (some ⟨xb, 0, none⟩)] w fun e w' => e = .returned (.tuple #[.int .i64 R, .int .i64 E]) ∧ M w') ∧
      ∀ w1, M w1 → Calls Tryd.prog 59 #[.pointer (some ⟨fb, 0, none⟩)] w1 fun e w' => e = .returned (.tuple #[.int .i64 R, .int .i64 E]) ∧ Hid (Steps w H (PBn FI base pb bb (i + 1)) w') := by
  obtain ⟨F, xb, fb, s, h1, h2, h3, h4, h5, k⟩ := PBn.pair (ok := ok) (xb := 0) (fb := 0) (s := ⟨0, 0, 0, [], [], 0⟩) h
  have hs := small_of h2 h3 h4 hi
  refine ⟨xb, fb, flushR s, flushE s, fun w1 => Steps w F (PS FI base pb xb fb bb (flushS s) s) w1, (PS.blk h1).c0, ?_, ?_, ?_⟩
  · rintro w1 ⟨G, g1, g2⟩
    exact (PS.blk g1).c1
  · obtain ⟨F1, q1, q2, q3⟩ := PS.x ok h1
    refine (ok.flush q1 hs.small).mono ?_
    rintro e w' ⟨rfl, q⟩
    exact ⟨rfl, q3 _ _ q⟩
  · rintro w1 ⟨G, g1, g2⟩
    obtain ⟨F1, q1, q2, q3⟩ := PS.y ok g1
    refine (flush_ref q1 (by have := hs.x; omega) h2.pX h2.rm h2.r1 h2.B0 h2.B1).mono ?_
    rintro e w' ⟨rfl, q⟩
    obtain ⟨G', k1, k2⟩ := q3 _ _ q
    have hp := h2.flush
    exact ⟨rfl, k _ w' hp.1 (by have := hp.2.1; omega) (by rw [hp.2.2]; omega) ⟨G', k1, g2.trans k2⟩⟩
end Go.Proofs.YtddpcjgekfmhkabDoor

/- One step of a script. -/
namespace Go.Proofs.YtddpcjgekfmhkabDoor
open Go.RowKit
set_option linter.unusedSimpArgs false
set_option linter.unusedVariables false

theorem Steps.after {w w1 w' : World} {H : Nat → Prop} {R : Res} (b : Bt (fun _ => False) w w1) (h : Steps w1 H R w') : Steps w H R w' := by
  obtain ⟨H', q1, q2⟩ := h
  exact ⟨H', q1, (Stp.of_bt b).trans q2⟩
theorem PBn.mono {FI : Nat → Nat → FlS → Res} {base pb bb i j : Nat} {w : World} {H : Nat → Prop} (h : PBn FI base pb bb i w H) (hj : i ≤ j) : PBn FI base pb bb j w H := by
  obtain ⟨F, G, ⟨xb, fb, s, h1, h2, h3, h4⟩, ⟨r, hr, hG⟩, hd, hH⟩ := h
  exact ⟨F, G, ⟨xb, fb, s, h1, h2, by omega, by omega⟩, ⟨r, by omega, hG⟩, hd, hH⟩

/-- made and then push or swap. -/
theorem n_made {FI : Nat → Nat → FlS → Res} (ok : FltOk FI) {base pb bb i : Nat} {w : World} {H : Nat → Prop} (h : PBn FI base pb bb i w H) (hi : i ≤ 2097150) {w1 w2 : World} {n : Nat} {e : Ending} (hn : n ≤ 4000) (b1 : Bt (fun _ => False) w w1) (q : MadeQ w1 n e w2) :
    ∃ a c ll, e = .returned (.slice a ll c) ∧ (∀ b o, a = some ⟨b, o, none⟩ → True) ∧
      (Calls Tryd.prog 58 #[.pointer (some ⟨pb, 0, none⟩), .slice a ll c] w2 fun e w' => e = .returned (.bool true) ∧ Hid (Steps w H (PBn FI base pb bb (i + 1)) w')) ∧
      (Calls Tryd.prog 60 #[.pointer (some ⟨pb, 0, none⟩), .slice a ll c] w2 fun e w' => e = .returned (.bool true) ∧ Hid (Steps w H (PBn FI base pb bb (i + 1)) w')) := by
  obtain ⟨v, l, rfl, hl, hlen, hr, b2⟩ := q
  obtain ⟨a, c, rfl, hc, hs⟩ := hl.form
  rw [ints_len] at hc hl
  have b := b1.trans b2 (fun _ _ x => x)
  have h2 := (PBn.fr ok base pb bb i).bt h b (fun _ _ x => x)
  have hnil : a = none → c = 0 := by
    intro ha
    subst ha
    rcases hl.2 with ⟨e, _⟩ | ⟨g, off, cap, C, e, _⟩
    · simp only [Value.slice.injEq] at e; exact e.2.2
    · cases e
  have hfar : ∀ b o, a = some ⟨b, o, none⟩ → ¬ H b ∧ b < w2.heap.size := by
    intro b o e
    have g := hl.ge (g := b) (by rw [e]; rfl)
    exact ⟨fun q => by have := ((PBn.fr ok base pb bb i).lt h q).2; have := b1.size; omega, g.2⟩
  refine ⟨a, c, l.length, by rw [ints_len], fun _ _ _ => trivial, ?_, ?_⟩
  · refine (n_push ok h2 hi a c l hs hr (by omega) hc hnil (fun _ => hfar)).mono ?_
    rintro e w' ⟨rfl, q⟩
    exact ⟨rfl, Steps.after b q.out⟩
  · refine (n_swap ok h2 hi a c l hs hr (by omega) hc hnil (fun _ => hfar)).mono ?_
    rintro e w' ⟨rfl, q⟩
    exact ⟨rfl, Steps.after b q.out⟩

set_option maxHeartbeats 4000000 in
theorem step_law {FI : Nat → Nat → FlS → Res} (ok : FltOk FI) {base pb bb i : Nat} {w : World} {H : Nat → Prop} (h : PBn FI base pb bb i w H) (hi : i ≤ 2097150)
    (W K A B : Int) (hA0 : -9223372036854775808 ≤ A) (hA1 : A ≤ 9223372036854775807) (hB0 : -9223372036854775808 ≤ B) (hB1 : B ≤ 9223372036854775807)
    (a : Option Addr) (c : Nat) (l : List Int) (src : Src w a (ints l)) (hr : Rng l) (hl : l.length ≤ 1048576) (hlc : l.length ≤ c) (hnil : a = none → c = 0) (hfar : 0 < l.length → ∀ b o, a = some ⟨b, o, none⟩ → ¬ H b ∧ b < w.heap.size) :
    Calls Tryd.prog 36 #[.pointer (some ⟨pb, 0, none⟩), .agg #[.int .i64 W, .int .i64 K, .int .i64 A, .int .i64 B, .slice a l.length c]] w fun e w' => e = .returned (.bool true) ∧ Steps w H (PBn FI base pb bb (i + 1)) w' := by
  have BA : ∀ o, Bt (fun _ => False) w (w.alloc o) := fun o => (Bt.refl _ _).alloc o
  have hlt : ∀ o, w.heap.size ≤ (w.alloc o).heap.size := fun o => (BA o).size
  have CP : ∀ o, Calls Tryd.prog 58 #[.pointer (some ⟨pb, 0, none⟩), .slice a l.length c] (w.alloc o) fun e w' => e = .returned (.bool true) ∧ Hid (Steps w H (PBn FI base pb bb (i + 1)) w') := by
    intro o
    refine (n_push ok ((PBn.fr ok base pb bb i).bt h (BA o) (fun _ _ x => x)) hi a c l (src.bt (BA o) (fun _ _ _ x => x)) hr hl hlc hnil (fun h0 b o' e => ⟨(hfar h0 b o' e).1, Nat.lt_of_lt_of_le (hfar h0 b o' e).2 (hlt o)⟩)).mono ?_
    rintro e w' ⟨rfl, q⟩
    exact ⟨rfl, Steps.after (BA o) q.out⟩
  have CW : ∀ o, Calls Tryd.prog 60 #[.pointer (some ⟨pb, 0, none⟩), .slice a l.length c] (w.alloc o) fun e w' => e = .returned (.bool true) ∧ Hid (Steps w H (PBn FI base pb bb (i + 1)) w') := by
    intro o
    refine (n_swap ok ((PBn.fr ok base pb bb i).bt h (BA o) (fun _ _ x => x)) hi a c l (src.bt (BA o) (fun _ _ _ x => x)) hr hl hlc hnil (fun h0 b o' e => ⟨(hfar h0 b o' e).1, Nat.lt_of_lt_of_le (hfar h0 b o' e).2 (hlt o)⟩)).mono ?_
    rintro e w' ⟨rfl, q⟩
    exact ⟨rfl, Steps.after (BA o) q.out⟩
  have CL : ∀ o, Calls Tryd.prog 39 #[.pointer (some ⟨pb, 0, none⟩), .int .i64 A] (w.alloc o) fun e w' => e = .returned (.bool true) ∧ Hid (Steps w H (PBn FI base pb bb (i + 1)) w') := by
    intro o
    refine (n_pull ok ((PBn.fr ok base pb bb i).bt h (BA o) (fun _ _ x => x)) hi A hA0 hA1).mono ?_
    rintro e w' ⟨rfl, q⟩
    exact ⟨rfl, Steps.after (BA o) q.out⟩
  have CS : ∀ o, Calls Tryd.prog 38 #[.pointer (some ⟨pb, 0, none⟩)] (w.alloc o) fun e w' => e = .returned (.bool true) ∧ Hid (Steps w H (PBn FI base pb bb (i + 1)) w') := by
    intro o
    have h2 := (PBn.fr ok base pb bb i).bt h (BA o) (fun _ _ x => x)
    refine (n_state ok h2 hi).mono ?_
    rintro e w' ⟨rfl, q⟩
    exact ⟨rfl, H, ((PBn.fr ok base pb bb i).bt h2 q.out (fun _ _ x => x)).mono (by omega), Stp.of_bt ((BA o).trans q.out (fun _ _ x => x))⟩
  have CF : ∀ o, ∃ (xb fb : Nat) (R E : Int) (M : World → Prop), ((w.alloc o).cell? ⟨pb, 0, none⟩ = some (.pointer (some ⟨xb, 0, none⟩))) ∧ (∀ w1, M w1 → w1.cell? ⟨pb, 1, none⟩ = some (.pointer (some ⟨fb, 0, none⟩))) ∧
      (Calls Tryd.prog 15 #[.pointer (some ⟨xb, 0, none⟩)] (w.alloc o) fun e w' => e = .returned (.tuple #[.int .i64 R, .int .i64 E]) ∧ M w') ∧
      ∀ w1, M w1 → Calls Tryd.prog 59 #[.pointer (some ⟨fb, 0, none⟩)] w1 fun e w' => e = .returned (.tuple #[.int .i64 R, .int .i64 E]) ∧ Hid (Steps w H (PBn FI base pb bb (i + 1)) w') := by
    intro o
    obtain ⟨xb, fb, R, E, M, m1, m2, m3, m4⟩ := n_flush ok ((PBn.fr ok base pb bb i).bt h (BA o) (fun _ _ x => x)) hi
    refine ⟨xb, fb, R, E, M, m1, m2, m3, fun w1 q => (m4 w1 q).mono ?_⟩
    rintro e w' ⟨rfl, q⟩
    exact ⟨rfl, Steps.after (BA o) q.out⟩
  have CN : ∀ (n : Int) (w : World), Calls Tryd.prog 57 #[.int .i64 n] w fun e w' => e = .returned (.int .i64 n) ∧ w' = w := num_law
  have CK : ∀ (n : Int), 0 < n → n ≤ 4294967296 → ∀ w, Calls Tryd.prog 62 #[.int .i64 A, .int .i64 n] w fun e w' => e = .returned (.int .i64 (pickv A n)) ∧ w' = w := fun n h1 h2 w => pick_at A n w hA0 hA1 h1 h2
  have CM : ∀ (n : Nat) (k large : Int) (w1 : World), k = n → n ≤ 4000 → 0 ≤ large → large ≤ 2147483647 → Bt (fun _ => False) w w1 → Calls Tryd.prog 61 #[.int .i64 k, .int .i64 B, .int .i64 large] w1 fun e w2 => Hid (∃ a c ll, e = .returned (.slice a ll c) ∧ (∀ b o, a = some ⟨b, o, none⟩ → True) ∧
      (Calls Tryd.prog 58 #[.pointer (some ⟨pb, 0, none⟩), .slice a ll c] w2 fun e w' => e = .returned (.bool true) ∧ Hid (Steps w H (PBn FI base pb bb (i + 1)) w')) ∧
      (Calls Tryd.prog 60 #[.pointer (some ⟨pb, 0, none⟩), .slice a ll c] w2 fun e w' => e = .returned (.bool true) ∧ Hid (Steps w H (PBn FI base pb bb (i + 1)) w'))) := by
    intro n k large w1 hk hn h3 h4 b
    subst hk
    refine (made_law n B large w1 hn hB0 hB1 h3 h4).mono ?_
    intro e w2 q
    exact n_made ok h hi hn b q
  have HT : Hid (∀ o, Steps w H (PBn FI base pb bb (i + 1)) (w.alloc o)) := fun o => ⟨H, ((PBn.fr ok base pb bb i).bt h (BA o) (fun _ _ x => x)).mono (by omega), Stp.of_bt (BA o)⟩
  have hr1 := pickv_range A 2001 (by omega)
  have hr2 := pickv_range A 300 (by omega)
  have hpb : pb < w.heap.size := by
    obtain ⟨F, G, ⟨xb, fb, s, h1, _⟩, _⟩ := h
    exact (PS.blk h1).lt
  have hpn : ¬ w.heap.size = pb := by omega
  have hpn2 : ¬ pb = w.heap.size := by omega
  generalize l.length = ll at *
  clear h src hfar hnil
  by_cases k1 : K = 1
  · subst k1
    clear CW CL CS CF CM
    go_enter Tryd.func36, Tryd.ntmps36
    go_wp2_with (go_at_call 58; refine (CP _).mono ?_; rintro e w' ⟨rfl, HQ⟩)
    go_ret
    exact ⟨rfl, HQ.out⟩
  by_cases k2 : K = 2
  · subst k2
    clear CW CP CS CF CM
    go_enter Tryd.func36, Tryd.ntmps36
    go_wp2_with (go_at_call 39; refine (CL _).mono ?_; rintro e w' ⟨rfl, HQ⟩)
    go_ret
    exact ⟨rfl, HQ.out⟩
  by_cases k3 : K = 3
  · subst k3
    clear CW CP CS CL CM
    obtain ⟨xb, fb, R, E, M, m1, m2, m3, m4⟩ := CF (.cells #[.int .i64 W, .int .i64 3, .int .i64 A, .int .i64 B, .slice a ll c] 75)
    have HM2 : Hid (∀ w1, M w1 → w1.cell? ⟨pb, 1, none⟩ = some (.pointer (some ⟨fb, 0, none⟩))) := m2
    have m1' : w.cell? ⟨pb, 0, none⟩ = some (.pointer (some ⟨xb, 0, none⟩)) := by
      rw [← m1]; exact (World.cell?_of_block (w := w) (by show (w.heap.push _)[pb]? = _; rw [Array.getElem?_push, if_neg (by omega)])).symm
    clear CF m2 m1
    go_enter Tryd.func36, Tryd.ntmps36
    go_wp2_with (first
      | (go_at_call 15; refine m3.mono ?_; rintro e w1 ⟨rfl, H1⟩; have HM : Hid (M w1) := H1; clear H1; have c1 := HM2.out w1 HM.out)
      | (go_at_call 59; refine (m4 _ HM.out).mono ?_; rintro e w2 ⟨rfl, HQ⟩)
      | (go_at_call 57; refine (CN _ _).mono ?_; rintro e w' ⟨rfl, hw⟩; subst w'))
    go_ret
    exact ⟨rfl, HQ.out⟩
  by_cases k4 : K = 4
  · subst k4
    clear CP CL CS CF CM
    go_enter Tryd.func36, Tryd.ntmps36
    go_wp2_with (go_at_call 60; refine (CW _).mono ?_; rintro e w' ⟨rfl, HQ⟩)
    go_ret
    exact ⟨rfl, HQ.out⟩
  by_cases k5 : K = 5
  · subst k5
    clear CP CL CW CF CM
    go_enter Tryd.func36, Tryd.ntmps36
    go_wp2_with (go_at_call 38; refine (CS _).mono ?_; rintro e w' ⟨rfl, HQ⟩)
    go_ret
    exact ⟨rfl, HQ.out⟩
  by_cases k6 : K = 6
  · subst k6
    have CK1 := CK 2001 (by omega) (by omega)
    have CM1 := fun w1 => CM (pickv A 2001).toNat (pickv A 2001) 2147483647 w1 (by omega) (by omega) (by omega) (by omega)
    generalize pickv A 2001 = pv at *
    clear CP CL CW CF CS CK CM
    go_enter Tryd.func36, Tryd.ntmps36
    go_wp2
    go_region_with (first
      | (go_at_call 62; refine (CK1 _).mono ?_; rintro e w' ⟨rfl, hw⟩; subst w')
      | (go_at_call 61; refine (CM1 _ (by repeat (first | exact BA _ | apply Bt.drew | apply Bt.drewN))).mono ?_; rintro e w2 HM; obtain ⟨a2, c2, l2, rfl, _, hpp, _⟩ := HM.out; clear HM)
      | (go_at_call 58; refine hpp.mono ?_; rintro e w3 ⟨rfl, HQ⟩))
    all_goals go_wp2
    all_goals go_ret
    all_goals exact ⟨rfl, HQ.out⟩
  by_cases k7 : K = 7
  · subst k7
    have CK1 := CK 300 (by omega) (by omega)
    have CM1 := fun w1 k (hk : k = 1 + pickv A 300) => CM (1 + pickv A 300).toNat k 1000000 w1 (by omega) (by omega) (by omega) (by omega)
    generalize pickv A 300 = pv at *
    clear CP CL CW CF CS CK CM
    go_enter Tryd.func36, Tryd.ntmps36
    go_wp2
    go_region_with (first
      | (go_at_call 62; refine (CK1 _).mono ?_; rintro e w' ⟨rfl, hw⟩; subst w')
      | (go_at_call 61; refine (CM1 _ _ (by first | rfl | omega | (rw [IntKind.wrap_i64]; omega)) (by repeat (first | exact BA _ | apply Bt.drew | apply Bt.drewN))).mono ?_; rintro e w2 HM; obtain ⟨a2, c2, l2, rfl, _, _, hpp⟩ := HM.out; clear HM)
      | (go_at_call 60; refine hpp.mono ?_; rintro e w3 ⟨rfl, HQ⟩))
    all_goals go_wp2
    all_goals go_ret
    all_goals exact ⟨rfl, HQ.out⟩
  · clear CP CL CW CF CM CS
    go_enter Tryd.func36, Tryd.ntmps36
    go_wp2
    go_ret
    exact ⟨rfl, HT.out _⟩
end Go.Proofs.YtddpcjgekfmhkabDoor

/- opened: a pair, or none. -/
namespace Go.Proofs.YtddpcjgekfmhkabDoor
open Go.RowKit
set_option linter.unusedSimpArgs false
set_option linter.unusedVariables false

/-- A pair behind at most i steps, or none. -/
def PO (FI : Nat → Nat → FlS → Res) (base bb : Nat) (pv : Value) (i : Nat) : Res := fun w F => (pv = .pointer none ∧ ∀ k, ¬ F k) ∨ ∃ pb, pv = .pointer (some ⟨pb, 0, none⟩) ∧ PN FI base pb bb i w F
theorem PO.fr {FI : Nat → Nat → FlS → Res} (ok : FltOk FI) (base bb : Nat) (pv : Value) (i : Nat) : Fr base (PO FI base bb pv i) :=
  ⟨fun h b hs hb => h.imp id (fun ⟨pb, e, q⟩ => ⟨pb, e, (PN.fr ok _ _ _ _).btw q b hs hb⟩), fun h hk => by
    rcases h with ⟨_, q⟩ | ⟨pb, e, q⟩
    · exact absurd hk (q _)
    · exact (PN.fr ok _ _ _ _).lt q hk⟩
/-- What opened gives. -/
def OpenQ (FI : Nat → Nat → FlS → Res) (base bb : Nat) (w : World) (e : Ending) (w' : World) : Prop :=
  ∃ pv F, e = .returned (.tuple #[pv, .bool true]) ∧ PO FI base bb pv 0 w' F ∧ (∀ k, F k → w.heap.size ≤ k) ∧ Bt (fun _ => False) w w' ∧ (pv = .pointer none ∨ ∃ pb, pv = .pointer (some ⟨pb, 0, none⟩))

theorem opened_fin {FI : Nat → Nat → FlS → Res} (ok : FltOk FI) {base bb xb fb : Nat} {s : FlS} {w w5 w6 : World} {Fx Fr : Nat → Prop} (hx : FI base xb s w5 Fx) (hfx : ∀ k, Fx k → w.heap.size ≤ k) (b5 : Bt (fun _ => False) w w5) (b6 : Bt (fun _ => False) w5 w6) (hr : RF base fb s w6 Fr) (hfr : ∀ k, Fr k → w5.heap.size ≤ k) (hb : base ≤ w.heap.size) (hs : s.Ok) (hX : s.X = []) (hp : s.parts.length = 1) (pb : Nat) (hpb : pb = w6.heap.size) :
    OpenQ FI base bb w (.returned (.tuple #[.pointer (some ⟨pb, 0, none⟩), .bool true])) (w6.alloc (.cells #[.pointer (some ⟨xb, 0, none⟩), .pointer (some ⟨fb, 0, none⟩), .pointer (some ⟨bb, 0, none⟩)] 105)) := by
  subst hpb
  have s5 := b5.size
  have s6 := b6.size
  have b7 : Bt (fun _ => False) w6 (w6.alloc (.cells #[.pointer (some ⟨xb, 0, none⟩), .pointer (some ⟨fb, 0, none⟩), .pointer (some ⟨bb, 0, none⟩)] 105)) := (Bt.refl _ _).alloc _
  have lx : ∀ k, Fx k → k < w5.heap.size := fun k hk => ((ok.fr _ _ _).lt hx hk).2
  have lr : ∀ k, Fr k → k < w6.heap.size := fun k hk => ((RF.fr _ _ _).lt hr hk).2
  refine ⟨_, fun k => k = w6.heap.size ∨ Fx k ∨ Fr k, rfl, .inr ⟨_, rfl, xb, fb, s, ⟨fun k => k = w6.heap.size, fun k => Fx k ∨ Fr k, ⟨?_, by omega, fun _ => Iff.rfl⟩, ⟨Fx, Fr, ?_, ?_, fun k hk e => ?_, fun _ => Iff.rfl⟩, fun k hk e => ?_, fun _ => Iff.rfl⟩, hs, ?_, ?_⟩, fun k hk => ?_, (b5.trans b6 (fun _ _ x => x)).trans b7 (fun _ _ x => x), .inr ⟨_, rfl⟩⟩
  · show (w6.heap.push _)[w6.heap.size]? = _
    simp
  · exact (ok.fr _ _ _).bt hx (b6.trans b7 (fun _ _ x => x)) (fun _ _ x => x)
  · exact (RF.fr _ _ _).bt hr b7 (fun _ _ x => x)
  · have := lx k hk; have := hfr k e; omega
  · subst hk
    rcases e with e | e
    · have := lx _ e; omega
    · have := lr _ e; omega
  · rw [hX]; simp
  · omega
  · rcases hk with e | e | e
    · omega
    · exact hfx k e
    · have := hfr k e; omega

set_option maxHeartbeats 2000000 in
theorem opened_law {FI : Nat → Nat → FlS → Res} (ok : FltOk FI) (base bb : Nat) (B R W : Int) (a : Option Addr) (c : Nat) (l : List Int) (w : World) (ht : Tab w) (hb1 : 1 < base) (hb : base ≤ w.heap.size) (src : Src w a (ints l)) (hr : Rng l) (hl : l.length ≤ 1048576) (hlc : l.length ≤ c) (hnil : a = none → c = 0)
    (hB : -9223372036854775808 ≤ B ∧ B ≤ 9223372036854775807) (hR : -9223372036854775808 ≤ R ∧ R ≤ 9223372036854775807) (hW : -9223372036854775808 ≤ W ∧ W ≤ 9223372036854775807) :
    Calls Tryd.prog 35 #[.agg #[.int .i64 B, .int .i64 R, .int .i64 W], .slice a l.length c, .pointer (some ⟨bb, 0, none⟩)] w fun e w' => OpenQ FI base bb w e w' := by
  have hbs : ∀ b o, a = some ⟨b, o, none⟩ → 0 < l.length → b < w.heap.size := by
    intro b o e h0
    obtain ⟨b', o', e', q⟩ := src.int (at0_some h0)
    rw [e] at e'
    simp at e'
    obtain ⟨rfl, rfl⟩ := e'
    exact World.block_lt_of_cell? w _ q
  obtain ⟨w0, hw0⟩ : ∃ w0, w0 = w.alloc (.cells #[.int .i64 B, .int .i64 R, .int .i64 W] 46) := ⟨_, rfl⟩
  have B0 : Bt (fun _ => False) w w0 := by rw [hw0]; exact (Bt.refl _ _).alloc _
  have Z0 : w0.heap.size = w.heap.size + 1 := by rw [hw0]; simp
  have D : w0.cell? ⟨w.heap.size, 0, none⟩ = some (.int .i64 B) ∧ w0.cell? ⟨w.heap.size, 1, none⟩ = some (.int .i64 R) ∧ w0.cell? ⟨w.heap.size, 2, none⟩ = some (.int .i64 W) := by
    rw [hw0]
    refine ⟨?_, ?_, ?_⟩ <;> (rw [World.cell?_alloc_at _ _ _ _ rfl]; rfl)
  have HD : Hid (∀ w1, Bt (fun k => k = w0.heap.size) w0 w1 → w1.cell? ⟨w.heap.size, 0, none⟩ = some (.int .i64 B) ∧ w1.cell? ⟨w.heap.size, 1, none⟩ = some (.int .i64 R) ∧ w1.cell? ⟨w.heap.size, 2, none⟩ = some (.int .i64 W)) := fun w1 b => ⟨b.cell (by omega) D.1, b.cell (by omega) D.2.1, b.cell (by omega) D.2.2⟩
  have CN : ∀ (n : Int) (w : World), Calls Tryd.prog 57 #[.int .i64 n] w fun e w' => e = .returned (.int .i64 n) ∧ w' = w := num_law
  have CC : ∀ w1, Calls Tryd.prog 54 #[.agg #[.int .i64 B, .int .i64 R, .int .i64 W]] w1 fun e w' => e = .returned (.agg #[.int .i64 B, .int .i64 R, .int .i64 W]) ∧ Hid (Bt (fun _ => False) w1 w') := fun w1 => conf_law B R W w1
  -- lent: where the list lies, and its row
  have C1 : Calls Tryd.prog 53 #[.slice a l.length c] w0 fun e w1 => Hid (∃ ha hc, e = .returned (.slice ha l.length hc) ∧ l.length ≤ hc ∧ (ha = none → hc = 0) ∧ Bt (fun _ => False) w0 w1 ∧ Src w1 ha (ints l) ∧ (0 < l.length → ha = some ⟨w0.heap.size, 0, none⟩ ∧ hc = l.length + 8 ∧ Jr w1 w0.heap.size (l.length + 8) (lentR l)) ∧ (0 < l.length → w0.heap.size < w1.heap.size) ∧ (l.length = 0 → ha = none)) := by
    refine (lent_law a c l w0 (src.bt B0 (fun _ _ _ x => x)) hl).mono ?_
    rintro e w1 (⟨q, q1, q2⟩ | ⟨q, q1, q2, q3, q4⟩)
    · subst q2
      have : l = [] := List.eq_nil_of_length_eq_zero q
      subst this
      exact ⟨none, 0, q1, by simp, fun _ => rfl, Bt.refl _ _, src_none _ _, fun h => by simp at h, fun h => by simp at h, fun _ => rfl⟩
    · exact ⟨_, _, q1, by omega, fun e => (by cases e), q3, q2.src l (by omega) (fun i hi => by unfold lentR; rw [if_pos hi]), fun _ => ⟨rfl, rfl, q2⟩, fun _ => by omega, fun h => by omega⟩
  have C4 : ∀ (w3 : World) (ha : Option Addr) (hc : Nat), Bt (fun _ => False) w0 w3 → (0 < l.length → ha = some ⟨w0.heap.size, 0, none⟩ ∧ hc = l.length + 8 ∧ Jr w3 w0.heap.size (l.length + 8) (lentR l)) → Calls Tryd.prog 55 #[.slice ha l.length hc, .slice a l.length c] w3 fun e w' => e = .returned (.bool true) ∧ Hid (Bt (fun k => k = w0.heap.size) w3 w') := by
    intro w3 ha hc b3 hj
    by_cases h0 : 0 < l.length
    · obtain ⟨rfl, rfl, hjr⟩ := hj h0
      exact still_law w0.heap.size a c l w3 h0 ((src.bt B0 (fun _ _ _ x => x)).bt b3 (fun _ _ _ x => x)) hl hjr (fun b o e => by have := hbs b o e h0; omega)
    · have e0 : l.length = 0 := by omega
      rw [e0]
      refine (still_none _ a c w3).mono ?_
      rintro e w' ⟨rfl, rfl⟩
      exact ⟨rfl, Bt.refl _ _⟩
  have hsr : ∀ w1, Bt (fun k => k = w0.heap.size) w0 w1 → Src w1 a (ints l) := fun w1 b => by
    by_cases h0 : 0 < l.length
    · exact (src.bt B0 (fun _ _ _ x => x)).bt b (fun b' o e q => by have := hbs b' o e h0; omega)
    · rw [List.eq_nil_of_length_eq_zero (by omega : l.length = 0)]; exact src_none _ _
  by_cases good : okConf B R W ∧ okTaps l
  · obtain ⟨gc, gt⟩ := good
    have h0 : 0 < l.length := gt.1
    have C3 : ∀ (w2 : World) (ha : Option Addr) (hc : Nat), Bt (fun _ => False) w0 w2 → Src w2 ha (ints l) → l.length ≤ hc → (ha = none → hc = 0) → (w0.heap.size < w2.heap.size) → Jr w2 w0.heap.size (l.length + 8) (lentR l) → Calls Tryd.prog 12 #[.agg #[.int .i64 B, .int .i64 R, .int .i64 W], .slice ha l.length hc] w2 fun e w3 => Hid (∃ xb F, e = .returned (.tuple #[.pointer (some ⟨xb, 0, none⟩), .int .i64 0]) ∧ FI base xb (FlS.fresh B.toNat R.toNat W.toNat l) w3 F ∧ (∀ k, F k → w0.heap.size < k) ∧ Bt (fun _ => False) w0 w3 ∧ Jr w3 w0.heap.size (l.length + 8) (lentR l)) := by
      intro w2 ha hc b2 s2 q1 q2 q3 q4
      refine (ok.new base B R W ha hc l w2 ((ht.bt B0 (fun x => x)).bt b2 (fun x => x)) hb1 (by have := b2.size; omega) s2 hr hl q1 q2 hB hR hW).mono ?_
      intro e w3 hq
      unfold NewP at hq
      rw [if_pos gc, if_pos gt] at hq
      obtain ⟨xb, F, he, f1, f2, f3⟩ := hq
      exact ⟨xb, F, he, f1, fun k hk => by have := f2 k hk; omega, b2.trans f3 (fun _ _ x => x), q4.bt f3 (fun x => x)⟩
    have C5 : ∀ (w3 w4 : World) (xb : Nat) (F : Nat → Prop), FI base xb (FlS.fresh B.toNat R.toNat W.toNat l) w3 F → (∀ k, F k → w0.heap.size < k) → Bt (fun _ => False) w0 w3 → Bt (fun k => k = w0.heap.size) w3 w4 → Calls Tryd.prog 56 #[.agg #[.int .i64 B, .int .i64 R, .int .i64 W], .slice a l.length c] w4 fun e w5 => Hid (∃ fb, e = .returned (.tuple #[.pointer (some ⟨fb, 0, none⟩), .int .i64 0]) ∧ ∀ pb, pb = w5.heap.size → OpenQ FI base bb w (.returned (.tuple #[.pointer (some ⟨pb, 0, none⟩), .bool true])) (w5.alloc (.cells #[.pointer (some ⟨xb, 0, none⟩), .pointer (some ⟨fb, 0, none⟩), .pointer (some ⟨bb, 0, none⟩)] 105))) := by
      intro w3 w4 xb F f1 f2 b3 b4
      have b04 : Bt (fun k => k = w0.heap.size) w0 w4 := (b3.mono (fun _ _ x => x.elim)).trans b4 (fun _ _ x => x)
      have bw4 : Bt (fun _ => False) w w4 := B0.trans b04 (fun k hk e => by omega)
      refine (new_ref base B R W a c l w4 (by have := bw4.size; omega) (hsr w4 b04) hr hl).mono ?_
      intro e w5 hq
      unfold NewQ at hq
      rw [if_pos gc, if_pos gt] at hq
      obtain ⟨fb, G, he, g1, g2, g3⟩ := hq
      refine ⟨fb, he, fun pb hpb => opened_fin ok ((ok.fr _ _ _).btw f1 b4 (fun k hk e => by have := f2 k hk; omega) (fun k e => by omega)) (fun k hk => by have := f2 k hk; omega) bw4 g3 g1 g2 hb (FlS.Ok.fresh gc gt) rfl rfl pb hpb⟩
    have e0 := D
    generalize l.length = ll at *
    rw [hw0] at C1
    clear src hsr D
    go_enter Tryd.func35, Tryd.ntmps35
    go_wp2_with (first
      | (go_at_call 53; refine C1.mono ?_; rintro e w1 H1; obtain ⟨ha, hc, rfl, q1⟩ := H1.out; have HL : Hid (ll ≤ hc ∧ (ha = none → hc = 0) ∧ Bt (fun _ => False) w0 w1 ∧ Src w1 ha (ints l) ∧ (0 < ll → ha = some ⟨w0.heap.size, 0, none⟩ ∧ hc = ll + 8 ∧ Jr w1 w0.heap.size (ll + 8) (lentR l)) ∧ (0 < ll → w0.heap.size < w1.heap.size) ∧ (ll = 0 → ha = none)) := (by rw [← hw0] at q1; exact q1); clear H1 q1; obtain ⟨d0, d1, d2⟩ := HD.out w1 (HL.out.2.2.1.mono (fun _ _ x => x.elim)))
      | (go_at_call 54; refine (CC _).mono ?_; rintro e w2 ⟨rfl, H2⟩)
      | (go_at_call 12; refine (C3 _ ha hc (HL.out.2.2.1.trans H2.out (fun _ _ x => x)) (HL.out.2.2.2.1.bt H2.out (fun _ _ _ x => x)) HL.out.1 HL.out.2.1 (Nat.lt_of_lt_of_le (HL.out.2.2.2.2.2.1 h0) H2.out.size) ((HL.out.2.2.2.2.1 h0).2.2.bt H2.out (fun x => x))).mono ?_; rintro e w3 H3; obtain ⟨xb, FX, rfl, q3⟩ := H3.out; have HX : Hid (FI base xb (FlS.fresh B.toNat R.toNat W.toNat l) w3 FX ∧ (∀ k, FX k → w0.heap.size < k) ∧ Bt (fun _ => False) w0 w3 ∧ Jr w3 w0.heap.size (ll + 8) (lentR l)) := q3; clear H3 q3)
      | (go_at_call 55; refine (C4 _ ha hc HX.out.2.2.1 (fun _ => ⟨(HL.out.2.2.2.2.1 h0).1, (HL.out.2.2.2.2.1 h0).2.1, HX.out.2.2.2⟩)).mono ?_; rintro e w4 ⟨rfl, H4⟩; obtain ⟨g0, g1, g2⟩ := HD.out w4 ((HX.out.2.2.1.mono (fun _ _ x => x.elim)).trans H4.out (fun _ _ x => x)))
      | (go_at_call 56; refine (C5 _ _ xb FX HX.out.1 HX.out.2.1 HX.out.2.2.1 H4.out).mono ?_; rintro e w5 H5; obtain ⟨fb, rfl, q5⟩ := H5.out; have HF : Hid (∀ pb, pb = w5.heap.size → OpenQ FI base bb w (.returned (.tuple #[.pointer (some ⟨pb, 0, none⟩), .bool true])) (w5.alloc (.cells #[.pointer (some ⟨xb, 0, none⟩), .pointer (some ⟨fb, 0, none⟩), .pointer (some ⟨bb, 0, none⟩)] 105))) := q5; clear H5 q5)
      | (go_at_call 57; refine (CN _ _).mono ?_; rintro e w' ⟨rfl, hw⟩; subst w'))
    go_ret2
    exact HF.out _ rfl
  · obtain ⟨E, hE⟩ : ∃ E : Int, (if okConf B R W then 4 else 3) = E := ⟨_, rfl⟩
    have hE0 : E ≠ 0 := by
      rw [← hE]; split <;> omega
    have C3 : ∀ (w2 : World) (ha : Option Addr) (hc : Nat), Bt (fun _ => False) w0 w2 → Src w2 ha (ints l) → l.length ≤ hc → (ha = none → hc = 0) → Calls Tryd.prog 12 #[.agg #[.int .i64 B, .int .i64 R, .int .i64 W], .slice ha l.length hc] w2 fun e w3 => e = .returned (.tuple #[.pointer none, .int .i64 E]) ∧ Hid (Bt (fun _ => False) w2 w3) := by
      intro w2 ha hc b2 s2 q1 q2
      refine (ok.new base B R W ha hc l w2 ((ht.bt B0 (fun x => x)).bt b2 (fun x => x)) hb1 (by have := b2.size; omega) s2 hr hl q1 q2 hB hR hW).mono ?_
      intro e w3 hq
      unfold NewP at hq
      rw [← hE]
      by_cases gc : okConf B R W
      · rw [if_pos gc, if_neg (fun q => good ⟨gc, q⟩)] at hq
        rw [if_pos gc]; exact hq
      · rw [if_neg gc] at hq
        rw [if_neg gc]; exact hq
    have C5 : ∀ (w4 : World), Bt (fun k => k = w0.heap.size) w0 w4 → Calls Tryd.prog 56 #[.agg #[.int .i64 B, .int .i64 R, .int .i64 W], .slice a l.length c] w4 fun e w5 => e = .returned (.tuple #[.pointer none, .int .i64 E]) ∧ Hid (OpenQ FI base bb w (.returned (.tuple #[.pointer none, .bool true])) w5) := by
      intro w4 b4
      have bw4 : Bt (fun _ => False) w w4 := B0.trans b4 (fun k hk e => by omega)
      refine (new_ref base B R W a c l w4 (by have := bw4.size; omega) (hsr w4 b4) hr hl).mono ?_
      intro e w5 hq
      have hq' : e = .returned (.tuple #[.pointer none, .int .i64 E]) ∧ Bt (fun _ => False) w4 w5 := by
        unfold NewQ at hq
        rw [← hE]
        by_cases gc : okConf B R W
        · rw [if_pos gc, if_neg (fun q => good ⟨gc, q⟩)] at hq
          rw [if_pos gc]; exact hq
        · rw [if_neg gc] at hq
          rw [if_neg gc]; exact hq
      exact ⟨hq'.1, .pointer none, fun _ => False, rfl, .inl ⟨rfl, fun _ x => x⟩, fun _ x => x.elim, bw4.trans hq'.2 (fun _ _ x => x), .inl rfl⟩
    generalize l.length = ll at *
    rw [hw0] at C1
    clear src hsr D hE
    go_enter Tryd.func35, Tryd.ntmps35
    go_wp2_with (first
      | (go_at_call 53; refine C1.mono ?_; rintro e w1 H1; obtain ⟨ha, hc, rfl, q1⟩ := H1.out; have HL : Hid (ll ≤ hc ∧ (ha = none → hc = 0) ∧ Bt (fun _ => False) w0 w1 ∧ Src w1 ha (ints l) ∧ (0 < ll → ha = some ⟨w0.heap.size, 0, none⟩ ∧ hc = ll + 8 ∧ Jr w1 w0.heap.size (ll + 8) (lentR l)) ∧ (0 < ll → w0.heap.size < w1.heap.size) ∧ (ll = 0 → ha = none)) := (by rw [← hw0] at q1; exact q1); clear H1 q1; obtain ⟨d0, d1, d2⟩ := HD.out w1 (HL.out.2.2.1.mono (fun _ _ x => x.elim)))
      | (go_at_call 54; refine (CC _).mono ?_; rintro e w2 ⟨rfl, H2⟩)
      | (go_at_call 12; refine (C3 _ ha hc (HL.out.2.2.1.trans H2.out (fun _ _ x => x)) (HL.out.2.2.2.1.bt H2.out (fun _ _ _ x => x)) HL.out.1 HL.out.2.1).mono ?_; rintro e w3 ⟨rfl, H3⟩)
      | (go_at_call 55; refine (C4 _ ha hc ((HL.out.2.2.1.trans H2.out (fun _ _ x => x)).trans H3.out (fun _ _ x => x)) (fun q => ⟨(HL.out.2.2.2.2.1 q).1, (HL.out.2.2.2.2.1 q).2.1, ((HL.out.2.2.2.2.1 q).2.2.bt H2.out (fun x => x)).bt H3.out (fun x => x)⟩)).mono ?_; rintro e w4 ⟨rfl, H4⟩; obtain ⟨g0, g1, g2⟩ := HD.out w4 ((((HL.out.2.2.1.trans H2.out (fun _ _ x => x)).trans H3.out (fun _ _ x => x)).mono (fun _ _ x => x.elim)).trans H4.out (fun _ _ x => x)))
      | (go_at_call 56; refine (C5 _ ((((HL.out.2.2.1.trans H2.out (fun _ _ x => x)).trans H3.out (fun _ _ x => x)).mono (fun _ _ x => x.elim)).trans H4.out (fun _ _ x => x))).mono ?_; rintro e w5 ⟨rfl, HF⟩)
      | (go_at_call 57; refine (CN _ _).mono ?_; rintro e w' ⟨rfl, hw⟩; subst w'))
    go_ret2
    exact HF.out
end Go.Proofs.YtddpcjgekfmhkabDoor
