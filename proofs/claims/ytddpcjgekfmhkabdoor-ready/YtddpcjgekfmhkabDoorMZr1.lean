/- Texts joined: Pi Pk Pj1 Zr1. -/
import Derived.Test.YtddpcjgekfmhkabDoorM25
import Derived.Deep.RegionHeld3
import Derived.Test.YtddpcjgekfmhkabDoorM24
import Derived.Test.YtddpcjgekfmhkabDoorCards
import Derived.Test.YtddpcjgekfmhkabDoorTie
import Derived.Lib.LaidTab
import Derived.Deep.DeepHandedRow
import Derived.ProofKit
import Derived.OpenShut
import Derived.ChangeOld
import Derived.Below
import Derived.Test.YtddpcjgekfmhkabDoorM21

/- Ready, walked, whatever filter keeps its contract. -/
namespace Go.Proofs.YtddpcjgekfmhkabDoor
open Go.RowKit
set_option linter.unusedSimpArgs false
set_option linter.unusedVariables false

/-- A filter with room for two blocks, without swaps. -/
structure Rd (s : FlS) (bn i : Nat) : Prop where
  ok : s.Ok
  B : s.B = bn
  R : s.R = 2 * bn
  p1 : s.parts.length = 1
  from0 : s.from = 0
  x : s.X.length ≤ 768 * i
theorem Rd.small {s : FlS} {bn i : Nat} (h : Rd s bn i) (hi : i ≤ 17592186044417) : s.Small := ⟨h.ok, by have := h.x; omega, by have := h.p1; omega⟩
theorem Rd.pending {s : FlS} {bn i : Nat} (h : Rd s bn i) : s.pending = -1 := by unfold FlS.pending; rw [h.from0, if_neg (by omega)]
theorem zeros_ok (n : Nat) : ∀ v ∈ List.replicate n (0 : Int), okSample v := fun v hv => by rw [List.eq_of_mem_replicate hv]; exact ⟨by omega, by omega⟩
theorem Rd.push {s : FlS} {bn i : Nat} (h : Rd s bn i) (n : Nat) (hn : n ≤ 768) : pushR s (List.replicate n 0) = (min n s.room : Nat) ∧ pushE s (List.replicate n 0) = 0 ∧ Rd (pushS s (List.replicate n 0)) bn (i + 1) ∧ (pushS s (List.replicate n 0)).X.length = s.X.length + min n s.room ∧ (pushS s (List.replicate n 0)).pulled = s.pulled := by
  have hN : pushN s (List.replicate n 0) = min n s.room := by unfold pushN; rw [List.length_replicate]
  have hS : pushS s (List.replicate n 0) = s.more ((List.replicate n 0).take (min n s.room)) := by unfold pushS; rw [if_pos (zeros_ok n), hN]
  have hX : (pushS s (List.replicate n 0)).X.length = s.X.length + min n s.room := by
    rw [hS]
    show (s.X ++ (List.replicate n (0 : Int)).take (min n s.room)).length = _
    rw [List.length_append, List.length_take, List.length_replicate]; omega
  have okp := (h.ok.push (List.replicate n 0)).1
  refine ⟨by unfold pushR; rw [if_pos (zeros_ok n), hN], by unfold pushE; rw [if_pos (zeros_ok n)], ⟨okp, by rw [hS]; exact h.B, by rw [hS]; exact h.R, by rw [hS]; exact h.p1, by rw [hS]; exact h.from0, ?_⟩, hX, by rw [hS]; rfl⟩
  rw [hX]
  have := h.x
  omega
theorem Rd.took {s : FlS} {bn i : Nat} (h : Rd s bn i) (n : Int) : Rd (s.took (s.can n)) bn i := ⟨h.ok.took n, h.B, h.R, h.p1, h.from0, h.x⟩

/-- The filter as it is between the calls. -/
def RdI (FI : Nat → Nat → FlS → Res) (w0 : World) (xb bn i : Nat) (A P : Nat) (wr : World) : Prop := ∃ s, AllI FI w0 xb s (.slice none 0 0) [] wr ∧ Rd s bn i ∧ s.X.length = A ∧ s.pulled = P

section
variable {FI : Nat → Nat → FlS → Res} (ok : FltOk FI) {w0 wr : World} {xb bn i A P : Nat}
theorem RdI.bt {ok : FltOk FI} {w' : World} (h : RdI FI w0 xb bn i A P wr) (b : Bt (fun _ => False) wr w') : RdI FI w0 xb bn i A P w' := by
  obtain ⟨s, ⟨F, h1, h2, h3, h4⟩, q⟩ := h
  exact ⟨s, ⟨F, (ok.fr _ _ _).bt h1 b (fun _ _ x => x), h2.bt b (fun _ _ x => x), h3, h4.trans b (fun _ _ x => x)⟩, q⟩
theorem RdI.facts (h : RdI FI w0 xb bn i A P wr) : P ≤ A / bn * bn ∧ A ≤ P + 2 * bn ∧ A ≤ 768 * i ∧ Bt (fun _ => False) w0 wr := by
  obtain ⟨s, ⟨F, h1, h2, h3, h4⟩, r, rfl, rfl⟩ := h
  have e1 := r.ok.pl
  have e2 := r.ok.rm
  unfold FlS.whole at e1
  rw [r.B] at e1
  rw [r.R] at e2
  exact ⟨e1, e2, r.x, h4⟩
end

theorem rd_new {FI : Nat → Nat → FlS → Res} (ok : FltOk FI) (w : World) (bn : Nat) (V : Int) (hB : okBlock (bn : Int)) (hV : 1 ≤ V ∧ V ≤ 64) {bh oh ch : Nat} {h : List Int} (hh : OwnL w bh oh ch h) (th : okTaps h) (r2 : Int) (hr2 : r2 = 2 * (bn : Int)) :
    Calls Tryd.prog 12 #[.agg #[.int .i64 (bn : Int), .int .i64 r2, .int .i64 V], .slice (some ⟨bh, oh, none⟩) h.length ch] w fun e w1 => Hid (∃ xb, e = .returned (.tuple #[.pointer (some ⟨xb, 0, none⟩), .int .i64 0]) ∧ RdI FI w xb bn 0 0 0 w1) := by
  subst hr2
  have okc : okConf (bn : Int) (2 * (bn : Int)) V := ⟨hB, by omega, by unfold okBlock at hB; omega, hV.1, hV.2⟩
  refine (ok.new w.heap.size (bn : Int) (2 * (bn : Int)) V (some ⟨bh, oh, none⟩) ch h w hh.tab hh.tab.lt (Nat.le_refl _) hh.src hh.rng hh.len hh.cap (fun e => by cases e) (by unfold okBlock at hB; omega) (by unfold okBlock at hB; omega) (by omega)).mono ?_
  intro e w1 hq
  unfold NewP at hq
  rw [if_pos okc, if_pos th] at hq
  obtain ⟨xb, F, q1, q2, q3, q4⟩ := hq
  have okf := FlS.Ok.fresh okc th
  have e1 : (2 * (bn : Int)).toNat = 2 * bn := by omega
  exact ⟨xb, q1, _, ⟨F, q2, Lst.nil _ _ _ _, fun g hg => (by cases hg), q4⟩, ⟨okf, by simp [FlS.fresh], by simp [FlS.fresh, e1], rfl, rfl, Nat.le_refl _⟩, rfl, rfl⟩
theorem rd_push {FI : Nat → Nat → FlS → Res} (ok : FltOk FI) {w0 wr w' : World} {xb bn i A P : Nat} (h : RdI FI w0 xb bn i A P wr) (b : Bt (fun _ => False) wr w') (n : Nat) (hrow : Rw w' wr.heap.size 3 (List.replicate n [.int .i64 0])) (hn : n ≤ 768) (hi : i ≤ 17592186044416) :
    Calls Tryd.prog 13 #[.pointer (some ⟨xb, 0, none⟩), .slice (some ⟨wr.heap.size, 0, none⟩) n n] w' fun e w'' => e = .returned (.tuple #[.int .i64 ((min n (2 * bn - (A - P)) : Nat) : Int), .int .i64 0]) ∧ Hid (RdI FI w0 xb bn (i + 1) (A + min n (2 * bn - (A - P))) P w'') := by
  obtain ⟨s, ⟨F, h1, h2, h3, h4⟩, r, rfl, rfl⟩ := h
  have hp := r.push n hn
  have hrm : s.room = 2 * bn - (s.X.length - s.pulled) := by unfold FlS.room; rw [r.R]
  rw [hrm] at hp
  have hj := Jr.of_rw hrow
  have hlen : (List.replicate n (0 : Int)).length = n := List.length_replicate
  have hF : ∀ k, F k → k < wr.heap.size := fun k hk => ((ok.fr _ _ _).lt h1 hk).2
  have hF0 : ∀ k, F k → w0.heap.size ≤ k := fun k hk => ((ok.fr _ _ _).lt h1 hk).1
  have := ok.push ((ok.fr _ _ _).bt h1 b (fun _ _ x => x)) (r.small (by omega)) (some ⟨wr.heap.size, 0, none⟩) n (List.replicate n 0) (hj.src _ (by rw [hlen]; exact Nat.le_refl _) (fun i hi => by
    unfold at0
    rw [List.getD_eq_getElem?_getD, List.getElem?_replicate]
    split <;> rfl)) (fun v hv => by rw [List.eq_of_mem_replicate hv]; omega) (by rw [hlen]; omega) (by rw [hlen]; exact Nat.le_refl _) (fun e => by cases e) (fun b' o e q => by simp at e; obtain ⟨rfl, _⟩ := e; exact Nat.lt_irrefl _ (hF _ q))
  rw [hlen, hp.1, hp.2.1] at this
  refine this.mono ?_
  rintro e w'' ⟨rfl, F', q1, q2⟩
  exact ⟨rfl, _, ⟨F', q1, Lst.nil _ _ _ _, fun g hg => (by cases hg), (h4.trans b (fun _ _ x => x)).trans q2.bt (fun k hk e => by have := hF0 k e; omega)⟩, hp.2.2.1, hp.2.2.2.1, hp.2.2.2.2⟩
theorem rd_bad {FI : Nat → Nat → FlS → Res} (ok : FltOk FI) {w0 wr : World} {xb bn i A P : Nat} (h : RdI FI w0 xb bn i A P wr) (hi : i ≤ 17592186044417) :
    Calls Tryd.prog 13 #[.pointer (some ⟨xb, 0, none⟩), .slice (some ⟨wr.heap.size, 0, none⟩) 1 1] (wr.alloc (.cells #[.int .i64 2147483648] 3)) fun e w'' => e = .returned (.tuple #[.int .i64 0, .int .i64 5]) ∧ Hid (RdI FI w0 xb bn i A P w'') := by
  obtain ⟨s, ⟨F, h1, h2, h3, h4⟩, r, rfl, rfl⟩ := h
  have hbad : ¬ ∀ v ∈ [(2147483648 : Int)], okSample v := fun q => by have := q 2147483648 (by simp); unfold okSample at this; omega
  have e1 : pushR s [2147483648] = 0 ∧ pushE s [2147483648] = 5 ∧ pushS s [2147483648] = s := by
    unfold pushR pushE pushS
    rw [if_neg hbad, if_neg hbad, if_neg hbad]; exact ⟨rfl, rfl, rfl⟩
  have hF : ∀ k, F k → k < wr.heap.size := fun k hk => ((ok.fr _ _ _).lt h1 hk).2
  have hF0 : ∀ k, F k → w0.heap.size ≤ k := fun k hk => ((ok.fr _ _ _).lt h1 hk).1
  have b : Bt (fun _ => False) wr (wr.alloc (.cells #[.int .i64 2147483648] 3)) := (Bt.refl _ _).alloc _
  have := ok.push ((ok.fr _ _ _).bt h1 b (fun _ _ x => x)) (r.small hi) (some ⟨wr.heap.size, 0, none⟩) 1 [2147483648] (Src.of_int (fun j v hj => by
      have hj0 : j = 0 := by
        rcases Nat.eq_zero_or_pos j with e | e
        · exact e
        · rw [List.getElem?_eq_none (by simp; omega)] at hj; cases hj
      subst hj0
      simp at hj
      subst hj
      exact World.cell?_alloc_at _ _ _ _ rfl)) (fun v hv => by simp at hv; omega) (by simp) (by simp) (fun e => by cases e) (fun b' o e q => by simp at e; obtain ⟨rfl, _⟩ := e; exact Nat.lt_irrefl _ (hF _ q))
  rw [e1.1, e1.2.1, e1.2.2] at this
  refine this.mono ?_
  rintro e w'' ⟨rfl, F', q1, q2⟩
  exact ⟨rfl, s, ⟨F', q1, Lst.nil _ _ _ _, fun g hg => (by cases hg), (h4.trans b (fun _ _ x => x)).trans q2.bt (fun k hk e => by have := hF0 k e; omega)⟩, r, rfl, rfl⟩
theorem rd_pull {FI : Nat → Nat → FlS → Res} (ok : FltOk FI) {w0 wr : World} {xb bn i A P : Nat} (h : RdI FI w0 xb bn i A P wr) (hi : i ≤ 17592186044417) (n : Int) (hn0 : -9223372036854775808 ≤ n) (hn1 : n ≤ 9223372036854775807) :
    Calls Tryd.prog 16 #[.pointer (some ⟨xb, 0, none⟩), .int .i64 n] wr fun e w'' => Hid (∃ ao m, e = .returned (.slice ao m m) ∧ m ≤ 65536 ∧ RdI FI w0 xb bn i A (P + m) w'') := by
  obtain ⟨s, ⟨F, h1, h2, h3, h4⟩, r, rfl, rfl⟩ := h
  have hF0 : ∀ k, F k → w0.heap.size ≤ k := fun k hk => ((ok.fr _ _ _).lt h1 hk).1
  refine (ok.pull h1 (r.small hi) n hn0 hn1).mono ?_
  rintro e w'' ⟨ao, lb, g1, g2, g3, g4, g5, F', g6, g7, g8⟩
  exact ⟨ao, _, g1, r.ok.can_le n, _, ⟨F', g6, Lst.nil _ _ _ _, fun g hg => (by cases hg), h4.trans g7.bt (fun k hk e => by have := hF0 k e; omega)⟩, r.took n, rfl, rfl⟩
theorem rd_state {FI : Nat → Nat → FlS → Res} (ok : FltOk FI) {w0 wr : World} {xb bn i A P : Nat} (h : RdI FI w0 xb bn i A P wr) (hi : i ≤ 17592186044417) :
    Calls Tryd.prog 17 #[.pointer (some ⟨xb, 0, none⟩)] wr fun e w'' => e = .returned (.agg #[.int .i64 (A : Nat), .int .i64 (P : Nat), .int .i64 ((A / bn * bn - P : Nat) : Int), .int .i64 (-1)]) ∧ Hid (Bt (fun _ => False) wr w'') := by
  obtain ⟨s, ⟨F, h1, h2, h3, h4⟩, r, rfl, rfl⟩ := h
  have := ok.state h1 (r.small hi)
  unfold stateV at this
  rw [r.pending] at this
  unfold FlS.whole at this
  rw [r.B] at this
  exact this
end Go.Proofs.YtddpcjgekfmhkabDoor

/- Ready, walked, whatever filter keeps its contract. -/
namespace Go.Proofs.YtddpcjgekfmhkabDoor
open Go.RowKit
set_option linter.unusedSimpArgs false
set_option linter.unusedVariables false

set_option maxHeartbeats 8000000 in
set_option maxRecDepth 20000 in
theorem ready_core {FI : Nat → Nat → FlS → Res} (ok : FltOk FI) (w : World) (B R V : Int) (a1 a2 : Option Addr) (c1 c2 : Nat) (t1 t2 : List Int) (i1 : InW w a1 c1 t1) (i2 : InW w a2 c2 t2) (rB : I64 B) (rR : I64 R) (rV : I64 V) :
    Calls Tryd.prog 5 #[.agg #[.int .i64 B, .int .i64 R, .int .i64 V], .slice a1 t1.length c1, .slice a2 t2.length c2] w fun e w' => e = .returned (.bool true) ∧ Bt (fun _ => False) w w' := by
  have CF := fun w' => fit_law B R V w' rB rV
  have S1 : ∀ w', Bt (fun _ => False) w w' → Calls Tryd.prog 7 #[.slice a1 t1.length c1, .int .i64 50] w' fun e w'' => Hid (SmallT w' 50 e w'') := fun w' b => (small_law a1 c1 t1 50 w' (i1.bt b).src i1.rng (by have := i1.len; omega) (by omega) (by omega)).mono (fun e w'' q => q.tab (i1.bt b).tab)
  have HP : Hid (∀ i, i < t2.length → (∃ b o, a2 = some ⟨b, o, none⟩ ∧ w.cell? ⟨b, o + i, none⟩ = some (.int .i64 (at0 t2 i))) ∧ -9223372036854775808 ≤ at0 t2 i ∧ at0 t2 i ≤ 9223372036854775807) := fun i hi => ⟨i2.src.int (at0_some hi), i2.rng.at (at0_some hi)⟩
  have HO : Hid (FltOk FI) := ok
  have hl2 := i2.len
  generalize t1.length = n1 at *
  generalize t2.length = n2 at *
  clear i1 i2 ok
  go_enter Tryd.func5, Tryd.ntmps5
  go_wp2_with (go_at_call 9; refine (CF _).mono ?_; rintro e w1 ⟨Bf, Vf, rfl, okB, v0, v1, b1⟩; have H1 : Hid (Bt (fun _ => False) w w1) := ((Bt.refl _ _).alloc _).trans b1 (fun _ _ x => x); have HF : Hid (okBlock Bf ∧ 1 ≤ Vf ∧ Vf ≤ 64) := ⟨okB, v0, v1⟩; have hbf : 16 ≤ Bf ∧ Bf ≤ 256 := (by unfold okBlock at okB; omega); clear okB v0 v1 b1)
  obtain ⟨Bn, rfl⟩ : ∃ Bn : Nat, Bf = Bn := ⟨Bf.toNat, by omega⟩
  have HGC : Hid (∀ w', Bt (fun _ => False) (w1.alloc (.cells #[.int .i64 (Bn : Int), .int .i64 (2 * (Bn : Int)), .int .i64 Vf] 23)) w' → w'.cell? ⟨w1.heap.size, 0, none⟩ = some (.int .i64 (Bn : Int)) ∧ w'.cell? ⟨w1.heap.size, 1, none⟩ = some (.int .i64 (2 * (Bn : Int))) ∧ w'.cell? ⟨w1.heap.size, 2, none⟩ = some (.int .i64 Vf)) := fun w' b => ⟨b.cell (fun x => x) (by simp [go_sem]), b.cell (fun x => x) (by simp [go_sem]), b.cell (fun x => x) (by simp [go_sem])⟩
  have s0 := HGC.out _ (Bt.refl _ _)
  go_region_held3 (fun W => W.cell? ⟨w1.heap.size, 0, none⟩ = some (.int .i64 (Bn : Int)) ∧ W.cell? ⟨w1.heap.size, 1, none⟩ = some (.int .i64 (2 * (Bn : Int))) ∧ W.cell? ⟨w1.heap.size, 2, none⟩ = some (.int .i64 Vf))
    (first
      | exact s4
      | exact s3
      | exact s0)
    (first
      | (go_at_call 7; (with_reducible refine (S1 _ (((H1.out.alloc _)).drew)).mono ?_); rintro e w3 q; obtain ⟨bh, oh, ch, h, rfl, o1, o2, o3, o4, o5⟩ := q.out.own (by omega); have H3 : Hid (OwnL w3 bh oh ch h ∧ okTaps h ∧ Bt (fun _ => False) (w1.alloc (.cells #[.int .i64 (Bn : Int), .int .i64 (2 * (Bn : Int)), .int .i64 Vf] 23)) w3) := ⟨o1, small_taps o2 (by omega) o4, ((Bt.refl _ _).drew).trans o5 (fun _ _ x => x)⟩; clear q o1 o2 o3 o4 o5; have s3 := HGC.out w3 H3.out.2.2)
      | (go_at_call 12; (with_reducible refine (rd_new HO.out w3 Bn Vf HF.out.1 HF.out.2 H3.out.1 H3.out.2.1 _ rfl).mono ?_); rintro e w4 q; obtain ⟨xb, rfl, q2⟩ := q.out; have HR0 : Hid (RdI FI w3 xb Bn 0 0 0 w4) := q2; clear q q2; have s4 := HGC.out w4 (H3.out.2.2.trans HR0.out.facts.2.2.2 (fun _ _ x => x))))
  all_goals
    have HGB : Hid (∀ w', Bt (fun _ => False) w3 w' → w'.cell? ⟨w1.heap.size, 0, none⟩ = some (.int .i64 (Bn : Int)) ∧ w'.cell? ⟨w1.heap.size, 1, none⟩ = some (.int .i64 (2 * (Bn : Int))) ∧ w'.cell? ⟨w1.heap.size, 2, none⟩ = some (.int .i64 Vf)) := fun w' b => HGC.out w' (H3.out.2.2.trans b (fun _ _ x => x))
    have HWB : Hid (Bt (fun _ => False) w w3 ∧ w1.heap.size < w3.heap.size) := ⟨(H1.out.alloc _).trans H3.out.2.2 (fun _ _ x => x), by have := H3.out.2.2.size; simp at this; omega⟩
    have hw13 := HWB.out.2
    clear HGC S1 CF s0 s3 s4
    go_wp2
    go_loopw [10, 11, 12] (fun ta tp ti wr => ∃ (i A P : Nat), ta = .int .i64 A ∧ tp = .int .i64 P ∧ ti = .int .i64 i ∧ i ≤ n2 ∧ Hid (RdI FI w3 xb Bn i A P wr)) (fun _ _ ti _ => n2 - (intOf ti).toNat)
    case atStart => exact ⟨0, 0, 0, rfl, rfl, rfl, Nat.zero_le _, HR0.out⟩
    case round =>
      obtain ⟨i, A, P, rfl, rfl, rfl, hi, HA⟩ := hrel
      obtain ⟨e0, e1, e2, e3⟩ := HA.out.facts
      have hBn0 : ¬ ((Bn : Int) = 0) := by omega
      have hPA : P ≤ A := Nat.le_trans e0 (Nat.div_mul_le_self _ _)
      by_cases hlt : i < n2
      · have hlt1 : (i : Int) < (n2 : Int) := by omega
        obtain ⟨⟨b, o, rfl, ci⟩, r0, r1⟩ := HP.out i hlt
        have ci1 := (HWB.out.1.trans e3 (fun _ _ x => x)).cell (fun x => x) ci
        obtain ⟨g0, g1, g2⟩ := HGB.out wr e3
        have HCI : Hid (w.cell? ⟨b, o + i, none⟩ = some (.int .i64 (at0 t2 i))) := ci
        clear e3 ci e0
        generalize at0 t2 i = c at *
        have CKn := fun w (k : Int) (hk : k = 3 * (Bn : Int)) => pick_keep c k w r0 r1 (by omega) (by omega)
        have hpv := pickv_range c (3 * (Bn : Int)) (by omega)
        have CKn' : ∀ w (k : Int), k = 3 * (Bn : Int) → Calls Tryd.prog 11 #[.int .i64 c, .int .i64 k] w fun e w' => e = .returned (.int .i64 (pickv c (3 * (Bn : Int)))) ∧ w' = w := fun w k hk => hk ▸ CKn w k hk
        clear CKn
        obtain ⟨n, hn⟩ : ∃ n : Nat, pickv c (3 * (Bn : Int)) = n := ⟨(pickv c (3 * (Bn : Int))).toNat, by omega⟩
        have CKn := CKn'
        clear CKn'
        rw [hn] at CKn hpv
        clear hn
        obtain ⟨c7, hc7⟩ : ∃ x, c.tdiv 7 = x := ⟨_, rfl⟩
        have hc7r : -9223372036854775808 ≤ c7 ∧ c7 ≤ 9223372036854775807 := by
          rw [← hc7]
          by_cases h0 : 0 ≤ c
          · rw [Int.tdiv_eq_ediv_of_nonneg h0]; omega
          · have e : c.tdiv 7 = -((-c) / 7) := by
              rw [← Int.tdiv_eq_ediv_of_nonneg (by omega : 0 ≤ -c), Int.neg_tdiv, Int.neg_neg]
            rw [e]; omega
        have hpr := pickv_range c7 (Bn : Int) (by omega)
        have CKp : ∀ w (k : Int), k = (Bn : Int) → Calls Tryd.prog 11 #[.int .i64 c7, .int .i64 k] w fun e w' => e = .returned (.int .i64 (pickv c7 (Bn : Int))) ∧ w' = w := fun w k hk => hk ▸ pick_keep c7 k w hc7r.1 hc7r.2 (by omega) (by omega)
        generalize pickv c7 (Bn : Int) = pr at *
        by_cases hov : 2 * (Bn : Int) - ((A : Int) - (P : Int)) < (n : Int)
        · by_cases hodd : i % 2 = 1
          · have hod1 : (i : Int).tmod 2 = 1 := by rw [Int.tmod_eq_emod_of_nonneg (by omega)]; omega
            have hod2 : (i : Int) % 2 = 1 := by omega
            go_wp2
            go_quiet ((go_at_call 11; exact Calls.quiet_of_same (CKn _ _ (by first | rfl | omega))))
            have HA1 : Hid (RdI FI w3 xb Bn i A P (wr.drewN nq)) := HA.out.bt (ok := HO.out) ((Bt.refl _ _).drewN _)
            obtain ⟨m, hm⟩ : ∃ m : Nat, m = min n (2 * Bn - (A - P)) := ⟨_, rfl⟩
            have CPU := fun w5 b5 h5 => rd_push (w' := w5) HO.out HA1.out b5 n h5 (by omega) (by omega)
            rw [← hm] at CPU
            have hmv : 2 * (Bn : Int) - ((A : Int) - (P : Int)) = (m : Int) := by omega
            have HMV : Hid (m = min n (2 * Bn - (A - P))) := hm
            clear hm
            go_wp2_with (first
              | (at_make; refine wpList_make_el rfl _ _ 24 3 rfl Tryd.underlying24 (.int .i64 0) [.int .i64 0] 1 8 info_num rfl rfl n _ rfl rfl (by first | rfl | omega) (by omega) (by omega) ?_; intro w5 H5)
              | (go_at_call 13; refine (CPU _ H5.out.2.1 H5.out.1).mono ?_; rintro e w6 ⟨rfl, H6⟩; obtain ⟨gb0, gb1, gb2⟩ := HGB.out _ H6.out.facts.2.2.2; have ci6 := (HWB.out.1.trans H6.out.facts.2.2.2 (fun _ _ x => x)).cell (fun x => x) HCI.out))
            have sA : w6.cell? ⟨b, o + i, none⟩ = some (.int .i64 c) ∧ w6.cell? ⟨w1.heap.size, 0, none⟩ = some (.int .i64 (Bn : Int)) := ⟨ci6, gb0⟩
            have CX := rd_pull HO.out (H6.out.bt (ok := HO.out) ((Bt.refl _ w6).drew)) (by omega) pr (by omega) (by omega)
            have hw7 : IntKind.i64.wrap c7 = c7 := IntWalk.i64_in _ (by omega)
            go_region_held3 (fun W => W.cell? ⟨b, o + i, none⟩ = some (.int .i64 c) ∧ W.cell? ⟨w1.heap.size, 0, none⟩ = some (.int .i64 (Bn : Int)))
              (first
                | exact sB
                | exact sA)
              (first
                | (go_at_call 11; (with_reducible refine (CKp _ _ rfl).mono ?_); rintro e w' ⟨rfl, hw⟩; subst w')
                | (go_at_call 16; (with_reducible refine CX.mono ?_); rintro e w8 q; obtain ⟨ao, pm, rfl, hpm, q2⟩ := q.out; have H8 : Hid (RdI FI w3 xb Bn (i + 1) (A + m) (P + pm) w8) := q2; clear q q2; obtain ⟨gd0, gd1, gd2⟩ := HGB.out _ H8.out.facts.2.2.2; have ci8 := (HWB.out.1.trans H8.out.facts.2.2.2 (fun _ _ x => x)).cell (fun x => x) HCI.out; have sB : w8.cell? ⟨b, o + i, none⟩ = some (.int .i64 c) ∧ w8.cell? ⟨w1.heap.size, 0, none⟩ = some (.int .i64 (Bn : Int)) := ⟨ci8, gd0⟩))
            go_wp2_with (go_at_call 17; refine (rd_state HO.out H8.out (by omega)).mono ?_; rintro e w7 ⟨rfl, H7⟩; have z7 : w3.heap.size ≤ w7.heap.size := (by have := H8.out.facts.2.2.2.size; have := H7.out.size; omega); have hx1 : w1.heap.size < w7.heap.size := (by omega); have hx2 : ¬ w7.heap.size = w1.heap.size := (by omega); have hx3 : ¬ w1.heap.size = w7.heap.size := (by omega); obtain ⟨gc0, gc1, gc2⟩ := HGB.out w7 (H8.out.facts.2.2.2.trans H7.out (fun _ _ x => x)); obtain ⟨f0, f1, f2, f3⟩ := H8.out.facts; clear f3; obtain ⟨q, hq⟩ : ∃ q : Nat, (A + m) / Bn = q := ⟨_, rfl⟩; have hq1 : ((A : Int) + (m : Int)).tdiv (Bn : Int) = (q : Int) := (by rw [Int.tdiv_eq_ediv_of_nonneg (by omega), ← hq]; rfl); have hq0 : ((A : Int) + (m : Int)) / (Bn : Int) = (q : Int) := (by rw [← hq]; rfl); obtain ⟨Y, hY⟩ : ∃ Y : Nat, q * Bn = Y := ⟨_, rfl⟩; have hY1 : (q : Int) * (Bn : Int) = (Y : Int) := (by rw [← hY]; push_cast; rfl); rw [hq, hY] at f0; have hrd : (((A + m) / Bn * Bn - (P + pm) : Nat) : Int) = (Y : Int) - ((P + pm : Nat) : Int) := (by rw [hq, hY]; omega); rw [hrd]; have hYle : Y ≤ A + m := (by rw [← hY, ← hq]; exact Nat.div_mul_le_self _ _); have wy : IntKind.i64.wrap ((q : Int) * (Bn : Int)) = (Y : Int) := (by rw [hY1, IntKind.wrap_i64]; omega); have hqle : q ≤ A + m := (by rw [← hq]; exact Nat.div_le_self _ _); have wq : IntKind.i64.wrap (q : Int) = (q : Int) := (by rw [IntKind.wrap_i64]; omega); clear hq hY hrd)
            go_quiet (fail)
            go_wp2
            go_roundw
            case rel => exact ⟨i + 1, A + m, P + pm, by go_num, by rw [IntWalk.i64_in ((P : Int) + (pm : Int)) (by omega)]; push_cast; rfl, by go_num, by omega, H8.out.bt (ok := HO.out) (((H7.out).alloc _).drewN _)⟩
            case measure => simp [intOf]; omega
          · have hod1 : ¬ ((i : Int).tmod 2 = 1) := by rw [Int.tmod_eq_emod_of_nonneg (by omega)]; omega
            have hod2 : ¬ ((i : Int) % 2 = 1) := by omega
            go_wp2
            go_quiet ((go_at_call 11; exact Calls.quiet_of_same (CKn _ _ (by first | rfl | omega))))
            have HA1 : Hid (RdI FI w3 xb Bn i A P (wr.drewN nq)) := HA.out.bt (ok := HO.out) ((Bt.refl _ _).drewN _)
            obtain ⟨m, hm⟩ : ∃ m : Nat, m = min n (2 * Bn - (A - P)) := ⟨_, rfl⟩
            have CPU := fun w5 b5 h5 => rd_push (w' := w5) HO.out HA1.out b5 n h5 (by omega) (by omega)
            rw [← hm] at CPU
            have hmv : 2 * (Bn : Int) - ((A : Int) - (P : Int)) = (m : Int) := by omega
            have HMV : Hid (m = min n (2 * Bn - (A - P))) := hm
            clear hm
            go_wp2_with (first
              | (at_make; refine wpList_make_el rfl _ _ 24 3 rfl Tryd.underlying24 (.int .i64 0) [.int .i64 0] 1 8 info_num rfl rfl n _ rfl rfl (by first | rfl | omega) (by omega) (by omega) ?_; intro w5 H5)
              | (go_at_call 13; refine (CPU _ H5.out.2.1 H5.out.1).mono ?_; rintro e w6 ⟨rfl, H6⟩; obtain ⟨f0, f1, f2, f3⟩ := H6.out.facts; obtain ⟨gb0, gb1, gb2⟩ := HGB.out _ f3; clear f3)
              | (go_at_call 17; refine (rd_state HO.out H6.out (by omega)).mono ?_; rintro e w7 ⟨rfl, H7⟩; have z7 : w3.heap.size ≤ w7.heap.size := (by have := H6.out.facts.2.2.2.size; have := H7.out.size; omega); have hx1 : w1.heap.size < w7.heap.size := (by omega); have hx2 : ¬ w7.heap.size = w1.heap.size := (by omega); have hx3 : ¬ w1.heap.size = w7.heap.size := (by omega); obtain ⟨gc0, gc1, gc2⟩ := HGB.out w7 (H6.out.facts.2.2.2.trans H7.out (fun _ _ x => x)); obtain ⟨q, hq⟩ : ∃ q : Nat, (A + m) / Bn = q := ⟨_, rfl⟩; have hq1 : ((A : Int) + (m : Int)).tdiv (Bn : Int) = (q : Int) := (by rw [Int.tdiv_eq_ediv_of_nonneg (by omega), ← hq]; rfl); have hq0 : ((A : Int) + (m : Int)) / (Bn : Int) = (q : Int) := (by rw [← hq]; rfl); obtain ⟨Y, hY⟩ : ∃ Y : Nat, q * Bn = Y := ⟨_, rfl⟩; have hY1 : (q : Int) * (Bn : Int) = (Y : Int) := (by rw [← hY]; push_cast; rfl); rw [hq, hY] at f0; have hrd : (((A + m) / Bn * Bn - P : Nat) : Int) = (Y : Int) - (P : Int) := (by rw [hq, hY]; omega); rw [hrd]; have hYle : Y ≤ A + m := (by rw [← hY, ← hq]; exact Nat.div_mul_le_self _ _); have wy : IntKind.i64.wrap ((q : Int) * (Bn : Int)) = (Y : Int) := (by rw [hY1, IntKind.wrap_i64]; omega); have hqle : q ≤ A + m := (by rw [← hq]; exact Nat.div_le_self _ _); have wq : IntKind.i64.wrap (q : Int) = (q : Int) := (by rw [IntKind.wrap_i64]; omega); clear hq hY hrd))
            go_quiet (fail)
            go_wp2
            go_roundw
            case rel => exact ⟨i + 1, A + m, P, by go_num, rfl, by go_num, by omega, H6.out.bt (ok := HO.out) (((H7.out).alloc _).drewN _)⟩
            case measure => simp [intOf]; omega
        · by_cases hodd : i % 2 = 1
          · have hod1 : (i : Int).tmod 2 = 1 := by rw [Int.tmod_eq_emod_of_nonneg (by omega)]; omega
            have hod2 : (i : Int) % 2 = 1 := by omega
            go_wp2
            go_quiet ((go_at_call 11; exact Calls.quiet_of_same (CKn _ _ (by first | rfl | omega))))
            have HA1 : Hid (RdI FI w3 xb Bn i A P (wr.drewN nq)) := HA.out.bt (ok := HO.out) ((Bt.refl _ _).drewN _)
            obtain ⟨m, hm⟩ : ∃ m : Nat, m = min n (2 * Bn - (A - P)) := ⟨_, rfl⟩
            have CPU := fun w5 b5 h5 => rd_push (w' := w5) HO.out HA1.out b5 n h5 (by omega) (by omega)
            rw [← hm] at CPU
            have hmv : (n : Int) = (m : Int) := by omega
            have HMV : Hid (m = min n (2 * Bn - (A - P))) := hm
            clear hm
            go_wp2_with (first
              | (at_make; refine wpList_make_el rfl _ _ 24 3 rfl Tryd.underlying24 (.int .i64 0) [.int .i64 0] 1 8 info_num rfl rfl n _ rfl rfl (by first | rfl | omega) (by omega) (by omega) ?_; intro w5 H5)
              | (go_at_call 13; refine (CPU _ H5.out.2.1 H5.out.1).mono ?_; rintro e w6 ⟨rfl, H6⟩; obtain ⟨gb0, gb1, gb2⟩ := HGB.out _ H6.out.facts.2.2.2; have ci6 := (HWB.out.1.trans H6.out.facts.2.2.2 (fun _ _ x => x)).cell (fun x => x) HCI.out))
            have sA : w6.cell? ⟨b, o + i, none⟩ = some (.int .i64 c) ∧ w6.cell? ⟨w1.heap.size, 0, none⟩ = some (.int .i64 (Bn : Int)) := ⟨ci6, gb0⟩
            have CX := rd_pull HO.out (H6.out.bt (ok := HO.out) ((Bt.refl _ w6).drew)) (by omega) pr (by omega) (by omega)
            have hw7 : IntKind.i64.wrap c7 = c7 := IntWalk.i64_in _ (by omega)
            go_region_held3 (fun W => W.cell? ⟨b, o + i, none⟩ = some (.int .i64 c) ∧ W.cell? ⟨w1.heap.size, 0, none⟩ = some (.int .i64 (Bn : Int)))
              (first
                | exact sB
                | exact sA)
              (first
                | (go_at_call 11; (with_reducible refine (CKp _ _ rfl).mono ?_); rintro e w' ⟨rfl, hw⟩; subst w')
                | (go_at_call 16; (with_reducible refine CX.mono ?_); rintro e w8 q; obtain ⟨ao, pm, rfl, hpm, q2⟩ := q.out; have H8 : Hid (RdI FI w3 xb Bn (i + 1) (A + m) (P + pm) w8) := q2; clear q q2; obtain ⟨gd0, gd1, gd2⟩ := HGB.out _ H8.out.facts.2.2.2; have ci8 := (HWB.out.1.trans H8.out.facts.2.2.2 (fun _ _ x => x)).cell (fun x => x) HCI.out; have sB : w8.cell? ⟨b, o + i, none⟩ = some (.int .i64 c) ∧ w8.cell? ⟨w1.heap.size, 0, none⟩ = some (.int .i64 (Bn : Int)) := ⟨ci8, gd0⟩))
            go_wp2_with (go_at_call 17; refine (rd_state HO.out H8.out (by omega)).mono ?_; rintro e w7 ⟨rfl, H7⟩; have z7 : w3.heap.size ≤ w7.heap.size := (by have := H8.out.facts.2.2.2.size; have := H7.out.size; omega); have hx1 : w1.heap.size < w7.heap.size := (by omega); have hx2 : ¬ w7.heap.size = w1.heap.size := (by omega); have hx3 : ¬ w1.heap.size = w7.heap.size := (by omega); obtain ⟨gc0, gc1, gc2⟩ := HGB.out w7 (H8.out.facts.2.2.2.trans H7.out (fun _ _ x => x)); obtain ⟨f0, f1, f2, f3⟩ := H8.out.facts; clear f3; obtain ⟨q, hq⟩ : ∃ q : Nat, (A + m) / Bn = q := ⟨_, rfl⟩; have hq1 : ((A : Int) + (m : Int)).tdiv (Bn : Int) = (q : Int) := (by rw [Int.tdiv_eq_ediv_of_nonneg (by omega), ← hq]; rfl); have hq0 : ((A : Int) + (m : Int)) / (Bn : Int) = (q : Int) := (by rw [← hq]; rfl); obtain ⟨Y, hY⟩ : ∃ Y : Nat, q * Bn = Y := ⟨_, rfl⟩; have hY1 : (q : Int) * (Bn : Int) = (Y : Int) := (by rw [← hY]; push_cast; rfl); rw [hq, hY] at f0; have hrd : (((A + m) / Bn * Bn - (P + pm) : Nat) : Int) = (Y : Int) - ((P + pm : Nat) : Int) := (by rw [hq, hY]; omega); rw [hrd]; have hYle : Y ≤ A + m := (by rw [← hY, ← hq]; exact Nat.div_mul_le_self _ _); have wy : IntKind.i64.wrap ((q : Int) * (Bn : Int)) = (Y : Int) := (by rw [hY1, IntKind.wrap_i64]; omega); have hqle : q ≤ A + m := (by rw [← hq]; exact Nat.div_le_self _ _); have wq : IntKind.i64.wrap (q : Int) = (q : Int) := (by rw [IntKind.wrap_i64]; omega); clear hq hY hrd)
            go_quiet (fail)
            go_wp2
            go_roundw
            case rel => exact ⟨i + 1, A + m, P + pm, by go_num, by rw [IntWalk.i64_in ((P : Int) + (pm : Int)) (by omega)]; push_cast; rfl, by go_num, by omega, H8.out.bt (ok := HO.out) (((H7.out).alloc _).drewN _)⟩
            case measure => simp [intOf]; omega
          · have hod1 : ¬ ((i : Int).tmod 2 = 1) := by rw [Int.tmod_eq_emod_of_nonneg (by omega)]; omega
            have hod2 : ¬ ((i : Int) % 2 = 1) := by omega
            go_wp2
            go_quiet ((go_at_call 11; exact Calls.quiet_of_same (CKn _ _ (by first | rfl | omega))))
            have HA1 : Hid (RdI FI w3 xb Bn i A P (wr.drewN nq)) := HA.out.bt (ok := HO.out) ((Bt.refl _ _).drewN _)
            obtain ⟨m, hm⟩ : ∃ m : Nat, m = min n (2 * Bn - (A - P)) := ⟨_, rfl⟩
            have CPU := fun w5 b5 h5 => rd_push (w' := w5) HO.out HA1.out b5 n h5 (by omega) (by omega)
            rw [← hm] at CPU
            have hmv : (n : Int) = (m : Int) := by omega
            have HMV : Hid (m = min n (2 * Bn - (A - P))) := hm
            clear hm
            go_wp2_with (first
              | (at_make; refine wpList_make_el rfl _ _ 24 3 rfl Tryd.underlying24 (.int .i64 0) [.int .i64 0] 1 8 info_num rfl rfl n _ rfl rfl (by first | rfl | omega) (by omega) (by omega) ?_; intro w5 H5)
              | (go_at_call 13; refine (CPU _ H5.out.2.1 H5.out.1).mono ?_; rintro e w6 ⟨rfl, H6⟩; obtain ⟨f0, f1, f2, f3⟩ := H6.out.facts; obtain ⟨gb0, gb1, gb2⟩ := HGB.out _ f3; clear f3)
              | (go_at_call 17; refine (rd_state HO.out H6.out (by omega)).mono ?_; rintro e w7 ⟨rfl, H7⟩; have z7 : w3.heap.size ≤ w7.heap.size := (by have := H6.out.facts.2.2.2.size; have := H7.out.size; omega); have hx1 : w1.heap.size < w7.heap.size := (by omega); have hx2 : ¬ w7.heap.size = w1.heap.size := (by omega); have hx3 : ¬ w1.heap.size = w7.heap.size := (by omega); obtain ⟨gc0, gc1, gc2⟩ := HGB.out w7 (H6.out.facts.2.2.2.trans H7.out (fun _ _ x => x)); obtain ⟨q, hq⟩ : ∃ q : Nat, (A + m) / Bn = q := ⟨_, rfl⟩; have hq1 : ((A : Int) + (m : Int)).tdiv (Bn : Int) = (q : Int) := (by rw [Int.tdiv_eq_ediv_of_nonneg (by omega), ← hq]; rfl); have hq0 : ((A : Int) + (m : Int)) / (Bn : Int) = (q : Int) := (by rw [← hq]; rfl); obtain ⟨Y, hY⟩ : ∃ Y : Nat, q * Bn = Y := ⟨_, rfl⟩; have hY1 : (q : Int) * (Bn : Int) = (Y : Int) := (by rw [← hY]; push_cast; rfl); rw [hq, hY] at f0; have hrd : (((A + m) / Bn * Bn - P : Nat) : Int) = (Y : Int) - (P : Int) := (by rw [hq, hY]; omega); rw [hrd]; have hYle : Y ≤ A + m := (by rw [← hY, ← hq]; exact Nat.div_mul_le_self _ _); have wy : IntKind.i64.wrap ((q : Int) * (Bn : Int)) = (Y : Int) := (by rw [hY1, IntKind.wrap_i64]; omega); have hqle : q ≤ A + m := (by rw [← hq]; exact Nat.div_le_self _ _); have wq : IntKind.i64.wrap (q : Int) = (q : Int) := (by rw [IntKind.wrap_i64]; omega); clear hq hY hrd))
            go_quiet (fail)
            go_wp2
            go_roundw
            case rel => exact ⟨i + 1, A + m, P, by go_num, rfl, by go_num, by omega, H6.out.bt (ok := HO.out) (((H7.out).alloc _).drewN _)⟩
            case measure => simp [intOf]; omega
      · obtain rfl : i = n2 := by omega
        have CB := rd_bad HO.out HA.out (by omega)
        have HFd : ∀ (x y z u : Value) (W : World), (Instr.field 43 (.agg #[x, y, z, u]) 0).run Tryd.prog W = .ok x W := fun x y z u W => by kernel_rfl
        clear e0 e3
        go_wp2_with (first
          | (go_at_call 13; refine CB.mono ?_; rintro e w6 ⟨rfl, H6⟩)
          | (go_at_call 17; refine (rd_state HO.out H6.out (by omega)).mono ?_; rintro e w7 ⟨rfl, H7⟩; have hfd := HFd (.int .i64 A) (.int .i64 P) (.int .i64 ((A / Bn * Bn - P : Nat) : Int)) (.int .i64 (-1)) w7; clear HFd))
        go_ret
        exact ⟨rfl, (HWB.out.1.trans H6.out.facts.2.2.2 (fun _ _ x => x)).trans H7.out (fun _ _ x => x)⟩
end Go.Proofs.YtddpcjgekfmhkabDoor

/- The statement Ready: its first form's row, whatever filter keeps its contract. -/
namespace Go.Proofs.YtddpcjgekfmhkabDoor.ready
open Go.ChangeShapes Go.WideShapes Go.ChangeAt Go.RowKit
set_option linter.unusedVariables false

theorem cells_ac : Tryd.prog.cellsOf 23 = 3 := by kernel_rfl
set_option maxRecDepth 20000 in
/-- A configuration that came in. -/
theorem acon_in {H : Type} {enc : TypeId × Value → H} {W : World} {cs : Array Value} {fuel : Nat} {x : DataW H × List MemPlace} (hs : cs.size = Tryd.prog.cellsOf 23) (h : DataW.trod enc Tryd.prog W 0 (fun _ => true) true fuel 23 (Value.agg cs).cells.toList = some x) :
    ∃ B R V : Int, cs = #[.int .i64 B, .int .i64 R, .int .i64 V] ∧ I64 B ∧ I64 R ∧ I64 V := by
  obtain ⟨xs, k, hk, hxy, _, hxl, hf⟩ := DataW.trod_struct Tryd.underlying23 h
  rw [cells_ac] at hs
  obtain ⟨l⟩ := cs
  match l, hs, xs, hxl with
  | [v0, v1, v2], _, [y0, y1, y2], _ =>
    have g0 := hf 0 _ rfl
    have g1 := hf 1 _ rfl
    have g2 := hf 2 _ rfl
    simp [cells_int, Value.cells] at g0 g1 g2
    obtain ⟨z0, q0, _, w0⟩ := DataW.trod_int Tryd.underlying3 g0
    obtain ⟨z1, q1, _, w1⟩ := DataW.trod_int Tryd.underlying3 g1
    obtain ⟨z2, q2, _, w2⟩ := DataW.trod_int Tryd.underlying3 g2
    simp at q0 q1 q2
    subst q0 q1 q2
    exact ⟨z0, z1, z2, rfl, bounds_i64 w0, bounds_i64 w1, bounds_i64 w2⟩

theorem gTab : Tryd.prog.globalNamed "math/bits.deBruijn64tab" = some 1 := by kernel_rfl
theorem gType : (Tryd.prog.globals[1]?).map (·.type) = some 142 := by kernel_rfl
theorem cells64 : Tryd.prog.cellsOf 142 = 64 := by kernel_rfl
theorem cells8 : Tryd.prog.cellsOf 5 = 1 := by kernel_rfl
/-- What the row's list gives: the table's cells. -/
theorem tab_of {W : World} (h : laidMetH Tryd.prog Rows.readyRow.laid W) : Tab W := by
  have h' : laidMet Tryd.prog [("math/bits.deBruijn32tab", Rows.laid_math_bits_deBruijn32tab), ("math/bits.deBruijn64tab", Lib.tabData .u8 tzTab)] W := h
  obtain ⟨ps, ⟨g0, t0, cs0, f0, p0, q0, hg0, ht0, hv0, hd0, ⟨g1, t1, cs1, f1, p1, q1, hg1, ht1, hv1, hd1, _, _⟩, _⟩, _⟩ := h'
  obtain rfl := Option.some.inj (gTab.symm.trans hg1)
  obtain rfl := Option.some.inj (gType.symm.trans ht1)
  have e := Lib.cells_of_tab Tryd.underlying142 Tryd.underlying5 cells8 cells64 hd1
  intro i hi
  have hc := World.var?_cell hg1 hv1 i
  rw [hc]
  have hl : tzTab.length = 64 := rfl
  have e2 : cs1[i]? = cs1.toList[i]? := by simp
  rw [e2, e]
  simp [List.getD, hl, hi]

set_option maxRecDepth 100000 in
theorem contract {FI : Nat → Nat → FlS → Res} (ok : FltOk FI) (H : Type) (enc : TypeId × Value → H) (W : World) (base : Nat) (args : Array Value) (ds gs : List (DataW H)) (before : List MemPlace)
    (hval : ∀ (j : Nat) t v, Tryd.f5.params[j]? = some t → args[j]? = some v → Value.okWide Tryd.prog W .any base t v)
    (hW : DataW.Whole enc Tryd.prog Tryd.f5.params.toList Rows.readySpec.vars false W args.toList ds gs before) (hL : laidMetH Tryd.prog Rows.readyRow.laid W) (hsz0 : (DataW.weightsEach Tryd.prog (Tryd.f5.params.toList ++ (OpenSpec.ofChange Rows.readySpec).bare.plain.varTypes Tryd.prog) (ds ++ gs)).all (· ≤ reachBytes) = true) :
    Calls Tryd.prog 5 args W fun e W' => ∃ v, e = .returned v ∧ Rows.readySpec.post enc Tryd.prog Tryd.f5 false true false false W args v W' := by
  have hW' := hW
  obtain ⟨p, q, hA0, hV, rfl, hfz, hnd⟩ := hW
  have hA : DataW.TrodAll enc Tryd.prog W 0 (fun _ => true) true Tryd.f5.params.toList args.toList ds p := hA0
  rw [Tryd.params5] at hA hval hsz0
  obtain ⟨v0, vs0, d0, ds0, p0, q0, hargs, rfl, rfl, h0, r0⟩ := trodAll_cons hA
  obtain ⟨v1, vs1, d1, ds1, p1, q1, rfl, rfl, rfl, h1, r1⟩ := trodAll_cons r0
  obtain ⟨v2, vs2, d2, ds2, p2, q2, rfl, rfl, rfl, h2, r2⟩ := trodAll_cons r1
  obtain ⟨rfl, rfl, rfl⟩ := trodAll_nil r2
  obtain rfl : args = #[v0, v1, v2] := by cases args; simp_all
  obtain ⟨rfl, rfl⟩ := trodVars_none hV
  obtain ⟨cs0, rfl, hs0⟩ := okWide_struct Tryd.underlying23 (hval 0 23 v0 rfl rfl)
  obtain ⟨a1, len1, cap1, rfl⟩ := okWide_slice Tryd.underlying24 (hval 1 24 v1 rfl rfl)
  obtain ⟨a2, len2, cap2, rfl⟩ := okWide_slice Tryd.underlying24 (hval 2 24 v2 rfl rfl)
  have k0 := h0
  have lt0 : ∀ x ∈ p0, x.block < W.heap.size := by obtain ⟨m, hm⟩ := k0; exact DataW.trod_lt m _ _ _ hm
  have k1 := h1
  have lt1 : ∀ x ∈ p1, x.block < W.heap.size := by obtain ⟨m, hm⟩ := k1; exact DataW.trod_lt m _ _ _ hm
  have k2 := h2
  have lt2 : ∀ x ∈ p2, x.block < W.heap.size := by obtain ⟨m, hm⟩ := k2; exact DataW.trod_lt m _ _ _ hm
  obtain ⟨f0, hf0⟩ := h0
  obtain ⟨f1, hf1⟩ := h1
  obtain ⟨f2, hf2⟩ := h2
  obtain ⟨B0, R0, V0, rfl, x0, y0, z0⟩ := acon_in hs0 hf0
  obtain ⟨l1, rfl, i1⟩ := nums_wide hf1 (fun es sp e => sized_slice hsz0 (j := 1) (t := 24) (e := 3) rfl (by subst e; rfl) Tryd.underlying24) (tab_of hL)
  obtain ⟨l2, rfl, i2⟩ := nums_wide hf2 (fun es sp e => sized_slice hsz0 (j := 2) (t := 24) (e := 3) rfl (by subst e; rfl) Tryd.underlying24) (tab_of hL)
  clear hA0
  refine (ready_core ok W B0 R0 V0 a1 a2 cap1 cap2 l1 l2 i1 i2 x0 y0 z0).mono fun e W' ⟨he, bt⟩ => ?_
  have bel : Below W.heap.size W W' := bt.below (Nat.le_refl _) (fun _ _ x => x)
  subst he
  exact ⟨_, rfl, _, _, _, [], _, [], hW', trodAll_mk1 (shut_bool Tryd.underlying4 _), (trodAll_cons_mk (Below.trod laid_out (by kernel_rfl) (of_decide_eq_true (by kernel_rfl)) k0 bel lt0) (trodAll_cons_mk (Below.trod laid_out (by kernel_rfl) (of_decide_eq_true (by kernel_rfl)) k1 bel lt1) (trodAll_cons_mk (Below.trod laid_out (by kernel_rfl) (of_decide_eq_true (by kernel_rfl)) k2 bel lt2) trodAll_mk0))), rfl, bel.frame _, fun h => by cases h⟩

theorem laid_met (os : Os) : laidMet Tryd.prog Rows.readyRow.laid (({ World.holding Tryd.prog os ⟨#[], #[], []⟩ with heap := ((World.holding Tryd.prog os ⟨#[], #[], []⟩).heap.modify 0 fun | .cells _ t frozen => .cells #[.int .u8 0, .int .u8 1, .int .u8 28, .int .u8 2, .int .u8 29, .int .u8 14, .int .u8 24, .int .u8 3, .int .u8 30, .int .u8 22, .int .u8 20, .int .u8 15, .int .u8 25, .int .u8 17, .int .u8 4, .int .u8 8, .int .u8 31, .int .u8 27, .int .u8 13, .int .u8 23, .int .u8 21, .int .u8 19, .int .u8 16, .int .u8 7, .int .u8 26, .int .u8 12, .int .u8 18, .int .u8 6, .int .u8 11, .int .u8 5, .int .u8 10, .int .u8 9] t frozen | o => o).modify 1 fun | .cells _ t frozen => .cells #[.int .u8 0, .int .u8 1, .int .u8 56, .int .u8 2, .int .u8 57, .int .u8 49, .int .u8 28, .int .u8 3, .int .u8 61, .int .u8 58, .int .u8 42, .int .u8 50, .int .u8 38, .int .u8 29, .int .u8 17, .int .u8 4, .int .u8 62, .int .u8 47, .int .u8 59, .int .u8 36, .int .u8 45, .int .u8 43, .int .u8 51, .int .u8 22, .int .u8 53, .int .u8 39, .int .u8 33, .int .u8 30, .int .u8 24, .int .u8 18, .int .u8 12, .int .u8 5, .int .u8 63, .int .u8 55, .int .u8 48, .int .u8 27, .int .u8 60, .int .u8 41, .int .u8 37, .int .u8 16, .int .u8 46, .int .u8 35, .int .u8 44, .int .u8 21, .int .u8 52, .int .u8 32, .int .u8 23, .int .u8 11, .int .u8 54, .int .u8 26, .int .u8 40, .int .u8 15, .int .u8 34, .int .u8 20, .int .u8 31, .int .u8 10, .int .u8 25, .int .u8 14, .int .u8 19, .int .u8 9, .int .u8 13, .int .u8 8, .int .u8 7, .int .u8 6] t frozen | o => o } : World).forCall (fun _ _ => 0) ⟨#[], #[.agg #[.int .i64 0, .int .i64 0, .int .i64 0], .slice none 0 0, .slice none 0 0], []⟩).memory :=
  laidMet_of_run' 8 (by kernel_rfl) (by kernel_rfl)
theorem reads (os : Os) {H : Type} (enc : TypeId × Value → H) : ∃ places, DataW.whole enc Tryd.prog (({ World.holding Tryd.prog os ⟨#[], #[], []⟩ with heap := ((World.holding Tryd.prog os ⟨#[], #[], []⟩).heap.modify 0 fun | .cells _ t frozen => .cells #[.int .u8 0, .int .u8 1, .int .u8 28, .int .u8 2, .int .u8 29, .int .u8 14, .int .u8 24, .int .u8 3, .int .u8 30, .int .u8 22, .int .u8 20, .int .u8 15, .int .u8 25, .int .u8 17, .int .u8 4, .int .u8 8, .int .u8 31, .int .u8 27, .int .u8 13, .int .u8 23, .int .u8 21, .int .u8 19, .int .u8 16, .int .u8 7, .int .u8 26, .int .u8 12, .int .u8 18, .int .u8 6, .int .u8 11, .int .u8 5, .int .u8 10, .int .u8 9] t frozen | o => o).modify 1 fun | .cells _ t frozen => .cells #[.int .u8 0, .int .u8 1, .int .u8 56, .int .u8 2, .int .u8 57, .int .u8 49, .int .u8 28, .int .u8 3, .int .u8 61, .int .u8 58, .int .u8 42, .int .u8 50, .int .u8 38, .int .u8 29, .int .u8 17, .int .u8 4, .int .u8 62, .int .u8 47, .int .u8 59, .int .u8 36, .int .u8 45, .int .u8 43, .int .u8 51, .int .u8 22, .int .u8 53, .int .u8 39, .int .u8 33, .int .u8 30, .int .u8 24, .int .u8 18, .int .u8 12, .int .u8 5, .int .u8 63, .int .u8 55, .int .u8 48, .int .u8 27, .int .u8 60, .int .u8 41, .int .u8 37, .int .u8 16, .int .u8 46, .int .u8 35, .int .u8 44, .int .u8 21, .int .u8 52, .int .u8 32, .int .u8 23, .int .u8 11, .int .u8 54, .int .u8 26, .int .u8 40, .int .u8 15, .int .u8 34, .int .u8 20, .int .u8 31, .int .u8 10, .int .u8 25, .int .u8 14, .int .u8 19, .int .u8 9, .int .u8 13, .int .u8 8, .int .u8 7, .int .u8 6] t frozen | o => o } : World).forCall (fun _ _ => 0) ⟨#[], #[.agg #[.int .i64 0, .int .i64 0, .int .i64 0], .slice none 0 0, .slice none 0 0], []⟩).memory Tryd.f5.params.toList Rows.readySpec.vars false (#[.agg #[.int .i64 0, .int .i64 0, .int .i64 0], .slice none 0 0, .slice none 0 0] : Array Value).toList 8 = some ([.agg [.lit (.int .i64 0), .lit (.int .i64 0), .lit (.int .i64 0)], .nil, .nil], [], places) :=
  ⟨[], by kernel_rfl⟩

set_option maxRecDepth 100000 in
theorem lifted {FI : Nat → Nat → FlS → Res} (ok : FltOk FI) (os : Os) (started : os.Started) (H : Type) (enc : TypeId × Value → H) (F : Stop.Interp) :
    ReturnsInHanded {} Tryd.checked os 5 .any ((OpenSpec.ofChange Rows.readySpec).preRow enc Tryd.prog Tryd.f5 Rows.readyRow.domain false Rows.readyRow.laid) (((OpenSpec.ofChange Rows.readySpec).at F).post enc Tryd.prog Tryd.f5 false true false false) := by
  obtain ⟨places, hx⟩ := reads os enc
  refine returnsInHanded_of_row (C := Tryd.checked) (s := OpenSpec.ofChange Rows.readySpec) own_knob started (by kernel_rfl) Tryd.func5
    (witness_row_at (enc := enc) (C := Tryd.checked) false ({ World.holding Tryd.prog os ⟨#[], #[], []⟩ with heap := ((World.holding Tryd.prog os ⟨#[], #[], []⟩).heap.modify 0 fun | .cells _ t frozen => .cells #[.int .u8 0, .int .u8 1, .int .u8 28, .int .u8 2, .int .u8 29, .int .u8 14, .int .u8 24, .int .u8 3, .int .u8 30, .int .u8 22, .int .u8 20, .int .u8 15, .int .u8 25, .int .u8 17, .int .u8 4, .int .u8 8, .int .u8 31, .int .u8 27, .int .u8 13, .int .u8 23, .int .u8 21, .int .u8 19, .int .u8 16, .int .u8 7, .int .u8 26, .int .u8 12, .int .u8 18, .int .u8 6, .int .u8 11, .int .u8 5, .int .u8 10, .int .u8 9] t frozen | o => o).modify 1 fun | .cells _ t frozen => .cells #[.int .u8 0, .int .u8 1, .int .u8 56, .int .u8 2, .int .u8 57, .int .u8 49, .int .u8 28, .int .u8 3, .int .u8 61, .int .u8 58, .int .u8 42, .int .u8 50, .int .u8 38, .int .u8 29, .int .u8 17, .int .u8 4, .int .u8 62, .int .u8 47, .int .u8 59, .int .u8 36, .int .u8 45, .int .u8 43, .int .u8 51, .int .u8 22, .int .u8 53, .int .u8 39, .int .u8 33, .int .u8 30, .int .u8 24, .int .u8 18, .int .u8 12, .int .u8 5, .int .u8 63, .int .u8 55, .int .u8 48, .int .u8 27, .int .u8 60, .int .u8 41, .int .u8 37, .int .u8 16, .int .u8 46, .int .u8 35, .int .u8 44, .int .u8 21, .int .u8 52, .int .u8 32, .int .u8 23, .int .u8 11, .int .u8 54, .int .u8 26, .int .u8 40, .int .u8 15, .int .u8 34, .int .u8 20, .int .u8 31, .int .u8 10, .int .u8 25, .int .u8 14, .int .u8 19, .int .u8 9, .int .u8 13, .int .u8 8, .int .u8 7, .int .u8 6] t frozen | o => o } : World) #[.agg #[.int .i64 0, .int .i64 0, .int .i64 0], .slice none 0 0, .slice none 0 0] rfl (by kernel_rfl) (by kernel_rfl) (by kernel_rfl)
      (OpenSpec.preRow_of_cond 8 hx (by kernel_rfl) (fun k hk => by cases hk) (by kernel_rfl) (laid_met os))) ?_
  intro W base args ds gs before hval hW k1 hcond hsz hL _ _
  exact contract ok H enc W base args ds gs before hval hW hL hsz

theorem said {FI : Nat → Nat → FlS → Res} (ok : FltOk FI) : Rows.ReadySaid :=
  OpenClaim.holds_of_cond 5 Tryd.f5 rfl rfl rfl rfl rfl rfl rfl ⟨rfl, rfl, rfl, rfl, rfl⟩ rfl rfl rfl rfl rfl (by kernel_rfl) Tryd.func5 (by kernel_rfl)
    (of_decide_eq_true (by kernel_rfl)) (by unfold Func.isWrapper; first | (rw [if_pos (by decide +kernel)]; kernel_rfl) | (rw [if_neg (by decide +kernel)]; exact ⟨rfl, rfl⟩))
    (fun os started H enc _ F => by rw [OpenClaim.pre_eq_preRow]; exact lifted ok os started H enc F)

theorem plain (f : FuncId) (fn : Func) (hf : Tryd.pinned.checked.prog.funcNamed "weave/weavekeep.Ready" = some f) (hfn : Tryd.pinned.checked.prog.funcs[f]? = some fn) :
    false = Tryd.pinned.checked.prog.looks [] ∧ ∀ (j : Nat) t, fn.params[j]? = some t → Tryd.pinned.checked.prog.wantsStandIn t = false := by
  obtain rfl : f = 5 := Option.some.inj ((show Tryd.prog.funcNamed "weave/weavekeep.Ready" = some 5 by kernel_rfl).symm.trans hf) |>.symm
  obtain rfl : fn = Tryd.f5 := (Option.some.inj (Tryd.func5.symm.trans hfn)).symm
  refine ⟨by kernel_rfl, fun j t ht => ?_⟩
  rw [Tryd.params5] at ht
  rcases j with _ | _ | _ | j <;> simp at ht <;> subst ht <;> kernel_rfl

theorem card {FI : Nat → Nat → FlS → Res} (ok : FltOk FI) : Rows.ReadyCardSaid :=
  Claim7.holds_tied_plain_at .later [] _ _ _ _ (said ok) (fun _ h => by cases h) (by kernel_rfl) (fun _ h => by cases h) ready_row_tie rfl ⟨rfl, rfl⟩ (by kernel_rfl) rfl plain (by kernel_rfl)

end Go.Proofs.YtddpcjgekfmhkabDoor.ready

/- The statement Ready, proved: its first form's card. -/
namespace Go.Proofs.YtddpcjgekfmhkabDoor.ready
theorem proved : Rows.ReadyCardSaid := card flt_ok
#print axioms proved
end Go.Proofs.YtddpcjgekfmhkabDoor.ready
