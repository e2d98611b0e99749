/- Texts joined: Xw Nr Nt Ns. -/
import Derived.Test.YtddpcjgekfmhkabDoorM20
import Derived.Test.YtddpcjgekfmhkabDoorM17

/- Swap, walked; the filter keeps its contract. -/
namespace Go.Proofs.YtddpcjgekfmhkabDoor
open Go.RowKit
set_option linter.unusedSimpArgs false
set_option linter.unusedVariables false

theorem fp_swap {base xb : Nat} {p : Par} {w w5 w7 : World} {F T : Nat → Prop} (h : FP base xb p w F) (hn : p.hn = none) (b5 : Bt (fun _ => False) w w5) (l : List Int) (tv : Value) (pl : Int) (hT : TR base p.B p.K tv l w5 T) (hTn : ∀ k, T k → w.heap.size ≤ k) (hx : XB w7 xb p.B p.R p.W p.acc p.sb p.ab p.kb p.tv tv pl) (b7 : Bt (fun k => k = xb) w5 w7) :
    ∃ F', FP base xb { p with nv := tv, pend := pl, hn := some l } w7 F' ∧ Stp w F w7 F' := by
  have h5 := (FP.fr base xb p).bt h b5 (fun _ _ x => x)
  obtain ⟨_, _, Gs, g1, g2, g3⟩ := h
  have hlt : ∀ i k, i < 7 → Gs i k → k < w.heap.size := fun i k hi hk => ((comp.fr base xb p i).lt (g1 i hi) hk).2
  have ht := h5.1
  have hb := h5.2.1
  have h1 : ∀ i, i < 7 → comp base xb p i w5 (Gs i) := fun i hi => (comp.fr base xb p i).bt (g1 i hi) b5 (fun _ _ x => x)
  have g := h1 0 (by omega)
  have hxl : xb < w.heap.size := hlt 0 xb (by omega) (((g1 0 (by omega)).2.2 xb).2 rfl)
  have st : Bt (Gs 0) w5 w7 := b7.mono (fun k _ e => (g.2.2 k).2 e)
  have keep : ∀ i, i < 7 → i ≠ 0 → comp base xb p i w7 (Gs i) := fun i hi e => (comp.fr base xb p i).btw (h1 i hi) st (fun k hk q => e (g2 i 0 k hi (by omega) hk q)) (fun k hk => by have := (g.2.2 k).1 hk; subst this; exact g.2.1)
  have k5 : TR base p.B p.K tv l w7 T := (TR.fr _ _ _ _ _).btw hT b7 (fun k hk e => by have := hTn k hk; omega) (fun k e => by subst e; exact g.2.1)
  have pk : ∀ i k, (if i = 5 then T k else Gs i k) → (i = 5 ∧ T k) ∨ (i ≠ 5 ∧ Gs i k) := by
    intro i k q
    by_cases e : i = 5
    · rw [if_pos e] at q; exact .inl ⟨e, q⟩
    · rw [if_neg e] at q; exact .inr ⟨e, q⟩
  refine ⟨fun k => ∃ i, i < 7 ∧ (if i = 5 then T k else Gs i k), ⟨ht.bt b7 (fun e => by have := g.2.1; omega), hb, fun i k => if i = 5 then T k else Gs i k, fun i hi => ?_, fun i j k hi hj a c => ?_, fun k => Iff.rfl⟩, (b5.mono (fun _ _ x => x.elim)).trans b7 (fun k hk e => (g3 k).2 ⟨0, by omega, (g.2.2 k).2 e⟩), fun k hk => ?_⟩
  · match i, hi with
    | 0, _ => exact ⟨hx, g.2⟩
    | 1, _ => exact keep 1 (by omega) (by omega)
    | 2, _ => exact keep 2 (by omega) (by omega)
    | 3, _ => exact keep 3 (by omega) (by omega)
    | 4, _ => exact keep 4 (by omega) (by omega)
    | 5, _ => exact k5
    | 6, _ => exact keep 6 (by omega) (by omega)
  · rcases pk i k a with ⟨e1, a1⟩ | ⟨e1, a1⟩ <;> rcases pk j k c with ⟨f1, c1⟩ | ⟨f1, c1⟩
    · omega
    · have := hTn k a1; have := hlt j k hj c1; omega
    · have := hTn k c1; have := hlt i k hi a1; omega
    · exact g2 i j k hi hj a1 c1
  · obtain ⟨i, hi, q⟩ := hk
    rcases pk i k q with ⟨_, q⟩ | ⟨_, q⟩
    · exact .inr (hTn k q)
    · exact .inl ((g3 k).2 ⟨i, hi, q⟩)

theorem Rep.swap {s : FlS} {p : Par} (r : Rep s p) (ok : s.Ok) (hp : ¬ 0 ≤ s.pending) (l : List Int) (tv : Value) : Rep (s.swapped l) { p with nv := tv, pend := (s.place : Int), hn := some l } := by
  have hw := s.whole_le' ok.B0
  have hpl := ok.place_lt
  have hfr : s.from ≤ s.X.length := by
    have hpv : s.pending = if s.X.length < s.from then (s.from : Int) else -1 := rfl
    by_cases q : s.X.length < s.from
    · rw [hpv, if_pos q] at hp; omega
    · omega
  have hfw : s.from ≤ s.whole := by
    obtain ⟨l', hl⟩ := ok.from_mem
    obtain ⟨q, hq⟩ := ok.mult _ hl
    have hq' : s.from = q * s.B := hq
    unfold FlS.whole
    rw [hq'] at hfr ⊢
    exact Nat.mul_le_mul_right _ ((Nat.le_div_iff_mul_le ok.B0).2 hfr)
  have e1 : (s.swapped l).from = s.place := by unfold FlS.from FlS.swapped; simp
  have e2 : (s.swapped l).lastTaps = l := by unfold FlS.lastTaps FlS.swapped; simp
  have hta : ∀ n, n < s.place → tapsAt (s.swapped l).parts n [] = tapsAt s.parts n [] := by
    intro n hn
    show tapsAt (s.parts ++ [(s.place, l)]) n [] = _
    rw [tapsAt_append]
    show (if s.place ≤ n then l else _) = _
    rw [if_neg (by omega)]
  refine ⟨r.B, r.R, r.W, r.K, r.K10, r.acc, ?_, r.S, ?_, r.nb, r.z, ?_, ?_, ?_⟩
  · show (s.place : Int) = (s.swapped l).pending
    unfold FlS.pending
    rw [e1]
    show _ = if s.X.length < s.place then _ else _
    rw [if_pos hpl]
  · show p.Y = (s.swapped l).outs (s.whole - s.pulled)
    rw [r.Y]
    unfold FlS.outs
    refine List.map_congr_left fun i hi => ?_
    have := List.mem_range.1 hi
    unfold FlS.y
    show _ = flt (tapsAt (s.swapped l).parts (s.pulled + i) []).length (at0 (tapsAt (s.swapped l).parts (s.pulled + i) [])) (at0 s.X) (s.pulled + i)
    rw [hta _ (by omega)]
  · show p.h = tapsAt (s.swapped l).parts s.whole []
    rw [hta _ (by omega)]; exact r.h
  · show some l = if s.X.length < (s.swapped l).from then some (s.swapped l).lastTaps else none
    rw [e1, e2, if_pos hpl]
  · intro i q hi hl
    have hi' : (s.parts ++ [(s.place, l)])[i]? = some q := hi
    have hl' : i + 1 < (s.parts ++ [(s.place, l)]).length := hl
    rw [List.length_append] at hl'
    simp at hl'
    rw [List.getElem?_append_left hl'] at hi'
    show q.1 ≤ s.whole
    have := ok.le_from (List.mem_of_getElem? hi')
    omega

set_option maxHeartbeats 2000000 in
set_option maxRecDepth 20000 in
theorem swap_any {base xb : Nat} {s : FlS} {w : World} {F : Nat → Prop} (h : FI base xb s w F) (hs : s.Small) (a : Option Addr) (c : Nat) (l : List Int) (src : Src w a (ints l)) (hr : Rng l) (hl : l.length ≤ 1048576) :
    Calls Tryd.prog 14 #[.pointer (some ⟨xb, 0, none⟩), .slice a l.length c] w fun e w' => e = .returned (.tuple #[.int .i64 (swapR s l), .int .i64 (swapE s l)]) ∧ Steps w F (FI base xb (swapS s l)) w' := by
  have ok := hs.ok
  have hx := hs.x
  have hB0 := ok.B0
  have hB1 := ok.B1
  have hW0 := ok.w0
  have hW1 := ok.w1
  have hFlt : ∀ k, F k → k < w.heap.size := fun k hk => ((FI.fr base xb s).lt h hk).2
  have h0 := h
  obtain ⟨p, p1, r, hp⟩ := h0
  have hpv : s.pending = if s.X.length < s.from then (s.from : Int) else -1 := rfl
  have c9 := hp.blk.c9
  rw [r.pend] at c9
  by_cases pd : 0 ≤ s.pending
  · have e1 : swapR s l = 0 := by unfold swapR; rw [if_pos pd]
    have e2 : swapE s l = 6 := by unfold swapE; rw [if_pos pd]
    have e3 : swapS s l = s := by unfold swapS; rw [if_pos pd]
    rw [e1, e2, e3]
    have HF : Hid (FI base xb s w F) := h
    have hne : ¬ s.pending = -1 := by omega
    generalize s.pending = pe at *
    generalize l.length = ll at *
    clear h hs e1 e2 e3 hp r ok src hr hpv
    go_enter Tryd.func14, Tryd.ntmps14
    go_wp2
    go_ret2
    exact ⟨rfl, F, HF.out, Stp.refl _ _⟩
  · have hpe : s.pending = -1 := by rw [hpv] at pd ⊢; split at pd <;> split <;> omega
    rw [hpe] at c9
    have C1 := areTaps_any a c l w src hr (by omega)
    by_cases gt : okTaps l
    · have C1' : Calls Tryd.prog 23 #[.slice a l.length c] w fun e w' => e = .returned (.bool true) ∧ w' = w := by
        refine C1.mono ?_
        rintro e w' ⟨⟨ok, rfl, hk⟩, rfl⟩
        rw [hk.2 gt]; exact ⟨rfl, rfl⟩
      have e1 : swapR s l = (s.place : Nat) := by unfold swapR; rw [if_neg pd, if_pos gt]
      have e2 : swapE s l = 0 := by unfold swapE; rw [if_neg pd, if_pos gt]
      have e3 : swapS s l = s.swapped l := by unfold swapS; rw [if_neg pd, if_pos gt]
      rw [e1, e2, e3]
      have hpw := ok.pow
      have hbk : okBlock (p.B : Int) := by rw [r.B]; unfold okBlock; omega
      have c0 := hp.blk.c0
      rw [r.B] at c0
      have hbase := hp.base_le
      have hhn : p.hn = none := by
        rw [r.hn, if_neg]
        intro q
        rw [hpv, if_pos q] at hpe
        omega
      obtain ⟨P, hP⟩ : ∃ P, s.place = P := ⟨_, rfl⟩
      obtain ⟨B, hBB⟩ : ∃ B, s.B = B := ⟨_, rfl⟩
      obtain ⟨NX, hNX⟩ : ∃ NX, s.X.length = NX := ⟨_, rfl⟩
      obtain ⟨V, hV⟩ : ∃ V, s.W = V := ⟨_, rfl⟩
      obtain ⟨Q, hQ⟩ : ∃ Q, NX / B = Q := ⟨_, rfl⟩
      have hPe : P = (Q + V) * B := by rw [← hP, ← hQ, ← hNX, ← hBB, ← hV]; rfl
      have hQN : Q ≤ NX := by rw [← hQ]; exact Nat.div_le_self _ _
      have C2 : Calls Tryd.prog 20 #[] w fun e w4 => e = .returned (.pointer (some ⟨w.heap.size + 1, 0, none⟩)) ∧ Hid (Shelf w4 (w.heap.size + 1) w.heap.size 0 (.map []) ∧ Bt (fun _ => False) w w4) := by
        refine (newShelf_any w).mono ?_
        rintro e w4 ⟨rfl, q1, q2, q3⟩
        exact ⟨rfl, q1, q2.bt _⟩
      have C3 : ∀ w4, (Shelf w4 (w.heap.size + 1) w.heap.size 0 (.map []) ∧ Bt (fun _ => False) w w4) → Calls Tryd.prog 27 #[.pointer (some ⟨w.heap.size + 1, 0, none⟩), .slice a l.length c, .int .i64 B] w4 fun e w5 => ∃ tb T, e = .returned (.slice (some ⟨tb, 0, none⟩) T T) ∧ (w5.cell? ⟨xb, 8, none⟩ = some p.nv ∧ w5.frozen? ⟨xb, 8, none⟩ = false) ∧ Hid (∀ m : Nat, ∃ wx, wx = (w5.setCell ⟨xb, 8, none⟩ (.slice (some ⟨tb, 0, none⟩) T T)) ∧ wx.cell? ⟨xb, 3, none⟩ = some (.int .i64 NX) ∧ wx.cell? ⟨xb, 2, none⟩ = some (.int .i64 V) ∧ wx.cell? ⟨xb, 9, none⟩ = some (.int .i64 (-1)) ∧ wx.frozen? ⟨xb, 9, none⟩ = false ∧ Steps w F (FI base xb (s.swapped l)) ((wx.drewN m).setCell ⟨xb, 9, none⟩ (.int .i64 P)) ∧ ((wx.drewN m).setCell ⟨xb, 9, none⟩ (.int .i64 P)).cell? ⟨xb, 9, none⟩ = some (.int .i64 P)) := by
        rintro w4 ⟨q1, q2⟩
        have hKB : 2 ^ p.K = 2 * p.B := by rw [r.K, r.B]
        have := windows_any (ShR.new (2 * p.B) p.K base hbase q1) (hp.1.bt q2 (fun x => x)) hbk hKB rfl r.K10 hp.2.1 (by have := q2.size; omega) a c l (src.bt q2 (fun _ _ _ x => x)) hr gt.1 gt.2.1
        rw [r.B, hBB] at this
        refine this.mono ?_
        rintro e w5 ⟨tv, rfl, T, hT, hTn, hb5⟩
        have hT0 := hT
        obtain ⟨tb, tbs, htv, _⟩ := hT0
        have b5 : Bt (fun _ => False) w w5 := q2.trans hb5 (fun k hk e => by omega)
        have hp5 := (FP.fr base xb p).bt hp b5 (fun _ _ x => x)
        refine ⟨tb, tbs.length, by rw [htv], ⟨hp5.blk.c8, hp5.blk.fz 8⟩, fun m => ⟨_, rfl, ?_⟩⟩
        have hx8 := hp5.blk.set8 tv
        rw [htv] at hx8
        have hx9 : XB (((w5.setCell ⟨xb, 8, none⟩ (.slice (some ⟨tb, 0, none⟩) tbs.length tbs.length)).drewN m).setCell ⟨xb, 9, none⟩ (.int .i64 P)) xb p.B p.R p.W p.acc p.sb p.ab p.kb p.tv (.slice (some ⟨tb, 0, none⟩) tbs.length tbs.length) (P : Int) := XB.set9 (w := (w5.setCell ⟨xb, 8, none⟩ (.slice (some ⟨tb, 0, none⟩) tbs.length tbs.length)).drewN m) hx8 P
        refine ⟨by rw [hx8.c3, r.acc, hNX], by rw [hx8.c2, r.W, hV], by rw [hx8.c9, r.pend, hpe], hx8.fz 9, ?_, hx9.c9⟩
        have hT' : TR base p.B p.K tv l w5 T := by rw [r.B, hBB]; exact hT
        rw [htv] at hT'
        obtain ⟨F', k1, k2⟩ := fp_swap hp hhn b5 l (.slice (some ⟨tb, 0, none⟩) tbs.length tbs.length) (P : Int) hT' (fun k hk => by have := hTn k hk; have := q2.size; omega) hx9 ((((Bt.refl (fun k => k = xb) w5).setCell (fun _ => rfl) _).drewN m).setCell (fun _ => rfl) _)
        refine ⟨F', ⟨{ p with nv := .slice (some ⟨tb, 0, none⟩) tbs.length tbs.length, pend := (P : Int), hn := some l }, p1, ?_, k1⟩, k2⟩
        have := r.swap ok pd l (.slice (some ⟨tb, 0, none⟩) tbs.length tbs.length)
        rw [hP] at this
        exact this
      rw [hP]
      rw [hBB] at c0 hB0 hB1
      rw [hNX] at hx
      rw [hV] at hW0 hW1
      have d1 : (NX : Int) / (B : Int) = (Q : Int) := by rw [← hQ]; rfl
      have hb0 : (B : Int) ≠ 0 := by omega
      have hPi : (B : Int) * ((Q : Int) + (V : Int)) = (P : Int) := by rw [hPe, Int.natCast_mul, Int.mul_comm]; rfl
      have hP9 : P ≤ 256 * (18014398509481984 + 64) := by rw [hPe, Nat.mul_comm]; exact Nat.mul_le_mul hB1 (by omega)
      have hP8 : P ≤ 4611686018427404288 := by omega
      have nvf : ∃ x y z, p.nv = .slice x y z := by
        obtain ⟨G5, hG5, _⟩ := hp.step 5 (by omega)
        have q : NR base p.B p.K p.nv p.hn w G5 := hG5
        rw [hhn] at q
        exact ⟨none, 0, 0, q.1⟩
      obtain ⟨n1, n2, n3, hnv⟩ := nvf
      rw [hnv] at C3
      generalize l.length = ll at *
      clear h hs e1 e2 e3 hp r ok src hr hpv C1 gt pd hpe hhn hQ hPe hbk hFlt hP9 hP hBB hNX hV hnv hpw hbase
      go_enter Tryd.func14, Tryd.ntmps14
      go_wp2_with (first
        | (go_at_call 23; refine C1'.mono ?_; rintro e w1 ⟨rfl, hw⟩; subst w1; clear C1')
        | (go_at_call 20; refine C2.mono ?_; rintro e w4 ⟨rfl, H4⟩; clear C2)
        | (go_at_call 27; refine (C3 _ H4.out).mono ?_; rintro e w5 ⟨tb, T, rfl, ⟨x8, f8⟩, H5⟩; clear C3))
      obtain ⟨_, rfl, y3, y2, y9, f9, _, _⟩ := H5.out 0
      have d0 : (NX : Int).tdiv (B : Int) = (Q : Int) := by rw [Int.tdiv_eq_ediv_of_nonneg (by omega), d1]
      have hB3 : ¬ ((B : Int) = 0) := hb0
      have hB4 : ¬ B = 0 := by omega
      have w2' : IntKind.i64.wrap (Q : Int) = (Q : Int) := IntWalk.i64_in _ (by omega)
      have w3' : IntKind.i64.wrap ((Q : Int) + (V : Int)) = (Q : Int) + (V : Int) := IntWalk.i64_in _ (by omega)
      have w4' : IntKind.i64.wrap ((B : Int) * ((Q : Int) + (V : Int))) = (P : Int) := by rw [hPi]; exact IntWalk.i64_in _ (by omega)
      have w5' : IntKind.i64.wrap (P : Int) = (P : Int) := IntWalk.i64_in _ (by omega)
      clear hb0
      refine wp_region_quiet_seq 17 0 (by kernel_rfl) (by kernel_rfl) (by kernel_rfl) ?_
      repeat (quiet_step (fail))
      refine wpQuiet_nil ?_
      rintro _ ⟨nq, rfl⟩
      go_wp2
      go_ret2
      obtain ⟨wx, hwx, _, _, _, _, stt, _⟩ := H5.out nq
      subst hwx
      exact ⟨rfl, stt⟩
    · have C1' : Calls Tryd.prog 23 #[.slice a l.length c] w fun e w' => e = .returned (.bool false) ∧ w' = w := by
        refine C1.mono ?_
        rintro e w' ⟨⟨ok, rfl, hk⟩, rfl⟩
        cases ok with
        | false => exact ⟨rfl, rfl⟩
        | true => exact absurd (hk.1 rfl) gt
      have e1 : swapR s l = 0 := by unfold swapR; rw [if_neg pd, if_neg gt]
      have e2 : swapE s l = 4 := by unfold swapE; rw [if_neg pd, if_neg gt]
      have e3 : swapS s l = s := by unfold swapS; rw [if_neg pd, if_neg gt]
      rw [e1, e2, e3]
      have HF : Hid (FI base xb s w F) := h
      generalize l.length = ll at *
      clear h hs e1 e2 e3 hp r ok src hr hpv C1 gt pd
      go_enter Tryd.func14, Tryd.ntmps14
      go_wp2_with (go_at_call 23; refine C1'.mono ?_; rintro e w1 ⟨rfl, hw⟩; subst w1; clear C1')
      go_ret2
      exact ⟨rfl, F, HF.out, Stp.refl _ _⟩

/-- The landed filter keeps its contract. -/
theorem flt_ok : FltOk FI where
  fr := FI.fr
  new := fun base B R W a c l w ht hb1 hb src hr hl _ _ hB _ _ => new_any base B R W a c l w ht hb1 hb src hr hl hB
  push := fun h hs a c l src _ hl hlc hnil haF => push_any h hs a c l src hl hlc hnil haF
  flush := fun h hs => flush_any h hs
  swap := fun h hs a c l src hr hl _ _ _ => swap_any h hs a c l src hr hl
  pull := fun h hs n h0 h1 => pull_any h hs n h0 h1
  state := fun h hs => state_any h hs
end Go.Proofs.YtddpcjgekfmhkabDoor

/- A pair: push. -/
namespace Go.Proofs.YtddpcjgekfmhkabDoor
open Go.RowKit
set_option linter.unusedSimpArgs false
set_option linter.unusedVariables false

theorem src_none (w : World) (a : Option Addr) : Src w a (ints []) := fun h => by simp [ints] at h

/-- A list that is lent, and its owner's: both as they were. -/
structure Lends (w : World) (F : Nat → Prop) (a : Option Addr) (l : List Int) (hb : Nat) (w' : World) (G : Nat → Prop) : Prop where
  stp : Stp w F w' G
  row : Jr w' hb (l.length + 8) (lentR l)
  out : ¬ G hb
  src : Src w' a (ints l)
  far : ∀ b o, a = some ⟨b, o, none⟩ → ¬ G b ∧ b < w.heap.size
  eq : hb = w.heap.size
  lt : hb < w'.heap.size
theorem Lends.step {w w' w'' : World} {F G H : Nat → Prop} {a : Option Addr} {l : List Int} {hb : Nat} (h : Lends w F a l hb w' G) (k : Stp w' G w'' H) : Lends w F a l hb w'' H :=
  ⟨h.stp.trans k, h.row.bt k.bt h.out, k.out h.lt h.out, h.src.bt k.bt (fun b o e => (h.far b o e).1), fun b o e => ⟨k.out (Nat.lt_of_lt_of_le (h.far b o e).2 h.stp.bt.size) (h.far b o e).1, (h.far b o e).2⟩, h.eq, Nat.lt_of_lt_of_le h.lt k.bt.size⟩

set_option maxHeartbeats 2000000 in
theorem pair_push {FI : Nat → Nat → FlS → Res} (ok : FltOk FI) {base pb xb fb bb : Nat} {s : FlS} {w : World} {F : Nat → Prop} (h : PS FI base pb xb fb bb s s w F) (hs : s.Little)
    (a : Option Addr) (c : Nat) (l : List Int) (src : Src w a (ints l)) (hr : Rng l) (hl : l.length ≤ 1048576) (hlc : l.length ≤ c) (hnil : a = none → c = 0) (hfar : 0 < l.length → ∀ b o, a = some ⟨b, o, none⟩ → ¬ F b ∧ b < w.heap.size) :
    Calls Tryd.prog 58 #[.pointer (some ⟨pb, 0, none⟩), .slice a l.length c] w fun e w' => e = .returned (.bool true) ∧ Steps w F (PS FI base pb xb fb bb (pushS s l) (pushS s l)) w' := by
  have hok := hs.ok
  have hsx := hs.x
  have CN : ∀ (n : Int) (w : World), Calls Tryd.prog 57 #[.int .i64 n] w fun e w' => e = .returned (.int .i64 n) ∧ w' = w := num_law
  by_cases h0 : l.length = 0
  · obtain rfl : l = [] := List.eq_nil_of_length_eq_zero h0
    have C1 : Calls Tryd.prog 53 #[.slice a 0 c] w fun e w' => e = .returned (.slice none 0 0) ∧ w' = w := by
      refine (lent_law a c [] w src hl).mono ?_
      rintro e w' (⟨_, q1, q2⟩ | ⟨q, _⟩)
      · exact ⟨q1, q2⟩
      · simp at q
    have C2 : Calls Tryd.prog 13 #[.pointer (some ⟨xb, 0, none⟩), .slice none 0 0] w fun e w' => e = .returned (.tuple #[.int .i64 (pushR s []), .int .i64 (pushE s [])]) ∧ Hid (Steps w F (PS FI base pb xb fb bb (pushS s []) s) w') := by
      obtain ⟨F1, q1, q2, q3⟩ := PS.x ok h
      refine (ok.push q1 hs.small none 0 [] (src_none _ _) hr (by simp) (by simp) (fun _ => rfl) (fun b o e => by cases e)).mono ?_
      rintro e w' ⟨rfl, q⟩
      exact ⟨rfl, q3 _ _ q⟩
    have C3 : ∀ w1, Steps w F (PS FI base pb xb fb bb (pushS s []) s) w1 → Calls Tryd.prog 85 #[.pointer (some ⟨fb, 0, none⟩), .slice a 0 c] w1 fun e w' => e = .returned (.tuple #[.int .i64 (pushR s []), .int .i64 (pushE s [])]) ∧ Hid (Steps w F (PS FI base pb xb fb bb (pushS s []) (pushS s [])) w') := by
      rintro w1 ⟨G, g1, g2⟩
      obtain ⟨F1, q1, q2, q3⟩ := PS.y ok g1
      refine (push_ref q1 a c [] (src_none _ _) (by simp) (by simp) hnil (by omega) hok.pX hok.rm hok.r1).mono ?_
      rintro e w' ⟨rfl, q⟩
      obtain ⟨G', k1, k2⟩ := q3 _ _ q
      exact ⟨rfl, G', k1, g2.trans k2⟩
    have C4 : ∀ w1, Calls Tryd.prog 55 #[.slice none 0 0, .slice a 0 c] w1 fun e w' => e = .returned (.bool true) ∧ w' = w1 := fun w1 => still_none _ _ _ _
    have c0 := (PS.blk h).c0
    have HB : Hid (∀ w1, Steps w F (PS FI base pb xb fb bb (pushS s []) s) w1 → w1.cell? ⟨pb, 1, none⟩ = some (.pointer (some ⟨fb, 0, none⟩))) := by
      rintro w1 ⟨G, g1, g2⟩
      exact (PS.blk g1).c1
    generalize pushR s [] = R0 at *
    generalize pushE s [] = E0 at *
    generalize pushS s [] = s' at *
    show Calls Tryd.prog 58 #[.pointer (some ⟨pb, 0, none⟩), .slice a 0 c] w _
    clear h hfar
    go_enter Tryd.func58, Tryd.ntmps58
    go_wp2_with (first
      | (go_at_call 53; refine C1.mono ?_; rintro e w' ⟨rfl, hw⟩; subst w')
      | (go_at_call 13; refine C2.mono ?_; rintro e w1 ⟨rfl, H2⟩; have c1 := HB.out _ H2.out)
      | (go_at_call 85; refine (C3 _ H2.out).mono ?_; rintro e w2 ⟨rfl, H3⟩)
      | (go_at_call 55; refine (C4 _).mono ?_; rintro e w' ⟨rfl, hw⟩; subst w')
      | (go_at_call 57; refine (CN _ _).mono ?_; rintro e w' ⟨rfl, hw⟩; subst w'))
    go_ret
    exact ⟨rfl, H3.out⟩
  · have hbs : ∀ b o, a = some ⟨b, o, none⟩ → ¬ F b ∧ b < w.heap.size := hfar (by omega)
    have hFlt : ∀ k, F k → k < w.heap.size := fun k hk => ((PS.fr ok).lt h hk).2
    obtain ⟨ll, hll⟩ : ∃ ll, l.length = ll := ⟨_, rfl⟩
    have C1 : Calls Tryd.prog 53 #[.slice a ll c] w fun e w' => e = .returned (.slice (some ⟨w.heap.size, 0, none⟩) ll (ll + 8)) ∧ Hid (Lends w F a l w.heap.size w' F ∧ PS FI base pb xb fb bb s s w' F) := by
      rw [← hll]
      refine (lent_law a c l w src hl).mono ?_
      rintro e w' (⟨q, _⟩ | ⟨_, q1, q2, q3, q4⟩)
      · exact absurd q h0
      · exact ⟨q1, ⟨Stp.of_bt q3, q2, fun e => Nat.lt_irrefl _ (hFlt _ e), src.bt q3 (fun _ _ _ x => x), hbs, rfl, by omega⟩, (PS.fr ok).bt h q3 (fun _ _ x => x)⟩
    have C2 : ∀ w1, Lends w F a l w.heap.size w1 F ∧ PS FI base pb xb fb bb s s w1 F → Calls Tryd.prog 13 #[.pointer (some ⟨xb, 0, none⟩), .slice (some ⟨w.heap.size, 0, none⟩) ll (ll + 8)] w1 fun e w' => e = .returned (.tuple #[.int .i64 (pushR s l), .int .i64 (pushE s l)]) ∧ Hid (∃ G, Lends w F a l w.heap.size w' G ∧ PS FI base pb xb fb bb (pushS s l) s w' G) := by
      rintro w1 ⟨g1, g2⟩
      obtain ⟨F1, q1, q2, q3⟩ := PS.x ok g2
      have e8 : l.length + 8 = ll + 8 := by rw [hll]
      rw [← hll]
      refine (ok.push q1 hs.small (some ⟨w.heap.size, 0, none⟩) (l.length + 8) l (g1.row.src l (by omega) (fun i hi => by unfold lentR; rw [if_pos hi])) hr hl (by omega) (fun e => by cases e) (fun b o e => by simp at e; obtain ⟨rfl, _⟩ := e; exact fun q => g1.out (q2 _ q))).mono ?_
      rintro e w' ⟨rfl, q⟩
      obtain ⟨G, k1, k2⟩ := q3 _ _ q
      exact ⟨rfl, G, g1.step k2, k1⟩
    have C3 : ∀ w1, (∃ G, Lends w F a l w.heap.size w1 G ∧ PS FI base pb xb fb bb (pushS s l) s w1 G) → Calls Tryd.prog 85 #[.pointer (some ⟨fb, 0, none⟩), .slice a ll c] w1 fun e w' => e = .returned (.tuple #[.int .i64 (pushR s l), .int .i64 (pushE s l)]) ∧ Hid (∃ G, Lends w F a l w.heap.size w' G ∧ PS FI base pb xb fb bb (pushS s l) (pushS s l) w' G) := by
      rintro w1 ⟨G, g1, g2⟩
      obtain ⟨F1, q1, q2, q3⟩ := PS.y ok g2
      rw [← hll]
      refine (push_ref q1 a c l g1.src (by omega) hlc hnil (by omega) hok.pX hok.rm hok.r1).mono ?_
      rintro e w' ⟨rfl, q⟩
      obtain ⟨G', k1, k2⟩ := q3 _ _ q
      exact ⟨rfl, G', g1.step k2, k1⟩
    have C4 : ∀ w1, (∃ G, Lends w F a l w.heap.size w1 G ∧ PS FI base pb xb fb bb (pushS s l) (pushS s l) w1 G) → Calls Tryd.prog 55 #[.slice (some ⟨w.heap.size, 0, none⟩) ll (ll + 8), .slice a ll c] w1 fun e w' => e = .returned (.bool true) ∧ Hid (Steps w F (PS FI base pb xb fb bb (pushS s l) (pushS s l)) w') := by
      rintro w1 ⟨G, g1, g2⟩
      rw [← hll]
      refine (still_law w.heap.size a c l w1 (by omega) g1.src hl g1.row (fun b o e => by have := (g1.far b o e).2; omega)).mono ?_
      rintro e w' ⟨rfl, q⟩
      exact ⟨rfl, G, (PS.fr ok).btw g2 q (fun k hk e => by subst e; exact g1.out hk) (fun k e => by subst e; exact PS.bs h), g1.stp.then q (fun k hk e => by omega)⟩
    have HB1 : Hid (∀ w1, Lends w F a l w.heap.size w1 F ∧ PS FI base pb xb fb bb s s w1 F → w1.cell? ⟨pb, 0, none⟩ = some (.pointer (some ⟨xb, 0, none⟩))) := fun w1 q => (PS.blk q.2).c0
    have HB2 : Hid (∀ w1, (∃ G, Lends w F a l w.heap.size w1 G ∧ PS FI base pb xb fb bb (pushS s l) s w1 G) → w1.cell? ⟨pb, 1, none⟩ = some (.pointer (some ⟨fb, 0, none⟩))) := by
      rintro w1 ⟨G, _, g2⟩
      exact (PS.blk g2).c1
    rw [hll]
    generalize pushR s l = R0 at *
    generalize pushE s l = E0 at *
    generalize pushS s l = s' at *
    clear h hfar hbs src hFlt
    go_enter Tryd.func58, Tryd.ntmps58
    go_wp2_with (first
      | (go_at_call 53; refine C1.mono ?_; rintro e w1 ⟨rfl, H1⟩; have c0 := HB1.out _ H1.out)
      | (go_at_call 13; refine (C2 _ H1.out).mono ?_; rintro e w2 ⟨rfl, H2⟩; have c1 := HB2.out _ H2.out)
      | (go_at_call 85; refine (C3 _ H2.out).mono ?_; rintro e w3 ⟨rfl, H3⟩)
      | (go_at_call 55; refine (C4 _ H3.out).mono ?_; rintro e w4 ⟨rfl, H4⟩)
      | (go_at_call 57; refine (CN _ _).mono ?_; rintro e w' ⟨rfl, hw⟩; subst w'))
    go_ret
    exact ⟨rfl, H4.out⟩
end Go.Proofs.YtddpcjgekfmhkabDoor

/- A pair: swap (made out of Nr by program). -/
namespace Go.Proofs.YtddpcjgekfmhkabDoor
open Go.RowKit
set_option linter.unusedSimpArgs false
set_option linter.unusedVariables false

set_option maxHeartbeats 2000000 in
theorem pair_swap {FI : Nat → Nat → FlS → Res} (ok : FltOk FI) {base pb xb fb bb : Nat} {s : FlS} {w : World} {F : Nat → Prop} (h : PS FI base pb xb fb bb s s w F) (hs : s.Little)
    (a : Option Addr) (c : Nat) (l : List Int) (src : Src w a (ints l)) (hr : Rng l) (hl : l.length ≤ 1048576) (hlc : l.length ≤ c) (hnil : a = none → c = 0) (hfar : 0 < l.length → ∀ b o, a = some ⟨b, o, none⟩ → ¬ F b ∧ b < w.heap.size) :
    Calls Tryd.prog 60 #[.pointer (some ⟨pb, 0, none⟩), .slice a l.length c] w fun e w' => e = .returned (.bool true) ∧ Steps w F (PS FI base pb xb fb bb (swapS s l) (swapS s l)) w' := by
  have hok := hs.ok
  have hsx := hs.x
  have hsp := hs.p
  have CN : ∀ (n : Int) (w : World), Calls Tryd.prog 57 #[.int .i64 n] w fun e w' => e = .returned (.int .i64 n) ∧ w' = w := num_law
  by_cases h0 : l.length = 0
  · obtain rfl : l = [] := List.eq_nil_of_length_eq_zero h0
    have C1 : Calls Tryd.prog 53 #[.slice a 0 c] w fun e w' => e = .returned (.slice none 0 0) ∧ w' = w := by
      refine (lent_law a c [] w src hl).mono ?_
      rintro e w' (⟨_, q1, q2⟩ | ⟨q, _⟩)
      · exact ⟨q1, q2⟩
      · simp at q
    have C2 : Calls Tryd.prog 14 #[.pointer (some ⟨xb, 0, none⟩), .slice none 0 0] w fun e w' => e = .returned (.tuple #[.int .i64 (swapR s []), .int .i64 (swapE s [])]) ∧ Hid (Steps w F (PS FI base pb xb fb bb (swapS s []) s) w') := by
      obtain ⟨F1, q1, q2, q3⟩ := PS.x ok h
      refine (ok.swap q1 hs.small none 0 [] (src_none _ _) hr (by simp) (by simp) (fun _ => rfl) (fun b o e => by cases e)).mono ?_
      rintro e w' ⟨rfl, q⟩
      exact ⟨rfl, q3 _ _ q⟩
    have C3 : ∀ w1, Steps w F (PS FI base pb xb fb bb (swapS s []) s) w1 → Calls Tryd.prog 87 #[.pointer (some ⟨fb, 0, none⟩), .slice a 0 c] w1 fun e w' => e = .returned (.tuple #[.int .i64 (swapR s []), .int .i64 (swapE s [])]) ∧ Hid (Steps w F (PS FI base pb xb fb bb (swapS s []) (swapS s [])) w') := by
      rintro w1 ⟨G, g1, g2⟩
      obtain ⟨F1, q1, q2, q3⟩ := PS.y ok g1
      refine (swap_ref q1 a c [] (src_none _ _) hr (by simp) (by omega) hok.p0 (by omega) (by have := hok.from_le; omega) hok.B0 hok.B1 hok.w1).mono ?_
      rintro e w' ⟨rfl, q⟩
      obtain ⟨G', k1, k2⟩ := q3 _ _ q
      exact ⟨rfl, G', k1, g2.trans k2⟩
    have C4 : ∀ w1, Calls Tryd.prog 55 #[.slice none 0 0, .slice a 0 c] w1 fun e w' => e = .returned (.bool true) ∧ w' = w1 := fun w1 => still_none _ _ _ _
    have c0 := (PS.blk h).c0
    have HB : Hid (∀ w1, Steps w F (PS FI base pb xb fb bb (swapS s []) s) w1 → w1.cell? ⟨pb, 1, none⟩ = some (.pointer (some ⟨fb, 0, none⟩))) := by
      rintro w1 ⟨G, g1, g2⟩
      exact (PS.blk g1).c1
    generalize swapR s [] = R0 at *
    generalize swapE s [] = E0 at *
    generalize swapS s [] = s' at *
    show Calls Tryd.prog 60 #[.pointer (some ⟨pb, 0, none⟩), .slice a 0 c] w _
    clear h hfar
    go_enter Tryd.func60, Tryd.ntmps60
    go_wp2_with (first
      | (go_at_call 53; refine C1.mono ?_; rintro e w' ⟨rfl, hw⟩; subst w')
      | (go_at_call 14; refine C2.mono ?_; rintro e w1 ⟨rfl, H2⟩; have c1 := HB.out _ H2.out)
      | (go_at_call 87; refine (C3 _ H2.out).mono ?_; rintro e w2 ⟨rfl, H3⟩)
      | (go_at_call 55; refine (C4 _).mono ?_; rintro e w' ⟨rfl, hw⟩; subst w')
      | (go_at_call 57; refine (CN _ _).mono ?_; rintro e w' ⟨rfl, hw⟩; subst w'))
    go_ret
    exact ⟨rfl, H3.out⟩
  · have hbs : ∀ b o, a = some ⟨b, o, none⟩ → ¬ F b ∧ b < w.heap.size := hfar (by omega)
    have hFlt : ∀ k, F k → k < w.heap.size := fun k hk => ((PS.fr ok).lt h hk).2
    obtain ⟨ll, hll⟩ : ∃ ll, l.length = ll := ⟨_, rfl⟩
    have C1 : Calls Tryd.prog 53 #[.slice a ll c] w fun e w' => e = .returned (.slice (some ⟨w.heap.size, 0, none⟩) ll (ll + 8)) ∧ Hid (Lends w F a l w.heap.size w' F ∧ PS FI base pb xb fb bb s s w' F) := by
      rw [← hll]
      refine (lent_law a c l w src hl).mono ?_
      rintro e w' (⟨q, _⟩ | ⟨_, q1, q2, q3, q4⟩)
      · exact absurd q h0
      · exact ⟨q1, ⟨Stp.of_bt q3, q2, fun e => Nat.lt_irrefl _ (hFlt _ e), src.bt q3 (fun _ _ _ x => x), hbs, rfl, by omega⟩, (PS.fr ok).bt h q3 (fun _ _ x => x)⟩
    have C2 : ∀ w1, Lends w F a l w.heap.size w1 F ∧ PS FI base pb xb fb bb s s w1 F → Calls Tryd.prog 14 #[.pointer (some ⟨xb, 0, none⟩), .slice (some ⟨w.heap.size, 0, none⟩) ll (ll + 8)] w1 fun e w' => e = .returned (.tuple #[.int .i64 (swapR s l), .int .i64 (swapE s l)]) ∧ Hid (∃ G, Lends w F a l w.heap.size w' G ∧ PS FI base pb xb fb bb (swapS s l) s w' G) := by
      rintro w1 ⟨g1, g2⟩
      obtain ⟨F1, q1, q2, q3⟩ := PS.x ok g2
      have e8 : l.length + 8 = ll + 8 := by rw [hll]
      rw [← hll]
      refine (ok.swap q1 hs.small (some ⟨w.heap.size, 0, none⟩) (l.length + 8) l (g1.row.src l (by omega) (fun i hi => by unfold lentR; rw [if_pos hi])) hr hl (by omega) (fun e => by cases e) (fun b o e => by simp at e; obtain ⟨rfl, _⟩ := e; exact fun q => g1.out (q2 _ q))).mono ?_
      rintro e w' ⟨rfl, q⟩
      obtain ⟨G, k1, k2⟩ := q3 _ _ q
      exact ⟨rfl, G, g1.step k2, k1⟩
    have C3 : ∀ w1, (∃ G, Lends w F a l w.heap.size w1 G ∧ PS FI base pb xb fb bb (swapS s l) s w1 G) → Calls Tryd.prog 87 #[.pointer (some ⟨fb, 0, none⟩), .slice a ll c] w1 fun e w' => e = .returned (.tuple #[.int .i64 (swapR s l), .int .i64 (swapE s l)]) ∧ Hid (∃ G, Lends w F a l w.heap.size w' G ∧ PS FI base pb xb fb bb (swapS s l) (swapS s l) w' G) := by
      rintro w1 ⟨G, g1, g2⟩
      obtain ⟨F1, q1, q2, q3⟩ := PS.y ok g2
      rw [← hll]
      refine (swap_ref q1 a c l g1.src hr hl (by omega) hok.p0 (by omega) (by have := hok.from_le; omega) hok.B0 hok.B1 hok.w1).mono ?_
      rintro e w' ⟨rfl, q⟩
      obtain ⟨G', k1, k2⟩ := q3 _ _ q
      exact ⟨rfl, G', g1.step k2, k1⟩
    have C4 : ∀ w1, (∃ G, Lends w F a l w.heap.size w1 G ∧ PS FI base pb xb fb bb (swapS s l) (swapS s l) w1 G) → Calls Tryd.prog 55 #[.slice (some ⟨w.heap.size, 0, none⟩) ll (ll + 8), .slice a ll c] w1 fun e w' => e = .returned (.bool true) ∧ Hid (Steps w F (PS FI base pb xb fb bb (swapS s l) (swapS s l)) w') := by
      rintro w1 ⟨G, g1, g2⟩
      rw [← hll]
      refine (still_law w.heap.size a c l w1 (by omega) g1.src hl g1.row (fun b o e => by have := (g1.far b o e).2; omega)).mono ?_
      rintro e w' ⟨rfl, q⟩
      exact ⟨rfl, G, (PS.fr ok).btw g2 q (fun k hk e => by subst e; exact g1.out hk) (fun k e => by subst e; exact PS.bs h), g1.stp.then q (fun k hk e => by omega)⟩
    have HB1 : Hid (∀ w1, Lends w F a l w.heap.size w1 F ∧ PS FI base pb xb fb bb s s w1 F → w1.cell? ⟨pb, 0, none⟩ = some (.pointer (some ⟨xb, 0, none⟩))) := fun w1 q => (PS.blk q.2).c0
    have HB2 : Hid (∀ w1, (∃ G, Lends w F a l w.heap.size w1 G ∧ PS FI base pb xb fb bb (swapS s l) s w1 G) → w1.cell? ⟨pb, 1, none⟩ = some (.pointer (some ⟨fb, 0, none⟩))) := by
      rintro w1 ⟨G, _, g2⟩
      exact (PS.blk g2).c1
    rw [hll]
    generalize swapR s l = R0 at *
    generalize swapE s l = E0 at *
    generalize swapS s l = s' at *
    clear h hfar hbs src hFlt
    go_enter Tryd.func60, Tryd.ntmps60
    go_wp2_with (first
      | (go_at_call 53; refine C1.mono ?_; rintro e w1 ⟨rfl, H1⟩; have c0 := HB1.out _ H1.out)
      | (go_at_call 14; refine (C2 _ H1.out).mono ?_; rintro e w2 ⟨rfl, H2⟩; have c1 := HB2.out _ H2.out)
      | (go_at_call 87; refine (C3 _ H2.out).mono ?_; rintro e w3 ⟨rfl, H3⟩)
      | (go_at_call 55; refine (C4 _ H3.out).mono ?_; rintro e w4 ⟨rfl, H4⟩)
      | (go_at_call 57; refine (CN _ _).mono ?_; rintro e w' ⟨rfl, hw⟩; subst w'))
    go_ret
    exact ⟨rfl, H4.out⟩
end Go.Proofs.YtddpcjgekfmhkabDoor

/- A pair: pull, state. -/
namespace Go.Proofs.YtddpcjgekfmhkabDoor
open Go.RowKit
set_option linter.unusedSimpArgs false
set_option linter.unusedVariables false

/-- As PS.x, with what the new blocks are. -/
theorem PS.x' {FI : Nat → Nat → FlS → Res} (ok : FltOk FI) {base pb xb fb bb : Nat} {s t : FlS} {w : World} {F : Nat → Prop} (h : PS FI base pb xb fb bb s t w F) : ∃ F1, FI base xb s w F1 ∧ (∀ k, F1 k → F k) ∧ ∀ (s' : FlS) (w' : World) (F1' : Nat → Prop), FI base xb s' w' F1' → Stp w F1 w' F1' → ∃ F', PS FI base pb xb fb bb s' t w' F' ∧ Stp w F w' F' ∧ ∀ k, F' k → F k ∨ F1' k := by
  obtain ⟨P, G, hp, ⟨F1, F2, h1, h2, hd, hG⟩, hpd, hF⟩ := h
  refine ⟨F1, h1, fun k hk => (hF k).2 (.inr ((hG k).2 (.inl hk))), fun s' w' F1' h1' st => ⟨fun k => P k ∨ F1' k ∨ F2 k, ⟨P, fun k => F1' k ∨ F2 k, (PBr.fr base pb xb fb bb).btw hp st.bt (fun k hk e => hpd k hk ((hG k).2 (.inl e))) (fun k hk => ((ok.fr _ _ _).lt h1 hk).1), ⟨F1', F2, h1', (RF.fr base fb t).btw h2 st.bt (fun k hk e => hd k e hk) (fun k hk => ((ok.fr _ _ _).lt h1 hk).1), fun k hk e => ?_, fun k => Iff.rfl⟩, fun k hk e => ?_, fun k => Iff.rfl⟩, ⟨st.bt.mono (fun k _ hk => (hF k).2 (.inr ((hG k).2 (.inl hk)))), fun k hk => ?_⟩, fun k hk => ?_⟩⟩
  · rcases st.new k hk with q | q
    · exact hd k q e
    · have := (RF.fr base fb t).lt h2 e; omega
  · rcases e with e | e
    · rcases st.new k e with q | q
      · exact hpd k hk ((hG k).2 (.inl q))
      · have := (PBr.fr base pb xb fb bb).lt hp hk; omega
    · exact hpd k hk ((hG k).2 (.inr e))
  · rcases hk with hk | hk | hk
    · exact .inl ((hF k).2 (.inl hk))
    · exact (st.new k hk).imp (fun q => (hF k).2 (.inr ((hG k).2 (.inl q)))) id
    · exact .inl ((hF k).2 (.inr ((hG k).2 (.inr hk))))
  · rcases hk with hk | hk | hk
    · exact .inl ((hF k).2 (.inl hk))
    · exact .inr hk
    · exact .inl ((hF k).2 (.inr ((hG k).2 (.inr hk))))

/-- What is there behind the program's Pull, and behind the document's: a row at lb that belongs to nobody yet. -/
def Mid (FI : Nat → Nat → FlS → Res) (base pb xb fb bb r : Nat) (s t : FlS) (c lb : Nat) (ol : List Int) (w : World) (H : Nat → Prop) (w1 : World) : Prop :=
  ∃ F1 G, PS FI base pb xb fb bb s t w1 F1 ∧ BK base bb r w1 G ∧ (∀ k, F1 k → ¬ G k) ∧ (∀ k, G k → k < w.heap.size) ∧ Stp w H w1 (fun k => F1 k ∨ G k) ∧ Jr w1 lb c (at0 ol) ∧ (0 < c → w.heap.size ≤ lb ∧ ¬ F1 lb)

set_option maxHeartbeats 2000000 in
theorem pair_pull {FI : Nat → Nat → FlS → Res} (ok : FltOk FI) {base pb xb fb bb r : Nat} {s : FlS} {w : World} {H : Nat → Prop} (h : Sep (PS FI base pb xb fb bb s s) (BK base bb r) w H) (hs : s.Little) (hr : r ≤ 2097150) (n : Int) (hn0 : -9223372036854775808 ≤ n) (hn1 : n ≤ 9223372036854775807) :
    Calls Tryd.prog 39 #[.pointer (some ⟨pb, 0, none⟩), .int .i64 n] w fun e w' => e = .returned (.bool true) ∧ Steps w H (Sep (PS FI base pb xb fb bb (s.took (s.can n)) (s.took (s.can n))) (BK base bb (r + 1))) w' := by
  have hok := hs.ok
  have hsx := hs.x
  have hsp := hs.p
  have hcan := hok.can_le n
  have hol := outs_len s (s.can n)
  have c0 : w.cell? ⟨pb, 0, none⟩ = some (.pointer (some ⟨xb, 0, none⟩)) := by
    obtain ⟨F, G, hF, _⟩ := h
    exact (PS.blk hF).c0
  have CX : Calls Tryd.prog 16 #[.pointer (some ⟨xb, 0, none⟩), .int .i64 n] w fun e w1 => Hid (∃ ao lb, e = .returned (.slice ao (s.can n) (s.can n)) ∧ (0 < s.can n → ao = some ⟨lb, 0, none⟩) ∧ (ao = none → s.can n = 0) ∧ Mid FI base pb xb fb bb r (s.took (s.can n)) s (s.can n) lb (s.outs (s.can n)) w H w1) := by
    obtain ⟨F, G, hF, hG, hd, hH⟩ := h
    obtain ⟨F1, q1, q2, q3⟩ := PS.x' ok hF
    refine (ok.pull q1 hs.small n hn0 hn1).mono ?_
    rintro e w1 ⟨ao, lb, he, h1, h2, h3, h4, F1', h5, h6, h7⟩
    obtain ⟨F', k1, k2, k3⟩ := q3 _ w1 F1' h5 h6
    have hGlt : ∀ k, G k → k < w.heap.size := fun k hk => ((BK.fr base bb r).lt hG hk).2
    refine ⟨ao, lb, he, h1, h2, F', G, k1, (BK.fr base bb r).btw hG k2.bt (fun k hk e => hd k e hk) (fun k hk => ((PS.fr ok).lt hF hk).1), fun k hk e => ?_, hGlt, ⟨k2.bt.mono (fun k _ hk => (hH k).2 (.inl hk)), fun k hk => ?_⟩, h3, fun h0 => ⟨h4 h0, fun e => ?_⟩⟩
    · rcases k2.new k hk with q | q
      · exact hd k q e
      · have := hGlt k e; omega
    · rcases hk with hk | hk
      · exact (k2.new k hk).imp (fun q => (hH k).2 (.inl q)) id
      · exact .inl ((hH k).2 (.inr hk))
    · rcases k3 lb e with q | q
      · have := ((PS.fr ok).lt hF q).2; have := h4 h0; omega
      · exact h7 h0 q
  have CY : ∀ w1 lb, Mid FI base pb xb fb bb r (s.took (s.can n)) s (s.can n) lb (s.outs (s.can n)) w H w1 → Calls Tryd.prog 64 #[.pointer (some ⟨fb, 0, none⟩), .int .i64 n] w1 fun e w2 => Hid (∃ vo co, e = .returned (.slice vo (s.can n) co) ∧ Src w2 vo (ints (s.outs (s.can n))) ∧ Mid FI base pb xb fb bb r (s.took (s.can n)) (s.took (s.can n)) (s.can n) lb (s.outs (s.can n)) w H w2) := by
    rintro w1 lb ⟨F1, G, g1, g2, g3, g3', g4, g5, g6⟩
    obtain ⟨F2, q1, q2, q3⟩ := PS.y ok g1
    refine (pull_ref q1 n hn0 hn1 (by omega) hok.pl hok.B0 hok.B1 (by omega) hok.first (fun p hp => by have := hok.froms hp; omega) hok.taps hok.smp).mono ?_
    rintro e w2 ⟨vo, rfl, hl, hrf, st⟩
    obtain ⟨a, co, hv, _, hsrc⟩ := hl.form
    rw [ints_len, hol] at hv
    obtain ⟨F', k1, k2⟩ := q3 _ w2 ⟨F2, hrf, st⟩
    have hlt1 : 0 < s.can n → lb < w1.heap.size := fun h0 => g5.lt h0
    refine ⟨a, co, by rw [hv], hsrc, F', G, k1, (BK.fr base bb r).btw g2 k2.bt (fun k hk e => g3 k e hk) (fun k hk => ((PS.fr ok).lt g1 hk).1), fun k hk e => ?_, g3', ?_, ?_, fun h0 => ⟨(g6 h0).1, k2.out (hlt1 h0) (g6 h0).2⟩⟩
    · rcases k2.new k hk with q | q
      · exact g3 k q e
      · have := ((BK.fr base bb r).lt g2 e).2; omega
    · refine ⟨g4.bt.trans k2.bt (fun k hk e => (g4.new k (.inl e)).elim id (fun q => by omega)), fun k hk => ?_⟩
      rcases hk with hk | hk
      · rcases k2.new k hk with q | q
        · exact g4.new k (.inl q)
        · exact .inr (Nat.le_trans g4.bt.size q)
      · exact g4.new k (.inr hk)
    · intro i hi
      exact (g5.bt k2.bt (g6 (by omega)).2) i hi
  have CS : ∀ w2 ao lb vo co, Mid FI base pb xb fb bb r (s.took (s.can n)) (s.took (s.can n)) (s.can n) lb (s.outs (s.can n)) w H w2 → Src w2 vo (ints (s.outs (s.can n))) → (0 < s.can n → ao = some ⟨lb, 0, none⟩) → Calls Tryd.prog 65 #[.slice ao (s.can n) (s.can n), .slice vo (s.can n) co] w2 fun e w3 => e = .returned (.bool true) ∧ Hid (Mid FI base pb xb fb bb r (s.took (s.can n)) (s.took (s.can n)) (s.can n) lb (s.outs (s.can n)) w H w3) := by
    rintro w2 ao lb vo co ⟨F1, G, g1, g2, g3, g3', g4, g5, g6⟩ hsrc hao
    have hsx : Src w2 ao (ints (s.outs (s.can n))) := by
      by_cases h0 : 0 < s.can n
      · rw [hao h0]; exact g5.src _ (by rw [hol]; exact Nat.le_refl _) (fun _ _ => rfl)
      · have e : s.outs (s.can n) = [] := List.eq_nil_of_length_eq_zero (by rw [hol]; omega)
        rw [e]; exact src_none _ _
    have := same_law ao vo (s.can n) co (s.outs (s.can n)) w2 hsx hsrc (by rw [hol]; omega)
    rw [hol] at this
    refine this.mono ?_
    rintro e w3 ⟨rfl, m, rfl⟩
    have b : Bt (fun _ => False) w2 (w2.drewN m) := (Bt.refl _ _).drewN m
    refine ⟨rfl, F1, G, (PS.fr ok).bt g1 b (fun _ _ x => x), (BK.fr base bb r).bt g2 b (fun _ _ x => x), g3, g3', ⟨g4.bt.trans b (fun _ _ x => x.elim), g4.new⟩, g5.bt b (fun x => x), g6⟩
  have CK : ∀ w3 ao lb, Mid FI base pb xb fb bb r (s.took (s.can n)) (s.took (s.can n)) (s.can n) lb (s.outs (s.can n)) w H w3 → (0 < s.can n → ao = some ⟨lb, 0, none⟩) → (ao = none → s.can n = 0) → Calls Tryd.prog 66 #[.pointer (some ⟨bb, 0, none⟩), .slice ao (s.can n) (s.can n)] w3 fun e w4 => e = .returned (.tuple #[]) ∧ Hid (Steps w H (Sep (PS FI base pb xb fb bb (s.took (s.can n)) (s.took (s.can n))) (BK base bb (r + 1))) w4) := by
    rintro w3 ao lb ⟨F1, G, g1, g2, g3, g3', g4, g5, g6⟩ hao hnil
    have hbw : base ≤ w.heap.size := by
      obtain ⟨F, G0, hF, _⟩ := h
      obtain ⟨P, _, hp, _⟩ := hF
      have := hp.2.1; have := hp.1.lt; omega
    refine (keep_law g2 (by omega) hcan hao hnil g5 (fun h0 => ⟨Nat.le_trans hbw (g6 h0).1, fun e => by have := g3' lb e; have := (g6 h0).1; omega⟩)).mono ?_
    rintro e w4 ⟨rfl, G', k1, k2⟩
    have hF1 : ∀ k, F1 k → ¬ (G k ∨ (0 < s.can n ∧ k = lb)) := by
      rintro k hk (e | ⟨h0, rfl⟩)
      · exact g3 k hk e
      · exact (g6 h0).2 hk
    refine ⟨rfl, fun k => F1 k ∨ G' k, ⟨F1, G', (PS.fr ok).btw g1 k2.bt hF1 (fun k hk => hk.elim (fun e => ((BK.fr base bb r).lt g2 e).1) (fun e => by have := (g6 e.1).1; omega)), k1, fun k hk e => ?_, fun k => Iff.rfl⟩, ⟨?_, fun k hk => ?_⟩⟩
    · rcases k2.new k e with q | q
      · exact hF1 k hk q
      · have := ((PS.fr ok).lt g1 hk).2; omega
    · refine g4.bt.trans k2.bt (fun k hk e => ?_)
      rcases e with e | ⟨h0, rfl⟩
      · exact (g4.new k (.inr e)).elim id (fun q => by omega)
      · have := (g6 h0).1; omega
    · rcases hk with hk | hk
      · exact g4.new k (.inl hk)
      · rcases k2.new k hk with (q | ⟨h0, rfl⟩) | q
        · exact g4.new k (.inr q)
        · exact .inr (g6 h0).1
        · exact .inr (Nat.le_trans g4.bt.size q)
  have HB : Hid (∀ (t : FlS) w1 lb, Mid FI base pb xb fb bb r (s.took (s.can n)) t (s.can n) lb (s.outs (s.can n)) w H w1 → w1.cell? ⟨pb, 1, none⟩ = some (.pointer (some ⟨fb, 0, none⟩)) ∧ w1.cell? ⟨pb, 2, none⟩ = some (.pointer (some ⟨bb, 0, none⟩))) := by
    rintro t w1 lb ⟨F1, G, g1, _⟩
    exact ⟨(PS.blk g1).c1, (PS.blk g1).c2⟩
  clear h
  generalize hcc : s.can n = cn at *
  generalize s.outs cn = ol at *
  generalize s.took cn = s' at *
  clear hcc hol
  go_enter Tryd.func39, Tryd.ntmps39
  go_wp2_with (first
    | (go_at_call 16; refine CX.mono ?_; rintro e w1 H1; obtain ⟨ao, lb, rfl, ha1, ha2, H2⟩ := H1.out; clear H1; have HM : Hid (Mid FI base pb xb fb bb r s' s cn lb ol w H w1 ∧ (0 < cn → ao = some ⟨lb, 0, none⟩) ∧ (ao = none → cn = 0)) := ⟨H2, ha1, ha2⟩; clear H2 ha1 ha2; obtain ⟨c1, _⟩ := HB.out _ _ _ HM.out.1)
    | (go_at_call 64; refine (CY _ lb HM.out.1).mono ?_; rintro e w2 H1; obtain ⟨vo, co, rfl, hv, H2⟩ := H1.out; clear H1; have HV : Hid (Src w2 vo (ints ol) ∧ Mid FI base pb xb fb bb r s' s' cn lb ol w H w2) := ⟨hv, H2⟩; clear H2 hv)
    | (go_at_call 65; refine (CS _ ao lb vo co HV.out.2 HV.out.1 HM.out.2.1).mono ?_; rintro e w3 ⟨rfl, H3⟩; obtain ⟨_, c2⟩ := HB.out _ _ _ H3.out)
    | (go_at_call 66; refine (CK _ ao lb H3.out HM.out.2.1 HM.out.2.2).mono ?_; rintro e w4 ⟨rfl, H4⟩))
  go_ret
  exact ⟨rfl, H4.out⟩
end Go.Proofs.YtddpcjgekfmhkabDoor
