/- Texts joined: Pd Pe Pf. -/
import Derived.Test.YtddpcjgekfmhkabDoorM24

/- all, walked. -/
namespace Go.Proofs.YtddpcjgekfmhkabDoor
open Go.RowKit
set_option linter.unusedSimpArgs false
set_option linter.unusedVariables false

theorem run_small {s : FlS} {bn P : Nat} {h x : List Int} (r : Run s bn h x P) (hx : s.X.length ≤ 2000) : s.Small := ⟨r.ok, by omega, by rw [r.parts]; simp⟩
/-- The state of a round. -/
def AllR (FI : Nat → Nat → FlS → Res) (w : World) (xb bn : Nat) (h x : List Int) (at_ : Nat) (vo : Value) (wr : World) : Prop := ∃ s P, AllI FI w xb s vo (gen h x P) wr ∧ Run s bn h x P ∧ s.X = x.take at_ ∧ P ≤ at_

set_option maxHeartbeats 4000000 in
set_option maxRecDepth 20000 in
theorem all_law {FI : Nat → Nat → FlS → Res} (ok : FltOk FI) (w : World) (B V : Int) (hB : okBlock B) (hV : 1 ≤ V ∧ V ≤ 64) (ah ax ac : Option Addr) (ch cx cc : Nat) (h x cuts : List Int) (ih : InL w ah ch h) (ix : InL w ax cx x) (ic : InW w ac cc cuts) (ht : okTaps h) (hs : ∀ v ∈ x, okSample v) (hx0 : 1 ≤ x.length) (hx1 : x.length ≤ 1000) :
    Calls Tryd.prog 8 #[.agg #[.int .i64 B, .int .i64 65536, .int .i64 V], .slice ah h.length ch, .slice ax x.length cx, .slice ac cuts.length cc] w fun e w' => AllQ w h x (upN B.toNat x.length) e w' := by
  obtain ⟨bx, ox, rfl, hxc⟩ := ix.src (by rw [ints_len]; omega)
  have hbx : bx < w.heap.size := by
    obtain ⟨b', o', e', q⟩ := ix.src.int (at0_some (l := x) (i := 0) (by omega))
    simp at e'
    obtain ⟨rfl, rfl⟩ := e'
    exact World.block_lt_of_cell? w _ q
  obtain ⟨w0, hw0⟩ : ∃ w0, w0 = w.alloc (.cells #[.int .i64 B, .int .i64 65536, .int .i64 V] 23) := ⟨_, rfl⟩
  have B0 : Bt (fun _ => False) w w0 := by rw [hw0]; exact (Bt.refl _ _).alloc _
  have hcell : w0.cell? ⟨w.heap.size, 0, none⟩ = some (.int .i64 B) := by rw [hw0, World.cell?_alloc_at _ _ _ _ rfl]; rfl
  obtain ⟨bn, hbn⟩ : ∃ bn, B.toNat = bn := ⟨_, rfl⟩
  have hBb : B = (bn : Int) ∧ 16 ≤ bn ∧ bn ≤ 256 := by unfold okBlock at hB; omega
  have C1 : Calls Tryd.prog 12 #[.agg #[.int .i64 B, .int .i64 65536, .int .i64 V], .slice ah h.length ch] w0 fun e w1 => Hid (∃ xb, e = .returned (.tuple #[.pointer (some ⟨xb, 0, none⟩), .int .i64 0]) ∧ AllR FI w0 xb bn h x 0 (.slice none 0 0) w1 ∧ w1.cell? ⟨w.heap.size, 0, none⟩ = some (.int .i64 B)) := by
    have okc : okConf B 65536 V := ⟨hB, by omega, by omega, hV.1, hV.2⟩
    refine (ok.new w0.heap.size B 65536 V ah ch h w0 (ih.tab.bt B0 (fun x => x)) (Nat.lt_of_lt_of_le ih.tab.lt B0.size) (Nat.le_refl _) (ih.src.bt B0 (fun _ _ _ x => x)) ih.rng ih.len ih.cap ih.nil (by omega) (by omega) (by omega)).mono ?_
    intro e w1 hq
    unfold NewP at hq
    rw [if_pos okc, if_pos ht] at hq
    obtain ⟨xb, F, h1, h2, h3, h4⟩ := hq
    have hr := run_fresh (x := x) hB hV ht
    rw [hbn] at hr h2
    exact ⟨xb, h1, ⟨_, 0, ⟨F, h2, Lst.nil _ _ _ _, fun g hg => (by cases hg), h4⟩, hr.1, by simp [FlS.fresh], Nat.le_refl _⟩, h4.cell (fun x => x) hcell⟩
  have CP : ∀ (xb at_ n : Nat) (vo : Value) (wr : World), AllR FI w0 xb bn h x at_ vo wr → at_ < x.length → at_ + n ≤ x.length → ∀ (o' k c' : Nat), o' = ox + at_ → k = n → c' = cx - at_ → Calls Tryd.prog 13 #[.pointer (some ⟨xb, 0, none⟩), .slice (some ⟨bx, o', none⟩) k c'] wr fun e w' => e = .returned (.tuple #[.int .i64 (n : Nat), .int .i64 0]) ∧ Hid (AllR FI w0 xb bn h x (at_ + n) vo w') := by
    rintro xb at_ n vo wr ⟨s, P, g1, g2, g3, g4⟩ hlt hle o' k c' rfl rfl rfl
    have hp := run_push g2 g3 hle hx1 hs
    have hlen : ((x.drop at_).take k).length = k := by rw [List.length_take, List.length_drop]; omega
    have hbt : Bt (fun _ => False) w0 wr := by obtain ⟨_, _, _, _, b⟩ := g1; exact b
    have hXl : s.X.length ≤ 2000 := by rw [g3, List.length_take]; omega
    have hsrc : Src wr (some ⟨bx, ox + at_, none⟩) (ints ((x.drop at_).take k)) := Src.of_int (fun i v hi => by
      rw [List.getElem?_take] at hi
      split at hi
      · rw [List.getElem?_drop] at hi
        obtain ⟨b', o', e', q⟩ := (ix.bt B0).src.int hi
        simp at e'
        obtain ⟨rfl, rfl⟩ := e'
        have := hbt.cell (fun x => x) q
        rw [← Nat.add_assoc] at this
        exact this
      · cases hi)
    have := g1.push ok (run_small g2 hXl) (some ⟨bx, ox + at_, none⟩) (cx - at_) ((x.drop at_).take k) hsrc (fun v hv => ix.rng v (List.mem_of_mem_drop (List.mem_of_mem_take hv))) (by omega) (by have := ix.cap; omega) (fun e => by cases e) (fun b o e => by simp at e; obtain ⟨rfl, _⟩ := e; have := B0.size; omega)
    rw [hlen, hp.1, hp.2.1] at this
    refine this.mono ?_
    rintro e w' ⟨rfl, q⟩
    exact ⟨rfl, _, P, q.out, hp.2.2.1, hp.2.2.2, by omega⟩
  have CL : ∀ (xb at_ : Nat) (n : Int) (vo : Value) (wr : World), AllR FI w0 xb bn h x at_ vo wr → at_ ≤ x.length → 0 ≤ n → n ≤ 300 → Calls Tryd.prog 16 #[.pointer (some ⟨xb, 0, none⟩), .int .i64 n] wr fun e w' => Hid (∃ a c m, e = .returned (.slice a m c) ∧ ∃ v' w'', (Builtin.append_ #[24, 24] 24 #[vo, .slice a m c]).run Tryd.prog w' = .ok v' w'' ∧ AllR FI w0 xb bn h x at_ v' w'') := by
    rintro xb at_ n vo wr ⟨s, P, g1, g2, g3, g4⟩ hle h0 h1
    have hXl : s.X.length = at_ := by rw [g3, List.length_take]; omega
    have hp := run_pull g2 n
    have hw := s.whole_le
    have hc : s.can n ≤ s.whole - s.pulled := Nat.min_le_right _ _
    have hpl := g2.ok.pl
    refine (g1.pull ok (run_small g2 (by omega)) n (by omega) (by omega) (by rw [gen_len]; omega)).mono ?_
    intro e w' hq
    obtain ⟨a, c, m, he, v', w'', hr, hi⟩ := hq.out
    refine ⟨a, c, m, he, v', w'', hr, _, P + s.can n, ?_, hp.2, g3, ?_⟩
    · rw [gen_add, ← hp.1]; exact hi
    · rw [g2.pulled] at hc hpl; omega
  have CF : ∀ (xb : Nat) (vo : Value) (wr : World), AllR FI w0 xb bn h x x.length vo wr → Calls Tryd.prog 15 #[.pointer (some ⟨xb, 0, none⟩)] wr fun e w' => Hid (∃ R : Int, e = .returned (.tuple #[.int .i64 R, .int .i64 0]) ∧ ∃ s P, AllI FI w0 xb s vo (gen h x P) w' ∧ Run s bn h x P ∧ s.whole = upN bn x.length ∧ s.X.length = upN bn x.length ∧ P ≤ x.length) := by
    rintro xb vo wr ⟨s, P, g1, g2, g3, g4⟩
    rw [List.take_of_length_le (Nat.le_refl _)] at g3
    have hf := run_flush g2 g3 hx1
    have := g1.flush ok (run_small g2 (by rw [g3]; omega))
    rw [hf.1] at this
    refine this.mono ?_
    rintro e w' ⟨rfl, q⟩
    exact ⟨_, rfl, _, P, q.out, hf.2.1, hf.2.2.1, hf.2.2.2, g4⟩
  have hup : x.length ≤ upN bn x.length ∧ upN bn x.length < x.length + bn := by
    unfold upN
    have := Nat.mod_lt (bn - x.length % bn) (by omega : 0 < bn)
    omega
  have CL2 : ∀ (xb : Nat) (vo : Value) (wr : World), (∃ s P, AllI FI w0 xb s vo (gen h x P) wr ∧ Run s bn h x P ∧ s.whole = upN bn x.length ∧ s.X.length = upN bn x.length ∧ P ≤ x.length) → Calls Tryd.prog 16 #[.pointer (some ⟨xb, 0, none⟩), .int .i64 65536] wr fun e w' => Hid (∃ a c m, e = .returned (.slice a m c) ∧ ∃ a' c' w'', (Builtin.append_ #[24, 24] 24 #[vo, .slice a m c]).run Tryd.prog w' = .ok (.slice a' (upN bn x.length) c') w'' ∧ Lst w'' w0.heap.size 3 1 (.slice a' (upN bn x.length) c') (ints (gen h x (upN bn x.length))) ∧ Bt (fun _ => False) w0 w'') := by
    rintro xb vo wr ⟨s, P, g1, g2, g3, g4, g5⟩
    have hp := run_pull g2 65536
    have hcan : P + s.can 65536 = upN bn x.length := by
      have := g2.ok.pl
      unfold FlS.can
      rw [g2.pulled, g3] at *
      have e : (65536 : Int).toNat = 65536 := rfl
      rw [e]
      omega
    refine (g1.pull ok (run_small g2 (by omega)) 65536 (by omega) (by omega) (by rw [gen_len]; omega)).mono ?_
    intro e w' hq
    obtain ⟨a, c, m, he, v', w'', hr, F', q1, q2, q3, q4⟩ := hq.out
    rw [hp.1, ← gen_add, hcan] at q2
    obtain ⟨a', c', hv, _, _⟩ := q2.form
    rw [ints_len, gen_len] at hv
    subst hv
    exact ⟨a, c, m, he, a', c', w'', hr, q2, q4⟩
  have HK : Hid (∀ i, i < cuts.length → (∃ b o, ac = some ⟨b, o, none⟩ ∧ w0.cell? ⟨b, o + i, none⟩ = some (.int .i64 (at0 cuts i))) ∧ -9223372036854775808 ≤ at0 cuts i ∧ at0 cuts i ≤ 9223372036854775807) := fun i hi => ⟨(ic.bt B0).src.int (at0_some hi), ic.rng.at (at0_some hi)⟩
  have HBT : Hid (∀ xb at_ vo wr, AllR FI w0 xb bn h x at_ vo wr → Bt (fun _ => False) w0 wr ∧ (∃ a m c, vo = .slice a m c) ∧ wr.cell? ⟨w.heap.size, 0, none⟩ = some (.int .i64 B)) := by
    rintro xb at_ vo wr ⟨s, P, ⟨F, _, q2, _, q4⟩, _⟩
    obtain ⟨a, c, e, _, _⟩ := q2.form
    exact ⟨q4, ⟨_, _, _, e⟩, q4.cell (fun x => x) hcell⟩
  have HE : Hid (∀ a' c' w'', Lst w'' w0.heap.size 3 1 (.slice a' (upN bn x.length) c') (ints (gen h x (upN bn x.length))) → Bt (fun _ => False) w0 w'' → AllQ w h x (upN bn x.length) (.returned (.tuple #[.slice a' (upN bn x.length) c', .bool true])) w'') := fun a' c' w'' q1 q2 => ⟨_, rfl, q1.mono B0.size, B0.trans q2 (fun _ _ x => x)⟩
  have HBC : Hid (∀ w'', Bt (fun _ => False) w0 w'' → w''.cell? ⟨w.heap.size, 0, none⟩ = some (.int .i64 B)) := fun w'' b => b.cell (fun x => x) hcell
  rw [hbn]
  have hcap := ix.cap
  have hclen := ic.len
  generalize upN bn x.length = N at *
  generalize hxl : x.length = xn at *
  generalize cuts.length = cn at *
  generalize h.length = hn at *
  have HW : Hid (w0 = w.alloc (.cells #[.int .i64 B, .int .i64 65536, .int .i64 V] 23)) := hw0
  have C1w : Calls Tryd.prog 12 #[.agg #[.int .i64 B, .int .i64 65536, .int .i64 V], .slice ah hn ch] (w.alloc (.cells #[.int .i64 B, .int .i64 65536, .int .i64 V] 23)) fun e w1 => Hid (∃ xb, e = .returned (.tuple #[.pointer (some ⟨xb, 0, none⟩), .int .i64 0]) ∧ AllR FI w0 xb bn h x 0 (.slice none 0 0) w1 ∧ w1.cell? ⟨w.heap.size, 0, none⟩ = some (.int .i64 B)) := by rw [← HW.out]; exact C1
  clear C1
  obtain ⟨hBi, _, _⟩ := hBb
  subst hBi
  clear ih ix ic hxc hcell hw0 B0 hbn
  go_enter Tryd.func8, Tryd.ntmps8
  go_wp2_with (go_at_call 12; refine C1w.mono ?_; rintro e w1 H1; obtain ⟨xb, rfl, HR, hbc⟩ := H1.out; have HR0 : Hid (AllR FI w0 xb bn h x 0 (.slice none 0 0) w1) := HR; clear H1 HR)
  go_loopw [12, 13, 14] (fun to ta ti wr => ∃ (i at_ : Nat) (vo : Value), vo = to ∧ ta = .int .i64 at_ ∧ ti = .int .i64 i ∧ at_ ≤ xn ∧ (at_ < xn → i ≤ cn) ∧ i ≤ cn + 1 ∧ Hid (AllR FI w0 xb bn h x at_ vo wr)) (fun _ _ ti _ => cn + 1 - (intOf ti).toNat)
  case atStart => exact ⟨0, 0, _, rfl, rfl, rfl, by omega, fun _ => by omega, by omega, HR0.out⟩
  case round =>
    obtain ⟨i, at_, vo, hvo, rfl, rfl, hat, hai, hi1, HA⟩ := hrel
    subst hvo
    by_cases hlt : at_ < xn
    · have hlt1 : (at_ : Int) < (xn : Int) := by omega
      have hi := hai hlt
      clear hai
      by_cases hic : i < cn
      · have hic1 : (i : Int) < (cn : Int) := by omega
        obtain ⟨⟨b, o, rfl, cu⟩, r0, r1⟩ := HK.out i hic
        have cu1 := (HBT.out _ _ _ _ HA.out).1.cell (fun x => x) cu
        generalize at0 cuts i = ci at *
        have CKa := fun w => pick_keep ci 100 w r0 r1 (by omega) (by omega)
        have hp := pickv_range ci 100 (by omega)
        obtain ⟨q, hq⟩ : ∃ q, ci.tdiv 100 = q := ⟨_, rfl⟩
        have hqr : -9223372036854775808 ≤ q ∧ q ≤ 9223372036854775807 := by
          rw [← hq]
          by_cases h0 : 0 ≤ ci
          · rw [Int.tdiv_eq_ediv_of_nonneg h0]; omega
          · have e : ci.tdiv 100 = -((-ci) / 100) := by
              rw [← Int.tdiv_eq_ediv_of_nonneg (by omega : 0 ≤ -ci), Int.neg_tdiv, Int.neg_neg]
            rw [e]; omega
        have CKb := fun w => pick_keep q 300 w hqr.1 hqr.2 (by omega) (by omega)
        have hr3 := pickv_range q 300 (by omega)
        generalize pickv ci 100 = p at *
        generalize pickv q 300 = r at *
        obtain ⟨pn, rfl⟩ : ∃ pn : Nat, p = pn := ⟨p.toNat, by omega⟩
        by_cases hpn : (pn : Int) < (xn : Int) - (at_ : Int)
        · have hpn1 : pn < xn - at_ := by omega
          obtain ⟨a2, m2, c2, rfl⟩ := (HBT.out xb at_ vo wr HA.out).2.1
          go_wp2_with (first
            | (go_at_call 11; first | (with_reducible refine (CKa _).mono ?_; rintro e w' ⟨rfl, hw⟩; subst w') | (with_reducible refine (CKb _).mono ?_; rintro e w' ⟨rfl, hw⟩; subst w'))
            | (go_at_call 13; refine (CP xb at_ (pn) _ wr HA.out hlt (by omega) _ _ _ (by first | rfl | omega) (by omega) (by first | rfl | omega)).mono ?_; rintro e w2 ⟨rfl, H2⟩; have cw := (HBT.out _ _ _ _ H2.out).1.cell (fun x => x) cu)
            | (go_at_call 16; refine (CL xb (at_ + (pn)) _ _ w2 H2.out (by omega) (by omega) (by omega)).mono ?_; rintro e w3 H3; obtain ⟨a3, c3, m3, rfl, v4, w4, hr4, q4⟩ := H3.out; have H4 : Hid (AllR FI w0 xb bn h x (at_ + (pn)) v4 w4) := q4; clear H3 q4)
            | (at_builtin; refine wpList_append_run rfl _ _ 24 24 rfl _ _ _ _ rfl rfl hr4 ?_))
          go_roundw
          case rel => exact ⟨i + 1, at_ + (pn), v4, rfl, by go_num, by go_num, by omega, fun q => by omega, by omega, H4.out⟩
          case measure => simp [intOf]; omega
        · have hsub : ((xn - at_ : Nat) : Int) = (xn : Int) - (at_ : Int) := by omega
          obtain ⟨a2, m2, c2, rfl⟩ := (HBT.out xb at_ vo wr HA.out).2.1
          go_wp2_with (first
            | (go_at_call 11; first | (with_reducible refine (CKa _).mono ?_; rintro e w' ⟨rfl, hw⟩; subst w') | (with_reducible refine (CKb _).mono ?_; rintro e w' ⟨rfl, hw⟩; subst w'))
            | (go_at_call 13; refine (CP xb at_ (xn - at_) _ wr HA.out hlt (by omega) _ _ _ (by first | rfl | omega) (by omega) (by first | rfl | omega)).mono ?_; rintro e w2 ⟨rfl, H2⟩; have cw := (HBT.out _ _ _ _ H2.out).1.cell (fun x => x) cu)
            | (go_at_call 16; refine (CL xb (at_ + (xn - at_)) _ _ w2 H2.out (by omega) (by omega) (by omega)).mono ?_; rintro e w3 H3; obtain ⟨a3, c3, m3, rfl, v4, w4, hr4, q4⟩ := H3.out; have H4 : Hid (AllR FI w0 xb bn h x (at_ + (xn - at_)) v4 w4) := q4; clear H3 q4)
            | (at_builtin; refine wpList_append_run rfl _ _ 24 24 rfl _ _ _ _ rfl rfl hr4 ?_))
          go_roundw
          case rel => exact ⟨i + 1, at_ + (xn - at_), v4, rfl, by go_num, by go_num, by omega, fun q => by omega, by omega, H4.out⟩
          case measure => simp [intOf]; omega
      · have hic1 : ¬ (i : Int) < (cn : Int) := by omega
        obtain ⟨a2, m2, c2, rfl⟩ := (HBT.out xb at_ vo wr HA.out).2.1
        have hsub : ((xn - at_ : Nat) : Int) = (xn : Int) - (at_ : Int) := by omega
        go_wp2_with (go_at_call 13; refine (CP xb at_ (xn - at_) _ wr HA.out hlt (by omega) _ _ _ (by first | rfl | omega) (by omega) (by first | rfl | omega)).mono ?_; rintro e w2 ⟨rfl, H2⟩)
        go_roundw
        case rel => exact ⟨i + 1, at_ + (xn - at_), _, rfl, by go_num, by go_num, by omega, fun q => by omega, by omega, H2.out⟩
        case measure => simp [intOf]; omega
    · obtain rfl : at_ = xn := by omega
      have hup1 : (at_ : Int) ≤ (N : Int) := by omega
      have hup2 : (N : Int) < (at_ : Int) + (bn : Int) := by omega
      obtain ⟨a2, m2, c2, rfl⟩ := (HBT.out xb at_ vo wr HA.out).2.1
      go_wp2_with (first
        | (go_at_call 15; refine (CF xb _ wr HA.out).mono ?_; rintro e w2 H2; obtain ⟨R, rfl, q2⟩ := H2.out; have H3 : Hid (∃ s P, AllI FI w0 xb s (.slice a2 m2 c2) (gen h x P) w2 ∧ Run s bn h x P ∧ s.whole = N ∧ s.X.length = N ∧ P ≤ at_) := q2; clear H2 q2)
        | (go_at_call 16; refine (CL2 xb _ w2 H3.out).mono ?_; rintro e w3 H4; obtain ⟨a3, c3, m3, rfl, a4, c4, w4, hr4, q4⟩ := H4.out; have H5 : Hid (Lst w4 w0.heap.size 3 1 (.slice a4 N c4) (ints (gen h x N)) ∧ Bt (fun _ => False) w0 w4) := q4; clear H4 q4; have hbc4 := HBC.out w4 H5.out.2)
        | (at_builtin; refine wpList_append_run rfl _ _ 24 24 rfl _ _ _ _ rfl rfl hr4 ?_))
      go_quiet (fail)
      go_wp2
      go_ret2
      exact HE.out a4 c4 _ (H5.out.1.bt ((Bt.refl (fun _ => False) w4).drewN _) (fun _ _ x => x)) (H5.out.2.drewN _)
end Go.Proofs.YtddpcjgekfmhkabDoor

/- Unmoved: the mathematics of one swap, and the calls of a turn. -/
namespace Go.Proofs.YtddpcjgekfmhkabDoor
open Go.RowKit
set_option linter.unusedSimpArgs false
set_option linter.unusedVariables false

/-- A filter in which taps k follow h from place S on. -/
structure Sw (s : FlS) (bn S : Nat) (h k x : List Int) : Prop where
  ok : s.Ok
  B : s.B = bn
  R : s.R = 65536
  parts : s.parts = [(0, h), (S, k)]
  pulled : s.pulled = 0
theorem sw_y {s : FlS} {bn S : Nat} {h k x : List Int} (r : Sw s bn S h k x) (hX : ∀ i, at0 s.X i = at0 x i) (n : Nat) : s.y n = if S ≤ n then yv k x n else yv h x n := by
  unfold FlS.y yv
  have e : tapsAt s.parts n [] = if S ≤ n then k else h := by
    rw [r.parts]
    unfold tapsAt tapsAt tapsAt
    simp
  rw [e]
  split
  · exact flt_congr (fun i _ => hX i)
  · exact flt_congr (fun i _ => hX i)

/-- The states of a turn. -/
theorem turn_states {B V : Int} {bn vn n : Nat} {h k l : List Int} (hB : okBlock B) (hV : 1 ≤ V ∧ V ≤ 64) (hbn : B.toNat = bn) (hvn : V.toNat = vn) (hh : okTaps h) (hk : okTaps k) (hn : n < l.length) (hl : l.length ≤ 1000) (hs : ∀ v ∈ l, okSample v) :
    ∃ s1 s2 s3 s4 : FlS, ∃ S : Nat, (FlS.fresh bn 65536 vn h).Small ∧ s1.Small ∧ s2.Small ∧ s3.Small ∧ s4.Small ∧ pushS (FlS.fresh bn 65536 vn h) (l.take n) = s1 ∧ pushE (FlS.fresh bn 65536 vn h) (l.take n) = 0 ∧ swapS s1 k = s2 ∧ swapR s1 k = (S : Nat) ∧ swapE s1 k = 0 ∧
      pushS s2 (l.drop n) = s3 ∧ pushE s2 (l.drop n) = 0 ∧ flushS s3 = s4 ∧ flushE s3 = 0 ∧ s4.can 65536 = upN bn l.length ∧ n < S ∧ S % bn = 0 ∧ S ≤ 100000 ∧
      ∀ i, i < upN bn l.length → at0 (s4.outs (upN bn l.length)) i = if S ≤ i then yv k l i else yv h l i := by
  have hb16 : 16 ≤ bn ∧ bn ≤ 256 := by unfold okBlock at hB; omega
  obtain ⟨r0, x0⟩ := run_fresh (x := l) hB hV hh
  rw [hbn, hvn] at r0 x0
  have p1 := run_push (k := 0) (n := n) r0 (by rw [x0]; simp) (by omega) hl hs
  rw [List.drop_zero, Nat.zero_add] at p1
  obtain ⟨_, e1, r1, x1⟩ := p1
  generalize hs1 : pushS (FlS.fresh bn 65536 vn h) (l.take n) = s1 at *
  have hx1l : s1.X.length = n := by rw [x1, List.length_take]; omega
  -- the swap
  have hW1 : s1.W = vn := by rw [← hs1]; unfold pushS; split <;> rfl
  have hpend : ¬ 0 ≤ s1.pending := by
    unfold FlS.pending FlS.from
    rw [r1.parts, hx1l]
    simp
  have hsw : swapS s1 k = s1.swapped k ∧ swapR s1 k = (s1.place : Nat) ∧ swapE s1 k = 0 := by
    unfold swapS swapR swapE
    rw [if_neg hpend, if_neg hpend, if_neg hpend, if_pos hk, if_pos hk, if_pos hk]; exact ⟨rfl, rfl, rfl⟩
  have hplt := r1.ok.place_lt
  have ok2 := (r1.ok.swap k).1
  rw [hsw.1] at ok2
  have hSm : s1.place % bn = 0 := by unfold FlS.place; rw [r1.B]; exact Nat.mul_mod_left _ _
  have hSle : s1.place ≤ 100000 := by
    have h1 := r1.ok.w1
    unfold FlS.place
    rw [r1.B, hx1l, Nat.add_mul]
    have h2 := Nat.div_mul_le_self n bn
    have h3 : s1.W * bn ≤ 64 * 256 := Nat.mul_le_mul h1 hb16.2
    omega
  -- the rest
  have hall : ∀ v ∈ l.drop n, okSample v := fun v hv => hs v (List.mem_of_mem_drop hv)
  have hdl : (l.drop n).length = l.length - n := List.length_drop
  have hN2 : pushN (s1.swapped k) (l.drop n) = l.length - n := by
    unfold pushN FlS.room
    show min (l.drop n).length (s1.R - (s1.X.length - s1.pulled)) = _
    rw [hdl, r1.R, hx1l]; omega
  have hp3 : pushS (s1.swapped k) (l.drop n) = (s1.swapped k).more (l.drop n) ∧ pushE (s1.swapped k) (l.drop n) = 0 := by
    unfold pushS pushE
    rw [if_pos hall, if_pos hall, hN2, List.take_of_length_le (by omega)]; exact ⟨rfl, rfl⟩
  have ok3 := (ok2.push (l.drop n)).1
  rw [hp3.1] at ok3
  have hX3 : ((s1.swapped k).more (l.drop n)).X = l := by
    show s1.X ++ l.drop n = l
    rw [x1, List.take_append_drop]
  generalize hs3 : (s1.swapped k).more (l.drop n) = s3 at *
  have hB3 : s3.B = bn := by rw [← hs3]; exact r1.B
  have hR3 : s3.R = 65536 := by rw [← hs3]; exact r1.R
  have hP3 : s3.parts = [(0, h), (s1.place, k)] := by rw [← hs3]; show s1.parts ++ [(s1.place, k)] = _; rw [r1.parts]; rfl
  have hU3 : s3.pulled = 0 := by rw [← hs3]; exact r1.pulled
  -- flush
  have hm : s3.missing < s3.B := Nat.mod_lt _ ok3.B0
  have hroom : ¬ s3.room < s3.missing := by
    unfold FlS.room
    rw [hR3, hX3]; omega
  have hf : flushS s3 = s3.more (List.replicate s3.missing 0) ∧ flushE s3 = 0 := by
    unfold flushS flushE
    rw [if_neg hroom, if_neg hroom]; exact ⟨rfl, rfl⟩
  have ok4 := ok3.flush.1
  rw [hf.1] at ok4
  have hX4 : (s3.more (List.replicate s3.missing 0)).X = l ++ List.replicate s3.missing 0 := by
    show s3.X ++ _ = _; rw [hX3]
  have hlen4 : (s3.more (List.replicate s3.missing 0)).X.length = upN bn l.length := by
    rw [hX4, List.length_append, List.length_replicate]
    unfold FlS.missing upN
    rw [hX3, hB3]
  have sw4 : Sw (s3.more (List.replicate s3.missing 0)) bn s1.place h k l := ⟨ok4, hB3, hR3, hP3, hU3⟩
  have hy4 := sw_y sw4 (fun i => by rw [hX4]; exact at0_zeros l _ i)
  generalize hs4 : s3.more (List.replicate s3.missing 0) = s4 at *
  have hup : upN bn l.length ≤ 1300 := by
    unfold upN
    have := Nat.mod_lt (bn - l.length % bn) (by omega : 0 < bn)
    omega
  have hwh : s4.whole = upN bn l.length := by
    unfold FlS.whole
    rw [hlen4, sw4.B]
    have h1 := Nat.div_add_mod (upN bn l.length) bn
    rw [upN_mod (by omega)] at h1
    rw [Nat.mul_comm]; omega
  refine ⟨s1, s1.swapped k, s3, s4, s1.place, ⟨r0.ok, by rw [x0]; simp, by rw [r0.parts]; simp⟩, ⟨r1.ok, by omega, by rw [r1.parts]; simp⟩, ⟨ok2, by show s1.X.length ≤ _; omega, by show (s1.parts ++ _).length ≤ _; rw [r1.parts]; simp⟩, ⟨ok3, by rw [hX3]; omega, by rw [hP3]; simp⟩, ⟨ok4, by omega, by rw [sw4.parts]; simp⟩, rfl, e1, hsw.1, hsw.2.1, hsw.2.2, hp3.1, hp3.2, hf.1, hf.2, ?_, by omega, hSm, hSle, fun i hi => ?_⟩
  · unfold FlS.can
    rw [hwh, sw4.pulled]
    have e : (65536 : Int).toNat = 65536 := rfl
    rw [e]; omega
  · have e : at0 (s4.outs (upN bn l.length)) i = s4.y (s4.pulled + i) := by
      unfold at0 FlS.outs
      rw [List.getD_eq_getElem?_getD, List.getElem?_map, List.getElem?_range hi]; rfl
    rw [e, sw4.pulled, Nat.zero_add, hy4 i]

theorem AllI.swap {FI : Nat → Nat → FlS → Res} {w wr : World} {xb : Nat} {s : FlS} {vo : Value} {ol : List Int} (ok : FltOk FI) (h : AllI FI w xb s vo ol wr) (hs : s.Small) (a : Option Addr) (c : Nat) (l : List Int) (src : Src wr a (ints l)) (hr : Rng l) (hl : l.length ≤ 1048576) (hlc : l.length ≤ c) (hnil : a = none → c = 0) (hb : ∀ b o, a = some ⟨b, o, none⟩ → b < w.heap.size) :
    Calls Tryd.prog 14 #[.pointer (some ⟨xb, 0, none⟩), .slice a l.length c] wr fun e w' => e = .returned (.tuple #[.int .i64 (swapR s l), .int .i64 (swapE s l)]) ∧ Hid (AllI FI w xb (swapS s l) vo ol w') := by
  obtain ⟨F, h1, h2, h3, h4⟩ := h
  have hF : ∀ k, F k → w.heap.size ≤ k := fun k hk => ((ok.fr _ _ _).lt h1 hk).1
  refine (ok.swap h1 hs a c l src hr hl hlc hnil (fun b o e q => by have := hF b q; have := hb b o e; omega)).mono ?_
  rintro e w' ⟨rfl, F', q1, q2⟩
  exact ⟨rfl, F', q1, h2.bt q2.bt (fun g hg e => h3 g hg e), fun g hg => q2.out (h2.ge hg).2 (h3 g hg), h4.trans q2.bt (fun k hk e => by have := hF k e; omega)⟩
/-- A list of the law's own: where it lies. -/
structure OwnL (w : World) (b o c : Nat) (l : List Int) : Prop where
  tab : Tab w
  src : Src w (some ⟨b, o, none⟩) (ints l)
  rng : Rng l
  len : l.length ≤ 1048576
  cap : l.length ≤ c
  lt : b < w.heap.size
theorem OwnL.bt {w w' : World} {b o c : Nat} {l : List Int} (h : OwnL w b o c l) (k : Bt (fun _ => False) w w') : OwnL w' b o c l := ⟨h.tab.bt k (fun x => x), h.src.bt k (fun _ _ _ x => x), h.rng, h.len, h.cap, Nat.lt_of_lt_of_le h.lt k.size⟩
end Go.Proofs.YtddpcjgekfmhkabDoor

/- Unmoved: the calls of a turn. -/
namespace Go.Proofs.YtddpcjgekfmhkabDoor
open Go.RowKit
set_option linter.unusedSimpArgs false
set_option linter.unusedVariables false

theorem norm_le {h : Nat → Int} {M : Int} : ∀ L : Nat, (∀ i, i < L → -M ≤ h i ∧ h i ≤ M) → norm h L ≤ L * M
  | 0, _ => by unfold norm; simp [sm]
  | L + 1, e => by
    have ih := norm_le L (fun i hi => e i (by omega))
    have hl := e L (by omega)
    have e1 : ((L + 1 : Nat) : Int) * M = L * M + M := by rw [Int.natCast_succ, Int.add_mul, Int.one_mul]
    rw [e1, norm_succ]
    split <;> omega
theorem small_taps {l : List Int} (h0 : 1 ≤ l.length) (h1 : l.length ≤ 1000) (hv : ∀ x ∈ l, -30000 ≤ x ∧ x ≤ 30000) : okTaps l := by
  have := norm_le (h := at0 l) (M := 30000) l.length (fun i hi => hv _ (List.mem_of_getElem? (at0_some hi)))
  exact ⟨h0, by omega, by unfold lnorm; omega⟩

/-- A small list of the law's own, out of small. -/
def SmallT (w : World) (most : Nat) (e : Ending) (w' : World) : Prop := SmallQ w most e w' ∧ Tab w'
theorem SmallQ.tab {w w' : World} {most : Nat} {e : Ending} (h : SmallQ w most e w') (t : Tab w) : SmallT w most e w' := by
  have h0 := h
  obtain ⟨a, c, l, he, hL, h1, h2, h3, h4⟩ := h
  exact ⟨h0, t.bt h4 (fun x => x)⟩
theorem SmallT.own {w w' : World} {most : Nat} {e : Ending} (h : SmallT w most e w') (hm : most ≤ 1000) : ∃ b o c l, e = .returned (.slice (some ⟨b, o, none⟩) (List.length l) c) ∧ OwnL w' b o c l ∧ 1 ≤ l.length ∧ l.length ≤ most ∧ (∀ x ∈ l, -30000 ≤ x ∧ x ≤ 30000) ∧ Bt (fun _ => False) w w' := by
  obtain ⟨⟨a, c, l, he, hL, h1, h2, h3, h4⟩, ht⟩ := h
  obtain ⟨a', c', hv, hc, hs⟩ := hL.form
  rw [ints_len] at hv hc
  simp only [Value.slice.injEq, true_and] at hv
  obtain ⟨rfl, rfl⟩ := hv
  obtain ⟨b, o, rfl, hcell⟩ := hs (by rw [ints_len]; omega)
  have hlt : b < w'.heap.size := by
    obtain ⟨b', o', e', q⟩ := hs.int (at0_some (l := l) (i := 0) (by omega))
    simp at e'
    obtain ⟨rfl, rfl⟩ := e'
    exact World.block_lt_of_cell? w' _ q
  exact ⟨b, o, c, l, he, ⟨ht, hs, fun x hx => by have := h3 x hx; omega, by omega, hc, hlt⟩, h1, h2, h3, h4⟩
theorem OwnL.inl {w : World} {b o c : Nat} {l : List Int} (h : OwnL w b o c l) : InL w (some ⟨b, o, none⟩) c l := ⟨h.tab, h.src, h.rng, h.len, h.cap, fun e => by cases e⟩

/-- all with no cuts, for lists of the law's own. -/
theorem all_at {FI : Nat → Nat → FlS → Res} (ok : FltOk FI) (w : World) (B V : Int) (hB : okBlock B) (hV : 1 ≤ V ∧ V ≤ 64) {bh oh ch bl ol cl : Nat} {h l : List Int} (hh : OwnL w bh oh ch h) (hl : OwnL w bl ol cl l) (h0 : 1 ≤ h.length) (h1 : h.length ≤ 1000) (hv : ∀ x ∈ h, -30000 ≤ x ∧ x ≤ 30000) (l0 : 1 ≤ l.length) (l1 : l.length ≤ 1000) (lv : ∀ x ∈ l, -30000 ≤ x ∧ x ≤ 30000) :
    Calls Tryd.prog 8 #[.agg #[.int .i64 B, .int .i64 65536, .int .i64 V], .slice (some ⟨bh, oh, none⟩) h.length ch, .slice (some ⟨bl, ol, none⟩) l.length cl, .slice none 0 0] w fun e w' => Hid (∃ b o c, e = .returned (.tuple #[.slice (some ⟨b, o, none⟩) (upN B.toNat l.length) c, .bool true]) ∧ (∀ i, i < upN B.toNat l.length → w'.cell? ⟨b, o + i, none⟩ = some (.int .i64 (yv h l i))) ∧ Bt (fun _ => False) w w') := by
  have := all_law ok w B V hB hV (some ⟨bh, oh, none⟩) (some ⟨bl, ol, none⟩) none ch cl 0 h l [] hh.inl hl.inl ⟨hh.tab, src_none _ _, fun x hx => by simp at hx, by simp, by simp, fun _ => rfl⟩ (small_taps h0 h1 hv) (fun v q => by have := lv v q; exact ⟨by omega, by omega⟩) l0 l1
  refine this.mono ?_
  rintro e w' ⟨vo, he, hL, b⟩
  obtain ⟨a, c, rfl, _, hs⟩ := hL.form
  rw [ints_len, gen_len] at he
  have hN : 0 < upN B.toNat l.length := by unfold upN; omega
  obtain ⟨bb, o, rfl, _⟩ := hs (by rw [ints_len, gen_len]; exact hN)
  refine ⟨bb, o, c, he, fun i hi => ?_, b⟩
  obtain ⟨b', o', e', q⟩ := hs.int (at0_some (l := gen h l (upN B.toNat l.length)) (i := i) (by rw [gen_len]; exact hi))
  simp at e'
  obtain ⟨rfl, rfl⟩ := e'
  rw [q, gen_at h l _ i hi]

/-- The calls of a turn. -/
theorem turn_calls {FI : Nat → Nat → FlS → Res} (ok : FltOk FI) (wr : World) (B V : Int) (hB : okBlock B) (hV : 1 ≤ V ∧ V ≤ 64) {bh oh ch bk ok' ck bl ol cl : Nat} {h k l : List Int} (hh : OwnL wr bh oh ch h) (hk : OwnL wr bk ok' ck k) (hl : OwnL wr bl ol cl l) (th : okTaps h) (tk : okTaps k) (l1 : l.length ≤ 1000) (lv : ∀ x ∈ l, -30000 ≤ x ∧ x ≤ 30000) (n : Nat) (hn : n < l.length) :
    ∃ (S : Nat) (M0 M1 M2 M3 M4 : Nat → World → Prop), n < S ∧ S % B.toNat = 0 ∧ S ≤ 100000 ∧
      (Calls Tryd.prog 12 #[.agg #[.int .i64 B, .int .i64 65536, .int .i64 V], .slice (some ⟨bh, oh, none⟩) h.length ch] wr fun e w1 => Hid (∃ xb, e = .returned (.tuple #[.pointer (some ⟨xb, 0, none⟩), .int .i64 0]) ∧ M0 xb w1)) ∧
      (∀ xb w1, M0 xb w1 → Calls Tryd.prog 13 #[.pointer (some ⟨xb, 0, none⟩), .slice (some ⟨bl, ol, none⟩) n cl] w1 fun e w2 => Hid (∃ R : Int, e = .returned (.tuple #[.int .i64 R, .int .i64 0]) ∧ M1 xb w2)) ∧
      (∀ xb w1, M1 xb w1 → Calls Tryd.prog 14 #[.pointer (some ⟨xb, 0, none⟩), .slice (some ⟨bk, ok', none⟩) k.length ck] w1 fun e w2 => e = .returned (.tuple #[.int .i64 (S : Nat), .int .i64 0]) ∧ Hid (M2 xb w2)) ∧
      (∀ xb w1, M2 xb w1 → ∀ o' n' c' : Nat, o' = ol + n → n' = l.length - n → c' = cl - n → Calls Tryd.prog 13 #[.pointer (some ⟨xb, 0, none⟩), .slice (some ⟨bl, o', none⟩) n' c'] w1 fun e w2 => Hid (∃ R : Int, e = .returned (.tuple #[.int .i64 R, .int .i64 0]) ∧ M3 xb w2)) ∧
      (∀ xb w1, M3 xb w1 → Calls Tryd.prog 15 #[.pointer (some ⟨xb, 0, none⟩)] w1 fun e w2 => Hid (∃ R : Int, e = .returned (.tuple #[.int .i64 R, .int .i64 0]) ∧ M4 xb w2)) ∧
      (∀ xb w1, M4 xb w1 → Calls Tryd.prog 16 #[.pointer (some ⟨xb, 0, none⟩), .int .i64 65536] w1 fun e w2 => Hid (∃ lb, e = .returned (.slice (some ⟨lb, 0, none⟩) (upN B.toNat l.length) (upN B.toNat l.length)) ∧ (∀ i, i < upN B.toNat l.length → w2.cell? ⟨lb, i, none⟩ = some (.int .i64 (if S ≤ i then yv k l i else yv h l i))) ∧ Bt (fun _ => False) wr w2)) := by
  have hsm : ∀ v ∈ l, okSample v := fun v q => by have := lv v q; exact ⟨by omega, by omega⟩
  obtain ⟨s1, s2, s3, s4, S, z0, z1, z2, z3, z4, e1, e2, e3, e4, e5, e6, e7, e8, e9, e10, e11, e12, e13, e14⟩ := turn_states (vn := V.toNat) hB hV rfl rfl th tk hn l1 hsm
  have hbt : ∀ {xb s w'}, AllI FI wr xb s (.slice none 0 0) [] w' → Bt (fun _ => False) wr w' := fun q => by obtain ⟨_, _, _, _, b⟩ := q; exact b
  have hlt : (l.take n).length = n := by rw [List.length_take]; omega
  have hld : (l.drop n).length = l.length - n := List.length_drop
  refine ⟨S, fun xb w' => AllI FI wr xb (FlS.fresh B.toNat 65536 V.toNat h) (.slice none 0 0) [] w', fun xb w' => AllI FI wr xb s1 (.slice none 0 0) [] w', fun xb w' => AllI FI wr xb s2 (.slice none 0 0) [] w', fun xb w' => AllI FI wr xb s3 (.slice none 0 0) [] w', fun xb w' => AllI FI wr xb s4 (.slice none 0 0) [] w', e11, e12, e13, ?_, ?_, ?_, ?_, ?_, ?_⟩
  · have okc : okConf B 65536 V := ⟨hB, by unfold okBlock at hB; omega, by omega, hV.1, hV.2⟩
    refine (ok.new wr.heap.size B 65536 V (some ⟨bh, oh, none⟩) ch h wr hh.tab hh.tab.lt (Nat.le_refl _) hh.src hh.rng hh.len hh.cap (fun e => by cases e) (by unfold okBlock at hB; omega) (by omega) (by omega)).mono ?_
    intro e w1 hq
    unfold NewP at hq
    rw [if_pos okc, if_pos th] at hq
    obtain ⟨xb, F, q1, q2, q3, q4⟩ := hq
    exact ⟨xb, q1, F, q2, Lst.nil _ _ _ _, fun g hg => (by cases hg), q4⟩
  · intro xb w1 m
    have hs : Src w1 (some ⟨bl, ol, none⟩) (ints (l.take n)) := by rw [ints_take]; exact (hl.src.bt (hbt m) (fun _ _ _ x => x)).take (ints_el l) n
    have := m.push ok z0 (some ⟨bl, ol, none⟩) cl (l.take n) hs (fun v hv => hl.rng v (List.mem_of_mem_take hv)) (by omega) (by have := hl.cap; omega) (fun e => by cases e) (fun b o e => by simp at e; obtain ⟨rfl, _⟩ := e; exact hl.lt)
    rw [hlt, e2, e1] at this
    refine this.mono ?_
    rintro e w2 ⟨rfl, q⟩
    exact ⟨_, rfl, q.out⟩
  · intro xb w1 m
    have := m.swap ok z1 (some ⟨bk, ok', none⟩) ck k (hk.src.bt (hbt m) (fun _ _ _ x => x)) hk.rng hk.len hk.cap (fun e => by cases e) (fun b o e => by simp at e; obtain ⟨rfl, _⟩ := e; exact hk.lt)
    rw [e3, e4, e5] at this
    exact this
  · rintro xb w1 m o' n' c' rfl rfl rfl
    have hs : Src w1 (some ⟨bl, ol + n, none⟩) (ints (l.drop n)) := Src.of_int (fun i v hi => by
      rw [List.getElem?_drop] at hi
      obtain ⟨b', o', e', q⟩ := hl.src.int hi
      simp at e'
      obtain ⟨rfl, rfl⟩ := e'
      have := (hbt m).cell (fun x => x) q
      rw [← Nat.add_assoc] at this
      exact this)
    have := m.push ok z2 (some ⟨bl, ol + n, none⟩) (cl - n) (l.drop n) hs (fun v hv => hl.rng v (List.mem_of_mem_drop hv)) (by omega) (by have := hl.cap; omega) (fun e => by cases e) (fun b o e => by simp at e; obtain ⟨rfl, _⟩ := e; exact hl.lt)
    rw [hld, e6, e7] at this
    refine this.mono ?_
    rintro e w2 ⟨rfl, q⟩
    exact ⟨_, rfl, q.out⟩
  · intro xb w1 m
    have := m.flush ok z3
    rw [e8, e9] at this
    refine this.mono ?_
    rintro e w2 ⟨rfl, q⟩
    exact ⟨_, rfl, q.out⟩
  · rintro xb w1 ⟨F, q1, q2, q3, q4⟩
    have hN : 0 < upN B.toNat l.length := by unfold upN; omega
    refine (ok.pull q1 z4 65536 (by omega) (by omega)).mono ?_
    rintro e w2 ⟨ao, lb, g1, g2, g3, g4, g5, F', g6, g7, g8⟩
    rw [e10] at g1 g2 g4
    obtain rfl := g2 hN
    have hF : ∀ k, F k → wr.heap.size ≤ k := fun k hk => ((ok.fr _ _ _).lt q1 hk).1
    refine ⟨lb, g1, fun i hi => ?_, q4.trans g7.bt (fun k hk e => by have := hF k e; omega)⟩
    rw [(g4 i hi).1, e14 i hi]
end Go.Proofs.YtddpcjgekfmhkabDoor
