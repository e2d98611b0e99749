/- Texts joined: Fj Fk Fw Bx Fx Mg. -/
import Derived.Test.YtddpcjgekfmhkabDoorM05
import Derived.Test.YtddpcjgekfmhkabDoorChecked
import Derived.Test.YtddpcjgekfmhkabDoorM02
import Derived.WalkKit
import Derived.Laws.Bits64b
import Derived.Test.YtddpcjgekfmhkabDoorM03

/- The document's filter: Swap, NewFilter. -/
namespace Go.Proofs.YtddpcjgekfmhkabDoor
open Go.RowKit
set_option linter.unusedSimpArgs false
set_option linter.unusedVariables false

/-- What Swap tells and leaves. -/
def swapS (s : FlS) (l : List Int) : FlS := if 0 ≤ s.pending then s else if okTaps l then s.swapped l else s
def swapR (s : FlS) (l : List Int) : Int := if 0 ≤ s.pending then 0 else if okTaps l then s.place else 0
def swapE (s : FlS) (l : List Int) : Int := if 0 ≤ s.pending then 6 else if okTaps l then 0 else 4

theorem bool_call {prog : Program} {f : FuncId} {args : Array Value} {w : World} {P : Prop} [Decidable P] (h : Calls prog f args w fun e w' => BoolIs P e ∧ w' = w) : Calls prog f args w fun e w' => e = .returned (.bool (decide P)) ∧ w' = w := by
  refine h.mono ?_
  rintro e w' ⟨⟨ok, rfl, hk⟩, hw⟩
  refine ⟨?_, hw⟩
  congr 2
  by_cases hp : P
  · rw [decide_eq_true hp]; exact hk.2 hp
  · rw [decide_eq_false hp]
    cases ok
    · rfl
    · exact absurd (hk.1 rfl) hp

set_option maxHeartbeats 2000000 in
set_option maxRecDepth 20000 in
theorem swap_ref {w : World} {base fb : Nat} {s : FlS} {F : Nat → Prop} (h : RF base fb s w F) (a : Option Addr) (c : Nat) (l : List Int) (hs : Src w a (ints l)) (hr : Rng l) (hl : l.length ≤ 1048576)
    (hx : s.X.length ≤ 549755813888) (h0 : 0 < s.parts.length) (hp : s.parts.length ≤ 1099511627) (hfr : s.from ≤ 2199023255552) (hB0 : 0 < s.B) (hB : s.B ≤ 256) (hW : s.W ≤ 64) :
    Calls Tryd.prog 87 #[.pointer (some ⟨fb, 0, none⟩), .slice a l.length c] w fun e w' => e = .returned (.tuple #[.int .i64 (swapR s l), .int .i64 (swapE s l)]) ∧ Steps w F (RF base fb (swapS s l)) w' := by
  have CPU : ∀ m : Nat, Calls Tryd.prog 84 #[.pointer (some ⟨fb, 0, none⟩), .int .i64 (s.place : Nat), .slice a l.length c] (w.drewN m) fun e w' => e = .returned (.tuple #[]) ∧ Hid (Steps (w.drewN m) F (RF base fb (s.swapped l)) w') := by
    intro m
    have b0 : Bt (fun _ => False) w (w.drewN m) := (Bt.refl _ _).drewN m
    exact put_ref ((RF.fr base fb s).bt h b0 (fun _ _ x => x)) a c l s.place (hs.bt b0 (fun _ _ _ x => x)) hl hp
  have HR : Hid (RF base fb s w F) := h
  obtain ⟨vx, vp, tv, h, hF⟩ := h
  have CPE := pending_ref h (by omega) h0 (by omega) hfr
  obtain ⟨kb, hkb, CTA⟩ : ∃ kb : Bool, (kb = true ↔ okTaps l) ∧ ∀ m : Nat, Calls Tryd.prog 83 #[.slice a l.length c] (w.drewN m) fun e w' => e = .returned (.bool kb) ∧ w' = w.drewN m := ⟨decide (okTaps l), decide_eq_true_iff, fun m => bool_call (taps_ref a c l (w.drewN m) (hs.bt ((Bt.refl (fun _ => False) w).drewN m) (fun _ _ _ x => x)) hr (by omega))⟩
  have c3 := h.blk.c3
  have c0 := h.blk.c0
  have c2 := h.blk.c2
  obtain ⟨ax, cx, hvx, _, _⟩ := h.x.form
  rw [hvx, ints_len] at c3
  have HV : Hid ((0 ≤ s.pending → swapR s l = 0 ∧ swapE s l = 6 ∧ swapS s l = s) ∧ (¬ 0 ≤ s.pending → ¬ okTaps l → swapR s l = 0 ∧ swapE s l = 4 ∧ swapS s l = s) ∧ (¬ 0 ≤ s.pending → okTaps l → swapR s l = (s.place : Nat) ∧ swapE s l = 0 ∧ swapS s l = s.swapped l)) := by
    unfold swapR swapE swapS
    refine ⟨fun q => ?_, fun q q2 => ?_, fun q q2 => ?_⟩
    · rw [if_pos q, if_pos q, if_pos q]; exact ⟨rfl, rfl, rfl⟩
    · rw [if_neg q, if_neg q, if_neg q, if_neg q2, if_neg q2, if_neg q2]; exact ⟨rfl, rfl, rfl⟩
    · rw [if_neg q, if_neg q, if_neg q, if_pos q2, if_pos q2, if_pos q2]; exact ⟨rfl, rfl, rfl⟩
  have hpl : s.place = (s.X.length / s.B + s.W) * s.B := rfl
  have hple : s.place ≤ s.X.length + 16384 := by
    rw [hpl, Nat.add_mul]
    have := Nat.div_mul_le_self s.X.length s.B
    have : s.W * s.B ≤ 64 * 256 := Nat.mul_le_mul hW hB
    omega
  generalize swapR s l = R0 at *
  generalize swapE s l = E0 at *
  generalize s.place = M at *
  generalize s.X.length = NX at *
  generalize s.pending = pe at *
  obtain ⟨q, hq⟩ : ∃ q : Nat, NX / s.B = q := ⟨_, rfl⟩
  have hq2 : q ≤ NX := by rw [← hq]; exact Nat.div_le_self _ _
  rw [hq] at hpl
  generalize s.B = B at *
  generalize s.W = W at *
  have d1 : (NX : Int).tdiv (B : Int) = (q : Int) := by rw [Int.tdiv_eq_ediv_of_nonneg (by omega), ← hq]; rfl
  have d2 : (NX : Int) / (B : Int) = (q : Int) := by rw [← hq]; rfl
  have hBi : ¬ ((B : Int) = 0) := by omega
  have m1 : ((q : Int) + (W : Int)) * (B : Int) = (M : Int) := by rw [hpl]; push_cast; rfl
  have w1 : IntKind.i64.wrap (((q : Int) + (W : Int)) * (B : Int)) = (M : Int) := by rw [m1, IntKind.wrap_i64]; omega
  have w2 : IntKind.i64.wrap (q : Int) = (q : Int) := by rw [IntKind.wrap_i64]; omega
  have w3 : IntKind.i64.wrap ((q : Int) + (W : Int)) = (q : Int) + (W : Int) := by rw [IntKind.wrap_i64]; omega
  generalize l.length = ll at *
  clear h hF hvx hs hr hq hpl
  by_cases hpe : 0 ≤ pe
  · have HX : Hid (R0 = 0 ∧ E0 = 6 ∧ swapS s l = s) := HV.out.1 hpe
    go_enter Tryd.func87, Tryd.ntmps87
    go_wp2_with (go_at_call 89; refine CPE.mono ?_; rintro e w' ⟨rfl, m, hw⟩; subst hw)
    go_ret2
    refine ⟨by rw [HX.out.1, HX.out.2.1]; rfl, ?_⟩
    rw [HX.out.2.2]
    exact ⟨F, (RF.fr base fb s).bt HR.out ((Bt.refl (fun _ => False) w).drewN _) (fun _ _ x => x), Stp.drewN _⟩
  · by_cases hok : okTaps l
    · have HX : Hid (R0 = (M : Nat) ∧ E0 = 0 ∧ swapS s l = s.swapped l) := HV.out.2.2 hpe hok
      rw [hkb.2 hok] at CTA; clear hkb
      go_enter Tryd.func87, Tryd.ntmps87
      go_wp2_with (first
        | (go_at_call 89; refine CPE.mono ?_; rintro e w' ⟨rfl, m, hw⟩; subst hw)
        | (go_at_call 83; refine (CTA _).mono ?_; rintro e w' ⟨rfl, hw⟩; subst w'))
      go_quiet (fail)
      go_wp2_with (go_at_call 84; refine (CPU _).mono ?_; rintro e w' ⟨rfl, HF⟩)
      go_ret2
      refine ⟨by rw [HX.out.1, HX.out.2.1]; rfl, ?_⟩
      rw [HX.out.2.2]
      obtain ⟨F', q1, q2⟩ := HF.out
      exact ⟨F', q1, (Stp.drewN _).trans q2⟩
    · have HX : Hid (R0 = 0 ∧ E0 = 4 ∧ swapS s l = s) := HV.out.2.1 hpe hok
      have ek : kb = false := (by cases kb with | false => rfl | true => exact absurd (hkb.1 rfl) hok)
      rw [ek] at CTA; clear hkb ek
      go_enter Tryd.func87, Tryd.ntmps87
      go_wp2_with (first
        | (go_at_call 89; refine CPE.mono ?_; rintro e w' ⟨rfl, m, hw⟩; subst hw)
        | (go_at_call 83; refine (CTA _).mono ?_; rintro e w' ⟨rfl, hw⟩; subst w'))
      go_ret2
      refine ⟨by rw [HX.out.1, HX.out.2.1]; rfl, ?_⟩
      rw [HX.out.2.2]
      exact ⟨F, (RF.fr base fb s).bt HR.out ((Bt.refl (fun _ => False) w).drewN _) (fun _ _ x => x), Stp.drewN _⟩
end Go.Proofs.YtddpcjgekfmhkabDoor

/- The document's filter: NewFilter, Pull. -/
namespace Go.Proofs.YtddpcjgekfmhkabDoor
open Go.RowKit
set_option linter.unusedSimpArgs false
set_option linter.unusedVariables false

abbrev okConf (B R W : Int) : Prop := okBlock B ∧ 2 * B ≤ R ∧ R ≤ 65536 ∧ 1 ≤ W ∧ W ≤ 64

/-- What NewFilter gives. -/
def NewQ (base : Nat) (B R W : Int) (l : List Int) (w : World) (e : Ending) (w' : World) : Prop :=
  if okConf B R W then
    if okTaps l then ∃ fb F, e = .returned (.tuple #[.pointer (some ⟨fb, 0, none⟩), .int .i64 0]) ∧ RF base fb (FlS.fresh B.toNat R.toNat W.toNat l) w' F ∧ (∀ k, F k → w.heap.size ≤ k) ∧ Bt (fun _ => False) w w'
    else e = .returned (.tuple #[.pointer none, .int .i64 4]) ∧ Bt (fun _ => False) w w'
  else e = .returned (.tuple #[.pointer none, .int .i64 3]) ∧ Bt (fun _ => False) w w'

theorem fresh_ref (w : World) (base B R W : Nat) (hb : base ≤ w.heap.size) : RF base w.heap.size ⟨B, R, W, [], [], 0⟩ (w.alloc (.cells #[.int .i64 B, .int .i64 R, .int .i64 W, .slice none 0 0, .slice none 0 0, .int .i64 0] 125)) (fun k => k = w.heap.size) := by
  refine ⟨.slice none 0 0, .slice none 0 0, [], ⟨?_, Lst.nil _ _ _ _, Lst.nil _ _ _ _, rfl, fun i p v hp hv => by simp at hv, hb, ⟨by simp [Value.ownBlock], by simp [Value.ownBlock]⟩, fun k hk => (by cases hk), fun v hv => by simp at hv⟩, fun k => ?_⟩
  · show (w.heap.push _)[w.heap.size]? = _
    simp
  · constructor
    · intro e; exact .inl e
    · rintro (e | e | e | ⟨v, hv, _⟩)
      · exact e
      · cases e
      · cases e
      · simp at hv

set_option maxHeartbeats 2000000 in
set_option maxRecDepth 20000 in
theorem new_ref (base : Nat) (B R W : Int) (a : Option Addr) (c : Nat) (l : List Int) (w : World) (hb : base ≤ w.heap.size) (hs : Src w a (ints l)) (hr : Rng l) (hl : l.length ≤ 1048576) :
    Calls Tryd.prog 56 #[.agg #[.int .i64 B, .int .i64 R, .int .i64 W], .slice a l.length c] w fun e w' => NewQ base B R W l w e w' := by
  obtain ⟨kb, hkb, CTA⟩ : ∃ kb : Bool, (kb = true ↔ okTaps l) ∧ ∀ w', Bt (fun _ => False) w w' → Calls Tryd.prog 83 #[.slice a l.length c] w' fun e w'' => e = .returned (.bool kb) ∧ w'' = w' := ⟨decide (okTaps l), decide_eq_true_iff, fun w' b => bool_call (taps_ref a c l w' (hs.bt b (fun _ _ _ x => x)) hr (by omega))⟩
  have CPW : ∀ w', Calls Tryd.prog 82 #[.int .i64 B, .int .i64 16, .int .i64 256] w' fun e w'' => e = .returned (.bool (decide (okBlock B))) ∧ w'' = w' := fun w' => bool_call (power_ref B w')
  have CPU : ∀ (w1 : World) (fb : Nat), fb = w1.heap.size → Bt (fun _ => False) w w1 → okConf B R W → Calls Tryd.prog 84 #[.pointer (some ⟨fb, 0, none⟩), .int .i64 0, .slice a l.length c] (w1.alloc (.cells #[.int .i64 B, .int .i64 R, .int .i64 W, .slice none 0 0, .slice none 0 0, .int .i64 0] 125)) fun e w' => e = .returned (.tuple #[]) ∧ Hid (∃ F, RF base fb (FlS.fresh B.toNat R.toNat W.toNat l) w' F ∧ (∀ k, F k → w.heap.size ≤ k) ∧ Bt (fun _ => False) w w') := by
    intro w1 fb hfb b1 hc
    subst hfb
    have hc' := hc
    unfold okConf okBlock at hc'
    have e1 : B = (B.toNat : Int) := by omega
    have e2 : R = (R.toNat : Int) := by omega
    have e3 : W = (W.toNat : Int) := by omega
    have hf := fresh_ref w1 base B.toNat R.toNat W.toNat (Nat.le_trans hb b1.size)
    rw [← e1, ← e2, ← e3] at hf
    have b2 : Bt (fun _ => False) w (w1.alloc (.cells #[.int .i64 B, .int .i64 R, .int .i64 W, .slice none 0 0, .slice none 0 0, .int .i64 0] 125)) := b1.alloc _
    refine (put_ref hf a c l 0 (hs.bt b2 (fun _ _ _ x => x)) hl (by simp)).mono ?_
    rintro e w' ⟨rfl, F', q1, q2⟩
    have s1 := b1.size
    refine ⟨rfl, F', q1, fun k hk => ?_, b2.trans q2.bt (fun k hk e => by subst e; omega)⟩
    rcases q2.new k hk with e | e
    · subst e; exact s1
    · have := b2.size; omega
  have HPOST : Hid ((¬ okConf B R W → ∀ w', Bt (fun _ => False) w w' → NewQ base B R W l w (.returned (.tuple #[.pointer none, .int .i64 3])) w') ∧ (okConf B R W → ¬ okTaps l → ∀ w', Bt (fun _ => False) w w' → NewQ base B R W l w (.returned (.tuple #[.pointer none, .int .i64 4])) w') ∧
      (okConf B R W → okTaps l → ∀ fb w', (∃ F, RF base fb (FlS.fresh B.toNat R.toNat W.toNat l) w' F ∧ (∀ k, F k → w.heap.size ≤ k) ∧ Bt (fun _ => False) w w') → NewQ base B R W l w (.returned (.tuple #[.pointer (some ⟨fb, 0, none⟩), .int .i64 0])) w')) := by
    unfold NewQ
    refine ⟨fun h w' b => ?_, fun h h2 w' b => ?_, fun h h2 fb w' hf => ?_⟩
    · rw [if_neg h]; exact ⟨rfl, b⟩
    · rw [if_pos h, if_neg h2]; exact ⟨rfl, b⟩
    · rw [if_pos h, if_pos h2]
      obtain ⟨F, q⟩ := hf
      exact ⟨fb, F, rfl, q⟩
  generalize l.length = ll at *
  clear hs hr
  have BA : ∀ o, Bt (fun _ => False) w (w.alloc o) := fun o => (Bt.refl _ _).alloc o
  by_cases hk : okBlock B
  · rw [decide_eq_true hk] at CPW
    have hB : 16 ≤ B ∧ B ≤ 256 := by unfold okBlock at hk; omega
    have HK : Hid (okBlock B) := hk
    clear hk
    by_cases h1 : R < 2 * B
    · have HN : Hid (¬ okConf B R W) := fun q => by unfold okConf at q; omega
      go_enter Tryd.func56, Tryd.ntmps56
      go_wp2_with (go_at_call 82; refine (CPW _).mono ?_; rintro e w' ⟨rfl, hw⟩; subst w')
      go_ret2
      exact HPOST.out.1 HN.out _ (BA _)
    · have p1 : decide (R < 2 * B) = false := decide_eq_false h1
      by_cases h2 : 65536 < R
      · have HN : Hid (¬ okConf B R W) := fun q => by unfold okConf at q; omega
        go_enter Tryd.func56, Tryd.ntmps56
        go_wp2_with (go_at_call 82; refine (CPW _).mono ?_; rintro e w' ⟨rfl, hw⟩; subst w')
        go_ret2
        exact HPOST.out.1 HN.out _ (BA _)
      · have p2 : decide (65536 < R) = false := decide_eq_false h2
        by_cases h3 : W < 1
        · have HN : Hid (¬ okConf B R W) := fun q => by unfold okConf at q; omega
          go_enter Tryd.func56, Tryd.ntmps56
          go_wp2_with (go_at_call 82; refine (CPW _).mono ?_; rintro e w' ⟨rfl, hw⟩; subst w')
          go_ret2
          exact HPOST.out.1 HN.out _ (BA _)
        · have p3 : decide (W < 1) = false := decide_eq_false h3
          by_cases h4 : 64 < W
          · have HN : Hid (¬ okConf B R W) := fun q => by unfold okConf at q; omega
            go_enter Tryd.func56, Tryd.ntmps56
            go_wp2_with (go_at_call 82; refine (CPW _).mono ?_; rintro e w' ⟨rfl, hw⟩; subst w')
            go_ret2
            exact HPOST.out.1 HN.out _ (BA _)
          · have p4 : decide (64 < W) = false := decide_eq_false h4
            have HC : Hid (okConf B R W) := ⟨HK.out, by omega, by omega, by omega, by omega⟩
            by_cases ht : okTaps l
            · rw [hkb.2 ht] at CTA; clear hkb
              have HT : Hid (okTaps l) := ht
              clear ht
              go_enter Tryd.func56, Tryd.ntmps56
              go_wp2_with (first
                | (go_at_call 82; refine (CPW _).mono ?_; rintro e w' ⟨rfl, hw⟩; subst w')
                | (go_at_call 83; refine (CTA _ (BA _)).mono ?_; rintro e w' ⟨rfl, hw⟩; subst w')
                | (go_at_call 84; refine (CPU (w.alloc (.cells #[.int .i64 B, .int .i64 R, .int .i64 W] 46)) _ (by simp) (BA _) HC.out).mono ?_; rintro e w' ⟨rfl, HF⟩))
              go_ret2
              exact HPOST.out.2.2 HC.out HT.out _ _ HF.out
            · have ek : kb = false := (by cases kb with | false => rfl | true => exact absurd (hkb.1 rfl) ht)
              rw [ek] at CTA; clear hkb ek
              have HT : Hid (¬ okTaps l) := ht
              clear ht
              go_enter Tryd.func56, Tryd.ntmps56
              go_wp2_with (first
                | (go_at_call 82; refine (CPW _).mono ?_; rintro e w' ⟨rfl, hw⟩; subst w')
                | (go_at_call 83; refine (CTA _ (BA _)).mono ?_; rintro e w' ⟨rfl, hw⟩; subst w'))
              go_ret2
              exact HPOST.out.2.1 HC.out HT.out _ (BA _)
  · rw [decide_eq_false hk] at CPW
    have HN : Hid (¬ okConf B R W) := fun q => hk q.1
    clear hk
    go_enter Tryd.func56, Tryd.ntmps56
    go_wp2_with (go_at_call 82; refine (CPW _).mono ?_; rintro e w' ⟨rfl, hw⟩; subst w')
    go_ret2
    exact HPOST.out.1 HN.out _ (BA _)
end Go.Proofs.YtddpcjgekfmhkabDoor

/- Package field, walked: what each call answers, for all numbers. -/
namespace Go.Proofs.YtddpcjgekfmhkabDoor
open Go.RowKit

theorem ret_int {k : IntKind} {a b : Int} (h : a = b) : Ending.returned (.int k a) = .returned (.int k b) := by rw [h]

theorem element_any (a : Int) (h0 : 0 ≤ a) (h1 : a ≤ 18446744073709551615) (w : World) :
    Calls Tryd.prog 74 #[.int .u64 a] w fun e w' => e = .returned (.int .u64 (a % PP)) ∧ w' = w := by
  by_cases h : 18446744069414584321 ≤ a
  · go_enter Tryd.func74, Tryd.ntmps74
    go_wp2
    go_ret
    exact ⟨ret_int (element_yes h h1), rfl⟩
  · go_enter Tryd.func74, Tryd.ntmps74
    go_wp2
    go_ret
    exact ⟨ret_int (element_no h0 (by omega)), rfl⟩

theorem add_any (a b : Int) (h0 : 0 ≤ a) (h1 : a ≤ 18446744073709551615) (g0 : 0 ≤ b) (g1 : b ≤ 18446744073709551615) (w : World) :
    Calls Tryd.prog 94 #[.int .u64 a, .int .u64 b] w fun e w' => e = .returned (.int .u64 ((a + b) % PP)) ∧ w' = w := by
  have ca := element_any a h0 h1 w
  have cb := element_any b g0 g1 w
  have ba := md_bd a
  have bb := md_bd b
  by_cases h : 18446744069414584321 - b % PP ≤ a % PP
  · have e := add_yes a b h
    generalize (a + b) % PP = s at e ⊢
    generalize ha : a % PP = x at *
    generalize hb : b % PP = y at *
    clear ha hb
    have HE : Hid (x - (18446744069414584321 - y) = s) := e
    clear e
    go_enter Tryd.func94, Tryd.ntmps94
    go_wp2_with (go_at_call 74; first | (refine ca.mono ?_; rintro e w' ⟨rfl, rfl⟩; clear ca) | (refine cb.mono ?_; rintro e w' ⟨rfl, rfl⟩; clear cb))
    go_ret
    exact ⟨ret_int HE.out, rfl⟩
  · have e := add_no a b h
    generalize (a + b) % PP = s at e ⊢
    generalize ha : a % PP = x at *
    generalize hb : b % PP = y at *
    clear ha hb
    have HE : Hid (x + y = s) := e
    clear e
    go_enter Tryd.func94, Tryd.ntmps94
    go_wp2_with (go_at_call 74; first | (refine ca.mono ?_; rintro e w' ⟨rfl, rfl⟩; clear ca) | (refine cb.mono ?_; rintro e w' ⟨rfl, rfl⟩; clear cb))
    go_ret
    exact ⟨ret_int HE.out, rfl⟩


theorem sub_any (a b : Int) (h0 : 0 ≤ a) (h1 : a ≤ 18446744073709551615) (g0 : 0 ≤ b) (g1 : b ≤ 18446744073709551615) (w : World) :
    Calls Tryd.prog 95 #[.int .u64 a, .int .u64 b] w fun e w' => e = .returned (.int .u64 ((a - b) % PP)) ∧ w' = w := by
  have ca := element_any a h0 h1 w
  have cb := element_any b g0 g1 w
  have ba := md_bd a
  have bb := md_bd b
  by_cases h : b % PP ≤ a % PP
  · have e := sub_yes a b h
    generalize (a - b) % PP = s at e ⊢
    generalize ha : a % PP = x at *
    generalize hb : b % PP = y at *
    clear ha hb
    have HE : Hid (x - y = s) := e
    clear e
    go_enter Tryd.func95, Tryd.ntmps95
    go_wp2_with (go_at_call 74; first | (refine ca.mono ?_; rintro e w' ⟨rfl, rfl⟩; clear ca) | (refine cb.mono ?_; rintro e w' ⟨rfl, rfl⟩; clear cb))
    go_ret
    exact ⟨ret_int HE.out, rfl⟩
  · have e := sub_no a b h
    generalize (a - b) % PP = s at e ⊢
    generalize ha : a % PP = x at *
    generalize hb : b % PP = y at *
    clear ha hb
    have HE : Hid (x + (18446744069414584321 - y) = s) := e
    clear e
    go_enter Tryd.func95, Tryd.ntmps95
    go_wp2_with (go_at_call 74; first | (refine ca.mono ?_; rintro e w' ⟨rfl, rfl⟩; clear ca) | (refine cb.mono ?_; rintro e w' ⟨rfl, rfl⟩; clear cb))
    go_ret
    exact ⟨ret_int HE.out, rfl⟩

theorem and_mask {a : Int} (h0 : 0 ≤ a) (h1 : a ≤ 18446744073709551615) : bits .and .u64 a 4294967295 = a % 4294967296 := by
  obtain ⟨n, rfl⟩ : ∃ n : Nat, a = n := ⟨a.toNat, by omega⟩
  have h := bits_and_u64_nat n 4294967295 (by omega) (by omega)
  rw [show n &&& 4294967295 = n % 4294967296 from Nat.and_two_pow_sub_one_eq_mod n 32] at h
  exact h.trans (by omega)

/-- Four products of halves make the product. -/
theorem four_products (x y : Int) : x * y = (x / 4294967296) * (y / 4294967296) * 18446744073709551616 + ((x / 4294967296) * (y % 4294967296) + (x % 4294967296) * (y / 4294967296)) * 4294967296 + (x % 4294967296) * (y % 4294967296) := by
  have ex := Int.mul_ediv_add_emod x 4294967296
  have ey := Int.mul_ediv_add_emod y 4294967296
  generalize x / 4294967296 = a at *
  generalize x % 4294967296 = b at *
  generalize y / 4294967296 = c at *
  generalize y % 4294967296 = d at *
  subst ex ey
  grind
theorem half_product {a b : Int} (a0 : 0 ≤ a) (a1 : a ≤ 4294967295) (b0 : 0 ≤ b) (b1 : b ≤ 4294967295) : 0 ≤ a * b ∧ a * b ≤ 18446744065119617025 :=
  ⟨Int.mul_nonneg a0 b0, Int.le_trans (Int.mul_le_mul a1 b1 b0 (by omega)) (by omega)⟩

set_option maxHeartbeats 400000 in
theorem mul64_any (a b : Int) (h0 : 0 ≤ a) (h1 : a ≤ 18446744073709551615) (g0 : 0 ≤ b) (g1 : b ≤ 18446744073709551615) (w : World) :
    Calls Tryd.prog 73 #[.int .u64 a, .int .u64 b] w fun e w' => ∃ h l : Int, 0 ≤ h ∧ h ≤ 18446744073709551615 ∧ 0 ≤ l ∧ l ≤ 18446744073709551615 ∧ Hid (a * b = h * 18446744073709551616 + l) ∧ e = .returned (.tuple #[.int .u64 h, .int .u64 l]) ∧ w' = w := by
  have ma := and_mask h0 h1
  have mb := and_mask g0 g1
  have e4 := four_products a b
  have b11 := half_product (a := a / 4294967296) (b := b / 4294967296) (by omega) (by omega) (by omega) (by omega)
  have b10 := half_product (a := a / 4294967296) (b := b % 4294967296) (by omega) (by omega) (by omega) (by omega)
  have b01 := half_product (a := a % 4294967296) (b := b / 4294967296) (by omega) (by omega) (by omega) (by omega)
  have b00 := half_product (a := a % 4294967296) (b := b % 4294967296) (by omega) (by omega) (by omega) (by omega)
  obtain ⟨p11, h11⟩ : ∃ p, a / 4294967296 * (b / 4294967296) = p := ⟨_, rfl⟩
  obtain ⟨p10, h10⟩ : ∃ p, a / 4294967296 * (b % 4294967296) = p := ⟨_, rfl⟩
  obtain ⟨p01, h01⟩ : ∃ p, a % 4294967296 * (b / 4294967296) = p := ⟨_, rfl⟩
  obtain ⟨p00, h00⟩ : ∃ p, a % 4294967296 * (b % 4294967296) = p := ⟨_, rfl⟩
  obtain ⟨p, hp⟩ : ∃ p, a * b = p := ⟨_, rfl⟩
  rw [h11] at b11
  rw [h10] at b10
  rw [h01] at b01
  rw [h00] at b00
  rw [hp, h11, h10, h01, h00] at e4
  have HE : Hid (p = p11 * 18446744073709551616 + (p10 + p01) * 4294967296 + p00) := e4
  clear e4
  have HP : Hid (a * b = p) := hp
  have mt := and_mask (a := p10 + p00 / 4294967296) (by omega) (by omega)
  go_enter Tryd.func73, Tryd.ntmps73
  go_wp2
  go_ret2
  refine ⟨_, _, ?_, ?_, ?_, ?_, ?_, rfl, rfl⟩
  · omega
  · omega
  · rw [IntKind.wrap_u64]; omega
  · rw [IntKind.wrap_u64]; omega
  · show a * b = _
    have := HE.out
    rw [HP.out, IntKind.wrap_u64]; omega

theorem fold_any (h l : Int) (h0 : 0 ≤ h) (h1 : h ≤ 18446744073709551615) (g0 : 0 ≤ l) (g1 : l ≤ 18446744073709551615) (w : World) :
    Calls Tryd.prog 75 #[.int .u64 h, .int .u64 l] w fun e w' => e = .returned (.int .u64 ((h * 18446744073709551616 + l) % PP)) ∧ w' = w := by
  have e := fold_eq h l
  generalize (h * 18446744073709551616 + l) % PP = s at *
  have HE : Hid (((l - h / 4294967296) % PP + (h % 4294967296) * 4294967295) % PP = s) := e
  clear e
  have hm := and_mask h0 h1
  have bs := md_bd (l - h / 4294967296)
  have cs := sub_any l (h / 4294967296) g0 g1 (by omega) (by omega) w
  have ca := add_any ((l - h / 4294967296) % PP) (h % 4294967296 * 4294967295) (by omega) (by omega) (by omega) (by omega) w
  go_enter Tryd.func75, Tryd.ntmps75
  go_wp2_with (first | (go_at_call 95; refine cs.mono ?_; rintro e w' ⟨rfl, rfl⟩) | (go_at_call 94; refine ca.mono ?_; rintro e w' ⟨rfl, rfl⟩))
  go_ret
  exact ⟨ret_int (by rw [← md_add_l]; exact HE.out), rfl⟩

theorem mul_any (a b : Int) (h0 : 0 ≤ a) (h1 : a ≤ 18446744073709551615) (g0 : 0 ≤ b) (g1 : b ≤ 18446744073709551615) (w : World) :
    Calls Tryd.prog 43 #[.int .u64 a, .int .u64 b] w fun e w' => e = .returned (.int .u64 ((a * b) % PP)) ∧ w' = w := by
  have ca := element_any a h0 h1 w
  have cb := element_any b g0 g1 w
  have ba := md_bd a
  have bb := md_bd b
  have HE : Hid ((a % PP * (b % PP)) % PP = (a * b) % PP) := md_mul a b
  generalize (a * b) % PP = s at *
  generalize ha : a % PP = x at *
  generalize hb : b % PP = y at *
  clear ha hb
  have cm := mul64_any x y (by omega) (by omega) (by omega) (by omega) w
  go_enter Tryd.func43, Tryd.ntmps43
  go_wp2_with (first | (go_at_call 74; first | (refine ca.mono ?_; rintro e w' ⟨rfl, rfl⟩; clear ca) | (refine cb.mono ?_; rintro e w' ⟨rfl, rfl⟩; clear cb)) | (go_at_call 73; refine cm.mono ?_; rintro e w' ⟨hi, lo, u0, u1, v0, v1, HM, rfl, rfl⟩; clear cm) | (go_at_call 75; refine (fold_any _ _ (by assumption) (by assumption) (by assumption) (by assumption) _).mono ?_; rintro e w' ⟨rfl, rfl⟩))
  go_ret
  exact ⟨ret_int (by rw [← HM.out]; exact HE.out), rfl⟩

theorem and_one {m : Nat} (h : m ≤ 18446744073709551615) : bits .and .u64 (m : Int) 1 = (m : Int) % 2 := by
  have h := bits_and_u64_nat m 1 (by omega) (by omega)
  have e : m &&& 1 = m % 2 := Nat.and_one_is_mod m
  rw [e] at h
  rw [show ((1 : Nat) : Int) = 1 from rfl] at h
  rw [h]; omega

set_option maxHeartbeats 400000 in
theorem pow_any (a : Int) (n : Nat) (h0 : 0 ≤ a) (h1 : a ≤ 18446744073709551615) (g1 : n ≤ 18446744073709551615) (w : World) :
    Calls Tryd.prog 106 #[.int .u64 a, .int .u64 n] w fun e w' => e = .returned (.int .u64 (pw a n)) ∧ w' = w := by
  have HS : Hid ((1 * pw a n) % PP = pw a n) := pow_start a n
  generalize hr : pw a n = r at *
  have HR : Hid (pw a n = r) := hr
  clear hr
  go_enter Tryd.func106, Tryd.ntmps106
  go_wp2
  go_loop [1, 5, 6] (fun tn tp ts => ∃ (m : Nat) (p s : Int), m ≤ 18446744073709551615 ∧ 0 ≤ p ∧ p ≤ 18446744069414584320 ∧ 0 ≤ s ∧ s ≤ 18446744073709551615 ∧ tn = .int .u64 m ∧ tp = .int .u64 p ∧ ts = .int .u64 s ∧ Hid ((p * pw s m) % PP = r)) (fun tn _ _ => (intOf tn).toNat)
  case atStart => exact ⟨n, 1, a, g1, by omega, by omega, h0, h1, rfl, rfl, rfl, by show _ = _; rw [HR.out]; exact HS.out⟩
  case round =>
    obtain ⟨m, p, s, hm, p0, p1, s0, s1, rfl, rfl, rfl, HI⟩ := hrel
    have hand := and_one hm
    have bp := md_bd (p * s)
    have bs := md_bd (s * s)
    by_cases hz : 0 < m
    · by_cases ho : m % 2 = 1
      · have ho' : (m : Int) % 2 = 1 := by omega
        go_wp2_with (go_at_call 43; refine (mul_any _ _ (by omega) (by omega) (by omega) (by omega) _).mono ?_; rintro e w' ⟨rfl, rfl⟩)
        go_round
        case rel => exact ⟨m / 2, _, _, by omega, bp.1, bp.2, bs.1, by omega, by go_num, rfl, rfl, (pow_odd p s m ho).trans HI.out⟩
        case measure => simp [intOf]; omega
      · have ho' : ¬ (m : Int) % 2 = 1 := by omega
        go_wp2_with (go_at_call 43; refine (mul_any _ _ (by omega) (by omega) (by omega) (by omega) _).mono ?_; rintro e w' ⟨rfl, rfl⟩)
        go_round
        case rel => exact ⟨m / 2, p, _, by omega, p0, p1, bs.1, by omega, by go_num, rfl, rfl, (pow_even p s m ho).trans HI.out⟩
        case measure => simp [intOf]; omega
    · obtain rfl : m = 0 := by omega
      go_wp2
      go_ret
      exact ⟨ret_int (by rw [← HI.out, pow_end p0 p1]), rfl⟩

end Go.Proofs.YtddpcjgekfmhkabDoor

/- Bits of whole numbers, as the walk spells them. -/
namespace Go.Proofs.YtddpcjgekfmhkabDoor
open Go.RowKit

theorem ofInt_toNat (a : Int) : (BitVec.ofInt 64 a).toNat = (a % 18446744073709551616).toNat := by
  rw [BitVec.toNat_ofInt]; rfl
theorem and_i64_nat (a b : Nat) (ha : a < 9223372036854775808) (hb : b < 9223372036854775808) :
    bits .and .i64 (a : Int) (b : Int) = ((a &&& b : Nat) : Int) := by
  have hx : a &&& b ≤ a := Nat.and_le_left
  show IntKind.i64.wrap ((BitVec.ofInt 64 (a : Int) &&& BitVec.ofInt 64 (b : Int)).toNat : Int) = _
  rw [BitVec.toNat_and, ofInt_toNat, ofInt_toNat, IntKind.wrap_i64]
  have h1 : ((a : Int) % 18446744073709551616).toNat = a := by omega
  have h2 : ((b : Int) % 18446744073709551616).toNat = b := by omega
  rw [h1, h2]
  omega
theorem and_i64_mask (n : Int) : bits .and .i64 n 4294967295 = n % 4294967296 := by
  show IntKind.i64.wrap ((BitVec.ofInt 64 n &&& BitVec.ofInt 64 4294967295).toNat : Int) = _
  rw [BitVec.toNat_and, ofInt_toNat, ofInt_toNat, IntKind.wrap_i64]
  have h2 : ((4294967295 : Int) % 18446744073709551616).toNat = 4294967295 := by decide
  have e : (n % 18446744073709551616).toNat &&& 4294967295 = (n % 18446744073709551616).toNat % 4294967296 := Nat.and_two_pow_sub_one_eq_mod _ 32
  rw [h2, e]
  omega
theorem and_i64_one (n : Int) : bits .and .i64 n 1 = n % 2 := by
  show IntKind.i64.wrap ((BitVec.ofInt 64 n &&& BitVec.ofInt 64 1).toNat : Int) = _
  rw [BitVec.toNat_and, ofInt_toNat, ofInt_toNat, IntKind.wrap_i64]
  have h2 : ((1 : Int) % 18446744073709551616).toNat = 1 := by decide
  have e : (n % 18446744073709551616).toNat &&& 1 = (n % 18446744073709551616).toNat % 2 := Nat.and_two_pow_sub_one_eq_mod _ 1
  rw [h2, e]
  omega
/-- Two halves, put together. -/
theorem or_i64_halves (h l : Int) (h0 : 0 ≤ h) (h1 : h ≤ 4294967295) (l0 : 0 ≤ l) (l1 : l ≤ 4294967295) :
    bits .or .i64 (wrap64 (h * 4294967296)) l = wrap64 (h * 4294967296 + l) := by
  show IntKind.i64.wrap ((BitVec.ofInt 64 (wrap64 (h * 4294967296)) ||| BitVec.ofInt 64 l).toNat : Int) = _
  rw [BitVec.toNat_or, ofInt_toNat, ofInt_toNat, IntKind.wrap_i64]
  have e1 : (wrap64 (h * 4294967296) % 18446744073709551616).toNat = h.toNat * 4294967296 := by unfold wrap64; omega
  have e2 : (l % 18446744073709551616).toNat = l.toNat := by omega
  have e3 : h.toNat * 4294967296 ||| l.toNat = h.toNat * 4294967296 + l.toNat := by
    have := Nat.two_pow_add_eq_or_of_lt (i := 32) (b := l.toNat) (by omega) h.toNat
    rw [show (2 : Nat) ^ 32 = 4294967296 from rfl, Nat.mul_comm] at this
    exact this.symm
  rw [e1, e2, e3]
  unfold wrap64; omega

end Go.Proofs.YtddpcjgekfmhkabDoor

/- Package field, walked on: Inv, Root, Embed, Lift. -/
namespace Go.Proofs.YtddpcjgekfmhkabDoor
open Go.RowKit

theorem pow_int (a n : Int) (h0 : 0 ≤ a) (h1 : a ≤ 18446744073709551615) (g0 : 0 ≤ n) (g1 : n ≤ 18446744073709551615) (w : World) :
    Calls Tryd.prog 106 #[.int .u64 a, .int .u64 n] w fun e w' => e = .returned (.int .u64 (pw a n.toNat)) ∧ w' = w := by
  have c := pow_any a n.toNat h0 h1 (by omega) w
  rw [Int.toNat_of_nonneg g0] at c
  exact c

theorem inv_any (a : Int) (h0 : 0 ≤ a) (h1 : a ≤ 18446744073709551615) (w : World) :
    Calls Tryd.prog 97 #[.int .u64 a] w fun e w' => e = .returned (.int .u64 (pw a invE)) ∧ w' = w := by
  have c := pow_int a 18446744069414584319 h0 h1 (by omega) (by omega) w
  have e : (18446744069414584319 : Int).toNat = invE := rfl
  rw [e] at c
  generalize pw a invE = r at *
  go_enter Tryd.func97, Tryd.ntmps97
  go_wp2_with (go_at_call 106; refine c.mono ?_; rintro e w' ⟨rfl, rfl⟩)
  go_ret
  exact ⟨rfl, rfl⟩

theorem embed_any (n : Int) (h0 : -9223372036854775808 ≤ n) (h1 : n ≤ 9223372036854775807) (w : World) :
    Calls Tryd.prog 72 #[.int .i64 n] w fun e w' => e = .returned (.int .u64 (n % PP)) ∧ w' = w := by
  by_cases h : 0 ≤ n
  · go_enter Tryd.func72, Tryd.ntmps72
    go_wp2
    go_ret
    exact ⟨ret_int (md_small h (by omega)).symm, rfl⟩
  · have hn : n < 0 := by omega
    clear h
    go_enter Tryd.func72, Tryd.ntmps72
    go_wp2
    go_ret
    refine ⟨ret_int ?_, rfl⟩
    rw [← md_add_PP, md_small (by rw [PP_eq]; omega) (by rw [PP_eq]; omega), PP_eq]
    simp only [wrap64, IntKind.wrap_u64]
    omega

theorem lift_any (a : Int) (h0 : 0 ≤ a) (h1 : a ≤ 18446744073709551615) (w : World) :
    Calls Tryd.prog 76 #[.int .u64 a] w fun e w' => e = .returned (.int .i64 (liftv a)) ∧ w' = w := by
  have c := element_any a h0 h1 w
  have b := md_bd a
  unfold liftv
  rw [PP_eq]
  rw [← PP_eq]
  generalize a % PP = x at *
  by_cases h : x ≤ 9223372034707292160
  · rw [if_pos h]
    go_enter Tryd.func76, Tryd.ntmps76
    go_wp2_with (go_at_call 74; refine c.mono ?_; rintro e w' ⟨rfl, rfl⟩)
    go_ret
    exact ⟨rfl, rfl⟩
  · rw [if_neg h]
    go_enter Tryd.func76, Tryd.ntmps76
    go_wp2_with (go_at_call 74; refine c.mono ?_; rintro e w' ⟨rfl, rfl⟩)
    go_ret
    refine ⟨ret_int ?_, rfl⟩
    rw [PP_eq]; omega

theorem root_yes (k : Nat) (hk : k ≤ 32) (w : World) :
    Calls Tryd.prog 102 #[.int .i64 ((2 ^ k : Nat) : Int)] w fun e w' => e = .returned (.int .u64 (rootk k)) ∧ w' = w := by
  have h1 : 1 ≤ 2 ^ k := Nat.one_le_two_pow
  have h2 : 2 ^ k ≤ 4294967296 := Nat.pow_le_pow_right (by omega) hk
  have ha := and_of_pow2 k
  have hr : rootk k = pw 7 (18446744069414584320 / 2 ^ k) := rfl
  have c := fun w => pow_any 7 (18446744069414584320 / 2 ^ k) (by omega) (by omega) (Nat.le_trans (Nat.div_le_self _ _) (by omega)) w
  rw [← hr] at c
  clear hr
  generalize rootk k = r at *
  generalize 2 ^ k = n at *
  have hand : bits .and .i64 (n : Int) ((n : Int) - 1) = 0 := by
    have h := and_i64_nat n (n - 1) (by omega) (by omega)
    rw [ha, show ((n - 1 : Nat) : Int) = (n : Int) - 1 by omega] at h
    exact h
  go_enter Tryd.func102, Tryd.ntmps102
  go_wp2_with (go_at_call 106; refine (c _).mono ?_; rintro e w' ⟨rfl, rfl⟩)
  go_ret
  exact ⟨rfl, rfl⟩

theorem root_no (n : Int) (hn : ¬ ∃ k, k ≤ 32 ∧ n = ((2 ^ k : Nat) : Int)) (w : World) :
    Calls Tryd.prog 102 #[.int .i64 n] w fun e w' => e = .returned (.int .u64 0) ∧ w' = w := by
  by_cases h1 : n < 1
  · clear hn
    go_enter Tryd.func102, Tryd.ntmps102
    go_wp2
    go_ret
    exact ⟨rfl, rfl⟩
  · by_cases h2 : 4294967296 < n
    · clear hn
      go_enter Tryd.func102, Tryd.ntmps102
      go_wp2
      go_ret
      exact ⟨rfl, rfl⟩
    · obtain ⟨m, rfl⟩ : ∃ m : Nat, n = m := ⟨n.toNat, by omega⟩
      have hand := and_i64_nat m (m - 1) (by omega) (by omega)
      rw [show ((m - 1 : Nat) : Int) = (m : Int) - 1 by omega] at hand
      have hx : ¬ m &&& (m - 1) = 0 := by
        intro ha
        obtain ⟨k, hk⟩ := pow2_of_and m m (Nat.le_refl _) (by omega) ha
        refine hn ⟨k, ?_, by rw [hk]⟩
        refine Nat.le_of_not_lt fun h33 => ?_
        have : 2 ^ 33 ≤ 2 ^ k := Nat.pow_le_pow_right (by omega) h33
        omega
      generalize m &&& (m - 1) = v at *
      clear hn
      go_enter Tryd.func102, Tryd.ntmps102
      go_wp2
      go_ret
      exact ⟨rfl, rfl⟩

end Go.Proofs.YtddpcjgekfmhkabDoor

/- merge, walked. -/
namespace Go.Proofs.YtddpcjgekfmhkabDoor
open Go.RowKit
set_option linter.unusedSimpArgs false

set_option maxHeartbeats 2000000 in
theorem merge_any (b tb n cap capt H C : Nat) (f T : Nat → Int) (w : World) (hn : n = C * (2 * H)) (hH : 1 ≤ H) (hHm : H ≤ 1048576) (hbt : b ≠ tb) (hmax : n ≤ 1048576)
    (hf : Elems n f) (hT : Elems n T) (ha : Arr w b n f) (hat : Arr w tb n T) :
    Calls Tryd.prog 70 #[.slice (some ⟨b, 0, none⟩) n cap, .int .i64 ((2 * H : Nat) : Int), .slice (some ⟨tb, 0, none⟩) n capt] w
      fun e w' => e = .returned (.tuple #[]) ∧ ∃ g, Arr w' b n g ∧ Elems n g ∧ (∀ c q, c < C → q < H → Pair H (fun q => T (q * C)) f g c q) ∧ Only b w w' := by
  obtain ⟨Z, hZ⟩ : ∃ Z, Z = 2 * H := ⟨_, rfl⟩
  have hZ0 : (1 : Int) ≤ (Z : Int) := by omega
  have d1 : (Z : Int) / 2 = (H : Int) := by omega
  have hCZ : n / Z = C := by rw [hn, hZ]; exact Nat.mul_div_cancel C (by omega)
  have d2 : (n : Int) / (Z : Int) = (C : Int) := by rw [← Int.natCast_ediv, hCZ]
  have d3 : (n : Int).tdiv (Z : Int) = (C : Int) := by rw [Int.tdiv_eq_ediv_of_nonneg (by omega), d2]
  have d4 : (Z : Int).tdiv 2 = (H : Int) := by rw [Int.tdiv_eq_ediv_of_nonneg (by omega), d1]
  have hCn : C ≤ n := by rw [← hCZ]; exact Nat.div_le_self _ _
  have hHn : Z ≤ n ∨ C = 0 := by
    rcases Nat.eq_zero_or_pos C with h | h
    · exact Or.inr h
    · left; rw [hn, hZ]; exact Nat.le_mul_of_pos_left _ h
  have w1 : IntKind.i64.wrap (C : Int) = (C : Int) := by rw [IntKind.wrap_i64]; omega
  have w2 : IntKind.i64.wrap (H : Int) = (H : Int) := by rw [IntKind.wrap_i64]; omega
  have hn0 : ¬ (Z : Int) = 0 := by omega
  have HN : Hid (n = C * (2 * H)) := hn
  have HZ : Hid (Z = 2 * H) := hZ
  rw [← hZ]
  clear hn hZ hCZ
  go_enter Tryd.func70, Tryd.ntmps70
  go_wp2
  go_quiet (fail)
  go_wp2
  have HF : Hid (Elems n f) := hf
  have HTE : Hid (Elems n T) := hT
  have HA : Hid (Arr w b n f) := ha
  have HAT : Hid (Arr w tb n T) := hat
  clear hf hT ha hat d1 d2 d3 d4 w1 w2 hn0
  go_loopw [8] (fun s wr => ∃ (c S : Nat) (g : Nat → Int), c ≤ C ∧ Hid (S = c * (2 * H)) ∧ s = .int .i64 S ∧ Hid (Arr wr b n g ∧ Elems n g ∧ Part H C (fun q => T (q * C)) f c 0 g ∧ Only b w wr)) (fun s _ => n - (intOf s).toNat)
  case atStart => exact ⟨0, 0, f, Nat.zero_le _, by show 0 = 0 * (2 * H); omega, rfl, HA.out.drewN _, HF.out, Part.start _ _ _ _, (Only.refl b w).drewN _⟩
  case round =>
    obtain ⟨c, S, g, hc, HS, rfl, HR⟩ := hrel
    by_cases hlt : c < C
    · have hSn : S + Z ≤ n := by
        have := group_le (H := H) hlt
        rw [HN.out, HS.out, HZ.out]; exact this
      have hZH : Z = 2 * H := HZ.out
      have hS0 : S < n := by omega
      have hSH : S + H ≤ n := by omega
      clear hZH
      go_wp2
      obtain ⟨wo, rfl⟩ : ∃ wo : World, wo = wr := ⟨_, rfl⟩
      go_loopw [9] (fun k wr => ∃ (q : Nat) (g : Nat → Int), q ≤ H ∧ k = .int .i64 ((S : Int) + (q : Int)) ∧ Hid (Arr wr b n g ∧ Elems n g ∧ Part H C (fun q => T (q * C)) f c q g ∧ Only b w wr)) (fun k _ => S + H - (intOf k).toNat)
      case atStart => exact ⟨0, g, Nat.zero_le _, by simp, HR⟩
      case round =>
        obtain ⟨q, g, hq, rfl, HR⟩ := hrel
        by_cases hql : q < H
        · have hk : S + q < n := by omega
          have hk2 : S + q + H < n := by have := HZ.out; omega
          obtain ⟨P, hP⟩ : ∃ P, q * C = P := ⟨_, rfl⟩
          have hPn : P < n := by
            rw [← hP, HN.out, Nat.mul_comm]
            exact Nat.mul_lt_mul_of_pos_left (by omega) (by omega)
          have hPi : (q : Int) * (C : Int) = (P : Int) := by rw [← hP]; exact (Int.natCast_mul q C).symm
          have HP : Hid (q * C = P) := hP
          clear hP
          obtain ⟨hA, hE, hPart, hO⟩ := HR.out
          have b0 := hE.fits _ hk
          have b1 := hE.fits _ hk2
          have b2 := HTE.out.fits P hPn
          have c0 := (hA _ hk).1
          have c1 := (hA _ hk2).1
          have c2 := ((HAT.out.only hO hbt.symm) P hPn).1
          have f0 := (hA _ hk).2
          have f1 := (hA _ hk2).2
          have cm := mul_any _ _ b1.1 b1.2 b2.1 b2.2
          have bo := md_bd (g (S + q + H) * T P)
          have ca := add_any _ _ b0.1 b0.2 bo.1 (Int.le_trans bo.2 (by omega))
          have cs := sub_any _ _ b0.1 b0.2 bo.1 (Int.le_trans bo.2 (by omega))
          have bv1 := md_bd (g (S + q) + (g (S + q + H) * T P) % PP)
          have bv2 := md_bd (g (S + q) - (g (S + q + H) * T P) % PP)
          have HV : Hid (∃ v1 v2 o, v1 = (g (S + q) + (g (S + q + H) * T P) % PP) % PP ∧ v2 = (g (S + q) - (g (S + q + H) * T P) % PP) % PP ∧ o = (g (S + q + H) * T P) % PP) := ⟨_, _, _, rfl, rfl, rfl⟩
          obtain ⟨v1, v2, o, hv1, hv2, ho⟩ := HV.out
          rw [← ho] at cm
          rw [← hv1, ← ho] at ca
          rw [← hv2, ← ho] at cs
          rw [← hv1] at bv1
          rw [← hv2] at bv2
          have HV1 : Hid (v1 = (g (S + q) + (g (S + q + H) * T P) % PP) % PP) := hv1
          have HV2 : Hid (v2 = (g (S + q) - (g (S + q + H) * T P) % PP) % PP) := hv2
          have HB1 : Hid (0 ≤ v1 ∧ v1 ≤ 18446744069414584320) := bv1
          have HB2 : Hid (0 ≤ v2 ∧ v2 ≤ 18446744069414584320) := bv2
          clear hA hE hPart hO b0 b1 b2 bo HV hv1 hv2 ho bv1 bv2
          have i0 : (0 : Int) ≤ (S : Int) + (q : Int) := by omega
          have i1 : (S : Int) + (q : Int) < (n : Int) := by omega
          have i2 : (S : Int) + (q : Int) + (H : Int) < (n : Int) := by omega
          have i3 : (P : Int) < (n : Int) := by omega
          have i4 : (S : Int) + (q : Int) - (S : Int) = (q : Int) := by omega
          go_wp2
          go_quiet ((go_at_call 43; exact Calls.quiet_of_same (cm _)))
          go_wp2_with (first | (go_at_call 94; refine (ca _).mono ?_; rintro e w' ⟨rfl, hw⟩; subst w') | (go_at_call 95; refine (cs _).mono ?_; rintro e w' ⟨rfl, hw⟩; subst w'))
          go_roundw
          case rel =>
            refine ⟨q + 1, upd (upd g (S + q) v1) (S + q + H) v2, by omega, by go_num, ?_⟩
            obtain ⟨hA, hE, hPart, hO⟩ := HR.out
            refine ⟨?_, ?_, ?_, ?_⟩
            · exact ((hA.drewN _).set hk v1).set hk2 v2
            · exact (hE.upd _ _ HB1.out).upd _ _ HB2.out
            · have := hPart.step hlt hql
              rw [← HS.out] at this
              simp only [HP.out] at this
              rw [← HV1.out, ← HV2.out] at this
              exact this
            · exact ((hO.drewN _).setCell rfl _).setCell rfl _
          case measure => simp [intOf]; omega
        · obtain rfl : q = H := by omega
          go_wp2
          go_roundw
          case rel =>
            refine ⟨c + 1, S + Z, g, by omega, ?_, by go_num, ?_⟩
            · show S + Z = (c + 1) * (2 * q)
              rw [HS.out, HZ.out, Nat.add_mul]; omega
            · obtain ⟨hA, hE, hPart, hO⟩ := HR.out
              exact ⟨hA, hE, hPart.row, hO⟩
          case measure => simp [intOf]; omega
    · obtain rfl : c = C := by omega
      have hSn : S = n := by rw [HS.out, HN.out]
      subst hSn
      go_wp2
      go_end0
      obtain ⟨hA, hE, hPart, hO⟩ := HR.out
      exact ⟨rfl, g, hA, hE, fun c q hc hq => hPart.done c q hc hq, hO⟩

end Go.Proofs.YtddpcjgekfmhkabDoor
