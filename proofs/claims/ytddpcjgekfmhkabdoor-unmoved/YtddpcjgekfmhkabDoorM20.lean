/- Texts joined: Xu Xv. -/
import Derived.Test.YtddpcjgekfmhkabDoorM19

/- Taps as windows, walked. -/
namespace Go.Proofs.YtddpcjgekfmhkabDoor
open Go.RowKit
set_option linter.unusedSimpArgs false
set_option linter.unusedVariables false

/-- What windows gives. -/
def WinQ (base B K : Nat) (l : List Int) (w : World) (G : Nat → Prop) (tv : Value) (w' : World) : Prop := ∃ T, TR base B K tv l w' T ∧ (∀ k, T k → w.heap.size ≤ k) ∧ Bt G w w'

set_option maxHeartbeats 4000000 in
set_option maxRecDepth 20000 in
theorem windows_any {base n K shb mb B : Nat} {w : World} {G : Nat → Prop} (hs : ShR base n K shb mb 0 w G) (ht : Tab w) (hB : okBlock (B : Int)) (hK : 2 ^ K = n) (hn : n = 2 * B) (hK10 : K ≤ 10) (hb1 : 1 < base) (hwb : base ≤ w.heap.size) (a : Option Addr) (c : Nat) (l : List Int) (src : Src w a (ints l)) (hr : Rng l) (hl0 : 1 ≤ l.length) (hl1 : l.length ≤ 1024) :
    Calls Tryd.prog 27 #[.pointer (some ⟨shb, 0, none⟩), .slice a l.length c, .int .i64 B] w fun e w' => ∃ tv, e = .returned tv ∧ WinQ base B K l w G tv w' := by
  have hB' := hB
  unfold okBlock at hB'
  have hbl : ∀ b o, a = some ⟨b, o, none⟩ → b < w.heap.size := by
    intro b o e
    obtain ⟨b', o', e', q⟩ := src.int (at0_some (l := l) (i := 0) (by omega))
    rw [e] at e'
    simp at e'
    obtain ⟨rfl, rfl⟩ := e'
    exact World.block_lt_of_cell? w _ q
  have hG1 : ∀ k, G k → base ≤ k ∧ k < w.heap.size := fun k hk => (ShR.fr base n K shb mb 0 (by omega)).lt hs hk
  obtain ⟨L, hL⟩ : ∃ L, l.length = L := ⟨_, rfl⟩
  obtain ⟨J, hJ⟩ : ∃ J, wins L B = J := ⟨_, rfl⟩
  have hJ66 : J ≤ 65 := by rw [← hJ]; exact Nat.le_trans (wins_mono (by omega)) (wins_le hB)
  have hJ0 : 0 < J := by rw [← hJ]; exact wins_pos _ _
  have CW : ∀ w', Calls Tryd.prog 26 #[.int .i64 L, .int .i64 B] w' fun e w'' => e = .returned (.int .i64 J) ∧ w'' = w' := fun w' => by
    have := windowCount_any L B (by omega) (by omega) hB w'
    have e : (L + B - 2) / B + 1 = J := hJ
    rwa [e] at this
  -- zeros, and the taps behind them
  have C1 : ∀ (w1 : World), JArr w1 w.heap.size B (fun _ => 0) → Gw w w1 → w1.heap.size = w.heap.size + 1 → Calls Tryd.prog 46 #[.slice (some ⟨w1.heap.size, 0, none⟩) 2 2] (w1.alloc (.cells #[.slice (some ⟨w.heap.size, 0, none⟩) B B, .slice a L c] 24)) fun e w3 => ∃ g off cap, e = .returned (.slice (some ⟨g, off, none⟩) (B + L) cap) ∧ B + L ≤ cap ∧ Hid (Src w3 (some ⟨g, off, none⟩) (ints (List.replicate B 0 ++ l)) ∧ w.heap.size ≤ g ∧ g < w3.heap.size ∧ Bt (fun _ => False) w w3) := by
    intro w1 hj g1 z1
    have b2 : Bt (fun _ => False) w (w1.alloc (.cells #[.slice (some ⟨w.heap.size, 0, none⟩) B B, .slice a L c] 24)) := (g1.bt _).alloc _
    have hz : Src (w1.alloc (.cells #[.slice (some ⟨w.heap.size, 0, none⟩) B B, .slice a L c] 24)) (some ⟨w.heap.size, 0, none⟩) (ints (List.replicate B 0)) :=
      (JArr.src' hj (List.replicate B 0) (by simp) (fun i hi => by unfold at0; rw [List.getD_eq_getElem?_getD, List.getElem?_replicate, if_pos hi]; rfl)).bt ((Bt.refl (fun _ => False) w1).alloc _) (fun _ _ _ x => x)
    have := Concat_any w1.heap.size w.heap.size B a c l (w1.alloc (.cells #[.slice (some ⟨w.heap.size, 0, none⟩) B B, .slice a L c] 24)) (by omega) (by omega) (by omega) (by rw [World.cell?_alloc_at _ _ _ _ rfl]; rfl) (by rw [World.cell?_alloc_at _ _ _ _ rfl, hL]; rfl) hz (src.bt b2 (fun _ _ _ x => x)) (fun _ b o e => by have := hbl b o e; have := b2.size; omega) (by have := b2.size; simp at this ⊢; omega)
    rw [hL] at this
    refine this.mono ?_
    rintro e w3 ⟨g, off, cap, rfl, k1, H⟩
    refine ⟨g, off, cap, rfl, k1, H.out.1, Nat.le_trans b2.size H.out.2.1, ?_, b2.trans H.out.2.2 (fun _ _ x => x)⟩
    obtain ⟨b', o', e', q⟩ := H.out.1.int (at0_some (l := List.replicate B (0 : Int) ++ l) (i := 0) (by simp; omega))
    simp at e'
    obtain ⟨rfl, rfl⟩ := e'
    exact World.block_lt_of_cell? w3 _ q
  have HW0 : Hid (∀ (w3 w4 : World) (g off : Nat), Src w3 (some ⟨g, off, none⟩) (ints (List.replicate B 0 ++ l)) → w.heap.size ≤ g → g < w3.heap.size → Bt (fun _ => False) w w3 → Rw w4 w3.heap.size 59 (List.replicate J [.slice none 0 0]) → Bt (fun _ => False) w3 w4 → WI base n K shb mb B J w3.heap.size g off l w G [] G w4) := by
    intro w3 w4 g off s3 g3 g3' b3 r4 b4
    have b34 : Bt (fun _ => False) w w4 := b3.trans b4 (fun _ _ x => x)
    refine ⟨?_, fun i b hb => by simp at hb, fun b hb => by simp at hb, (ShR.fr base n K shb mb 0 (by omega)).bt hs b34 (fun _ _ x => x), fun e => by have := hG1 _ e; have := b3.size; omega, b3.size, Stp.of_bt b34, s3.bt b4 (fun _ _ _ x => x), fun e => by have := hG1 _ e; omega, by omega, ht.bt b34 (fun x => x)⟩
    unfold Rw at r4
    rw [rep_flat] at r4
    exact r4
  have HRD : Hid (∀ (wr : World) (tb g off j : Nat) (bs : List Nat) (Gj : Nat → Prop), WI base n K shb mb B J tb g off l w G bs Gj wr → bs.length = j → j < J → ∀ (len cap : Nat), len = min ((j + 2) * B) (B + L) - j * B → 0 < len ∧ Calls Tryd.prog 42 #[.slice (some ⟨g, off + j * B, none⟩) len cap, .int .i64 n] wr fun e w1 => e = .returned (.slice (some ⟨wr.heap.size, 0, none⟩) n n) ∧ Hid (Calls Tryd.prog 41 #[.pointer (some ⟨shb, 0, none⟩), .slice (some ⟨wr.heap.size, 0, none⟩) n n, .bool false] w1 fun e w2 => ∃ ob, e = .returned (.slice (some ⟨ob, 0, none⟩) n n) ∧ w2.cell? ⟨tb, j, none⟩ = some (.slice none 0 0) ∧ w2.frozen? ⟨tb, j, none⟩ = false ∧ Hid (∃ Gj', WI base n K shb mb B J tb g off l w G (bs ++ [ob]) Gj' (w2.setCell ⟨tb, j, none⟩ (.slice (some ⟨ob, 0, none⟩) n n))))) := by
    intro wr tb g off j bs Gj h hj1 hj2 len cap hlen
    subst hj1
    exact win_round h hB hK hn hK10 hb1 (fun k hk => (hG1 k hk).1) hwb hr hl1 (by rw [hL]; exact hJ.symm) hl0 hj2 len cap (by rw [hL]; exact hlen)
  have HEND : Hid (∀ (wr : World) (tb g off : Nat) (bs : List Nat) (Gj : Nat → Prop), WI base n K shb mb B J tb g off l w G bs Gj wr → bs.length = J → WinQ base B K l w G (.slice (some ⟨tb, 0, none⟩) J J) wr) := by
    intro wr tb g off bs Gj h hj
    refine ⟨fun k => k = tb ∨ k ∈ bs, ⟨tb, bs, by rw [hj], by rw [hj, hL]; exact hJ.symm, ?_, ?_, by have := h.tb1; omega, fun b hb => by have := (h.far b hb).1; omega, fun _ => Iff.rfl⟩, fun k hk => ?_, h.st.bt⟩
    · have := h.row
      unfold RV rowV at this
      rw [hj, Nat.sub_self, List.replicate_zero, List.append_nil] at this
      unfold Rw
      rw [sls_flat, hK]
      exact this
    · rw [hK]; exact h.sps
    · rcases hk with rfl | hk
      · exact h.tb1
      · exact (h.far k hk).1
  have HMUL : Hid (∀ j : Nat, j < J → ∃ lo hi : Nat, (j : Int) * (B : Int) = (lo : Int) ∧ ((j : Int) + 2) * (B : Int) = (hi : Int) ∧ lo = j * B ∧ hi = (j + 2) * B ∧ lo < B + L ∧ lo ≤ 20000 ∧ hi ≤ 20000 ∧ lo < hi) := by
    intro j hj
    have h1 : j * B ≤ 65 * 256 := Nat.mul_le_mul (by omega) (by omega)
    have e2 : (j + 2) * B = j * B + 2 * B := by rw [Nat.add_mul]
    have hlo : j * B < B + L := by
      have h2 : j * B ≤ (L + B - 2) / B * B := Nat.mul_le_mul_right _ (by have : wins L B = (L + B - 2) / B + 1 := rfl; omega)
      have h3 := Nat.div_mul_le_self (L + B - 2) B
      omega
    exact ⟨j * B, (j + 2) * B, by rw [Int.natCast_mul], by rw [Int.natCast_mul]; rfl, rfl, rfl, hlo, by omega, by omega, by omega⟩
  rw [hL] at hl0 hl1 ⊢
  have hn3 : (2 : Int) * (B : Int) = (n : Int) := by omega
  have hB0 : 0 < B := by omega
  have hB2 : B ≤ 256 := by omega
  obtain ⟨P, hP⟩ : ∃ P, B + L = P := ⟨_, rfl⟩
  rw [hP] at C1 HRD HMUL
  have hP2 : P ≤ 2000 := by omega
  clear hs ht src hr hbl hG1 hL hJ hB' hB hK hn hwb hP
  go_enter Tryd.func27, Tryd.ntmps27
  go_wp2_with (first
    | (at_make; refine wpList_make_i64 _ rfl _ _ 24 3 rfl Tryd.underlying24 info_int B _ rfl rfl rfl (by omega) ?_; intro w1 hA1 hG1 hZ1; have H1 : Hid (JArr w1 w.heap.size B (fun _ => 0) ∧ Gw w w1 ∧ w1.heap.size = w.heap.size + 1) := ⟨hA1, hG1, hZ1⟩; clear hA1 hG1 hZ1)
    | (go_at_call 46; refine (C1 w1 H1.out.1 H1.out.2.1 H1.out.2.2).mono ?_; rintro e w3 ⟨g, off, cap, rfl, hcap, H3⟩; clear C1)
    | (go_at_call 26; refine (CW _).mono ?_; rintro e w' ⟨rfl, hw⟩; subst w')
    | (at_make; refine wpList_make_el rfl _ _ 60 59 rfl Tryd.underlying60 (.slice none 0 0) [.slice none 0 0] 1 24 infoU zcellsU rfl J _ rfl rfl rfl (by omega) (by omega) ?_; intro w4 H4))
  have HI0 : Hid (WI base n K shb mb B J w3.heap.size g off l w G [] G w4) := HW0.out w3 w4 g off H3.out.1 H3.out.2.1 H3.out.2.2.1 H3.out.2.2.2 H4.out.1 H4.out.2.1
  clear HW0 H3 H4 H1 CW
  go_loopw [23] (fun ti wr => ∃ j : Nat, j ≤ J ∧ ti = .int .i64 j ∧ Hid (∃ bs Gj, bs.length = j ∧ WI base n K shb mb B J w3.heap.size g off l w G bs Gj wr)) (fun ti _ => J - (intOf ti).toNat)
  case atStart => exact ⟨0, Nat.zero_le _, rfl, [], G, rfl, HI0.out⟩
  case round =>
    obtain ⟨j, hj, rfl, HR⟩ := hrel
    by_cases hlt : j < J
    · obtain ⟨bs, Gj, hbs, hwi⟩ := HR.out
      obtain ⟨lo, hi, m1, m2, m3, m4, m5, m6, m7, m8⟩ := HMUL.out j hlt
      have CR := HRD.out wr w3.heap.size g off j bs Gj hwi hbs hlt
      rw [← m3, ← m4] at CR
      have HBS : Hid (bs.length = j) := hbs
      have ij : (j : Int) < (J : Int) := by omega
      clear hbs hwi
      rcases Nat.lt_or_ge P hi with q | q
      · have CE := (CR (P - lo) (cap - lo) (by omega)).2
        have q1 : (P : Int) < (hi : Int) := by omega
        clear CR
        have cnl : ¬ cap = lo := by omega
        have k1 : (lo : Int) ≤ (P : Int) := by omega
        have k2 : (P : Int) ≤ (cap : Int) := by omega
        have k3 : lo ≤ P := by omega
        clear m3 m4 m8 HRD HMUL
        go_wp2_with (first
          | (go_at_call 42; refine CE.mono ?_; rintro e w5 ⟨rfl, H5⟩; have CT := H5.out; clear CE H5)
          | (go_at_call 41; refine CT.mono ?_; rintro e w6 ⟨ob, rfl, d1, d2, H6⟩; clear CT))
        go_roundw
        case rel => exact ⟨j + 1, by omega, by go_num, by obtain ⟨Gj', q⟩ := H6.out; exact ⟨bs ++ [ob], Gj', by rw [List.length_append, HBS.out]; rfl, q⟩⟩
        case measure => simp [intOf]; omega
      · have CE := (CR (hi - lo) (cap - lo) (by omega)).2
        have q1 : ¬ (P : Int) < (hi : Int) := by omega
        have q2 : (hi : Int) ≤ (P : Int) := by omega
        clear CR
        have cnl : ¬ cap = lo := by omega
        have k1 : (lo : Int) ≤ (hi : Int) := by omega
        have k2 : (hi : Int) ≤ (cap : Int) := by omega
        have k3 : lo ≤ hi := by omega
        clear m3 m4 m8 HRD HMUL
        go_wp2_with (first
          | (go_at_call 42; refine CE.mono ?_; rintro e w5 ⟨rfl, H5⟩; have CT := H5.out; clear CE H5)
          | (go_at_call 41; refine CT.mono ?_; rintro e w6 ⟨ob, rfl, d1, d2, H6⟩; clear CT))
        go_roundw
        case rel => exact ⟨j + 1, by omega, by go_num, by obtain ⟨Gj', q⟩ := H6.out; exact ⟨bs ++ [ob], Gj', by rw [List.length_append, HBS.out]; rfl, q⟩⟩
        case measure => simp [intOf]; omega
    · obtain rfl : j = J := by omega
      have HF : Hid (WinQ base B K l w G (.slice (some ⟨w3.heap.size, 0, none⟩) j j) wr) := by
        obtain ⟨bs, Gj, hbs, hwi⟩ := HR.out
        exact HEND.out wr w3.heap.size g off bs Gj hwi hbs
      clear HRD HMUL HEND HR
      go_wp2
      go_ret
      exact ⟨_, rfl, HF.out⟩
end Go.Proofs.YtddpcjgekfmhkabDoor

/- New, walked. -/
namespace Go.Proofs.YtddpcjgekfmhkabDoor
open Go.RowKit
set_option linter.unusedSimpArgs false
set_option linter.unusedVariables false

theorem blk_pow {B : Nat} (h : okBlock (B : Int)) : ∃ K, 2 ^ K = 2 * B ∧ K ≤ 10 := by
  unfold okBlock at h
  obtain rfl | rfl | rfl | rfl | rfl : B = 16 ∨ B = 32 ∨ B = 64 ∨ B = 128 ∨ B = 256 := by omega
  · exact ⟨5, by decide, by decide⟩
  · exact ⟨6, by decide, by decide⟩
  · exact ⟨7, by decide, by decide⟩
  · exact ⟨8, by decide, by decide⟩
  · exact ⟨9, by decide, by decide⟩
theorem newI_ri (base : Nat) (r : Nat) (w : World) (hr : r ≤ 65536) (hb : base ≤ w.heap.size) : Calls Tryd.prog 24 #[.int .i64 r] w fun e w' => e = .returned (.pointer (some ⟨w.heap.size, 0, none⟩)) ∧ RI base w.heap.size r [] w' (fun k => k = w.heap.size) ∧ Bt (fun _ => False) w w' ∧ w'.heap.size = w.heap.size + 1 := by
  refine (newI 131072 r w (by omega)).mono ?_
  rintro e w' ⟨rfl, q1, q2, q3⟩
  rw [show max (r : Int) 0 = (r : Int) by omega] at q1
  exact ⟨rfl, ⟨w.heap.size, q1, hb, hb, fun k => by constructor <;> (intro h; omega)⟩, q2, q3⟩
theorem newU_kr (base B K r : Nat) (z : Nat → Int) (w : World) (hr : r ≤ 65536) (hb : base ≤ w.heap.size) : Calls Tryd.prog 25 #[.int .i64 r] w fun e w' => e = .returned (.pointer (some ⟨w.heap.size, 0, none⟩)) ∧ KR base w.heap.size B K r 0 z w' (fun k => k = w.heap.size) ∧ Bt (fun _ => False) w w' ∧ w'.heap.size = w.heap.size + 1 := by
  refine (newU 131072 r w (by omega)).mono ?_
  rintro e w' ⟨rfl, q1, q2, q3⟩
  rw [show max (r : Int) 0 = (r : Int) by omega] at q1
  exact ⟨rfl, ⟨w.heap.size, [], q1, by simp, fun i b hb => by simp at hb, hb, hb, fun b hb => by simp at hb, fun k => by simp⟩, q2, q3⟩

theorem new_fin {base B R W sb ab kb : Nat} {K : Nat} {l : List Int} {tv : Value} {w1 w2 w3 w4 w5 w6 : World} {G : Nat → Prop} (hb1 : 1 < base) (hb : base ≤ w1.heap.size) (ht : Tab w1) (hc : okConf (B : Int) (R : Int) (W : Int)) (hK : 2 ^ K = 2 * B) (hK10 : K ≤ 10) (htp : okTaps l)
    (s1 : RI base sb B [] w2 (fun k => k = sb)) (hsb : sb = w1.heap.size) (b2 : Bt (fun _ => False) w1 w2) (z2 : w2.heap.size = sb + 1)
    (s2 : RI base ab R [] w3 (fun k => k = ab)) (hab : w2.heap.size ≤ ab) (b3 : Bt (fun _ => False) w2 w3) (z3 : w3.heap.size = ab + 1)
    (s3 : KR base kb B K (wins 1024 B) 0 (at0 []) w4 (fun k => k = kb)) (hkb : w3.heap.size ≤ kb) (b4 : Bt (fun _ => False) w3 w4) (z4 : w4.heap.size = kb + 1)
    (b5 : Bt (fun _ => False) w4 w5) (hG : ∀ k, G k → w4.heap.size ≤ k) (hq : WinQ base B K l w5 G tv w6) (xb : Nat) (hx : xb = w6.heap.size) :
    ∃ F, FI base xb (FlS.fresh B R W l) (w6.alloc (.cells #[.int .i64 B, .int .i64 R, .int .i64 W, .int .i64 0, .pointer (some ⟨sb, 0, none⟩), .pointer (some ⟨ab, 0, none⟩), .pointer (some ⟨kb, 0, none⟩), tv, .slice none 0 0, .int .i64 (-1)] 63)) F ∧ (∀ k, F k → w1.heap.size ≤ k) ∧ Bt (fun _ => False) w1 (w6.alloc (.cells #[.int .i64 B, .int .i64 R, .int .i64 W, .int .i64 0, .pointer (some ⟨sb, 0, none⟩), .pointer (some ⟨ab, 0, none⟩), .pointer (some ⟨kb, 0, none⟩), tv, .slice none 0 0, .int .i64 (-1)] 63)) := by
  obtain ⟨T, q1, q2, q3⟩ := hq
  have sz5 := b5.size
  have sz6 := q3.size
  have b16 : Bt (fun _ => False) w1 w6 := (((b2.trans b3 (fun _ _ x => x)).trans b4 (fun _ _ x => x)).trans b5 (fun _ _ x => x)).trans q3 (fun k hk e => by have := hG k e; omega)
  obtain ⟨w7, hw7⟩ : ∃ w7, w7 = w6.alloc (.cells #[.int .i64 B, .int .i64 R, .int .i64 W, .int .i64 0, .pointer (some ⟨sb, 0, none⟩), .pointer (some ⟨ab, 0, none⟩), .pointer (some ⟨kb, 0, none⟩), tv, .slice none 0 0, .int .i64 (-1)] 63) := ⟨_, rfl⟩
  rw [← hw7]
  have b67 : Bt (fun _ => False) w6 w7 := by rw [hw7]; exact (Bt.refl _ _).alloc _
  have b57 : Bt G w5 w7 := q3.trans b67 (fun _ _ x => x.elim)
  have hTlt : ∀ k, T k → k < w6.heap.size := fun k hk => ((TR.fr _ _ _ _ _).lt q1 hk).2
  have k1 : RI base sb B [] w7 (fun k => k = sb) := (RI.fr _ _ _ _).btw ((RI.fr _ _ _ _).bt ((RI.fr _ _ _ _).bt ((RI.fr _ _ _ _).bt s1 b3 (fun _ _ x => x)) b4 (fun _ _ x => x)) b5 (fun _ _ x => x)) b57 (fun k hk e => by have := hG k e; omega) (fun k e => by have := hG k e; omega)
  have k2 : RI base ab R [] w7 (fun k => k = ab) := (RI.fr _ _ _ _).btw ((RI.fr _ _ _ _).bt ((RI.fr _ _ _ _).bt s2 b4 (fun _ _ x => x)) b5 (fun _ _ x => x)) b57 (fun k hk e => by have := hG k e; omega) (fun k e => by have := hG k e; omega)
  have k3 : KR base kb B K (wins 1024 B) 0 (at0 []) w7 (fun k => k = kb) := (KR.fr _ _ _ _ _ _ _).btw ((KR.fr _ _ _ _ _ _ _).bt s3 b5 (fun _ _ x => x)) b57 (fun k hk e => by have := hG k e; omega) (fun k e => by have := hG k e; omega)
  have k4 : TR base B K tv l w7 T := (TR.fr _ _ _ _ _).bt q1 b67 (fun _ _ x => x)
  have hxb : XB w7 xb B R W 0 sb ab kb tv (.slice none 0 0) (-1) := by
    unfold XB
    rw [hw7, hx]
    show (w6.heap.push _)[w6.heap.size]? = _
    simp
  obtain ⟨p, hp⟩ : ∃ p : Par, p = ⟨B, K, R, W, 0, sb, ab, kb, tv, .slice none 0 0, -1, [], [], 0, at0 [], l, none, none⟩ := ⟨_, rfl⟩
  refine ⟨fun k => ∃ i, i < 7 ∧ (match i with | 0 => k = xb | 1 => k = sb | 2 => k = ab | 3 => k = kb | 4 => T k | _ => False), ⟨p, by rw [hp], ?_, ht.bt (b16.trans b67 (fun _ _ x => x)) (fun x => x), hb1, fun i k => (match i with | 0 => k = xb | 1 => k = sb | 2 => k = ab | 3 => k = kb | 4 => T k | _ => False), fun i hi => ?_, fun i j k hi hj a c => ?_, fun k => Iff.rfl⟩, fun k hk => ?_, b16.trans b67 (fun _ _ x => x)⟩
  · rw [hp]
    refine ⟨rfl, rfl, rfl, hK, hK10, rfl, rfl, ?_, ?_, ?_, rfl, ?_, rfl, fun i q hi hl => ?_⟩
    · show ([] : List Int) = List.drop _ []
      rw [List.drop_nil]
    · show ([] : List Int) = _
      unfold FlS.outs FlS.fresh FlS.whole
      simp
    · show 0 = 0 / B
      rw [Nat.zero_div]
    · show l = tapsAt [(0, l)] _ []
      unfold tapsAt
      rw [if_pos (Nat.zero_le _)]; rfl
    · simp [FlS.fresh] at hl
  · rw [hp]
    match i, hi with
    | 0, _ => exact ⟨hxb, by omega, fun _ => Iff.rfl⟩
    | 1, _ => exact k1
    | 2, _ => exact k2
    | 3, _ => exact k3
    | 4, _ => exact k4
    | 5, _ => exact ⟨rfl, fun k e => e⟩
    | 6, _ => exact fun k e => e
  · have hTg : ∀ k, T k → w5.heap.size ≤ k ∧ k < w6.heap.size := fun k hk => ⟨q2 k hk, hTlt k hk⟩
    have lab : ∀ i, i < 7 → (match i with | 0 => k = xb | 1 => k = sb | 2 => k = ab | 3 => k = kb | 4 => T k | _ => False) → (i = 0 ∧ w6.heap.size ≤ k) ∨ (i = 1 ∧ k = sb) ∨ (i = 2 ∧ k = ab) ∨ (i = 3 ∧ k = kb) ∨ (i = 4 ∧ w5.heap.size ≤ k ∧ k < w6.heap.size) := by
      intro i hi q
      match i, hi, q with
      | 0, _, q => exact .inl ⟨rfl, by have : k = xb := q; omega⟩
      | 1, _, q => exact .inr (.inl ⟨rfl, q⟩)
      | 2, _, q => exact .inr (.inr (.inl ⟨rfl, q⟩))
      | 3, _, q => exact .inr (.inr (.inr (.inl ⟨rfl, q⟩)))
      | 4, _, q => exact .inr (.inr (.inr (.inr ⟨rfl, hTg k q⟩)))
      | 5, _, q => exact (q : False).elim
      | 6, _, q => exact (q : False).elim
    have l1 := lab i hi a
    have l2 := lab j hj c
    omega
  · obtain ⟨i, hi, q⟩ := hk
    match i, hi, q with
    | 0, _, q => have : k = xb := q; have := b16.size; omega
    | 1, _, q => have : k = sb := q; omega
    | 2, _, q => have : k = ab := q; omega
    | 3, _, q => have : k = kb := q; omega
    | 4, _, q => have := q2 k q; omega
    | 5, _, q => exact (q : False).elim
    | 6, _, q => exact (q : False).elim

set_option maxHeartbeats 4000000 in
set_option maxRecDepth 20000 in
theorem new_any (base : Nat) (B R W : Int) (a : Option Addr) (c : Nat) (l : List Int) (w : World) (ht : Tab w) (hb1 : 1 < base) (hb : base ≤ w.heap.size) (src : Src w a (ints l)) (hr : Rng l) (hl : l.length ≤ 1048576)
    (hB : -9223372036854775808 ≤ B ∧ B ≤ 9223372036854775807) : Calls Tryd.prog 12 #[.agg #[.int .i64 B, .int .i64 R, .int .i64 W], .slice a l.length c] w fun e w' => NewP FI base B R W l w e w' := by
  have C1 := fun w' => isConfig_any B R W hB w'
  obtain ⟨w0, hw0⟩ : ∃ w0, w0 = w.alloc (.cells #[.int .i64 B, .int .i64 R, .int .i64 W] 23) := ⟨_, rfl⟩
  have B0 : Bt (fun _ => False) w w0 := by rw [hw0]; exact (Bt.refl _ _).alloc _
  have D : w0.cell? ⟨w.heap.size, 0, none⟩ = some (.int .i64 B) ∧ w0.cell? ⟨w.heap.size, 1, none⟩ = some (.int .i64 R) ∧ w0.cell? ⟨w.heap.size, 2, none⟩ = some (.int .i64 W) := by
    rw [hw0]
    refine ⟨?_, ?_, ?_⟩ <;> (rw [World.cell?_alloc_at _ _ _ _ rfl]; rfl)
  have C2 : ∀ w', Bt (fun _ => False) w w' → Calls Tryd.prog 23 #[.slice a l.length c] w' fun e w'' => BoolIs (okTaps l) e ∧ w'' = w' := fun w' b => areTaps_any a c l w' (src.bt b (fun _ _ _ x => x)) hr (by omega)
  by_cases gc : okConf B R W
  · have C1' : ∀ w', Calls Tryd.prog 22 #[.agg #[.int .i64 B, .int .i64 R, .int .i64 W]] w' fun e w'' => e = .returned (.bool true) ∧ Hid (Bt (fun _ => False) w' w'') := fun w' => by
      refine (C1 w').mono ?_
      rintro e w'' ⟨⟨ok, rfl, hk⟩, b⟩
      rw [hk.2 gc]; exact ⟨rfl, b⟩
    by_cases gt : okTaps l
    · have C2' : ∀ w', Bt (fun _ => False) w w' → Calls Tryd.prog 23 #[.slice a l.length c] w' fun e w'' => e = .returned (.bool true) ∧ w'' = w' := fun w' b => by
        refine (C2 w' b).mono ?_
        rintro e w'' ⟨⟨ok, rfl, hk⟩, rfl⟩
        rw [hk.2 gt]; exact ⟨rfl, rfl⟩
      obtain ⟨hcB, hcR0, hcR1, hcW0, hcW1⟩ := id gc
      have hcB' := hcB
      unfold okBlock at hcB'
      obtain ⟨Bn, rfl⟩ : ∃ Bn : Nat, B = Bn := ⟨B.toNat, by omega⟩
      obtain ⟨Rn, rfl⟩ : ∃ Rn : Nat, R = Rn := ⟨R.toNat, by omega⟩
      obtain ⟨Wn, rfl⟩ : ∃ Wn : Nat, W = Wn := ⟨W.toNat, by omega⟩
      obtain ⟨K, hK, hK10⟩ := blk_pow hcB
      refine (show Calls Tryd.prog 12 #[.agg #[.int .i64 (Bn : Int), .int .i64 (Rn : Int), .int .i64 (Wn : Int)], .slice a l.length c] w fun e w' => ∃ xb F, e = .returned (.tuple #[.pointer (some ⟨xb, 0, none⟩), .int .i64 0]) ∧ FI base xb (FlS.fresh Bn Rn Wn l) w' F ∧ (∀ k, F k → w.heap.size ≤ k) ∧ Bt (fun _ => False) w w' from ?_).mono (fun e w' q => by unfold NewP; rw [if_pos gc, if_pos gt]; exact q)
      have hJ := wins_le hcB
      obtain ⟨J, hJe⟩ : ∃ J, wins 1024 Bn = J := ⟨_, rfl⟩
      have S3 : ∀ W, Bt (fun _ => False) w0 W → W.cell? ⟨w.heap.size, 0, none⟩ = some (.int .i64 (Bn : Int)) ∧ W.cell? ⟨w.heap.size, 1, none⟩ = some (.int .i64 (Rn : Int)) ∧ W.cell? ⟨w.heap.size, 2, none⟩ = some (.int .i64 (Wn : Int)) := fun W b => ⟨b.cell (fun x => x) D.1, b.cell (fun x => x) D.2.1, b.cell (fun x => x) D.2.2⟩
      -- the calls of the last statement
      have E1 : ∀ w1, Bt (fun _ => False) w0 w1 → Calls Tryd.prog 24 #[.int .i64 (Bn : Int)] w1.drew fun e w2 => e = .returned (.pointer (some ⟨w1.heap.size, 0, none⟩)) ∧ (w2.cell? ⟨w.heap.size, 0, none⟩ = some (.int .i64 (Bn : Int)) ∧ w2.cell? ⟨w.heap.size, 1, none⟩ = some (.int .i64 (Rn : Int)) ∧ w2.cell? ⟨w.heap.size, 2, none⟩ = some (.int .i64 (Wn : Int))) ∧ Hid (RI base w1.heap.size Bn [] w2 (fun k => k = w1.heap.size) ∧ Bt (fun _ => False) w1 w2 ∧ w2.heap.size = w1.heap.size + 1) := by
        intro w1 b1
        refine (newI_ri base Bn w1.drew (by omega) (by have := B0.size; have := b1.size; show base ≤ w1.heap.size; omega)).mono ?_
        rintro e w2 ⟨rfl, q1, q2, q3⟩
        have b2 : Bt (fun _ => False) w1 w2 := ((Bt.refl (fun _ => False) w1).drew).trans q2 (fun _ _ x => x)
        exact ⟨rfl, S3 w2 (b1.trans b2 (fun _ _ x => x)), q1, b2, q3⟩
      have E2 : ∀ w1 w2, Bt (fun _ => False) w0 w1 → (RI base w1.heap.size Bn [] w2 (fun k => k = w1.heap.size) ∧ Bt (fun _ => False) w1 w2 ∧ w2.heap.size = w1.heap.size + 1) → Calls Tryd.prog 24 #[.int .i64 (Rn : Int)] w2 fun e w3 => e = .returned (.pointer (some ⟨w2.heap.size, 0, none⟩)) ∧ (w3.cell? ⟨w.heap.size, 0, none⟩ = some (.int .i64 (Bn : Int)) ∧ w3.cell? ⟨w.heap.size, 1, none⟩ = some (.int .i64 (Rn : Int)) ∧ w3.cell? ⟨w.heap.size, 2, none⟩ = some (.int .i64 (Wn : Int))) ∧ Hid (RI base w2.heap.size Rn [] w3 (fun k => k = w2.heap.size) ∧ Bt (fun _ => False) w2 w3 ∧ w3.heap.size = w2.heap.size + 1) := by
        intro w1 w2 b1 h2
        refine (newI_ri base Rn w2 (by omega) (by have := B0.size; have := b1.size; omega)).mono ?_
        rintro e w3 ⟨rfl, q1, q2, q3⟩
        exact ⟨rfl, S3 w3 ((b1.trans h2.2.1 (fun _ _ x => x)).trans q2 (fun _ _ x => x)), q1, q2, q3⟩
      have E3 : ∀ W, Calls Tryd.prog 26 #[.int .i64 1024, .int .i64 (Bn : Int)] W fun e w' => e = .returned (.int .i64 J) ∧ w' = W := fun W => by
        have := windowCount_any 1024 Bn (by omega) (by omega) hcB W
        have e : (1024 + Bn - 2) / Bn + 1 = J := hJe
        rw [e] at this
        exact this
      have E4 : ∀ w3, Bt (fun _ => False) w0 w3 → Calls Tryd.prog 25 #[.int .i64 J] w3 fun e w4 => e = .returned (.pointer (some ⟨w3.heap.size, 0, none⟩)) ∧ (w4.cell? ⟨w.heap.size, 0, none⟩ = some (.int .i64 (Bn : Int)) ∧ w4.cell? ⟨w.heap.size, 1, none⟩ = some (.int .i64 (Rn : Int)) ∧ w4.cell? ⟨w.heap.size, 2, none⟩ = some (.int .i64 (Wn : Int))) ∧ Hid (KR base w3.heap.size Bn K (wins 1024 Bn) 0 (at0 []) w4 (fun k => k = w3.heap.size) ∧ Bt (fun _ => False) w3 w4 ∧ w4.heap.size = w3.heap.size + 1) := by
        intro w3 b3
        rw [← hJe]
        refine (newU_kr base Bn K (wins 1024 Bn) (at0 []) w3 (by omega) (by have := B0.size; have := b3.size; omega)).mono ?_
        rintro e w4 ⟨rfl, q1, q2, q3⟩
        exact ⟨rfl, S3 w4 (b3.trans q2 (fun _ _ x => x)), q1, q2, q3⟩
      have E5 : ∀ w4, Bt (fun _ => False) w0 w4 → Calls Tryd.prog 20 #[] w4 fun e w5 => e = .returned (.pointer (some ⟨w4.heap.size + 1, 0, none⟩)) ∧ (w5.cell? ⟨w.heap.size, 0, none⟩ = some (.int .i64 (Bn : Int)) ∧ w5.cell? ⟨w.heap.size, 1, none⟩ = some (.int .i64 (Rn : Int)) ∧ w5.cell? ⟨w.heap.size, 2, none⟩ = some (.int .i64 (Wn : Int))) ∧ Hid (Shelf w5 (w4.heap.size + 1) w4.heap.size 0 (.map []) ∧ Bt (fun _ => False) w4 w5) := by
        intro w4 b4
        refine (newShelf_any w4).mono ?_
        rintro e w5 ⟨rfl, q1, q2, q3⟩
        exact ⟨rfl, S3 w5 (b4.trans (q2.bt _) (fun _ _ x => x)), q1, q2.bt _⟩
      have E6 : ∀ w1 w2 w3 w4 w5, Bt (fun _ => False) w0 w1 → (RI base w1.heap.size Bn [] w2 (fun k => k = w1.heap.size) ∧ Bt (fun _ => False) w1 w2 ∧ w2.heap.size = w1.heap.size + 1) → (RI base w2.heap.size Rn [] w3 (fun k => k = w2.heap.size) ∧ Bt (fun _ => False) w2 w3 ∧ w3.heap.size = w2.heap.size + 1) → (KR base w3.heap.size Bn K (wins 1024 Bn) 0 (at0 []) w4 (fun k => k = w3.heap.size) ∧ Bt (fun _ => False) w3 w4 ∧ w4.heap.size = w3.heap.size + 1) → (Shelf w5 (w4.heap.size + 1) w4.heap.size 0 (.map []) ∧ Bt (fun _ => False) w4 w5) →
          Calls Tryd.prog 27 #[.pointer (some ⟨w4.heap.size + 1, 0, none⟩), .slice a l.length c, .int .i64 (Bn : Int)] w5 fun e w6 => ∃ tb T, e = .returned (.slice (some ⟨tb, 0, none⟩) T T) ∧ (w6.cell? ⟨w.heap.size, 0, none⟩ = some (.int .i64 (Bn : Int)) ∧ w6.cell? ⟨w.heap.size, 1, none⟩ = some (.int .i64 (Rn : Int)) ∧ w6.cell? ⟨w.heap.size, 2, none⟩ = some (.int .i64 (Wn : Int))) ∧ Hid (∀ xb, xb = w6.heap.size → ∃ F, FI base xb (FlS.fresh Bn Rn Wn l) (w6.alloc (.cells #[.int .i64 (Bn : Int), .int .i64 (Rn : Int), .int .i64 (Wn : Int), .int .i64 0, .pointer (some ⟨w1.heap.size, 0, none⟩), .pointer (some ⟨w2.heap.size, 0, none⟩), .pointer (some ⟨w3.heap.size, 0, none⟩), .slice (some ⟨tb, 0, none⟩) T T, .slice none 0 0, .int .i64 (-1)] 63)) F ∧ (∀ k, F k → w.heap.size ≤ k) ∧ Bt (fun _ => False) w (w6.alloc (.cells #[.int .i64 (Bn : Int), .int .i64 (Rn : Int), .int .i64 (Wn : Int), .int .i64 0, .pointer (some ⟨w1.heap.size, 0, none⟩), .pointer (some ⟨w2.heap.size, 0, none⟩), .pointer (some ⟨w3.heap.size, 0, none⟩), .slice (some ⟨tb, 0, none⟩) T T, .slice none 0 0, .int .i64 (-1)] 63))) := by
        intro w1 w2 w3 w4 w5 b1 h2 h3 h4 h5
        have bw1 : Bt (fun _ => False) w w1 := B0.trans b1 (fun _ _ x => x)
        have bw4 : Bt (fun _ => False) w w4 := ((bw1.trans h2.2.1 (fun _ _ x => x)).trans h3.2.1 (fun _ _ x => x)).trans h4.2.1 (fun _ _ x => x)
        have bw5 : Bt (fun _ => False) w w5 := bw4.trans h5.2 (fun _ _ x => x)
        have z4 := bw4.size
        refine (windows_any (ShR.new (2 * Bn) K base (by omega) h5.1) (ht.bt bw5 (fun x => x)) hcB hK rfl hK10 hb1 (by have := bw5.size; omega) a c l (src.bt bw5 (fun _ _ _ x => x)) hr gt.1 gt.2.1).mono ?_
        rintro e w6 ⟨tv, rfl, hq⟩
        have hq' := hq
        obtain ⟨T, ⟨tb, tbs, htv, _⟩, _, hb6⟩ := hq'
        have b06 : Bt (fun _ => False) w0 w6 := ((((b1.trans h2.2.1 (fun _ _ x => x)).trans h3.2.1 (fun _ _ x => x)).trans h4.2.1 (fun _ _ x => x)).trans h5.2 (fun _ _ x => x)).trans hb6 (fun k hk e => by
          have := b1.size; have := h2.2.1.size; have := h3.2.1.size; have := h4.2.1.size
          omega)
        subst htv
        refine ⟨tb, _, rfl, S3 w6 b06, fun xb hxb => ?_⟩
        obtain ⟨F, r1, r2, r3⟩ := new_fin hb1 (by have := bw1.size; omega) (ht.bt bw1 (fun x => x)) gc hK hK10 gt h2.1 rfl h2.2.1 h2.2.2 h3.1 (Nat.le_refl _) h3.2.1 h3.2.2 h4.1 (Nat.le_refl _) h4.2.1 h4.2.2 h5.2 (fun k e => by omega) hq xb hxb
        exact ⟨F, r1, fun k hk => by have := r2 k hk; have := bw1.size; omega, bw1.trans r3 (fun _ _ x => x)⟩
      have HB0 : Hid (Bt (fun _ => False) w w0) := B0
      obtain ⟨d0, d1, d2⟩ := D
      generalize l.length = ll at *
      have HQ : ∀ w1, Bt (fun _ => False) w0 w1 → Bt (fun _ => False) w w1 := fun w1 b => B0.trans b (fun _ _ x => x)
      clear C1 C2 src gc gt ht hb hb1 hr hB hcB hcB' hK hJe B0
      rw [hw0] at HB0 d0 d1 d2 E1 E2 E4 E5 E6 S3 HQ
      clear hw0
      have tk : True := trivial
      go_enter Tryd.func12, Tryd.ntmps12
      go_wp2_with (first
        | (go_at_call 22; refine (C1' _).mono ?_; rintro e w1 ⟨rfl, H1⟩; obtain ⟨s0, s1, s2⟩ := S3 w1 H1.out)
        | (go_at_call 23; refine (C2' _ (HQ _ H1.out)).mono ?_; rintro e w2 ⟨rfl, hw⟩; subst w2))
      clear C1' C2'
      have sA : w1.cell? ⟨w.heap.size, 0, none⟩ = some (.int .i64 (Bn : Int)) ∧ w1.cell? ⟨w.heap.size, 1, none⟩ = some (.int .i64 (Rn : Int)) ∧ w1.cell? ⟨w.heap.size, 2, none⟩ = some (.int .i64 (Wn : Int)) := ⟨s0, s1, s2⟩
      go_region_held3 (fun W => W.cell? ⟨w.heap.size, 0, none⟩ = some (.int .i64 (Bn : Int)) ∧ W.cell? ⟨w.heap.size, 1, none⟩ = some (.int .i64 (Rn : Int)) ∧ W.cell? ⟨w.heap.size, 2, none⟩ = some (.int .i64 (Wn : Int)))
        (first
          | exact sB
          | exact sF
          | exact ⟨((Bt.refl (fun _ => False) w6).alloc _).cell (fun x => x) sF.1, ((Bt.refl (fun _ => False) w6).alloc _).cell (fun x => x) sF.2.1, ((Bt.refl (fun _ => False) w6).alloc _).cell (fun x => x) sF.2.2⟩
          | exact sE
          | exact sD
          | exact sC
          | exact sA)
        (first
          | (go_at_call 24; have _t := tk; with_reducible refine (E1 _ H1.out).mono ?_; rintro e w2 ⟨rfl, sB, H2⟩; clear tk _t E1)
          | (go_at_call 24; with_reducible refine (E2 _ _ H1.out H2.out).mono ?_; rintro e w3 ⟨rfl, sC, H3⟩; clear sB E2)
          | (go_at_call 26; with_reducible refine (E3 _).mono ?_; rintro e w' ⟨rfl, hw⟩; subst w'; clear E3)
          | (go_at_call 25; with_reducible refine (E4 _ ((H1.out.trans H2.out.2.1 (fun _ _ x => x)).trans H3.out.2.1 (fun _ _ x => x))).mono ?_; rintro e w4 ⟨rfl, sD, H4⟩; clear E4)
          | (go_at_call 20; with_reducible refine (E5 _ (((H1.out.trans H2.out.2.1 (fun _ _ x => x)).trans H3.out.2.1 (fun _ _ x => x)).trans H4.out.2.1 (fun _ _ x => x))).mono ?_; rintro e w5 ⟨rfl, sE, H5⟩; clear E5)
          | (go_at_call 27; with_reducible refine (E6 _ _ _ _ _ H1.out H2.out H3.out H4.out H5.out).mono ?_; rintro e w6 ⟨tb, T, rfl, sF, H6⟩; clear E6))
      go_wp2
      go_ret2
      obtain ⟨F, r1, r2, r3⟩ := H6.out _ rfl
      exact ⟨_, F, rfl, r1, r2, r3⟩
    · have C2' : ∀ w', Bt (fun _ => False) w w' → Calls Tryd.prog 23 #[.slice a l.length c] w' fun e w'' => e = .returned (.bool false) ∧ w'' = w' := fun w' b => by
        refine (C2 w' b).mono ?_
        rintro e w'' ⟨⟨ok, rfl, hk⟩, rfl⟩
        cases ok with
        | false => exact ⟨rfl, rfl⟩
        | true => exact absurd (hk.1 rfl) gt
      refine (show Calls Tryd.prog 12 #[.agg #[.int .i64 B, .int .i64 R, .int .i64 W], .slice a l.length c] w fun e w' => e = .returned (.tuple #[.pointer none, .int .i64 4]) ∧ Bt (fun _ => False) w w' from ?_).mono (fun e w' q => by unfold NewP; rw [if_pos gc, if_neg gt]; exact q)
      generalize l.length = ll at *
      clear C1 C2 src gc gt ht hb hb1 hr hB
      obtain ⟨d0, d1, d2⟩ := D
      have HB0 : Hid (Bt (fun _ => False) w w0) := B0
      rw [hw0] at HB0 d0 d1 d2
      clear B0 hw0
      go_enter Tryd.func12, Tryd.ntmps12
      go_wp2_with (first
        | (go_at_call 22; refine (C1' _).mono ?_; rintro e w1 ⟨rfl, H1⟩)
        | (go_at_call 23; refine (C2' _ (HB0.out.trans H1.out (fun _ _ x => x))).mono ?_; rintro e w2 ⟨rfl, hw⟩; subst w2))
      go_ret2
      exact ⟨rfl, HB0.out.trans H1.out (fun _ _ x => x)⟩
  · have C1' : ∀ w', Calls Tryd.prog 22 #[.agg #[.int .i64 B, .int .i64 R, .int .i64 W]] w' fun e w'' => e = .returned (.bool false) ∧ Hid (Bt (fun _ => False) w' w'') := fun w' => by
      refine (C1 w').mono ?_
      rintro e w'' ⟨⟨ok, rfl, hk⟩, b⟩
      cases ok with
      | false => exact ⟨rfl, b⟩
      | true => exact absurd (hk.1 rfl) gc
    refine (show Calls Tryd.prog 12 #[.agg #[.int .i64 B, .int .i64 R, .int .i64 W], .slice a l.length c] w fun e w' => e = .returned (.tuple #[.pointer none, .int .i64 3]) ∧ Bt (fun _ => False) w w' from ?_).mono (fun e w' q => by unfold NewP; rw [if_neg gc]; exact q)
    generalize l.length = ll at *
    clear C1 C2 src gc ht hb hb1 hr hB
    have HB0 : Hid (Bt (fun _ => False) w w0) := B0
    obtain ⟨d0, d1, d2⟩ := D
    rw [hw0] at HB0 d0 d1 d2
    clear B0 hw0
    go_enter Tryd.func12, Tryd.ntmps12
    go_wp2_with (first
      | (go_at_call 22; refine (C1' _).mono ?_; rintro e w1 ⟨rfl, H1⟩))
    go_ret2
    exact ⟨rfl, HB0.out.trans H1.out (fun _ _ x => x)⟩
end Go.Proofs.YtddpcjgekfmhkabDoor
