/- Texts joined: Cw Ct Ck1 Zc1. -/
import Derived.Test.YtddpcjgekfmhkabDoorM08
import Derived.Test.YtddpcjgekfmhkabDoorM25
import Derived.Test.YtddpcjgekfmhkabDoorM09
import Derived.Test.YtddpcjgekfmhkabDoorM11
import Derived.Test.YtddpcjgekfmhkabDoorM24
import Derived.Test.YtddpcjgekfmhkabDoorCards
import Derived.Test.YtddpcjgekfmhkabDoorTie
import Derived.Lib.LaidTab
import Derived.Deep.DeepHandedRow
import Derived.ProofKit
import Derived.OpenShut
import Derived.ChangeOld
import Derived.Below
import Derived.Test.YtddpcjgekfmhkabDoorM21

/- Convolve, walked. -/
namespace Go.Proofs.YtddpcjgekfmhkabDoor
open Go.RowKit Go.Maps
set_option linter.unusedSimpArgs false
set_option linter.unusedVariables false

theorem Convolve_size (a0 a1 : Option Addr) (la cap0 lb cap1 : Nat) (w : World) (hm0 : la ≤ 17592186044416) (hm1 : lb ≤ 17592186044416) (h : la = 0 ∨ lb = 0 ∨ 1025 < la + lb) :
    Calls Tryd.prog 10 #[.slice a0 la cap0, .slice a1 lb cap1] w fun e w' => e = .returned (.tuple #[.slice none 0 0, .int .i64 1]) ∧ w' = w := by
  by_cases h0 : la = 0
  · subst h0
    clear h
    go_enter Tryd.func10, Tryd.ntmps10
    go_wp2
    go_ret2
    exact ⟨rfl, rfl⟩
  · by_cases h1 : lb = 0
    · subst h1
      clear h
      go_enter Tryd.func10, Tryd.ntmps10
      go_wp2
      go_ret2
      exact ⟨rfl, rfl⟩
    · have h2 : 1025 < la + lb := by omega
      clear h
      go_enter Tryd.func10, Tryd.ntmps10
      go_wp2
      go_ret2
      exact ⟨rfl, rfl⟩

abbrev Facs (len : Nat) (z : Nat → Int) : Prop := ∀ i, i < len → -32768 ≤ z i ∧ z i ≤ 32767

theorem Convolve_value (la b0 off0 cap0 lb b1 off1 cap1 : Nat) (za zb : Nat → Int) (w : World) (hla : 1 ≤ la) (hlb : 1 ≤ lb) (hsum : la + lb ≤ 1025) (ha : IArr w b0 off0 la za) (hb : IArr w b1 off1 lb zb) (h : ¬ (Facs la za ∧ Facs lb zb)) :
    Calls Tryd.prog 10 #[.slice (some ⟨b0, off0, none⟩) la cap0, .slice (some ⟨b1, off1, none⟩) lb cap1] w fun e w' => e = .returned (.tuple #[.slice none 0 0, .int .i64 2]) ∧ w' = w := by
  have q0 : ((la : Int) == 0) = false := beq_eq_false_iff_ne.mpr (by omega)
  have q1 : ((lb : Int) == 0) = false := beq_eq_false_iff_ne.mpr (by omega)
  have q2 : decide (1025 < (la : Int) + (lb : Int)) = false := decide_eq_false (by omega)
  have c0 := allFactors_any (some ⟨b0, off0, none⟩) b0 off0 la cap0 za w (by omega) (fun _ => rfl) ha
  have c1 := allFactors_any (some ⟨b1, off1, none⟩) b1 off1 lb cap1 zb w (by omega) (fun _ => rfl) hb
  by_cases h0 : Facs la za
  · have h1 : ¬ Facs lb zb := fun x => h ⟨h0, x⟩
    rw [decide_eq_true h0] at c0
    rw [decide_eq_false h1] at c1
    clear h h0 h1 ha hb
    have tk : True := trivial
    go_enter Tryd.func10, Tryd.ntmps10
    go_wp2_with (first
      | (go_at_call 19; have _t := tk; refine c0.mono ?_; rintro e w' ⟨rfl, hw⟩; subst w'; clear tk)
      | (go_at_call 19; refine c1.mono ?_; rintro e w' ⟨rfl, hw⟩; subst w'))
    go_ret2
    exact ⟨rfl, rfl⟩
  · rw [decide_eq_false h0] at c0
    clear h h0 ha hb c1
    go_enter Tryd.func10, Tryd.ntmps10
    go_wp2_with (go_at_call 19; refine c0.mono ?_; rintro e w' ⟨rfl, hw⟩; subst w')
    go_ret2
    exact ⟨rfl, rfl⟩

/-- What Convolve gives. -/
def ConvOut (c la lb : Nat) (za zb : Nat → Int) (w w' : World) (e : Ending) : Prop :=
  ∃ K ob, K ≤ 10 ∧ c ≤ 2 ^ K ∧ e = .returned (.tuple #[.slice (some ⟨ob, 0, none⟩) c c, .int .i64 0]) ∧ JArr w' ob c (fun i => liftv (trans K true (prod K la lb za zb) i)) ∧ w.heap.size ≤ ob ∧ Gw w w'

set_option maxHeartbeats 1000000 in
theorem Convolve_ok (la b0 off0 cap0 lb b1 off1 cap1 : Nat) (za zb : Nat → Int) (w : World) (ht : Tab w) (hla : 1 ≤ la) (hlb : 1 ≤ lb) (hsum : la + lb ≤ 1025) (ha : IArr w b0 off0 la za) (hb : IArr w b1 off1 lb zb) (h0 : Facs la za) (h1 : Facs lb zb) (ht1 : 1 < w.heap.size) :
    Calls Tryd.prog 10 #[.slice (some ⟨b0, off0, none⟩) la cap0, .slice (some ⟨b1, off1, none⟩) lb cap1] w fun e w' => ConvOut (la + lb - 1) la lb za zb w w' e := by
  have q0 : ((la : Int) == 0) = false := beq_eq_false_iff_ne.mpr (by omega)
  have q1 : ((lb : Int) == 0) = false := beq_eq_false_iff_ne.mpr (by omega)
  have q2 : decide (1025 < (la : Int) + (lb : Int)) = false := decide_eq_false (by omega)
  have c0 := allFactors_any (some ⟨b0, off0, none⟩) b0 off0 la cap0 za w (by omega) (fun _ => rfl) ha
  have c1 := allFactors_any (some ⟨b1, off1, none⟩) b1 off1 lb cap1 zb w (by omega) (fun _ => rfl) hb
  rw [decide_eq_true h0] at c0
  rw [decide_eq_true h1] at c1
  have cn := newShelf_any w
  have hl0 := ha.lt hla
  have hl1 := hb.lt hlb
  have ct := fun w1 (g : Gw w w1) (hz : w1.heap.size = w.heap.size + 2) (hs : Shelf w1 (w.heap.size + 1) w.heap.size 0 (.map [])) => convolve_core (w.heap.size + 1) w.heap.size la lb b0 off0 cap0 b1 off1 cap1 za zb w1 hla hlb hsum (ht.gw g) hs (ha.gw g) (hb.gw g) (by omega) (by omega) (by omega)
  clear h0 h1 ha hb ht
  have tk : True := trivial
  go_enter Tryd.func10, Tryd.ntmps10
  go_wp2_with (first
    | (go_at_call 19; have _t := tk; refine c0.mono ?_; rintro e w' ⟨rfl, hw⟩; subst w'; clear tk)
    | (go_at_call 19; refine c1.mono ?_; rintro e w' ⟨rfl, hw⟩; subst w')
    | (go_at_call 20; refine cn.mono ?_; rintro e w1 ⟨rfl, hS1, hG1, hZ1⟩; clear cn)
    | (go_at_call 21; refine (ct _ hG1 hZ1 hS1).mono ?_; rintro e w2 ⟨K, ob, hK, hKc, rfl, hJ, hob, hB⟩; clear ct))
  go_ret2
  exact ⟨K, ob, hK, hKc, rfl, hJ, by omega, But.gw hG1 hB (Nat.le_refl _)⟩

end Go.Proofs.YtddpcjgekfmhkabDoor

/- Cut, walked, whatever filter keeps its contract. -/
namespace Go.Proofs.YtddpcjgekfmhkabDoor
open Go.RowKit
set_option linter.unusedSimpArgs false
set_option linter.unusedVariables false

/-- The plain sums, up to the samples' end, are a filter's. -/
theorem cv_flt {la lb : Nat} (za zb : Nat → Int) {c : Nat} (hc : c < la) : cv la lb za zb c = flt lb zb za c := by
  unfold cv flt
  rw [sm_swap (fun i j => tm za zb c i j) lb la]
  refine sm_congr _ fun j hj => ?_
  by_cases e : j ≤ c
  · rw [if_pos e, sm_pick (c - j) _ la (by omega) (fun i hi hne => by unfold tm; rw [if_neg (by omega)])]
    unfold tm
    rw [if_pos (by omega), Int.mul_comm]
  · rw [if_neg e, sm_ext _ 0 la (by omega) (fun i _ _ => by unfold tm; rw [if_neg (by omega)])]
    rfl
theorem OwnL.iarr {w : World} {b o c : Nat} {l : List Int} (h : OwnL w b o c l) : IArr w b o l.length (at0 l) := by
  intro i hi
  obtain ⟨b', o', e', q⟩ := h.src.int (at0_some hi)
  simp at e'
  obtain ⟨rfl, rfl⟩ := e'
  exact ⟨q, h.rng.at (at0_some hi)⟩
theorem conv_law (w : World) {bh oh ch bl ol cl : Nat} {h l : List Int} (hh : OwnL w bh oh ch h) (hl : OwnL w bl ol cl l) (h0 : 1 ≤ h.length) (h1 : h.length ≤ 400) (hv : ∀ x ∈ h, -30000 ≤ x ∧ x ≤ 30000) (l0 : 1 ≤ l.length) (l1 : l.length ≤ 600) (lv : ∀ x ∈ l, -30000 ≤ x ∧ x ≤ 30000) :
    Calls Tryd.prog 10 #[.slice (some ⟨bl, ol, none⟩) l.length cl, .slice (some ⟨bh, oh, none⟩) h.length ch] w fun e w' => Hid (∃ ob n, e = .returned (.tuple #[.slice (some ⟨ob, 0, none⟩) n n, .int .i64 0]) ∧ l.length ≤ n ∧ (∀ i, i < l.length → w'.cell? ⟨ob, i, none⟩ = some (.int .i64 (yv h l i))) ∧ Bt (fun _ => False) w w') := by
  have fa : ∀ (k : List Int), (∀ x ∈ k, -30000 ≤ x ∧ x ≤ 30000) → ∀ i, i < k.length → -32768 ≤ at0 k i ∧ at0 k i ≤ 32767 := fun k hk i hi => by have := hk _ (List.mem_of_getElem? (at0_some hi)); omega
  refine (Convolve_ok l.length bl ol cl h.length bh oh ch (at0 l) (at0 h) w hh.tab l0 h0 (by omega) hl.iarr hh.iarr (fa l lv) (fa h hv) hh.tab.lt).mono ?_
  rintro e w' ⟨K, ob, hK, hcK, rfl, q1, q2, q3⟩
  refine ⟨ob, _, rfl, by omega, fun i hi => ?_, q3.bt _⟩
  rw [(q1 i (by omega)).1]
  show some (Value.int .i64 (liftv (trans K true (prod K l.length h.length (at0 l) (at0 h)) i))) = _
  rw [conv_lift (by omega) l0 h0 (by omega) hcK (fa l lv) (fa h hv) i (by omega), cv_flt _ _ hi]
  rfl
theorem all_cut {FI : Nat → Nat → FlS → Res} (ok : FltOk FI) (w : World) (B V : Int) (hB : okBlock B) (hV : 1 ≤ V ∧ V ≤ 64) {bh oh ch bl ol cl : Nat} {h l : List Int} (hh : OwnL w bh oh ch h) (hl : OwnL w bl ol cl l) (h0 : 1 ≤ h.length) (h1 : h.length ≤ 1000) (hv : ∀ x ∈ h, -30000 ≤ x ∧ x ≤ 30000) (l0 : 1 ≤ l.length) (l1 : l.length ≤ 1000) (lv : ∀ x ∈ l, -30000 ≤ x ∧ x ≤ 30000) (ac : Option Addr) (cc : Nat) (cuts : List Int) (ic : InW w ac cc cuts) :
    Calls Tryd.prog 8 #[.agg #[.int .i64 B, .int .i64 65536, .int .i64 V], .slice (some ⟨bh, oh, none⟩) h.length ch, .slice (some ⟨bl, ol, none⟩) l.length cl, .slice ac cuts.length cc] w fun e w' => Hid (∃ b o c n, e = .returned (.tuple #[.slice (some ⟨b, o, none⟩) n c, .bool true]) ∧ l.length ≤ n ∧ (∀ i, i < l.length → w'.cell? ⟨b, o + i, none⟩ = some (.int .i64 (yv h l i))) ∧ Bt (fun _ => False) w w') := by
  have := all_law ok w B V hB hV (some ⟨bh, oh, none⟩) (some ⟨bl, ol, none⟩) ac ch cl cc h l cuts hh.inl hl.inl ic (small_taps h0 h1 hv) (fun v q => by have := lv v q; exact ⟨by omega, by omega⟩) l0 l1
  refine this.mono ?_
  rintro e w' ⟨vo, he, hL, b⟩
  obtain ⟨a, c, rfl, _, hs⟩ := hL.form
  rw [ints_len, gen_len] at he
  have hN : l.length ≤ upN B.toNat l.length := by unfold upN; omega
  obtain ⟨bb, o, rfl, _⟩ := hs (by rw [ints_len, gen_len]; omega)
  refine ⟨bb, o, c, _, he, hN, fun i hi => ?_, b⟩
  obtain ⟨b', o', e', q⟩ := hs.int (at0_some (l := gen h l (upN B.toNat l.length)) (i := i) (by rw [gen_len]; omega))
  simp at e'
  obtain ⟨rfl, rfl⟩ := e'
  rw [q, gen_at h l _ i (by omega)]

set_option maxHeartbeats 8000000 in
set_option maxRecDepth 20000 in
theorem cut_core {FI : Nat → Nat → FlS → Res} (ok : FltOk FI) (w : World) (B R V B' R' V' : Int) (a1 a2 a3 a4 : Option Addr) (c1 c2 c3 c4 : Nat) (t1 t2 t3 t4 : List Int) (i1 : InW w a1 c1 t1) (i2 : InW w a2 c2 t2) (i3 : InW w a3 c3 t3) (i4 : InW w a4 c4 t4) (rB : I64 B) (rR : I64 R) (rV : I64 V) (rB' : I64 B') (rR' : I64 R') (rV' : I64 V') :
    Calls Tryd.prog 3 #[.agg #[.int .i64 B, .int .i64 R, .int .i64 V], .agg #[.int .i64 B', .int .i64 R', .int .i64 V'], .slice a1 t1.length c1, .slice a2 t2.length c2, .slice a3 t3.length c3, .slice a4 t4.length c4] w fun e w' => e = .returned (.bool true) ∧ Bt (fun _ => False) w w' := by
  have CF1 := fun w' => fit_law B R V w' rB rV
  have CF2 := fun w' => fit_law B' R' V' w' rB' rV'
  have S1 : ∀ w', Bt (fun _ => False) w w' → Calls Tryd.prog 7 #[.slice a1 t1.length c1, .int .i64 400] w' fun e w'' => Hid (SmallT w' 400 e w'') := fun w' b => (small_law a1 c1 t1 400 w' (i1.bt b).src i1.rng (by have := i1.len; omega) (by omega) (by omega)).mono (fun e w'' q => q.tab (i1.bt b).tab)
  have S2 : ∀ w', Bt (fun _ => False) w w' → Calls Tryd.prog 7 #[.slice a2 t2.length c2, .int .i64 600] w' fun e w'' => Hid (SmallT w' 600 e w'') := fun w' b => (small_law a2 c2 t2 600 w' (i2.bt b).src i2.rng (by have := i2.len; omega) (by omega) (by omega)).mono (fun e w'' q => q.tab (i2.bt b).tab)
  obtain ⟨w0, hw0⟩ : ∃ w0, w0 = (w.alloc (.cells #[.int .i64 B, .int .i64 R, .int .i64 V] 23)).alloc (.cells #[.int .i64 B', .int .i64 R', .int .i64 V'] 23) := ⟨_, rfl⟩
  have B0 : Bt (fun _ => False) w w0 := by rw [hw0]; exact ((Bt.refl _ _).alloc _).alloc _
  have D1 : w0.cell? ⟨w.heap.size, 0, none⟩ = some (.int .i64 B) ∧ w0.cell? ⟨w.heap.size, 1, none⟩ = some (.int .i64 R) ∧ w0.cell? ⟨w.heap.size, 2, none⟩ = some (.int .i64 V) := by
    rw [hw0]
    have b : Bt (fun _ => False) (w.alloc (.cells #[.int .i64 B, .int .i64 R, .int .i64 V] 23)) ((w.alloc (.cells #[.int .i64 B, .int .i64 R, .int .i64 V] 23)).alloc (.cells #[.int .i64 B', .int .i64 R', .int .i64 V'] 23)) := (Bt.refl _ _).alloc _
    refine ⟨b.cell (fun x => x) ?_, b.cell (fun x => x) ?_, b.cell (fun x => x) ?_⟩ <;> (rw [World.cell?_alloc_at _ _ _ _ rfl]; rfl)
  have D2 : w0.cell? ⟨w.heap.size + 1, 0, none⟩ = some (.int .i64 B') ∧ w0.cell? ⟨w.heap.size + 1, 1, none⟩ = some (.int .i64 R') ∧ w0.cell? ⟨w.heap.size + 1, 2, none⟩ = some (.int .i64 V') := by
    rw [hw0]
    have e : (w.alloc (.cells #[.int .i64 B, .int .i64 R, .int .i64 V] 23)).heap.size = w.heap.size + 1 := by simp
    refine ⟨?_, ?_, ?_⟩ <;> (rw [World.cell?_alloc_at _ _ _ _ e.symm]; rfl)
  have HC1 : Hid (∀ W, Bt (fun _ => False) w0 W → W.cell? ⟨w.heap.size, 0, none⟩ = some (.int .i64 B) ∧ W.cell? ⟨w.heap.size, 1, none⟩ = some (.int .i64 R) ∧ W.cell? ⟨w.heap.size, 2, none⟩ = some (.int .i64 V)) := fun W b => ⟨b.cell (fun x => x) D1.1, b.cell (fun x => x) D1.2.1, b.cell (fun x => x) D1.2.2⟩
  have HC2 : Hid (∀ W, Bt (fun _ => False) w0 W → W.cell? ⟨w.heap.size + 1, 0, none⟩ = some (.int .i64 B') ∧ W.cell? ⟨w.heap.size + 1, 1, none⟩ = some (.int .i64 R') ∧ W.cell? ⟨w.heap.size + 1, 2, none⟩ = some (.int .i64 V')) := fun W b => ⟨b.cell (fun x => x) D2.1, b.cell (fun x => x) D2.2.1, b.cell (fun x => x) D2.2.2⟩
  have HO : Hid (FltOk FI) := ok
  have HB0 : Hid (Bt (fun _ => False) w w0) := B0
  have HI3 : Hid (∀ W, Bt (fun _ => False) w W → InW W a3 c3 t3) := fun W b => i3.bt b
  have HI4 : Hid (∀ W, Bt (fun _ => False) w W → InW W a4 c4 t4) := fun W b => i4.bt b
  have A1 : ∀ (W : World) (Bf Vf : Int) (bh oh ch bl ol cl : Nat) (h l : List Int), okBlock Bf ∧ 1 ≤ Vf ∧ Vf ≤ 64 → (OwnL W bh oh ch h ∧ 1 ≤ h.length ∧ h.length ≤ 400 ∧ ∀ x ∈ h, -30000 ≤ x ∧ x ≤ 30000) → (OwnL W bl ol cl l ∧ 1 ≤ l.length ∧ l.length ≤ 600 ∧ ∀ x ∈ l, -30000 ≤ x ∧ x ≤ 30000) → Bt (fun _ => False) w W → Calls Tryd.prog 8 #[.agg #[.int .i64 Bf, .int .i64 65536, .int .i64 Vf], .slice (some ⟨bh, oh, none⟩) h.length ch, .slice (some ⟨bl, ol, none⟩) l.length cl, .slice a3 t3.length c3] W fun e w' => Hid (∃ b o c n, e = .returned (.tuple #[.slice (some ⟨b, o, none⟩) n c, .bool true]) ∧ l.length ≤ n ∧ (∀ i, i < l.length → w'.cell? ⟨b, o + i, none⟩ = some (.int .i64 (yv h l i))) ∧ Bt (fun _ => False) W w') := fun W Bf Vf bh oh ch bl ol cl h l q1 q2 q3 b => all_cut ok W Bf Vf q1.1 q1.2 q2.1 q3.1 q2.2.1 (by omega) q2.2.2.2 q3.2.1 (by omega) q3.2.2.2 a3 c3 t3 (i3.bt b)
  have A2 : ∀ (W : World) (Bf Vf : Int) (bh oh ch bl ol cl : Nat) (h l : List Int), okBlock Bf ∧ 1 ≤ Vf ∧ Vf ≤ 64 → (OwnL W bh oh ch h ∧ 1 ≤ h.length ∧ h.length ≤ 400 ∧ ∀ x ∈ h, -30000 ≤ x ∧ x ≤ 30000) → (OwnL W bl ol cl l ∧ 1 ≤ l.length ∧ l.length ≤ 600 ∧ ∀ x ∈ l, -30000 ≤ x ∧ x ≤ 30000) → Bt (fun _ => False) w W → Calls Tryd.prog 8 #[.agg #[.int .i64 Bf, .int .i64 65536, .int .i64 Vf], .slice (some ⟨bh, oh, none⟩) h.length ch, .slice (some ⟨bl, ol, none⟩) l.length cl, .slice a4 t4.length c4] W fun e w' => Hid (∃ b o c n, e = .returned (.tuple #[.slice (some ⟨b, o, none⟩) n c, .bool true]) ∧ l.length ≤ n ∧ (∀ i, i < l.length → w'.cell? ⟨b, o + i, none⟩ = some (.int .i64 (yv h l i))) ∧ Bt (fun _ => False) W w') := fun W Bf Vf bh oh ch bl ol cl h l q1 q2 q3 b => all_cut ok W Bf Vf q1.1 q1.2 q2.1 q3.1 q2.2.1 (by omega) q2.2.2.2 q3.2.1 (by omega) q3.2.2.2 a4 c4 t4 (i4.bt b)
  generalize t1.length = n1 at *
  generalize t2.length = n2 at *
  generalize t3.length = n3 at *
  generalize t4.length = n4 at *
  clear i1 i2 i3 i4 ok B0 D1 D2 HI3 HI4
  rw [hw0] at HC1 HC2 HB0
  clear hw0
  have e10 := HC1.out _ (Bt.refl _ _)
  obtain ⟨z0, z1, z2⟩ := e10
  obtain ⟨z3, z4, z5⟩ := HC2.out _ (Bt.refl _ _)
  go_enter Tryd.func3, Tryd.ntmps3
  go_wp2_with (first
    | (go_at_call 7; have _t := S1; refine (S1 _ HB0.out).mono ?_; clear _t S1; rintro e w2 q; obtain ⟨bh, oh, ch, h, rfl, o1, o2, o3, o4, o5⟩ := q.out.own (by omega); have H2 : Hid (OwnL w2 bh oh ch h ∧ 1 ≤ h.length ∧ h.length ≤ 400 ∧ (∀ x ∈ h, -30000 ≤ x ∧ x ≤ 30000) ∧ Bt (fun _ => False) ((w.alloc (.cells #[.int .i64 B, .int .i64 R, .int .i64 V] 23)).alloc (.cells #[.int .i64 B', .int .i64 R', .int .i64 V'] 23)) w2) := ⟨o1, o2, o3, o4, o5⟩; clear q o1 o2 o3 o4 o5)
    | (go_at_call 7; refine (S2 _ (HB0.out.trans H2.out.2.2.2.2 (fun _ _ x => x))).mono ?_; clear S2; rintro e w3 q; obtain ⟨bl, ol, cl, l, rfl, o1, o2, o3, o4, o5⟩ := q.out.own (by omega); have H3 : Hid (OwnL w3 bl ol cl l ∧ 1 ≤ l.length ∧ l.length ≤ 600 ∧ (∀ x ∈ l, -30000 ≤ x ∧ x ≤ 30000) ∧ Bt (fun _ => False) w2 w3) := ⟨o1, o2, o3, o4, o5⟩; clear q o1 o2 o3 o4 o5; have B3 : Hid (Bt (fun _ => False) ((w.alloc (.cells #[.int .i64 B, .int .i64 R, .int .i64 V] 23)).alloc (.cells #[.int .i64 B', .int .i64 R', .int .i64 V'] 23)) w3) := H2.out.2.2.2.2.trans H3.out.2.2.2.2 (fun _ _ x => x); obtain ⟨x0, x1, x2⟩ := HC1.out w3 B3.out)
    | (go_at_call 9; have _t := CF1; refine (CF1 _).mono ?_; clear _t CF1; rintro e w4 ⟨Bf, Vf, rfl, okB, v0, v1, b4⟩; have H4 : Hid ((okBlock Bf ∧ 1 ≤ Vf ∧ Vf ≤ 64) ∧ Bt (fun _ => False) w3 w4) := ⟨⟨okB, v0, v1⟩, b4⟩; clear okB v0 v1 b4)
    | (go_at_call 8; have _t := A1; refine (A1 w4 Bf Vf bh oh ch bl ol cl h l H4.out.1 ⟨(H2.out.1.bt H3.out.2.2.2.2).bt H4.out.2, H2.out.2.1, H2.out.2.2.1, H2.out.2.2.2.1⟩ ⟨H3.out.1.bt H4.out.2, H3.out.2.1, H3.out.2.2.1, H3.out.2.2.2.1⟩ ((HB0.out.trans B3.out (fun _ _ x => x)).trans H4.out.2 (fun _ _ x => x))).mono ?_; clear _t A1; rintro e w5 q; obtain ⟨ba, oa, ca, na, rfl, q1, q2, q3⟩ := q.out; have H5 : Hid ((∀ i, i < l.length → w5.cell? ⟨ba, oa + i, none⟩ = some (.int .i64 (yv h l i))) ∧ l.length ≤ na ∧ Bt (fun _ => False) w3 w5) := ⟨q2, q1, H4.out.2.trans q3 (fun _ _ x => x)⟩; clear q q1 q2 q3; obtain ⟨y0, y1, y2⟩ := HC2.out w5 (B3.out.trans H5.out.2.2 (fun _ _ x => x)))
    | (go_at_call 9; refine (CF2 _).mono ?_; clear CF2; rintro e w6 ⟨Bg, Vg, rfl, okB, v0, v1, b6⟩; have H6 : Hid ((okBlock Bg ∧ 1 ≤ Vg ∧ Vg ≤ 64) ∧ Bt (fun _ => False) w5 w6) := ⟨⟨okB, v0, v1⟩, b6⟩; clear okB v0 v1 b6; have B6 : Hid (Bt (fun _ => False) w3 w6) := H5.out.2.2.trans H6.out.2 (fun _ _ x => x))
    | (go_at_call 8; refine (A2 w6 Bg Vg bh oh ch bl ol cl h l H6.out.1 ⟨(H2.out.1.bt H3.out.2.2.2.2).bt B6.out, H2.out.2.1, H2.out.2.2.1, H2.out.2.2.2.1⟩ ⟨H3.out.1.bt B6.out, H3.out.2.1, H3.out.2.2.1, H3.out.2.2.2.1⟩ ((HB0.out.trans B3.out (fun _ _ x => x)).trans B6.out (fun _ _ x => x))).mono ?_; clear A2; rintro e w7 q; obtain ⟨bb, ob, cb, nb, rfl, q1, q2, q3⟩ := q.out; have H7 : Hid ((∀ i, i < l.length → w7.cell? ⟨bb, ob + i, none⟩ = some (.int .i64 (yv h l i))) ∧ l.length ≤ nb ∧ Bt (fun _ => False) w6 w7) := ⟨q2, q1, q3⟩; clear q q1 q2 q3; have B7 : Hid (Bt (fun _ => False) w3 w7) := B6.out.trans H7.out.2.2 (fun _ _ x => x))
    | (go_at_call 10; refine (conv_law w7 ((H2.out.1.bt H3.out.2.2.2.2).bt B7.out) (H3.out.1.bt B7.out) H2.out.2.1 H2.out.2.2.1 H2.out.2.2.2.1 H3.out.2.1 H3.out.2.2.1 H3.out.2.2.2.1).mono ?_; rintro e w8 q; obtain ⟨oc, nc, rfl, q1, q2, q3⟩ := q.out; have H8 : Hid ((∀ i, i < l.length → w8.cell? ⟨oc, i, none⟩ = some (.int .i64 (yv h l i))) ∧ l.length ≤ nc ∧ Bt (fun _ => False) w7 w8) := ⟨q2, q1, q3⟩; clear q q1 q2 q3))
  have HV : Hid (∀ m i, i < l.length → (w8.drewN m).cell? ⟨ba, oa + i, none⟩ = some (.int .i64 (yv h l i)) ∧ (w8.drewN m).cell? ⟨bb, ob + i, none⟩ = some (.int .i64 (yv h l i)) ∧ (w8.drewN m).cell? ⟨oc, i, none⟩ = some (.int .i64 (yv h l i))) := fun m i hi => ⟨((H6.out.2.trans H7.out.2.2 (fun _ _ x => x)).trans H8.out.2.2 (fun _ _ x => x)).cell (fun x => x) (H5.out.1 i hi), H8.out.2.2.cell (fun x => x) (H7.out.1 i hi), H8.out.1 i hi⟩
  have HE : Hid (∀ m, Bt (fun _ => False) w (w8.drewN m)) := fun m => (((HB0.out.trans B3.out (fun _ _ x => x)).trans B7.out (fun _ _ x => x)).trans H8.out.2.2 (fun _ _ x => x)).drewN m
  have hl6 : l.length ≤ 600 := H3.out.2.2.1
  have hna := H5.out.2.1
  have hnb := H7.out.2.1
  have hnc := H8.out.2.1
  clear H2 H3 H4 H5 H6 H7 H8 B3 B6 B7 HC1 HC2 HB0 HO
  obtain ⟨N, hN⟩ : ∃ N, l.length = N := ⟨_, rfl⟩
  rw [hN] at HV hl6 hna hnb hnc ⊢
  clear hN
  go_loopw [21] (fun ti wr => ∃ (i m : Nat), ti = .int .i64 i ∧ i ≤ N ∧ wr = w8.drewN m) (fun ti _ => N - (intOf ti).toNat)
  case atStart => exact ⟨0, 0, rfl, Nat.zero_le _, rfl⟩
  case round =>
    obtain ⟨i, m, rfl, hi, hw⟩ := hrel
    by_cases hlt : i < N
    · obtain ⟨v0, v1, v2⟩ := HV.out m i hlt
      rw [← hw] at v0 v1 v2
      have j0 : (i : Int) < (N : Int) := by omega
      have j1 : (i : Int) < (na : Int) := by omega
      have j2 : (i : Int) < (nb : Int) := by omega
      have j3 : (i : Int) < (nc : Int) := by omega
      have HW : Hid (wr = w8.drewN m) := hw
      clear hw
      generalize yv h l i = yy at *
      go_wp2
      go_quiet (fail)
      go_wp2
      go_roundw
      case rel => exact ⟨i + 1, _, by go_num, by omega, by rw [HW.out, drewN_add]⟩
      case measure => simp [intOf]; omega
    · obtain rfl : i = N := by omega
      subst hw
      have HF := HE.out m
      clear HV HE
      go_wp2
      go_ret
      exact ⟨rfl, HF⟩
end Go.Proofs.YtddpcjgekfmhkabDoor

/- The statement Cut: its first form's row, whatever filter keeps its contract. -/
namespace Go.Proofs.YtddpcjgekfmhkabDoor.cut
open Go.ChangeShapes Go.WideShapes Go.ChangeAt Go.RowKit
set_option linter.unusedVariables false

theorem cells_ac : Tryd.prog.cellsOf 23 = 3 := by kernel_rfl
set_option maxRecDepth 20000 in
/-- A configuration that came in. -/
theorem acon_in {H : Type} {enc : TypeId × Value → H} {W : World} {cs : Array Value} {fuel : Nat} {x : DataW H × List MemPlace} (hs : cs.size = Tryd.prog.cellsOf 23) (h : DataW.trod enc Tryd.prog W 0 (fun _ => true) true fuel 23 (Value.agg cs).cells.toList = some x) :
    ∃ B R V : Int, cs = #[.int .i64 B, .int .i64 R, .int .i64 V] ∧ I64 B ∧ I64 R ∧ I64 V := by
  obtain ⟨xs, k, hk, hxy, _, hxl, hf⟩ := DataW.trod_struct Tryd.underlying23 h
  rw [cells_ac] at hs
  obtain ⟨l⟩ := cs
  match l, hs, xs, hxl with
  | [v0, v1, v2], _, [y0, y1, y2], _ =>
    have g0 := hf 0 _ rfl
    have g1 := hf 1 _ rfl
    have g2 := hf 2 _ rfl
    simp [cells_int, Value.cells] at g0 g1 g2
    obtain ⟨z0, q0, _, w0⟩ := DataW.trod_int Tryd.underlying3 g0
    obtain ⟨z1, q1, _, w1⟩ := DataW.trod_int Tryd.underlying3 g1
    obtain ⟨z2, q2, _, w2⟩ := DataW.trod_int Tryd.underlying3 g2
    simp at q0 q1 q2
    subst q0 q1 q2
    exact ⟨z0, z1, z2, rfl, bounds_i64 w0, bounds_i64 w1, bounds_i64 w2⟩

theorem gTab : Tryd.prog.globalNamed "math/bits.deBruijn64tab" = some 1 := by kernel_rfl
theorem gType : (Tryd.prog.globals[1]?).map (·.type) = some 142 := by kernel_rfl
theorem cells64 : Tryd.prog.cellsOf 142 = 64 := by kernel_rfl
theorem cells8 : Tryd.prog.cellsOf 5 = 1 := by kernel_rfl
/-- What the row's list gives: the table's cells. -/
theorem tab_of {W : World} (h : laidMetH Tryd.prog Rows.cutRow.laid W) : Tab W := by
  have h' : laidMet Tryd.prog [("math/bits.deBruijn32tab", Rows.laid_math_bits_deBruijn32tab), ("math/bits.deBruijn64tab", Lib.tabData .u8 tzTab)] W := h
  obtain ⟨ps, ⟨g0, t0, cs0, f0, p0, q0, hg0, ht0, hv0, hd0, ⟨g1, t1, cs1, f1, p1, q1, hg1, ht1, hv1, hd1, _, _⟩, _⟩, _⟩ := h'
  obtain rfl := Option.some.inj (gTab.symm.trans hg1)
  obtain rfl := Option.some.inj (gType.symm.trans ht1)
  have e := Lib.cells_of_tab Tryd.underlying142 Tryd.underlying5 cells8 cells64 hd1
  intro i hi
  have hc := World.var?_cell hg1 hv1 i
  rw [hc]
  have hl : tzTab.length = 64 := rfl
  have e2 : cs1[i]? = cs1.toList[i]? := by simp
  rw [e2, e]
  simp [List.getD, hl, hi]

set_option maxRecDepth 100000 in
theorem contract {FI : Nat → Nat → FlS → Res} (ok : FltOk FI) (H : Type) (enc : TypeId × Value → H) (W : World) (base : Nat) (args : Array Value) (ds gs : List (DataW H)) (before : List MemPlace)
    (hval : ∀ (j : Nat) t v, Tryd.f3.params[j]? = some t → args[j]? = some v → Value.okWide Tryd.prog W .any base t v)
    (hW : DataW.Whole enc Tryd.prog Tryd.f3.params.toList Rows.cutSpec.vars false W args.toList ds gs before) (hL : laidMetH Tryd.prog Rows.cutRow.laid W) (hsz0 : (DataW.weightsEach Tryd.prog (Tryd.f3.params.toList ++ (OpenSpec.ofChange Rows.cutSpec).bare.plain.varTypes Tryd.prog) (ds ++ gs)).all (· ≤ reachBytes) = true) :
    Calls Tryd.prog 3 args W fun e W' => ∃ v, e = .returned v ∧ Rows.cutSpec.post enc Tryd.prog Tryd.f3 false true false false W args v W' := by
  have hW' := hW
  obtain ⟨p, q, hA0, hV, rfl, hfz, hnd⟩ := hW
  have hA : DataW.TrodAll enc Tryd.prog W 0 (fun _ => true) true Tryd.f3.params.toList args.toList ds p := hA0
  rw [Tryd.params3] at hA hval hsz0
  obtain ⟨v0, vs0, d0, ds0, p0, q0, hargs, rfl, rfl, h0, r0⟩ := trodAll_cons hA
  obtain ⟨v1, vs1, d1, ds1, p1, q1, rfl, rfl, rfl, h1, r1⟩ := trodAll_cons r0
  obtain ⟨v2, vs2, d2, ds2, p2, q2, rfl, rfl, rfl, h2, r2⟩ := trodAll_cons r1
  obtain ⟨v3, vs3, d3, ds3, p3, q3, rfl, rfl, rfl, h3, r3⟩ := trodAll_cons r2
  obtain ⟨v4, vs4, d4, ds4, p4, q4, rfl, rfl, rfl, h4, r4⟩ := trodAll_cons r3
  obtain ⟨v5, vs5, d5, ds5, p5, q5, rfl, rfl, rfl, h5, r5⟩ := trodAll_cons r4
  obtain ⟨rfl, rfl, rfl⟩ := trodAll_nil r5
  obtain rfl : args = #[v0, v1, v2, v3, v4, v5] := by cases args; simp_all
  obtain ⟨rfl, rfl⟩ := trodVars_none hV
  obtain ⟨cs0, rfl, hs0⟩ := okWide_struct Tryd.underlying23 (hval 0 23 v0 rfl rfl)
  obtain ⟨cs1, rfl, hs1⟩ := okWide_struct Tryd.underlying23 (hval 1 23 v1 rfl rfl)
  obtain ⟨a2, len2, cap2, rfl⟩ := okWide_slice Tryd.underlying24 (hval 2 24 v2 rfl rfl)
  obtain ⟨a3, len3, cap3, rfl⟩ := okWide_slice Tryd.underlying24 (hval 3 24 v3 rfl rfl)
  obtain ⟨a4, len4, cap4, rfl⟩ := okWide_slice Tryd.underlying24 (hval 4 24 v4 rfl rfl)
  obtain ⟨a5, len5, cap5, rfl⟩ := okWide_slice Tryd.underlying24 (hval 5 24 v5 rfl rfl)
  have k0 := h0
  have lt0 : ∀ x ∈ p0, x.block < W.heap.size := by obtain ⟨m, hm⟩ := k0; exact DataW.trod_lt m _ _ _ hm
  have k1 := h1
  have lt1 : ∀ x ∈ p1, x.block < W.heap.size := by obtain ⟨m, hm⟩ := k1; exact DataW.trod_lt m _ _ _ hm
  have k2 := h2
  have lt2 : ∀ x ∈ p2, x.block < W.heap.size := by obtain ⟨m, hm⟩ := k2; exact DataW.trod_lt m _ _ _ hm
  have k3 := h3
  have lt3 : ∀ x ∈ p3, x.block < W.heap.size := by obtain ⟨m, hm⟩ := k3; exact DataW.trod_lt m _ _ _ hm
  have k4 := h4
  have lt4 : ∀ x ∈ p4, x.block < W.heap.size := by obtain ⟨m, hm⟩ := k4; exact DataW.trod_lt m _ _ _ hm
  have k5 := h5
  have lt5 : ∀ x ∈ p5, x.block < W.heap.size := by obtain ⟨m, hm⟩ := k5; exact DataW.trod_lt m _ _ _ hm
  obtain ⟨f0, hf0⟩ := h0
  obtain ⟨f1, hf1⟩ := h1
  obtain ⟨f2, hf2⟩ := h2
  obtain ⟨f3, hf3⟩ := h3
  obtain ⟨f4, hf4⟩ := h4
  obtain ⟨f5, hf5⟩ := h5
  obtain ⟨B0, R0, V0, rfl, x0, y0, z0⟩ := acon_in hs0 hf0
  obtain ⟨B1, R1, V1, rfl, x1, y1, z1⟩ := acon_in hs1 hf1
  obtain ⟨l2, rfl, i2⟩ := nums_wide hf2 (fun es sp e => sized_slice hsz0 (j := 2) (t := 24) (e := 3) rfl (by subst e; rfl) Tryd.underlying24) (tab_of hL)
  obtain ⟨l3, rfl, i3⟩ := nums_wide hf3 (fun es sp e => sized_slice hsz0 (j := 3) (t := 24) (e := 3) rfl (by subst e; rfl) Tryd.underlying24) (tab_of hL)
  obtain ⟨l4, rfl, i4⟩ := nums_wide hf4 (fun es sp e => sized_slice hsz0 (j := 4) (t := 24) (e := 3) rfl (by subst e; rfl) Tryd.underlying24) (tab_of hL)
  obtain ⟨l5, rfl, i5⟩ := nums_wide hf5 (fun es sp e => sized_slice hsz0 (j := 5) (t := 24) (e := 3) rfl (by subst e; rfl) Tryd.underlying24) (tab_of hL)
  clear hA0
  refine (cut_core ok W B0 R0 V0 B1 R1 V1 a2 a3 a4 a5 cap2 cap3 cap4 cap5 l2 l3 l4 l5 i2 i3 i4 i5 x0 y0 z0 x1 y1 z1).mono fun e W' ⟨he, bt⟩ => ?_
  have bel : Below W.heap.size W W' := bt.below (Nat.le_refl _) (fun _ _ x => x)
  subst he
  exact ⟨_, rfl, _, _, _, [], _, [], hW', trodAll_mk1 (shut_bool Tryd.underlying4 _), (trodAll_cons_mk (Below.trod laid_out (by kernel_rfl) (of_decide_eq_true (by kernel_rfl)) k0 bel lt0) (trodAll_cons_mk (Below.trod laid_out (by kernel_rfl) (of_decide_eq_true (by kernel_rfl)) k1 bel lt1) (trodAll_cons_mk (Below.trod laid_out (by kernel_rfl) (of_decide_eq_true (by kernel_rfl)) k2 bel lt2) (trodAll_cons_mk (Below.trod laid_out (by kernel_rfl) (of_decide_eq_true (by kernel_rfl)) k3 bel lt3) (trodAll_cons_mk (Below.trod laid_out (by kernel_rfl) (of_decide_eq_true (by kernel_rfl)) k4 bel lt4) (trodAll_cons_mk (Below.trod laid_out (by kernel_rfl) (of_decide_eq_true (by kernel_rfl)) k5 bel lt5) trodAll_mk0)))))), rfl, bel.frame _, fun h => by cases h⟩

theorem laid_met (os : Os) : laidMet Tryd.prog Rows.cutRow.laid (({ World.holding Tryd.prog os ⟨#[], #[], []⟩ with heap := ((World.holding Tryd.prog os ⟨#[], #[], []⟩).heap.modify 0 fun | .cells _ t frozen => .cells #[.int .u8 0, .int .u8 1, .int .u8 28, .int .u8 2, .int .u8 29, .int .u8 14, .int .u8 24, .int .u8 3, .int .u8 30, .int .u8 22, .int .u8 20, .int .u8 15, .int .u8 25, .int .u8 17, .int .u8 4, .int .u8 8, .int .u8 31, .int .u8 27, .int .u8 13, .int .u8 23, .int .u8 21, .int .u8 19, .int .u8 16, .int .u8 7, .int .u8 26, .int .u8 12, .int .u8 18, .int .u8 6, .int .u8 11, .int .u8 5, .int .u8 10, .int .u8 9] t frozen | o => o).modify 1 fun | .cells _ t frozen => .cells #[.int .u8 0, .int .u8 1, .int .u8 56, .int .u8 2, .int .u8 57, .int .u8 49, .int .u8 28, .int .u8 3, .int .u8 61, .int .u8 58, .int .u8 42, .int .u8 50, .int .u8 38, .int .u8 29, .int .u8 17, .int .u8 4, .int .u8 62, .int .u8 47, .int .u8 59, .int .u8 36, .int .u8 45, .int .u8 43, .int .u8 51, .int .u8 22, .int .u8 53, .int .u8 39, .int .u8 33, .int .u8 30, .int .u8 24, .int .u8 18, .int .u8 12, .int .u8 5, .int .u8 63, .int .u8 55, .int .u8 48, .int .u8 27, .int .u8 60, .int .u8 41, .int .u8 37, .int .u8 16, .int .u8 46, .int .u8 35, .int .u8 44, .int .u8 21, .int .u8 52, .int .u8 32, .int .u8 23, .int .u8 11, .int .u8 54, .int .u8 26, .int .u8 40, .int .u8 15, .int .u8 34, .int .u8 20, .int .u8 31, .int .u8 10, .int .u8 25, .int .u8 14, .int .u8 19, .int .u8 9, .int .u8 13, .int .u8 8, .int .u8 7, .int .u8 6] t frozen | o => o } : World).forCall (fun _ _ => 0) ⟨#[], #[.agg #[.int .i64 0, .int .i64 0, .int .i64 0], .agg #[.int .i64 0, .int .i64 0, .int .i64 0], .slice none 0 0, .slice none 0 0, .slice none 0 0, .slice none 0 0], []⟩).memory :=
  laidMet_of_run' 8 (by kernel_rfl) (by kernel_rfl)
theorem reads (os : Os) {H : Type} (enc : TypeId × Value → H) : ∃ places, DataW.whole enc Tryd.prog (({ World.holding Tryd.prog os ⟨#[], #[], []⟩ with heap := ((World.holding Tryd.prog os ⟨#[], #[], []⟩).heap.modify 0 fun | .cells _ t frozen => .cells #[.int .u8 0, .int .u8 1, .int .u8 28, .int .u8 2, .int .u8 29, .int .u8 14, .int .u8 24, .int .u8 3, .int .u8 30, .int .u8 22, .int .u8 20, .int .u8 15, .int .u8 25, .int .u8 17, .int .u8 4, .int .u8 8, .int .u8 31, .int .u8 27, .int .u8 13, .int .u8 23, .int .u8 21, .int .u8 19, .int .u8 16, .int .u8 7, .int .u8 26, .int .u8 12, .int .u8 18, .int .u8 6, .int .u8 11, .int .u8 5, .int .u8 10, .int .u8 9] t frozen | o => o).modify 1 fun | .cells _ t frozen => .cells #[.int .u8 0, .int .u8 1, .int .u8 56, .int .u8 2, .int .u8 57, .int .u8 49, .int .u8 28, .int .u8 3, .int .u8 61, .int .u8 58, .int .u8 42, .int .u8 50, .int .u8 38, .int .u8 29, .int .u8 17, .int .u8 4, .int .u8 62, .int .u8 47, .int .u8 59, .int .u8 36, .int .u8 45, .int .u8 43, .int .u8 51, .int .u8 22, .int .u8 53, .int .u8 39, .int .u8 33, .int .u8 30, .int .u8 24, .int .u8 18, .int .u8 12, .int .u8 5, .int .u8 63, .int .u8 55, .int .u8 48, .int .u8 27, .int .u8 60, .int .u8 41, .int .u8 37, .int .u8 16, .int .u8 46, .int .u8 35, .int .u8 44, .int .u8 21, .int .u8 52, .int .u8 32, .int .u8 23, .int .u8 11, .int .u8 54, .int .u8 26, .int .u8 40, .int .u8 15, .int .u8 34, .int .u8 20, .int .u8 31, .int .u8 10, .int .u8 25, .int .u8 14, .int .u8 19, .int .u8 9, .int .u8 13, .int .u8 8, .int .u8 7, .int .u8 6] t frozen | o => o } : World).forCall (fun _ _ => 0) ⟨#[], #[.agg #[.int .i64 0, .int .i64 0, .int .i64 0], .agg #[.int .i64 0, .int .i64 0, .int .i64 0], .slice none 0 0, .slice none 0 0, .slice none 0 0, .slice none 0 0], []⟩).memory Tryd.f3.params.toList Rows.cutSpec.vars false (#[.agg #[.int .i64 0, .int .i64 0, .int .i64 0], .agg #[.int .i64 0, .int .i64 0, .int .i64 0], .slice none 0 0, .slice none 0 0, .slice none 0 0, .slice none 0 0] : Array Value).toList 8 = some ([.agg [.lit (.int .i64 0), .lit (.int .i64 0), .lit (.int .i64 0)], .agg [.lit (.int .i64 0), .lit (.int .i64 0), .lit (.int .i64 0)], .nil, .nil, .nil, .nil], [], places) :=
  ⟨[], by kernel_rfl⟩

set_option maxRecDepth 100000 in
theorem lifted {FI : Nat → Nat → FlS → Res} (ok : FltOk FI) (os : Os) (started : os.Started) (H : Type) (enc : TypeId × Value → H) (F : Stop.Interp) :
    ReturnsInHanded {} Tryd.checked os 3 .any ((OpenSpec.ofChange Rows.cutSpec).preRow enc Tryd.prog Tryd.f3 Rows.cutRow.domain false Rows.cutRow.laid) (((OpenSpec.ofChange Rows.cutSpec).at F).post enc Tryd.prog Tryd.f3 false true false false) := by
  obtain ⟨places, hx⟩ := reads os enc
  refine returnsInHanded_of_row (C := Tryd.checked) (s := OpenSpec.ofChange Rows.cutSpec) own_knob started (by kernel_rfl) Tryd.func3
    (witness_row_at (enc := enc) (C := Tryd.checked) false ({ World.holding Tryd.prog os ⟨#[], #[], []⟩ with heap := ((World.holding Tryd.prog os ⟨#[], #[], []⟩).heap.modify 0 fun | .cells _ t frozen => .cells #[.int .u8 0, .int .u8 1, .int .u8 28, .int .u8 2, .int .u8 29, .int .u8 14, .int .u8 24, .int .u8 3, .int .u8 30, .int .u8 22, .int .u8 20, .int .u8 15, .int .u8 25, .int .u8 17, .int .u8 4, .int .u8 8, .int .u8 31, .int .u8 27, .int .u8 13, .int .u8 23, .int .u8 21, .int .u8 19, .int .u8 16, .int .u8 7, .int .u8 26, .int .u8 12, .int .u8 18, .int .u8 6, .int .u8 11, .int .u8 5, .int .u8 10, .int .u8 9] t frozen | o => o).modify 1 fun | .cells _ t frozen => .cells #[.int .u8 0, .int .u8 1, .int .u8 56, .int .u8 2, .int .u8 57, .int .u8 49, .int .u8 28, .int .u8 3, .int .u8 61, .int .u8 58, .int .u8 42, .int .u8 50, .int .u8 38, .int .u8 29, .int .u8 17, .int .u8 4, .int .u8 62, .int .u8 47, .int .u8 59, .int .u8 36, .int .u8 45, .int .u8 43, .int .u8 51, .int .u8 22, .int .u8 53, .int .u8 39, .int .u8 33, .int .u8 30, .int .u8 24, .int .u8 18, .int .u8 12, .int .u8 5, .int .u8 63, .int .u8 55, .int .u8 48, .int .u8 27, .int .u8 60, .int .u8 41, .int .u8 37, .int .u8 16, .int .u8 46, .int .u8 35, .int .u8 44, .int .u8 21, .int .u8 52, .int .u8 32, .int .u8 23, .int .u8 11, .int .u8 54, .int .u8 26, .int .u8 40, .int .u8 15, .int .u8 34, .int .u8 20, .int .u8 31, .int .u8 10, .int .u8 25, .int .u8 14, .int .u8 19, .int .u8 9, .int .u8 13, .int .u8 8, .int .u8 7, .int .u8 6] t frozen | o => o } : World) #[.agg #[.int .i64 0, .int .i64 0, .int .i64 0], .agg #[.int .i64 0, .int .i64 0, .int .i64 0], .slice none 0 0, .slice none 0 0, .slice none 0 0, .slice none 0 0] rfl (by kernel_rfl) (by kernel_rfl) (by kernel_rfl)
      (OpenSpec.preRow_of_cond 8 hx (by kernel_rfl) (fun k hk => by cases hk) (by kernel_rfl) (laid_met os))) ?_
  intro W base args ds gs before hval hW k1 hcond hsz hL _ _
  exact contract ok H enc W base args ds gs before hval hW hL hsz

theorem said {FI : Nat → Nat → FlS → Res} (ok : FltOk FI) : Rows.CutSaid :=
  OpenClaim.holds_of_cond 3 Tryd.f3 rfl rfl rfl rfl rfl rfl rfl ⟨rfl, rfl, rfl, rfl, rfl⟩ rfl rfl rfl rfl rfl (by kernel_rfl) Tryd.func3 (by kernel_rfl)
    (of_decide_eq_true (by kernel_rfl)) (by unfold Func.isWrapper; first | (rw [if_pos (by decide +kernel)]; kernel_rfl) | (rw [if_neg (by decide +kernel)]; exact ⟨rfl, rfl⟩))
    (fun os started H enc _ F => by rw [OpenClaim.pre_eq_preRow]; exact lifted ok os started H enc F)

theorem plain (f : FuncId) (fn : Func) (hf : Tryd.pinned.checked.prog.funcNamed "weave/weavekeep.Cut" = some f) (hfn : Tryd.pinned.checked.prog.funcs[f]? = some fn) :
    false = Tryd.pinned.checked.prog.looks [] ∧ ∀ (j : Nat) t, fn.params[j]? = some t → Tryd.pinned.checked.prog.wantsStandIn t = false := by
  obtain rfl : f = 3 := Option.some.inj ((show Tryd.prog.funcNamed "weave/weavekeep.Cut" = some 3 by kernel_rfl).symm.trans hf) |>.symm
  obtain rfl : fn = Tryd.f3 := (Option.some.inj (Tryd.func3.symm.trans hfn)).symm
  refine ⟨by kernel_rfl, fun j t ht => ?_⟩
  rw [Tryd.params3] at ht
  rcases j with _ | _ | _ | _ | _ | _ | j <;> simp at ht <;> subst ht <;> kernel_rfl

theorem card {FI : Nat → Nat → FlS → Res} (ok : FltOk FI) : Rows.CutCardSaid :=
  Claim7.holds_tied_plain_at .later [] _ _ _ _ (said ok) (fun _ h => by cases h) (by kernel_rfl) (fun _ h => by cases h) cut_row_tie rfl ⟨rfl, rfl⟩ (by kernel_rfl) rfl plain (by kernel_rfl)

end Go.Proofs.YtddpcjgekfmhkabDoor.cut

/- The statement Cut, proved: its first form's card. -/
namespace Go.Proofs.YtddpcjgekfmhkabDoor.cut
theorem proved : Rows.CutCardSaid := card flt_ok
#print axioms proved
end Go.Proofs.YtddpcjgekfmhkabDoor.cut
