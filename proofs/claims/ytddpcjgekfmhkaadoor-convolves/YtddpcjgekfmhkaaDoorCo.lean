/- convolve and Convolve, walked. -/
import Derived.Test.YtddpcjgekfmhkaaDoorTh
import Derived.Test.YtddpcjgekfmhkaaDoorCv
import Derived.Test.YtddpcjgekfmhkaaDoorBm
import Derived.RegionTactic
import Derived.BigRegion
import Derived.Deep.RegionHeld3
namespace Go.Proofs.YtddpcjgekfmhkaaDoor
open Go.RowKit Go.Maps
set_option linter.unusedSimpArgs false
set_option linter.unusedVariables false

theorem IArr.but {w w' : World} {b off len c : Nat} {z : Nat → Int} (h : IArr w b off len z) (g : But c w w') (hb : b ≠ c) : IArr w' b off len z := fun i hi => ⟨g.at hb (h i hi).1, (h i hi).2⟩
theorem Tab.but {w w' : World} {c : Nat} (h : Tab w) (g : But c w w') (hc : 1 ≠ c) : Tab w' := fun i hi => g.at hc (h i hi)
theorem Tab.only {w w' : World} {c : Nat} (h : Tab w) (g : Only c w w') (hc : 1 ≠ c) : Tab w' := fun i hi => (g.cell hc).trans (h i hi)

/-- Products, place by place. -/
def prod (K la lb : Nat) (za zb : Nat → Int) (i : Nat) : Int := (dft K (emb la za) i * dft K (emb lb zb) i) % PP

theorem trans_bd (K : Nat) (inv : Bool) (x : Nat → Int) (i : Nat) : 0 ≤ trans K inv x i ∧ trans K inv x i ≤ 18446744069414584320 := by
  unfold trans
  cases inv
  · exact md_bd _
  · exact md_bd _
/-- What comes of it. -/
def ConvPost (c la lb : Nat) (za zb : Nat → Int) (mb : Nat) (w w' : World) (e : Ending) : Prop :=
  ∃ K ob, K ≤ 10 ∧ c ≤ 2 ^ K ∧ e = .returned (.slice (some ⟨ob, 0, none⟩) c c) ∧ JArr w' ob c (fun i => liftv (trans K true (prod K la lb za zb) i)) ∧ w.heap.size ≤ ob ∧ But mb w w'

theorem conv_first (sb mb K n : Nat) (hK : K ≤ 10) (hn : 2 ^ K = n) : ∀ (wa : World) (b : Nat) (f : Nat → Int) (inv : Bool), Shelf wa sb mb 0 (.map []) → Tab wa → Arr wa b n f → Elems n f →
    Calls Tryd.prog 39 #[.pointer (some ⟨sb, 0, none⟩), .slice (some ⟨b, 0, none⟩) n n, .bool inv] wa fun e w' => e = .returned (.slice (some ⟨wa.heap.size + 1, 0, none⟩) n n) ∧ Did K sb mb 0 inv f (.map []) wa w' := by
  intro wa b f inv hs ht ha hf
  subst hn
  exact transform_any K sb mb 0 b (2 ^ K) f (.map []) inv wa hK (by omega) ht ha hf hs rfl
theorem conv_more (sb mb K n : Nat) (hK : K ≤ 10) (hn : 2 ^ K = n) : ∀ (wa : World) (b : Nat) (f : Nat → Int) (inv : Bool) (k : Nat) (D : DataW Unit) (tb : Nat), k ≤ 1000000 → Shelf wa sb mb k D → Holds D n tb → Tab wa → Arr wa b n f → Elems n f → Arr wa tb n (fun i => pw (rootk K) i) → b ≠ mb → 1 ≠ mb → tb ≠ mb →
    Calls Tryd.prog 39 #[.pointer (some ⟨sb, 0, none⟩), .slice (some ⟨b, 0, none⟩) n n, .bool inv] wa fun e w' => e = .returned (.slice (some ⟨wa.heap.size, 0, none⟩) n n) ∧ Hit K sb mb k tb inv f D wa w' := by
  intro wa b f inv k D tb hk hs hD ht ha hf htb h1 h2 h3
  subst hn
  exact transform_hit K sb mb k b (2 ^ K) tb f D inv wa hK hk ht ha hf hs hD htb h1 h2 h3

set_option maxHeartbeats 4000000 in
theorem convolve_core (sb mb la lb b0 off0 cap0 b1 off1 cap1 : Nat) (za zb : Nat → Int) (w : World) (hla : 1 ≤ la) (hlb : 1 ≤ lb) (hsum : la + lb ≤ 1025) (ht : Tab w) (hs : Shelf w sb mb 0 (.map []))
    (ha : IArr w b0 off0 la za) (hb : IArr w b1 off1 lb zb) (h0m : b0 ≠ mb) (h1m : b1 ≠ mb) (htm : 1 ≠ mb) :
    Calls Tryd.prog 42 #[.pointer (some ⟨sb, 0, none⟩), .slice (some ⟨b0, off0, none⟩) la cap0, .slice (some ⟨b1, off1, none⟩) lb cap1] w
      fun e w' => ConvPost (la + lb - 1) la lb za zb mb w w' e := by
  obtain ⟨c, hc⟩ : ∃ c, la + lb - 1 = c := ⟨_, rfl⟩
  have hci : (la : Int) + (lb : Int) - 1 = (c : Int) := by omega
  have hc1 : 1 ≤ c := by omega
  have hc2 : c ≤ 1024 := by omega
  rw [hc]
  have HC : Hid (la + lb - 1 = c) := hc
  clear hc
  have csz := sizeFor_any c hc2
  have HW : Hid (Tab w ∧ Shelf w sb mb 0 (.map []) ∧ IArr w b0 off0 la za ∧ IArr w b1 off1 lb zb ∧ b0 ≠ mb ∧ b1 ≠ mb ∧ 1 ≠ mb) := ⟨ht, hs, ha, hb, h0m, h1m, htm⟩
  have hlt := hs.lt
  clear ht hs ha hb h0m h1m htm
  have tk1 : True := trivial
  have tk2 : True := trivial
  have tk3 : True := trivial
  go_enter Tryd.func42, Tryd.ntmps42
  go_wp2_with (first
    | (go_at_call 61; refine (csz _).mono ?_; rintro e w' ⟨⟨n, rfl, K, hK, hKn, hcn⟩, hw⟩; subst w'; have HN : Hid (2 ^ K = n) := hKn; have hn2 : n ≤ 1024 := (by rw [← hKn]; exact Nat.pow_le_pow_right (n := 2) (by decide) hK); have TA := conv_first sb mb K n hK hKn; have TB := conv_more sb mb K n hK hKn; clear hKn csz)
    | (go_at_call 62; have _t := tk1; refine (embedAll_any b0 off0 la cap0 n za w hla (by omega) hn2 HW.out.2.2.1).mono ?_; rintro e w1 ⟨rfl, hA1, hG1, hZ1⟩; clear tk1; have HG1 : Hid (Gw w w1 ∧ w1.heap.size = w.heap.size + 1 ∧ Arr w1 w.heap.size n (emb la za)) := ⟨hG1, hZ1, hA1⟩; clear hZ1 hA1 hG1)
    | (go_at_call 39; have _t := tk2; refine (TA w1 w.heap.size (emb la za) false (HW.out.2.1.gw HG1.out.1) (HW.out.1.gw HG1.out.1) HG1.out.2.2 (emb_elems _ _ _)).mono ?_; rintro e w2 ⟨rfl, D1⟩; clear tk2 TA; have HD1 : Hid (But mb w w2 ∧ w2.heap.size = w.heap.size + 3) := ⟨(But.of_gw mb HG1.out.1).trans D1.but, (by rw [D1.size, HG1.out.2.1])⟩)
    | (go_at_call 62; refine (embedAll_any b1 off1 lb cap1 n zb w2 hlb (by omega) hn2 (HW.out.2.2.2.1.but HD1.out.1 HW.out.2.2.2.2.2.1)).mono ?_; rintro e w3 ⟨rfl, hA3, hG3, hZ3⟩; have HG3 : Hid (Gw w2 w3 ∧ w3.heap.size = w2.heap.size + 1 ∧ Arr w3 w2.heap.size n (emb lb zb)) := ⟨hG3, hZ3, hA3⟩; clear hZ3 hA3 hG3)
    | (go_at_call 39; have _t := tk3; refine (TB w3 w2.heap.size (emb lb zb) false 1 _ w1.heap.size (by omega) (D1.shelf.gw HG3.out.1) (by rw [HN.out]; exact Holds.put isMap_empty n w1.heap.size) ((HW.out.1.but HD1.out.1 HW.out.2.2.2.2.2.2).gw HG3.out.1) HG3.out.2.2 (emb_elems _ _ _) (by have := D1.tab; rw [HN.out] at this; exact this.gw HG3.out.1) (by have := HD1.out.2; omega) HW.out.2.2.2.2.2.2 (by have := HG1.out.2.1; omega)).mono ?_; rintro e w4 ⟨rfl, D2⟩; clear tk3))
  have H4 : Hid (Arr w4 (w1.heap.size + 1) n (dft K (emb la za)) ∧ Arr w4 w3.heap.size n (dft K (emb lb zb)) ∧ Arr w4 w1.heap.size n (fun i => pw (rootk K) i) ∧ (∃ D, Shelf w4 sb mb 2 D ∧ Holds D n w1.heap.size) ∧ But mb w w4 ∧ w.heap.size < w1.heap.size ∧ w1.heap.size + 1 < w3.heap.size ∧ w3.heap.size < w4.heap.size) := by
    obtain ⟨g1, g2, g3⟩ := HG1.out
    obtain ⟨g4, g5, g6⟩ := HG3.out
    have o1 := D1.out
    have o2 := D2.out
    have o3 := D2.tab
    have s1 := D1.size
    have s2 := D2.size
    rw [HN.out] at o1 o2 o3
    refine ⟨(o1.gw g4).but D2.but (by omega), o2, o3, ⟨_, D2.shelf, ?_⟩, (HD1.out.1.trans (But.of_gw mb g4)).trans D2.but, by omega, by omega, by omega⟩
    rw [HN.out]
    exact Holds.put ((isMap_empty.put _ _).del _) n w1.heap.size
  have HT4 : Hid (Tab w4) := HW.out.1.but H4.out.2.2.2.2.1 HW.out.2.2.2.2.2.2
  have HM : Hid (1 ≠ mb ∧ sb < w.heap.size ∧ mb < w.heap.size) := ⟨HW.out.2.2.2.2.2.2, hlt⟩
  clear D1 D2 HD1 HG1 HG3 HW hlt
  generalize w1.heap.size = tb at *
  generalize w3.heap.size = Yb at *
  clear w1 w3
  obtain ⟨X, hX⟩ : ∃ X, tb + 1 = X := ⟨_, rfl⟩
  have HX : Hid (tb + 1 = X) := hX
  rw [hX] at H4
  rw [hX]
  clear hX
  go_loopw [32] (fun ti wr => ∃ (k : Nat) (g : Nat → Int), k ≤ n ∧ ti = .int .i64 k ∧ Hid (Arr wr X n g ∧ (∀ i, i < k → g i = prod K la lb za zb i) ∧ (∀ i, k ≤ i → i < n → g i = dft K (emb la za) i) ∧ Only X w4 wr)) (fun ti _ => n - (intOf ti).toNat)
  case atStart => exact ⟨0, _, Nat.zero_le _, rfl, H4.out.1, fun i hi => by omega, fun i _ _ => rfl, Only.refl _ _⟩
  case round =>
    obtain ⟨k, g, hk, rfl, HR⟩ := hrel
    by_cases hlt : k < n
    · obtain ⟨hA, hU, hV, hO⟩ := HR.out
      have hXY : ¬ X = Yb := by have := H4.out.2.2.2.2.2.2.1; omega
      have hYX : ¬ Yb = X := by omega
      have cx := (hA k hlt).1
      have fx := (hA k hlt).2
      have cy := ((H4.out.2.1.only hO hYX) k hlt).1
      rw [hV k (Nat.le_refl _) hlt] at cx
      have b1 : 0 ≤ dft K (emb la za) k ∧ dft K (emb la za) k ≤ 18446744069414584320 := md_bd _
      have b2 : 0 ≤ dft K (emb lb zb) k ∧ dft K (emb lb zb) k ≤ 18446744069414584320 := md_bd _
      have cm := mul_any _ _ b1.1 (Int.le_trans b1.2 (by omega)) b2.1 (Int.le_trans b2.2 (by omega))
      obtain ⟨v, hv⟩ : ∃ v, (dft K (emb la za) k * dft K (emb lb zb) k) % PP = v := ⟨_, rfl⟩
      rw [hv] at cm
      have HV : Hid (prod K la lb za zb k = v) := hv
      clear hv b1 b2 hA hU hV hO
      generalize dft K (emb la za) k = va at *
      generalize dft K (emb lb zb) k = vb at *
      have i1 : (k : Int) < (n : Int) := by omega
      go_wp2
      go_region_with (first | (go_at_call 27; refine (cm _).mono ?_; rintro e w' ⟨rfl, hw⟩; subst w'))
      all_goals
        go_wp2
        go_roundw
        case rel =>
          refine ⟨k + 1, upd g k v, by omega, by go_num, ?_⟩
          obtain ⟨hA, hU, hV, hO⟩ := HR.out
          refine ⟨(hA.set hlt v).drew, fun i hi => ?_, fun i h1 h2 => ?_, (hO.setCell rfl _).drew⟩
          · by_cases e : i = k
            · subst e; rw [upd_same]; exact HV.out.symm
            · rw [upd_other e]; exact hU i (by omega)
          · rw [upd_other (by omega)]; exact hV i (by omega) h2
        case measure => simp [intOf]; omega
    · obtain rfl : k = n := by omega
      obtain ⟨D3, hS4, hH4⟩ := H4.out.2.2.2.1
      have hS5 := hS4.only HR.out.2.2.2 (by have := HM.out.2.1; have := H4.out.2.2.2.2.2.1; have := HX.out; omega) (by have := HM.out.2.2; have := H4.out.2.2.2.2.2.1; have := HX.out; omega)
      have hT5 := H4.out.2.2.1.only HR.out.2.2.2 (by have := HX.out; omega)
      have hP5 : Arr wr X k (prod K la lb za zb) := HR.out.1.congr HR.out.2.1
      have c3 := TB wr X (prod K la lb za zb) true 2 D3 tb (by omega) hS5 hH4 (HT4.out.only HR.out.2.2.2 (by have := HM.out.2.2; have := H4.out.2.2.2.2.2.1; have := HX.out; have := HM.out.1; omega)) hP5 (fun _ _ => md_bd _) hT5 (by have := HM.out.2.2; have := H4.out.2.2.2.2.2.1; have := HX.out; omega) HM.out.1 (by have := HM.out.2.2; have := H4.out.2.2.2.2.2.1; omega)
      clear hS4 hH4 hS5 hT5 hP5 TB
      go_wp2_with (first
        | (go_at_call 39; refine c3.mono ?_; rintro e w5 ⟨rfl, D5⟩; clear c3; have ho5 := D5.out; rw [HN.out] at ho5; have cl := liftAll_any wr.heap.size c k k _ w5 hcn hn2 (fun i _ => ⟨(trans_bd K true _ i).1, Int.le_trans (trans_bd K true _ i).2 (by omega)⟩) ho5; have hb5 := D5.but; clear ho5 D5)
        | (go_at_call 63; refine cl.mono ?_; rintro e w6 ⟨rfl, hA6, hG6, hZ6⟩; clear cl))
      go_ret
      refine ⟨K, w5.heap.size, hK, by rw [HN.out]; exact hcn, rfl, hA6, ?_, ?_⟩
      · have := HX.out; have := hb5.size; have := HR.out.2.2.2.size; have := H4.out.2.2.2.2.2.2.2; have := H4.out.2.2.2.2.2.1; have := H4.out.2.2.2.2.2.2.1; omega
      · exact ((H4.out.2.2.2.2.1.of_new HR.out.2.2.2 (by have := H4.out.2.2.2.2.2.1; have := HX.out; omega)).trans hb5).trans (But.of_gw mb hG6)

end Go.Proofs.YtddpcjgekfmhkaaDoor
