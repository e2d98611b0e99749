/- The statement Back, walked. -/
import Derived.Test.YtddpcjgekfmhkaaDoorTf
import Derived.Test.YtddpcjgekfmhkaaDoorEl
import Derived.Test.YtddpcjgekfmhkaaDoorBm
import Derived.Deep.RegionHeld3
import Derived.RegionTactic
import Derived.BigRegion
namespace Go.Proofs.YtddpcjgekfmhkaaDoor
open Go.RowKit Go.Maps
set_option linter.unusedSimpArgs false
set_option linter.unusedVariables false

def heldAt (W : World) (a : Addr) : Value := (W.cell? a).getD undef
theorem held_of_some {W : World} {a : Addr} (h : ∃ u, W.cell? a = some u) : W.cell? a = some (heldAt W a) := by
  obtain ⟨u, h⟩ := h
  unfold heldAt; rw [h]; rfl
theorem held_set {W : World} {a p : Addr} {v : Value} (h : ∃ u, W.cell? a = some u) : ∃ u, (W.setCell p v).cell? a = some u := by
  obtain ⟨u, h⟩ := h
  exact cell?_setCell_some h
/-- How far the first loop has come. -/
structure Filled (n k bx by_ bs bt : Nat) (x y : Nat → Int) (w wr : World) : Prop where
  ax : Arr wr bx n x
  ay : ∃ g, Arr wr by_ n g ∧ (∀ i, i < k → g i = y i) ∧ (∀ i, k ≤ i → i < n → g i = 0)
  sums : ∃ g, Arr wr bs n g ∧ (∀ i, i < k → g i = (x i + y i) % PP)
  turned : ∃ g, Arr wr bt n g ∧ (∀ i, i < k → g ((i + 1) % n) = x i)
  gw : Gw w wr
  ne : bx < by_ ∧ by_ < bs ∧ bs < bt ∧ w.heap.size ≤ bx

theorem back_trans {K n : Nat} {x : Nat → Int} (hK : K ≤ 32) (hn : 2 ^ K = n) (hx : Elems n x) (i : Nat) (hi : i < n) : trans K true (trans K false x) i = x i := by
  have e : trans K false x = dft K x := rfl
  rw [e]
  show (idft K (dft K x) i * pw ((2 ^ K : Nat) : Int) invE) % PP = x i
  rw [dft_back hK x i (by rw [hn]; exact hi), hx.md i hi]
theorem turn_ne {n i k : Nat} (hi : i < k) (hk : k < n) : (i + 1) % n ≠ (k + 1) % n := by
  rw [Nat.mod_eq_of_lt (by omega : i + 1 < n)]
  by_cases e : k + 1 = n
  · rw [e, Nat.mod_self]; omega
  · rw [Nat.mod_eq_of_lt (by omega)]; omega
theorem Filled.next {n k bx by_ bs bt m : Nat} {x y : Nat → Int} {w wr : World} {X Y v : Int} (F : Filled n k bx by_ bs bt x y w wr) (hlt : k < n) (hm : (k + 1) % n = m) (hV : x k = X ∧ y k = Y ∧ (X + Y) % PP = v) :
    Filled n (k + 1) bx by_ bs bt x y w (((wr.setCell ⟨by_, k, none⟩ (.int .u64 Y)).setCell ⟨bs, k, none⟩ (.int .u64 v)).setCell ⟨bt, m, none⟩ (.int .u64 X)).drew.drew := by
  obtain ⟨gy, hay, hy1, hy2⟩ := F.ay
  obtain ⟨gs, has, hs1⟩ := F.sums
  obtain ⟨gt, hat, ht1⟩ := F.turned
  obtain ⟨ne1, ne2, ne3, ne4⟩ := F.ne
  obtain ⟨hX, hY, hv⟩ := hV
  have hmn : m < n := by rw [← hm]; exact Nat.mod_lt _ (by omega)
  refine ⟨?_, ⟨upd gy k Y, ?_, ?_, ?_⟩, ⟨upd gs k v, ?_, ?_⟩, ⟨upd gt m X, ?_, ?_⟩, ?_, by omega⟩
  · exact (((F.ax.set_other (by show by_ ≠ bx; omega) _).set_other (by show bs ≠ bx; omega) _).set_other (by show bt ≠ bx; omega) _).drew.drew
  · exact (((hay.set hlt Y).set_other (by show bs ≠ by_; omega) _).set_other (by show bt ≠ by_; omega) _).drew.drew
  · intro i hi
    by_cases e : i = k
    · subst e; rw [upd_same, hY]
    · rw [upd_other e]; exact hy1 i (by omega)
  · intro i h1 h2; rw [upd_other (by omega)]; exact hy2 i (by omega) h2
  · exact (((has.set_other (by show by_ ≠ bs; omega) _).set hlt v).set_other (by show bt ≠ bs; omega) _).drew.drew
  · intro i hi
    by_cases e : i = k
    · subst e; rw [upd_same, hX, hY, hv]
    · rw [upd_other e]; exact hs1 i (by omega)
  · exact (((hat.set_other (by show by_ ≠ bt; omega) _).set_other (by show bs ≠ bt; omega) _).set hmn X).drew.drew
  · intro i hi
    by_cases e : i = k
    · subst e; rw [hm, upd_same, hX]
    · rw [upd_other (by rw [← hm]; exact turn_ne (by omega) hlt)]; exact ht1 i (by omega)
  · exact (((F.gw.setCell (by show w.heap.size ≤ by_; omega) _).setCell (by show w.heap.size ≤ bs; omega) _).setCell (by show w.heap.size ≤ bt; omega) _).drew.drew
theorem Filled.next0 {n k bx by_ bs bt m : Nat} {x y : Nat → Int} {w wr : World} {X Y v : Int} (F : Filled n k bx by_ bs bt x y w wr) (hlt : k < n) (hm : (k + 1) % n = m) (hV : x k = X ∧ y k = Y ∧ (X + Y) % PP = v) (h0 : y k = 0) :
    Filled n (k + 1) bx by_ bs bt x y w ((wr.setCell ⟨bs, k, none⟩ (.int .u64 v)).setCell ⟨bt, m, none⟩ (.int .u64 X)).drew.drew := by
  obtain ⟨gy, hay, hy1, hy2⟩ := F.ay
  obtain ⟨gs, has, hs1⟩ := F.sums
  obtain ⟨gt, hat, ht1⟩ := F.turned
  obtain ⟨ne1, ne2, ne3, ne4⟩ := F.ne
  obtain ⟨hX, hY, hv⟩ := hV
  have hmn : m < n := by rw [← hm]; exact Nat.mod_lt _ (by omega)
  refine ⟨?_, ⟨gy, ?_, ?_, ?_⟩, ⟨upd gs k v, ?_, ?_⟩, ⟨upd gt m X, ?_, ?_⟩, ?_, by omega⟩
  · exact ((F.ax.set_other (by show bs ≠ bx; omega) _).set_other (by show bt ≠ bx; omega) _).drew.drew
  · exact ((hay.set_other (by show bs ≠ by_; omega) _).set_other (by show bt ≠ by_; omega) _).drew.drew
  · intro i hi
    by_cases e : i = k
    · subst e; rw [hy2 i (Nat.le_refl _) hlt, h0]
    · exact hy1 i (by omega)
  · intro i h1 h2; exact hy2 i (by omega) h2
  · exact ((has.set hlt v).set_other (by show bt ≠ bs; omega) _).drew.drew
  · intro i hi
    by_cases e : i = k
    · subst e; rw [upd_same, hX, hY, hv]
    · rw [upd_other e]; exact hs1 i (by omega)
  · exact ((hat.set_other (by show bs ≠ bt; omega) _).set hmn X).drew.drew
  · intro i hi
    by_cases e : i = k
    · subst e; rw [hm, upd_same, hX]
    · rw [upd_other (by rw [← hm]; exact turn_ne (by omega) hlt)]; exact ht1 i (by omega)
  · exact ((F.gw.setCell (by show w.heap.size ≤ bs; omega) _).setCell (by show w.heap.size ≤ bt; omega) _).drew.drew

set_option maxRecDepth 20000 in
set_option maxHeartbeats 4000000 in
theorem back_core (a0 : Option Addr) (len0 cap0 : Nat) (z0 : Nat → Int) (a1 : Option Addr) (b1 off1 len1 cap1 : Nat) (z1 : Nat → Int) (w : World) (hadr : 0 < len1 → a1 = some ⟨b1, off1, none⟩) (ht : Tab w) (hm1 : len1 ≤ 9223372036854775807)
    (ce : Calls Tryd.prog 22 #[.slice a0 len0 cap0] w fun e w' => ElPost w.heap.size (fun K => Arr w' w.heap.size (2 ^ K) (emb len0 z0) ∧ Gw w w' ∧ w'.heap.size = w.heap.size + 1) e)
    (h1 : IArr w b1 off1 len1 z1) :
    Calls Tryd.prog 5 #[.slice a0 len0 cap0, .slice a1 len1 cap1] w fun e w' => e = .returned (.bool true) ∧ Gw w w' := by
  have HADR : Hid (0 < len1 → a1 = some ⟨b1, off1, none⟩) := hadr
  clear hadr
  have HT : Hid (Tab w) := ht
  have H1 : Hid (IArr w b1 off1 len1 z1) := h1
  clear ht h1
  go_enter Tryd.func5, Tryd.ntmps5
  have tok1 : True := trivial
  have tok2 : True := trivial
  have tok3 : True := trivial
  go_wp2_with (first
    | (go_at_call 22; refine ce.mono ?_; rintro e w1 ⟨K, hK, rfl, hA1, hG1, hZ1⟩; clear ce; have hn0 : 2 ^ K ≤ 256 := Nat.pow_le_pow_right (n := 2) (by decide) hK; have hn1 : 1 ≤ 2 ^ K := Nat.one_le_two_pow; obtain ⟨n, hnn⟩ : ∃ n, 2 ^ K = n := ⟨_, rfl⟩; rw [hnn] at hA1 hn0 hn1; rw [hnn]; have HN : Hid (2 ^ K = n) := hnn; have H11 : Hid (Arr w1 w.heap.size n (emb len0 z0) ∧ Gw w w1 ∧ w1.heap.size = w.heap.size + 1) := ⟨hA1, hG1, hZ1⟩; clear hnn hA1 hG1 hZ1)
    | (at_make; have _t := tok1; refine wpList_make_u64 _ rfl _ _ 35 42 rfl Tryd.underlying35 info_u64 n _ rfl rfl rfl (by omega) ?_; intro w2 hA hG hZ; clear tok1; have H12 : Hid (Arr w2 w1.heap.size n (fun _ => 0) ∧ Gw w1 w2 ∧ w2.heap.size = w1.heap.size + 1) := ⟨hA, hG, hZ⟩; clear hA hG hZ)
    | (at_make; have _t := tok2; refine wpList_make_u64 _ rfl _ _ 35 42 rfl Tryd.underlying35 info_u64 n _ rfl rfl rfl (by omega) ?_; intro w3 hA hG hZ; clear tok2; have H13 : Hid (Arr w3 w2.heap.size n (fun _ => 0) ∧ Gw w2 w3 ∧ w3.heap.size = w2.heap.size + 1) := ⟨hA, hG, hZ⟩; clear hA hG hZ)
    | (at_make; have _t := tok3; refine wpList_make_u64 _ rfl _ _ 35 42 rfl Tryd.underlying35 info_u64 n _ rfl rfl rfl (by omega) ?_; intro w4 hA hG hZ; clear tok3; have H14 : Hid (Arr w4 w3.heap.size n (fun _ => 0) ∧ Gw w3 w4 ∧ w4.heap.size = w3.heap.size + 1) := ⟨hA, hG, hZ⟩; clear hA hG hZ))
  have HF : Hid (Filled n 0 w.heap.size w1.heap.size w2.heap.size w3.heap.size (emb len0 z0) (emb len1 z1) w w4) := by
    obtain ⟨x1, x2, x3⟩ := H11.out
    obtain ⟨y1, y2, y3⟩ := H12.out
    obtain ⟨s1, s2, s3⟩ := H13.out
    obtain ⟨t1, t2, t3⟩ := H14.out
    refine ⟨((x1.gw y2).gw s2).gw t2, ⟨_, (y1.gw s2).gw t2, fun i hi => by omega, fun _ _ _ => rfl⟩, ⟨_, s1.gw t2, fun i hi => by omega⟩, ⟨_, t1, fun i hi => by omega⟩, ((x2.trans y2).trans s2).trans t2, by omega⟩
  have hw0 : Hid (w.heap.size ≤ w.heap.size) := Nat.le_refl _
  clear H11 H12 H13 H14 hw0
  generalize w1.heap.size = by_ at *
  generalize w2.heap.size = bs at *
  generalize w3.heap.size = bt at *
  clear w1 w2 w3
  obtain ⟨bx, hbx⟩ : ∃ bx, w.heap.size = bx := ⟨_, rfl⟩
  rw [hbx] at HF
  rw [hbx]
  clear hbx
  obtain ⟨x, hx⟩ : ∃ x, emb len0 z0 = x := ⟨_, rfl⟩
  obtain ⟨y, hy⟩ : ∃ y, emb len1 z1 = y := ⟨_, rfl⟩
  have HX : Hid (Elems n x ∧ Elems n y) := by rw [← hx, ← hy]; exact ⟨emb_elems _ _ _, emb_elems _ _ _⟩
  have HY : Hid (∀ i, y i = if i < len1 then z1 i % PP else 0) := by rw [← hy]; exact fun i => rfl
  rw [hx, hy] at HF
  clear hx hy
  go_loopw [10] (fun ti wr => ∃ k : Nat, k ≤ n ∧ ti = .int .i64 k ∧ Hid (Filled n k bx by_ bs bt x y w wr)) (fun ti _ => n - (intOf ti).toNat)
  case atStart => exact ⟨0, Nat.zero_le _, rfl, HF⟩
  case round =>
    obtain ⟨k, hk, rfl, HR⟩ := hrel
    by_cases hlt : k < n
    · obtain ⟨m, hm⟩ : ∃ m, (k + 1) % n = m := ⟨_, rfl⟩
      have hmn : m < n := by rw [← hm]; exact Nat.mod_lt _ (by omega)
      have hmi : ((k : Int) + 1) % (n : Int) = (m : Int) := by rw [← hm]; norm_cast
      have hmt : ((k : Int) + 1).tmod (n : Int) = (m : Int) := by rw [Int.tmod_eq_emod_of_nonneg (by omega)]; exact hmi
      have HM : Hid ((k + 1) % n = m) := hm
      clear hm
      have hw1 : IntKind.i64.wrap ((k : Int) + 1) = (k : Int) + 1 := by rw [IntKind.wrap_i64]; omega
      have hw2 : IntKind.i64.wrap (m : Int) = (m : Int) := by rw [IntKind.wrap_i64]; omega
      have F := HR.out
      obtain ⟨gy, hay, hy1, hy2⟩ := F.ay
      obtain ⟨gs, has, hs1⟩ := F.sums
      obtain ⟨gt, hat, ht1⟩ := F.turned
      obtain ⟨ne1, ne2, ne3, ne4⟩ := F.ne
      have cx := (F.ax k hlt).1
      have cs := (has k hlt).1
      have fs := (has k hlt).2
      have ctt := (hat m hmn).1
      have ftt := (hat m hmn).2
      have cy := (hay k hlt).1
      have fy := (hay k hlt).2
      have bx0 := HX.out.1.fits k hlt
      have by0 := HX.out.2.fits k hlt
      have ca := add_any _ _ bx0.1 bx0.2 by0.1 by0.2
      obtain ⟨X, hX⟩ : ∃ X, x k = X := ⟨_, rfl⟩
      obtain ⟨Y, hY⟩ : ∃ Y, y k = Y := ⟨_, rfl⟩
      obtain ⟨v, hv⟩ : ∃ v, (X + Y) % PP = v := ⟨_, rfl⟩
      rw [hX, hY, hv] at ca
      rw [hX] at cx
      have HV : Hid (x k = X ∧ y k = Y ∧ (X + Y) % PP = v) := ⟨hX, hY, hv⟩
      have d1 : ¬ bx = by_ := by omega
      have d2 : ¬ bx = bs := by omega
      have d3 : ¬ bx = bt := by omega
      have d4 : ¬ by_ = bs := by omega
      have d5 : ¬ by_ = bt := by omega
      have d6 : ¬ bs = bt := by omega
      have e1 : ¬ by_ = bx := by omega
      have e2 : ¬ bs = bx := by omega
      have e3 : ¬ bt = bx := by omega
      have e4 : ¬ bs = by_ := by omega
      have e5 : ¬ bt = by_ := by omega
      have e6 : ¬ bt = bs := by omega
      have i1 : (k : Int) < (n : Int) := by omega
      have i2 : (m : Int) < (n : Int) := by omega
      have n0 : ¬ (n : Int) = 0 := by omega
      by_cases hk1 : k < len1
      · obtain rfl : a1 = some ⟨b1, off1, none⟩ := HADR.out (by omega)
        have hz := (H1.out.gw F.gw) k hk1
        have cz := hz.1
        have cem := embed_any (z1 k) hz.2.1 hz.2.2
        have hyk := HY.out k
        rw [if_pos hk1, hY] at hyk
        rw [← hyk] at cem
        clear F hay hy1 hy2 has hs1 hat ht1 ne1 ne2 ne3 ne4 bx0 by0 hX hY hv hz hyk HADR
        generalize z1 k = zz at *
        go_wp2_with (go_at_call 23; refine (cem _).mono ?_; rintro e w' ⟨rfl, hw⟩; subst w')
        go_region_held3 (fun W => W.cell? ⟨bx, k, none⟩ = some (.int .u64 X) ∧ W.cell? ⟨by_, k, none⟩ = some (.int .u64 Y) ∧ W.cell? ⟨bs, k, none⟩ = some (heldAt W ⟨bs, k, none⟩) ∧ W.frozen? ⟨bs, k, none⟩ = false)
          (first
            | assumption
            | (go_split_ands; exact ⟨by simp [go_sem, *], by simp [go_sem, *], held_of_some (held_set ⟨_, ‹_›⟩), by simp [go_sem, *]⟩)
            | (exact ⟨by simp [go_sem, *], by simp [go_sem, *], held_of_some (held_set ⟨_, by assumption⟩), by simp [go_sem, *]⟩))
          (first | (go_at_call 24; refine (ca _).mono ?_; rintro e w' ⟨rfl, hw⟩; subst w'))
        go_split_ands
        go_wp2
        go_region
        go_wp2
        go_roundw
        case rel =>
          exact ⟨k + 1, by omega, by go_num, HR.out.next hlt HM.out HV.out⟩
        case measure => simp [intOf]; omega
      · have hyk := HY.out k
        rw [if_neg hk1] at hyk
        have hgy := hy2 k (Nat.le_refl _) hlt
        rw [hgy] at cy
        have HY0 : Hid (y k = 0) := hyk
        rw [hY] at hyk
        subst hyk
        clear F hay hy1 hy2 has hs1 hat ht1 ne1 ne2 ne3 ne4 bx0 by0 hX hY hv hgy
        go_wp2
        go_region_held3 (fun W => W.cell? ⟨bx, k, none⟩ = some (.int .u64 X) ∧ W.cell? ⟨by_, k, none⟩ = some (.int .u64 0) ∧ W.cell? ⟨bs, k, none⟩ = some (heldAt W ⟨bs, k, none⟩) ∧ W.frozen? ⟨bs, k, none⟩ = false)
          (first
            | assumption
            | (go_split_ands; exact ⟨by simp [go_sem, *], by simp [go_sem, *], held_of_some (held_set ⟨_, ‹_›⟩), by simp [go_sem, *]⟩)
            | (exact ⟨by simp [go_sem, *], by simp [go_sem, *], held_of_some ⟨_, by assumption⟩, by simp [go_sem, *]⟩))
          (first | (go_at_call 24; refine (ca _).mono ?_; rintro e w' ⟨rfl, hw⟩; subst w'))
        go_split_ands
        go_wp2
        go_region
        go_wp2
        go_roundw
        case rel =>
          exact ⟨k + 1, by omega, by go_num, HR.out.next0 hlt HM.out HV.out HY0.out⟩
        case measure => simp [intOf]; omega
    · obtain rfl : k = n := by omega
      have H5 : Hid (∃ s tt, Arr wr bx k x ∧ Arr wr by_ k y ∧ Arr wr bs k s ∧ Arr wr bt k tt ∧ Elems k s ∧ Elems k tt ∧ (∀ i, i < k → s i = (x i + y i) % PP) ∧ (∀ i, i < k → tt ((i + 1) % k) = x i) ∧ Gw w wr) := by
        have F := HR.out
        obtain ⟨gy, hay, hy1, hy2⟩ := F.ay
        obtain ⟨gs, has, hs1⟩ := F.sums
        obtain ⟨gt, hat, ht1⟩ := F.turned
        refine ⟨gs, gt, F.ax, hay.congr hy1, has, hat, ?_, ?_, hs1, ht1, F.gw⟩
        · intro i hi; rw [hs1 i hi]; exact md_bd _
        · intro i hi
          by_cases e : i = 0
          · subst e
            have := ht1 (k - 1) (by omega)
            rw [Nat.sub_add_cancel (by omega), Nat.mod_self] at this
            rw [this]; exact HX.out.1 _ (by omega)
          · have := ht1 (i - 1) (by omega)
            rw [Nat.sub_add_cancel (by omega), Nat.mod_eq_of_lt hi] at this
            rw [this]; exact HX.out.1 _ (by omega)
      obtain ⟨s, tt, q1, q2, q3, q4, q5, q6, q7, q8, q9⟩ := H5.out
      have HS : Hid ((∀ i, i < k → s i = (x i + y i) % PP) ∧ (∀ i, i < k → tt ((i + 1) % k) = x i) ∧ Gw w wr) := ⟨q7, q8, q9⟩
      have HQ : Hid (Arr wr bx k x ∧ Arr wr by_ k y ∧ Arr wr bs k s ∧ Arr wr bt k tt) := ⟨q1, q2, q3, q4⟩
      have HE : Hid (Elems k s ∧ Elems k tt) := ⟨q5, q6⟩
      have TT : ∀ (wa : World) (b : Nat) (f : Nat → Int) (inv : Bool), Gw w wa → Arr wa b k f → Elems k f → Calls Tryd.prog 11 #[.slice (some ⟨b, 0, none⟩) k k, .bool inv] wa fun e w' => e = .returned (.tuple #[.slice (some ⟨wa.heap.size + 3, 0, none⟩) k k, .int .i64 0]) ∧ Done K inv f wa w' := by
        intro wa b f inv g ha hf
        have := Transform_ok K b k f inv wa (by omega) (HT.out.gw g) (by rw [HN.out]; exact hf) (by rw [HN.out]; exact ha)
        rw [HN.out] at this
        exact this
      clear H5 q1 q2 q3 q4 q5 q6 q7 q8 q9 hlt hk
      have tk1 : True := trivial
      have tk2 : True := trivial
      have tk3 : True := trivial
      have tk4 : True := trivial
      have cr := root_yes K (by omega)
      rw [HN.out] at cr
      go_wp2_with (first
        | (go_at_call 11; have _t := tk1; refine (TT wr bx x false HS.out.2.2 HQ.out.1 HX.out.1).mono ?_; rintro e w5 ⟨rfl, D1⟩; clear tk1)
        | (go_at_call 11; have _t := tk2; refine (TT w5 by_ y false (HS.out.2.2.trans D1.gw) (HQ.out.2.1.gw D1.gw) HX.out.2).mono ?_; rintro e w6 ⟨rfl, D2⟩; clear tk2)
        | (go_at_call 11; have _t := tk3; refine (TT w6 bs s false ((HS.out.2.2.trans D1.gw).trans D2.gw) ((HQ.out.2.2.1.gw D1.gw).gw D2.gw) HE.out.1).mono ?_; rintro e w7 ⟨rfl, D3⟩; clear tk3)
        | (go_at_call 11; have _t := tk4; refine (TT w7 bt tt false (((HS.out.2.2.trans D1.gw).trans D2.gw).trans D3.gw) (((HQ.out.2.2.2.gw D1.gw).gw D2.gw).gw D3.gw) HE.out.2).mono ?_; rintro e w8 ⟨rfl, D4⟩; clear tk4)
        | (go_at_call 11; refine (TT w8 (wr.heap.size + 3) (trans K false x) true ((((HS.out.2.2.trans D1.gw).trans D2.gw).trans D3.gw).trans D4.gw) (by have := D1.out; rw [HN.out] at this; exact ((this.gw D2.gw).gw D3.gw).gw D4.gw) (fun _ _ => md_bd _)).mono ?_; rintro e w9 ⟨rfl, D5⟩)
        | (go_at_call 25; refine (sameElements_yes (w8.heap.size + 3) bx k k k x w9 (by omega) (by have := D5.out; rw [HN.out] at this; refine this.congr fun i hi => ?_; exact back_trans (by omega) HN.out HX.out.1 i hi) ((((((HQ.out.1.gw D1.gw).gw D2.gw).gw D3.gw).gw D4.gw).gw D5.gw))).mono ?_; rintro e w10 ⟨rfl, hG10, hZ10⟩)
        | (go_at_call 26; refine (cr _).mono ?_; rintro e w' ⟨rfl, hw⟩; subst w'))
      have HD : Hid (Arr w10 (wr.heap.size + 3) k (dft K x) ∧ Arr w10 (w5.heap.size + 3) k (dft K y) ∧ Arr w10 (w6.heap.size + 3) k (dft K s) ∧ Arr w10 (w7.heap.size + 3) k (dft K tt) ∧ Gw w w10) := by
        have o1 := D1.out
        have o2 := D2.out
        have o3 := D3.out
        have o4 := D4.out
        rw [HN.out] at o1 o2 o3 o4
        exact ⟨((((o1.gw D2.gw).gw D3.gw).gw D4.gw).gw D5.gw).gw hG10, (((o2.gw D3.gw).gw D4.gw).gw D5.gw).gw hG10, ((o3.gw D4.gw).gw D5.gw).gw hG10, (o4.gw D5.gw).gw hG10, (((((HS.out.2.2.trans D1.gw).trans D2.gw).trans D3.gw).trans D4.gw).trans D5.gw).trans hG10⟩
      clear TT D1 D2 D3 D4 D5 hG10 hZ10 cr HT H1 HE HQ
      generalize wr.heap.size + 3 = A at *
      generalize w5.heap.size + 3 = B at *
      generalize w6.heap.size + 3 = C at *
      generalize w7.heap.size + 3 = E at *
      have br : Hid (0 ≤ rootk K ∧ rootk K ≤ 18446744073709551615) := ⟨(pw_bd 7 (rootE K)).1, Int.le_trans (pw_bd 7 (rootE K)).2 (by omega)⟩
      obtain ⟨r, hr⟩ : ∃ r, rootk K = r := ⟨_, rfl⟩
      have HRR : Hid (rootk K = r) := hr
      rw [hr] at br
      rw [hr]
      clear hr
      have HS' : Hid ((∀ i, i < k → s i = (x i + y i) % PP) ∧ (∀ i, i < k → tt ((i + 1) % k) = x i)) := ⟨HS.out.1, HS.out.2.1⟩
      clear HS HR HF
      go_loopw [23, 24] (fun tp ti wq => ∃ (j : Nat) (p : Int), j ≤ k ∧ tp = .int .u64 p ∧ ti = .int .i64 j ∧ Hid (p = pw r j) ∧ Hid (Arr wq A k (dft K x) ∧ Arr wq B k (dft K y) ∧ Arr wq C k (dft K s) ∧ Arr wq E k (dft K tt) ∧ Gw w wq)) (fun _ ti _ => k - (intOf ti).toNat)
      case atStart => exact ⟨0, 1, Nat.zero_le _, rfl, rfl, (pw_zero r).symm, HD⟩
      case round =>
        obtain ⟨j, p, hj, rfl, rfl, HP, HDq⟩ := hrel
        by_cases hjk : j < k
        · obtain ⟨da, db, dc, dd, _⟩ := HDq.out
          have c1 := (da j hjk).1
          have c2 := (db j hjk).1
          have c3 := (dc j hjk).1
          have c4 := (dd j hjk).1
          have b1 : 0 ≤ dft K x j ∧ dft K x j ≤ 18446744069414584320 := md_bd _
          have b2 : 0 ≤ dft K y j ∧ dft K y j ≤ 18446744069414584320 := md_bd _
          have bp : 0 ≤ p ∧ p ≤ 18446744069414584320 := by rw [HP.out]; exact pw_bd _ _
          have ca := add_any _ _ b1.1 (Int.le_trans b1.2 (by omega)) b2.1 (Int.le_trans b2.2 (by omega))
          have cm := mul_any _ _ b1.1 (Int.le_trans b1.2 (by omega)) bp.1 (Int.le_trans bp.2 (by omega))
          have cp := mul_any _ _ bp.1 (Int.le_trans bp.2 (by omega)) br.out.1 br.out.2
          have e1 := dft_add (K := K) x y s (fun i hi => HS'.out.1 i (by rw [← HN.out]; exact hi)) j
          have e2 := dft_turn (K := K) (by omega) x tt (fun i hi => by rw [HN.out]; exact HS'.out.2 i (by rw [← HN.out]; exact hi)) j
          rw [HRR.out, ← HP.out] at e2
          rw [← e1] at ca
          rw [← e2] at cm
          obtain ⟨p', hp'⟩ : ∃ p', (p * r) % PP = p' := ⟨_, rfl⟩
          rw [hp'] at cp
          have HP' : Hid ((p * r) % PP = p') := hp'
          clear hp' e1 e2 b1 b2 bp da db dc dd
          generalize dft K x j = va at *
          generalize dft K y j = vb at *
          generalize dft K s j = vc at *
          generalize dft K tt j = vd at *
          have i1 : (j : Int) < (k : Int) := by omega
          go_wp2
          go_quiet ((first | (go_at_call 24; exact Calls.quiet_of_same (ca _)) | (go_at_call 27; exact Calls.quiet_of_same (cm _))))
          go_wp2_with (go_at_call 27; refine (cp _).mono ?_; rintro e w' ⟨rfl, hw⟩; subst w')
          go_roundw
          case rel =>
            refine ⟨j + 1, p', by omega, rfl, by go_num, ?_, ?_⟩
            · show p' = pw r (j + 1)
              rw [pw_succ, ← HP.out, HP'.out]
            · obtain ⟨da, db, dc, dd, dg⟩ := HDq.out
              exact ⟨da.drewN _, db.drewN _, dc.drewN _, dd.drewN _, dg.drewN _⟩
          case measure => simp [intOf]; omega
        · obtain rfl : j = k := by omega
          have h1 : p = 1 := by rw [HP.out, ← HRR.out, ← HN.out]; exact rootk_pw (by omega)
          subst h1
          go_wp2
          go_ret
          exact ⟨rfl, HDq.out.2.2.2.2⟩

end Go.Proofs.YtddpcjgekfmhkaaDoor
