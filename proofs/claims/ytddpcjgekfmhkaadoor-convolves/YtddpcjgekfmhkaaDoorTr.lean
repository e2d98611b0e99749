/- transform, walked. -/
import Derived.Test.YtddpcjgekfmhkaaDoorMg
import Derived.Test.YtddpcjgekfmhkaaDoorSd
import Derived.Test.YtddpcjgekfmhkaaDoorTb
import Derived.Test.YtddpcjgekfmhkaaDoorSh
namespace Go.Proofs.YtddpcjgekfmhkaaDoor
open Go.RowKit Go.Maps
set_option linter.unusedSimpArgs false

/-- What a transform is. -/
def trans (K : Nat) (inv : Bool) (x : Nat → Int) (j : Nat) : Int := if inv then (idft K x j * pw ((2 ^ K : Nat) : Int) invE) % PP else dft K x j

/-- What has become of the world behind a transform whose table was not there. -/
structure Did (K sb mb k : Nat) (inv : Bool) (x : Nat → Int) (D : DataW Unit) (w w' : World) : Prop where
  out : Arr w' (w.heap.size + 1) (2 ^ K) (trans K inv x)
  tab : Arr w' w.heap.size (2 ^ K) (fun i => pw (rootk K) i)
  shelf : Shelf w' sb mb (k + 1) (D.put (key (2 ^ K)) (tabD w.heap.size (2 ^ K)))
  but : But mb w w'
  size : w'.heap.size = w.heap.size + 2

theorem Shelf.gw {w w' : World} {sb mb k : Nat} {D : DataW Unit} (h : Shelf w sb mb k D) (g : Gw w w') : Shelf w' sb mb k D := by
  refine ⟨g.at h.cell, ?_⟩
  obtain ⟨es, clock, hb, r⟩ := h.own
  refine ⟨es, clock, ?_, r⟩
  have hlt : mb < w.heap.size := by
    refine Nat.lt_of_not_le fun hle => ?_
    rw [Array.getElem?_eq_none hle] at hb; cases hb
  rw [g.1.block mb hlt, hb]
theorem Shelf.only {w w' : World} {sb mb k c : Nat} {D : DataW Unit} (h : Shelf w sb mb k D) (g : Only c w w') (h1 : sb ≠ c) (h2 : mb ≠ c) : Shelf w' sb mb k D := by
  refine ⟨(g.cell h1).trans h.cell, ?_⟩
  obtain ⟨es, clock, hb, r⟩ := h.own
  exact ⟨es, clock, (g.block mb h2).trans hb, r⟩
theorem Shelf.lt {w : World} {sb mb k : Nat} {D : DataW Unit} (h : Shelf w sb mb k D) : sb < w.heap.size ∧ mb < w.heap.size := by
  constructor
  · refine Nat.lt_of_not_le fun hle => ?_
    have e : w.heap[sb]? = none := Array.getElem?_eq_none hle
    have := h.cell
    simp [World.cell?, e] at this
  · obtain ⟨es, clock, hb, r⟩ := h.own
    refine Nat.lt_of_not_le fun hle => ?_
    rw [Array.getElem?_eq_none hle] at hb; cases hb

theorem merged_of {K s : Nat} {f g : Nat → Int} (hs : s + 1 ≤ K) (hK : K ≤ 32) (h : ∀ c q, c < 2 ^ (K - (s + 1)) → q < 2 ^ s → Pair (2 ^ s) (fun q => pw (rootk K) (q * 2 ^ (K - (s + 1)))) f g c q) : Merged s (2 ^ (K - (s + 1))) f g := by
  intro c q hc hq
  have := h c q hc hq
  unfold Pair at this
  simp only [rootk_step K hs hK] at this
  exact this
theorem split_pow {K s : Nat} (hs : s + 1 ≤ K) : 2 ^ K = 2 ^ (K - (s + 1)) * (2 * 2 ^ s) := by
  rw [show 2 * 2 ^ s = 2 ^ (s + 1) by rw [Nat.pow_succ]; omega, ← Nat.pow_add]; congr 1; omega
theorem root_elems (K : Nat) : Elems (2 ^ K) (fun i => pw (rootk K) i) := fun _ _ => pw_bd _ _

set_option maxHeartbeats 2000000 in
theorem transform_any (K sb mb k lb cap : Nat) (x : Nat → Int) (D : DataW Unit) (inv : Bool) (w : World) (hK : K ≤ 10) (hk : k ≤ 1000000) (ht : Tab w) (ha : Arr w lb (2 ^ K) x) (hx : Elems (2 ^ K) x)
    (hs : Shelf w sb mb k D) (hD : Maps.has D (key (2 ^ K)) = false) :
    Calls Tryd.prog 39 #[.pointer (some ⟨sb, 0, none⟩), .slice (some ⟨lb, 0, none⟩) (2 ^ K) cap, .bool inv] w
      fun e w' => e = .returned (.slice (some ⟨w.heap.size + 1, 0, none⟩) (2 ^ K) (2 ^ K)) ∧ Did K sb mb k inv x D w w' := by
  have cb := borrow_none K sb mb k D w hK hs hD
  have hn : 2 ^ K ≤ 1024 := Nat.pow_le_pow_right (n := 2) (by decide) hK
  have hn1 : 1 ≤ 2 ^ K := Nat.one_le_two_pow
  have hlt := hs.lt
  have hlb := ha.lt (by omega)
  have csc := fun w1 (g : Gw w w1) => scatter_any K lb cap x w1 hK (ht.gw g) (ha.gw g)
  have HI : Hid (Shelf w sb mb k D ∧ Elems (2 ^ K) x ∧ K ≤ 10 ∧ k ≤ 1000000) := ⟨hs, hx, hK, hk⟩
  clear hs hD ht ha hx hK hk
  obtain ⟨n, hnn⟩ : ∃ n, 2 ^ K = n := ⟨_, rfl⟩
  have HN : Hid (2 ^ K = n) := hnn
  rw [hnn] at cb csc hn hn1 ⊢
  clear hnn
  go_enter_defers Tryd.func39, Tryd.ntmps39
  go_wp2_with (first
    | (go_at_call 56; refine cb.mono ?_; rintro e w1 ⟨rfl, hT1, hG1, hZ1⟩; clear cb)
    | (go_at_call 58; refine (csc _ hG1).mono ?_; rintro e w2 ⟨rfl, ⟨g0, hA2, hg0⟩, hG2, hZ2⟩; clear csc))
  have hz1 := hZ1
  have HB : Hid (Arr w2 w.heap.size n (fun i => pw (rootk K) i) ∧ Shelf w2 sb mb k D ∧ Gw w w2 ∧ w2.heap.size = w.heap.size + 2) := by
    refine ⟨hT1.gw hG2, (HI.out.1.gw hG1).gw hG2, hG1.trans hG2, ?_⟩
    rw [hZ2, hz1]
  rw [hz1] at hA2
  have HS : Hid (Arr w2 (w.heap.size + 1) n g0 ∧ Elems n g0 ∧ Stage K 0 x g0) := by
    refine ⟨hA2, ?_, Stage.start (fun i hi => HI.out.2.1.md i hi) (fun i hi => hg0 i (by rw [← HN.out]; exact hi))⟩
    intro i hi
    rw [hg0 i hi]
    have := rev_lt K i
    exact HI.out.2.1 _ this
  clear hT1 hG1 hZ1 hA2 hg0 hG2 hZ2 hz1
  go_loopw [9] (fun ts wr => ∃ (s H : Nat) (g : Nat → Int), s ≤ K ∧ Hid (2 ^ s = H) ∧ 1 ≤ H ∧ H ≤ n ∧ ts = .int .i64 ((2 * H : Nat) : Int) ∧ Hid (Arr wr (w.heap.size + 1) n g ∧ Elems n g ∧ Stage K s x g ∧ Only (w.heap.size + 1) w2 wr)) (fun ts _ => 2 * n + 1 - (intOf ts).toNat)
  case atStart => exact ⟨0, 1, g0, Nat.zero_le _, rfl, Nat.le_refl _, hn1, rfl, HS.out.1, HS.out.2.1, HS.out.2.2, Only.refl _ _⟩
  case round =>
    obtain ⟨s, H, g, hsK, HH, hH1, hHn, rfl, HR⟩ := hrel
    by_cases hlt2 : s < K
    · have hsp := split_pow (K := K) (s := s) hlt2
      rw [HH.out, HN.out] at hsp
      obtain ⟨C, hC⟩ : ∃ C, 2 ^ (K - (s + 1)) = C := ⟨_, rfl⟩
      rw [hC] at hsp
      have hC1 : 1 ≤ C := by rw [← hC]; exact Nat.one_le_two_pow
      have h2H : 2 * H ≤ n := by rw [hsp]; exact Nat.le_mul_of_pos_left _ hC1
      obtain ⟨hA, hE, hSt, hO⟩ := HR.out
      have cm := merge_any (w.heap.size + 1) w.heap.size n n n H C g (fun i => pw (rootk K) i) wr hsp hH1 (by omega) (by omega) (by omega) hE (fun _ _ => pw_bd _ _) hA (HB.out.1.only hO (by omega))
      have HC : Hid (2 ^ (K - (s + 1)) = C) := hC
      clear hsp hC hC1 hA hE hSt hO
      go_wp2_with (go_at_call 59; refine cm.mono ?_; rintro e w3 ⟨rfl, g3, hA3, hE3, hP3, hO3⟩; clear cm)
      go_roundw
      case rel =>
        refine ⟨s + 1, 2 * H, g3, hlt2, ?_, by omega, h2H, by go_num, ?_⟩
        · show 2 ^ (s + 1) = 2 * H
          rw [Nat.pow_succ, HH.out]; omega
        · obtain ⟨hA, hE, hSt, hO⟩ := HR.out
          refine ⟨hA3, hE3, hSt.next hlt2 (by have := HI.out.2.2.1; omega) (merged_of hlt2 (by have := HI.out.2.2.1; omega) ?_), hO.trans hO3⟩
          rw [HC.out, HH.out]
          exact hP3
      case measure => simp [intOf]; omega
    · have hsK' : s = K := by omega
      have hHn' : H = n := by rw [← HH.out, hsK', HN.out]
      subst hsK' hHn'
      have HK : Hid (k ≤ 1000000) := HI.out.2.2.2
      obtain ⟨hsb, hmb⟩ := hlt
      cases inv with
      | false =>
        have hS := (HB.out.2.1.only HR.out.2.2.2 (by omega) (by omega))
        go_wp2
        refine leaves_cons (f := 57) (args := #[.pointer (some ⟨sb, 0, none⟩), .slice (some ⟨w.heap.size, 0, none⟩) H H]) (by simp) (by simp [go_sem]) ?_
        refine (giveBack_any sb mb k w.heap.size H D .returning wr (by omega) HK.out hS).mono ?_
        rintro e u' w'' ⟨rfl, rfl, hS4, hO4⟩
        refine ⟨_, results_tmp rfl _ _ _, rfl, ?_⟩
        obtain ⟨hA, hE, hSt, hO⟩ := HR.out
        obtain ⟨hT, _, hG, hZ⟩ := HB.out
        have hA' := hA.only hO4 (by omega)
        have hT' := (hT.only hO (by omega)).only hO4 (by omega)
        refine ⟨?_, by rw [HN.out]; exact hT', by rw [HN.out]; exact hS4, ((But.of_gw mb hG).of_new hO (by omega)).trans (But.of_only hO4), by rw [hO4.size, hO.size, hZ]⟩
        rw [HN.out]
        exact hA'.congr fun i hi => hSt.done i (by rw [HN.out]; exact hi)
      | true =>
        obtain ⟨hA, hE, hSt, hO⟩ := HR.out
        have ct := turnBack_any (w.heap.size + 1) H g wr hH1 (by omega) hE hA
        clear hA hE hSt hO
        go_wp2_with (go_at_call 60; refine ct.mono ?_; rintro e w3 ⟨rfl, g3, hA3, hE3, hP3, hO3⟩; clear ct)
        have hS := (HB.out.2.1.only HR.out.2.2.2 (by omega) (by omega)).only hO3 (by omega) (by omega)
        refine leaves_cons (f := 57) (args := #[.pointer (some ⟨sb, 0, none⟩), .slice (some ⟨w.heap.size, 0, none⟩) H H]) (by simp) (by simp [go_sem]) ?_
        refine (giveBack_any sb mb k w.heap.size H D .returning w3 (by omega) HK.out hS).mono ?_
        rintro e u' w'' ⟨rfl, rfl, hS4, hO4⟩
        refine ⟨_, results_tmp rfl _ _ _, rfl, ?_⟩
        obtain ⟨hA, hE, hSt, hO⟩ := HR.out
        obtain ⟨hT, _, hG, hZ⟩ := HB.out
        have hA' := hA3.only hO4 (by omega)
        have hT' := ((hT.only hO (by omega)).only hO3 (by omega)).only hO4 (by omega)
        refine ⟨?_, by rw [HN.out]; exact hT', by rw [HN.out]; exact hS4, (((But.of_gw mb hG).of_new hO (by omega)).of_new hO3 (by omega)).trans (But.of_only hO4), by rw [hO4.size, hO3.size, hO.size, hZ]⟩
        rw [HN.out]
        refine hA'.congr fun i hi => ?_
        have hi' : i < 2 ^ s := by rw [HN.out]; exact hi
        rw [hP3 i hi, hSt.done _ (by rw [HN.out]; exact Nat.mod_lt _ (by omega))]
        show _ = (idft s x i * pw ((2 ^ s : Nat) : Int) invE) % PP
        rw [← idft_eq (by have := HI.out.2.2.1; omega) x i hi', HN.out]

end Go.Proofs.YtddpcjgekfmhkaaDoor
