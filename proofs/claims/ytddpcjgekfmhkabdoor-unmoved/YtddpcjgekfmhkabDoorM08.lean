/- Texts joined: Th Ia Cv Bm Co. -/
import Derived.Test.YtddpcjgekfmhkabDoorM07
import Derived.Test.YtddpcjgekfmhkabDoorM03
import Derived.RegionTactic
import Derived.BigRegion
import Derived.Deep.RegionHeld3

/- transform, walked where its table lies on the shelf. -/
namespace Go.Proofs.YtddpcjgekfmhkabDoor
open Go.RowKit Go.Maps
set_option linter.unusedSimpArgs false
set_option linter.unusedVariables false

/-- The shelf holds a table. -/
structure Holds (D : DataW Unit) (n tb : Nat) : Prop where
  map : IsMap D
  has : Maps.has D (key n) = true
  at_ : ∀ z, D.atKey (key n) z = tabD tb n
theorem key_lit (n : Nat) : WideAt.IsKeyLit (key n) := trivial
theorem Holds.put {D : DataW Unit} (h : IsMap D) (n tb : Nat) : Holds (D.put (key n) (tabD tb n)) n tb :=
  ⟨h.put _ _, has_put_same h (key_lit n) _, fun z => atKey_put_same h (key_lit n) _ z⟩

set_option maxHeartbeats 400000 in
theorem borrow_some (sb mb k n tb : Nat) (D : DataW Unit) (w : World) (hn : n ≤ 1024) (hs : Shelf w sb mb k D) (hD : Holds D n tb) :
    Calls Tryd.prog 67 #[.pointer (some ⟨sb, 0, none⟩), .int .i64 (n : Int)] w
      fun e w' => e = .returned (.slice (some ⟨tb, 0, none⟩) n n) ∧ Shelf w' sb mb k (D.del (key n)) ∧ Only mb w w' := by
  have hk := key_of (n := n) (by omega)
  obtain ⟨hc, hown⟩ := hs
  have hsm : sb ≠ mb := by
    intro e; subst e
    obtain ⟨es, clock, hb, _⟩ := hown
    simp [World.cell?, hb] at hc
  obtain ⟨v, ps, hrun, hv⟩ := hown.look_ok law Tryd.underlying78 (zeroS w) (zd := .nil) (zp := []) rfl hk
  rw [hD.has] at hrun
  rw [hD.at_] at hv
  have hv' := slR_tab hv
  subst hv'
  clear hv
  go_enter Tryd.func67, Tryd.ntmps67
  go_wp2_with (at_delete; refine wpList_delete_own _ rfl _ _ _ _ rfl _ law Tryd.underlying78 slR mb k D rfl hown _ _ rfl hk ?_; intro w1 hown1 hturn1)
  go_ret
  exact ⟨rfl, ⟨((Only.of_turned hturn1).cell hsm).trans hc, hown1⟩, Only.of_turned hturn1⟩

/-- What has become of the world behind a transform whose table was there. -/
structure Hit (K sb mb k tb : Nat) (inv : Bool) (x : Nat → Int) (D : DataW Unit) (w w' : World) : Prop where
  out : Arr w' w.heap.size (2 ^ K) (trans K inv x)
  tab : Arr w' tb (2 ^ K) (fun i => pw (rootk K) i)
  shelf : Shelf w' sb mb (k + 1) ((D.del (key (2 ^ K))).put (key (2 ^ K)) (tabD tb (2 ^ K)))
  but : But mb w w'
  size : w'.heap.size = w.heap.size + 1

set_option maxHeartbeats 2000000 in
theorem transform_hit (K sb mb k lb cap tb : Nat) (x : Nat → Int) (D : DataW Unit) (inv : Bool) (w : World) (hK : K ≤ 10) (hk : k ≤ 1000000) (ht : Tab w) (ha : Arr w lb (2 ^ K) x) (hx : Elems (2 ^ K) x)
    (hs : Shelf w sb mb k D) (hD : Holds D (2 ^ K) tb) (htb : Arr w tb (2 ^ K) (fun i => pw (rootk K) i)) (hlm : lb ≠ mb) (h1m : 1 ≠ mb) (htm : tb ≠ mb) :
    Calls Tryd.prog 41 #[.pointer (some ⟨sb, 0, none⟩), .slice (some ⟨lb, 0, none⟩) (2 ^ K) cap, .bool inv] w
      fun e w' => e = .returned (.slice (some ⟨w.heap.size, 0, none⟩) (2 ^ K) (2 ^ K)) ∧ Hit K sb mb k tb inv x D w w' := by
  have hn : 2 ^ K ≤ 1024 := Nat.pow_le_pow_right (n := 2) (by decide) hK
  have cb := borrow_some sb mb k (2 ^ K) tb D w hn hs hD
  have hn1 : 1 ≤ 2 ^ K := Nat.one_le_two_pow
  have hlt := hs.lt
  have hlb := ha.lt (by omega)
  have htl := htb.lt (by omega)
  have csc := fun w1 (g : Only mb w w1) => scatter_any K lb cap x w1 hK (fun i hi => (g.cell h1m).trans (ht i hi)) (ha.only g hlm)
  have HTB : Hid (Arr w tb (2 ^ K) (fun i => pw (rootk K) i)) := htb
  have HI : Hid (Shelf w sb mb k D ∧ Elems (2 ^ K) x ∧ K ≤ 10 ∧ k ≤ 1000000) := ⟨hs, hx, hK, hk⟩
  clear hs hD ht ha hx hK hk htb
  obtain ⟨n, hnn⟩ : ∃ n, 2 ^ K = n := ⟨_, rfl⟩
  have HN : Hid (2 ^ K = n) := hnn
  rw [hnn] at cb csc hn hn1 HTB ⊢
  clear hnn
  go_enter_defers Tryd.func41, Tryd.ntmps41
  go_wp2_with (first
    | (go_at_call 67; refine cb.mono ?_; rintro e w1 ⟨rfl, hS1, hO1⟩; clear cb; have hz1 := hO1.size)
    | (go_at_call 69; refine (csc _ hO1).mono ?_; rintro e w2 ⟨rfl, ⟨g0, hA2, hg0⟩, hG2, hZ2⟩; clear csc))
  have HB : Hid (Arr w2 tb n (fun i => pw (rootk K) i) ∧ Shelf w2 sb mb k (D.del (key n)) ∧ But mb w w2 ∧ w2.heap.size = w.heap.size + 1) := by
    refine ⟨(HTB.out.only hO1 htm).gw hG2, hS1.gw hG2, (But.of_only hO1).trans (But.of_gw mb hG2), ?_⟩
    rw [hZ2, hz1]
  rw [hz1] at hA2
  have HS : Hid (Arr w2 (w.heap.size) n g0 ∧ Elems n g0 ∧ Stage K 0 x g0) := by
    refine ⟨hA2, ?_, Stage.start (fun i hi => HI.out.2.1.md i hi) (fun i hi => hg0 i (by rw [← HN.out]; exact hi))⟩
    intro i hi
    rw [hg0 i hi]
    have := rev_lt K i
    exact HI.out.2.1 _ this
  clear hS1 hO1 hA2 hg0 hG2 hZ2 hz1
  go_loopw [9] (fun ts wr => ∃ (s H : Nat) (g : Nat → Int), s ≤ K ∧ Hid (2 ^ s = H) ∧ 1 ≤ H ∧ H ≤ n ∧ ts = .int .i64 ((2 * H : Nat) : Int) ∧ Hid (Arr wr (w.heap.size) n g ∧ Elems n g ∧ Stage K s x g ∧ Only w.heap.size w2 wr)) (fun ts _ => 2 * n + 1 - (intOf ts).toNat)
  case atStart => exact ⟨0, 1, g0, Nat.zero_le _, rfl, Nat.le_refl _, hn1, rfl, HS.out.1, HS.out.2.1, HS.out.2.2, Only.refl _ _⟩
  case round =>
    obtain ⟨s, H, g, hsK, HH, hH1, hHn, rfl, HR⟩ := hrel
    by_cases hlt2 : s < K
    · have hsp := split_pow (K := K) (s := s) hlt2
      rw [HH.out, HN.out] at hsp
      obtain ⟨C, hC⟩ : ∃ C, 2 ^ (K - (s + 1)) = C := ⟨_, rfl⟩
      rw [hC] at hsp
      have hC1 : 1 ≤ C := by rw [← hC]; exact Nat.one_le_two_pow
      have h2H : 2 * H ≤ n := by rw [hsp]; exact Nat.le_mul_of_pos_left _ hC1
      obtain ⟨hA, hE, hSt, hO⟩ := HR.out
      have cm := merge_any w.heap.size tb n n n H C g (fun i => pw (rootk K) i) wr hsp hH1 (by omega) (by omega) (by omega) hE (fun _ _ => pw_bd _ _) hA (HB.out.1.only hO (by omega))
      have HC : Hid (2 ^ (K - (s + 1)) = C) := hC
      clear hsp hC hC1 hA hE hSt hO
      go_wp2_with (go_at_call 70; refine cm.mono ?_; rintro e w3 ⟨rfl, g3, hA3, hE3, hP3, hO3⟩; clear cm)
      go_roundw
      case rel =>
        refine ⟨s + 1, 2 * H, g3, hlt2, ?_, by omega, h2H, by go_num, ?_⟩
        · show 2 ^ (s + 1) = 2 * H
          rw [Nat.pow_succ, HH.out]; omega
        · obtain ⟨hA, hE, hSt, hO⟩ := HR.out
          refine ⟨hA3, hE3, hSt.next hlt2 (by have := HI.out.2.2.1; omega) (merged_of hlt2 (by have := HI.out.2.2.1; omega) ?_), hO.trans hO3⟩
          rw [HC.out, HH.out]
          exact hP3
      case measure => simp [intOf]; omega
    · have hsK' : s = K := by omega
      have hHn' : H = n := by rw [← HH.out, hsK', HN.out]
      subst hsK' hHn'
      have HK : Hid (k ≤ 1000000) := HI.out.2.2.2
      obtain ⟨hsb, hmb⟩ := hlt
      cases inv with
      | false =>
        have hS := (HB.out.2.1.only HR.out.2.2.2 (by omega) (by omega))
        go_wp2
        refine leaves_cons (f := 68) (args := #[.pointer (some ⟨sb, 0, none⟩), .slice (some ⟨tb, 0, none⟩) H H]) (by simp) (by simp [go_sem]) ?_
        refine (giveBack_any sb mb k tb H (D.del (key H)) .returning wr (by omega) HK.out hS).mono ?_
        rintro e u' w'' ⟨rfl, rfl, hS4, hO4⟩
        refine ⟨_, results_tmp rfl _ _ _, rfl, ?_⟩
        obtain ⟨hA, hE, hSt, hO⟩ := HR.out
        obtain ⟨hT, _, hG, hZ⟩ := HB.out
        have hA' := hA.only hO4 (by omega)
        have hT' := (hT.only hO (by omega)).only hO4 (by omega)
        refine ⟨?_, by rw [HN.out]; exact hT', by rw [HN.out]; exact hS4, (hG.of_new hO (by omega)).trans (But.of_only hO4), by rw [hO4.size, hO.size, hZ]⟩
        rw [HN.out]
        exact hA'.congr fun i hi => hSt.done i (by rw [HN.out]; exact hi)
      | true =>
        obtain ⟨hA, hE, hSt, hO⟩ := HR.out
        have ct := turnBack_any w.heap.size H g wr hH1 (by omega) hE hA
        clear hA hE hSt hO
        go_wp2_with (go_at_call 71; refine ct.mono ?_; rintro e w3 ⟨rfl, g3, hA3, hE3, hP3, hO3⟩; clear ct)
        have hS := (HB.out.2.1.only HR.out.2.2.2 (by omega) (by omega)).only hO3 (by omega) (by omega)
        refine leaves_cons (f := 68) (args := #[.pointer (some ⟨sb, 0, none⟩), .slice (some ⟨tb, 0, none⟩) H H]) (by simp) (by simp [go_sem]) ?_
        refine (giveBack_any sb mb k tb H (D.del (key H)) .returning w3 (by omega) HK.out hS).mono ?_
        rintro e u' w'' ⟨rfl, rfl, hS4, hO4⟩
        refine ⟨_, results_tmp rfl _ _ _, rfl, ?_⟩
        obtain ⟨hA, hE, hSt, hO⟩ := HR.out
        obtain ⟨hT, _, hG, hZ⟩ := HB.out
        have hA' := hA3.only hO4 (by omega)
        have hT' := ((hT.only hO (by omega)).only hO3 (by omega)).only hO4 (by omega)
        refine ⟨?_, by rw [HN.out]; exact hT', by rw [HN.out]; exact hS4, ((hG.of_new hO (by omega)).of_new hO3 (by omega)).trans (But.of_only hO4), by rw [hO4.size, hO3.size, hO.size, hZ]⟩
        rw [HN.out]
        refine hA'.congr fun i hi => ?_
        have hi' : i < 2 ^ s := by rw [HN.out]; exact hi
        rw [hP3 i hi, hSt.done _ (by rw [HN.out]; exact Nat.mod_lt _ (by omega))]
        show _ = (idft s x i * pw ((2 ^ s : Nat) : Int) invE) % PP
        rw [← idft_eq (by have := HI.out.2.2.1; omega) x i hi', HN.out]

end Go.Proofs.YtddpcjgekfmhkabDoor

/- Whole numbers in memory. -/
namespace Go.Proofs.YtddpcjgekfmhkabDoor
open Go.RowKit
set_option linter.unusedVariables false

/-- len whole numbers lie in block b from off on. -/
def IArr (w : World) (b off len : Nat) (z : Nat → Int) : Prop := ∀ i, i < len → w.cell? ⟨b, off + i, none⟩ = some (.int .i64 (z i)) ∧ -9223372036854775808 ≤ z i ∧ z i ≤ 9223372036854775807
theorem IArr.gw {w w' : World} {b off len : Nat} {z : Nat → Int} (h : IArr w b off len z) (g : Gw w w') : IArr w' b off len z := fun i hi => ⟨g.at (h i hi).1, (h i hi).2⟩
/-- What elements makes of them. -/
def emb (len : Nat) (z : Nat → Int) (i : Nat) : Int := if i < len then z i % PP else 0
theorem emb_elems (n len : Nat) (z : Nat → Int) : Elems n (emb len z) := by
  intro i _
  unfold emb
  by_cases h : i < len
  · rw [if_pos h]; exact md_bd _
  · rw [if_neg h]; omega

theorem IArr.lt {w : World} {b off len : Nat} {z : Nat → Int} (h : IArr w b off len z) (hl : 0 < len) : b < w.heap.size := by
  refine Nat.lt_of_not_le fun hle => ?_
  have e : w.heap[b]? = none := Array.getElem?_eq_none hle
  have := (h 0 hl).1
  simp [World.cell?, e] at this

end Go.Proofs.YtddpcjgekfmhkabDoor

/- sizeFor, allFactors, embedAll, liftAll, walked. -/
namespace Go.Proofs.YtddpcjgekfmhkabDoor
open Go.RowKit
set_option linter.unusedSimpArgs false
set_option linter.unusedVariables false

/-- n whole numbers lie in block b from its beginning on, and may be written. -/
def JArr (w : World) (b n : Nat) (f : Nat → Int) : Prop := ∀ i, i < n → w.cell? ⟨b, i, none⟩ = some (.int .i64 (f i)) ∧ w.frozen? ⟨b, i, none⟩ = false
theorem JArr.set {w : World} {b n : Nat} {f : Nat → Int} (h : JArr w b n f) {k : Nat} (hk : k < n) (v : Int) : JArr (w.setCell ⟨b, k, none⟩ (.int .i64 v)) b n (upd f k v) := by
  intro i hi
  obtain ⟨h1, h2⟩ := h i hi
  refine ⟨?_, (World.frozen?_setCell _ _ _ _).trans h2⟩
  by_cases e : i = k
  · subst e; rw [upd_same]; exact World.cell?_setCell_same _ _ _ h1
  · rw [upd_other e, World.cell?_setCell_other _ _ _ _ (by intro he; exact e (by injection he with _ e2 _; exact e2.symm)), h1]
theorem JArr.gw {w w' : World} {b n : Nat} {f : Nat → Int} (h : JArr w b n f) (g : Gw w w') : JArr w' b n f := fun i hi => ⟨g.at (h i hi).1, (g.2 _).trans (h i hi).2⟩
theorem JArr.congr {w : World} {b n : Nat} {f g : Nat → Int} (h : JArr w b n f) (e : ∀ i, i < n → f i = g i) : JArr w b n g := fun i hi => ⟨e i hi ▸ (h i hi).1, (h i hi).2⟩
def zerosI (n : Nat) : Array Value := madeCells (Value.int .i64 0).cells n
theorem madeI_arr (w : World) (n : Nat) (e : TypeId) : JArr (w.alloc (.cells (zerosI n) e)) w.heap.size n (fun _ => 0) := by
  intro i hi
  have hz : (zerosI n)[i]? = some (.int .i64 0) := by
    unfold zerosI madeCells
    have hc : (Value.int .i64 0).cells = #[Value.int .i64 0] := rfl
    rw [hc]
    simp [hi, Nat.mod_one]
  refine ⟨by rw [World.cell?_alloc_at _ _ _ _ rfl, hz], ?_⟩
  rw [frozen?_alloc_cells]
  simp [World.frozen?]
theorem wpList_make_i64 {P : Program} (w : World) {ops : Array Oper} {rest : List Oper} {o : Oper} {a : Act} {Q : Exit → Act → World → Prop}
    (hg : o.guard = none) (l c : Operand) (t e : TypeId) (hop : o.op = Op.makeSlice t l c)
    (h1 : P.underlying t = some (.slice e)) (hinfo : (P.info? e).map (fun i => (i.zero, i.size, i.bytes)) = some (some (.int .i64 0), 1, 8))
    (n : Nat) (L : Int) (hl : a.eval l = .int .i64 L) (hc : a.eval c = .int .i64 L) (hL : L = n) (hn : n ≤ 35184372088832)
    (hK : ∀ w1, JArr w1 w.heap.size n (fun _ => 0) → Gw w w1 → w1.heap.size = w.heap.size + 1 → wpList P ops Q rest (a.put o.dst (.slice (some ⟨w.heap.size, 0, none⟩) n n)) w1) :
    wpList P ops Q (o :: rest) a w := by
  obtain ⟨i, hi, hz0, hz1, hz2⟩ := info_parts hinfo
  have hr := run_make (P := P) w t e i (.int .i64 0) h1 hi hz0 .i64 .i64 n n (by omega) (by omega) (by rw [hz2]; omega) (by omega)
  simp only [Int.toNat_natCast, hz1] at hr
  subst hL
  refine wpList_plain hg fun K hK' => ?_
  unfold Oper.wp
  simp [execOp, hop, hl, hc, hr, Result.andThen]
  exact hK' _ _ (hK _ (madeI_arr w n e) ((Gw.refl w).alloc _ _) (by simp))
theorem info_int : (Tryd.prog.info? 3).map (fun i => (i.zero, i.size, i.bytes)) = some (some (.int .i64 0), 1, 8) := by kernel_rfl

/-- The least power of two with room. -/
def Least (c n : Nat) : Prop := ∃ K, K ≤ 10 ∧ 2 ^ K = n ∧ c ≤ n
set_option maxRecDepth 20000 in
theorem sizeFor_any (c : Nat) (hc : c ≤ 1024) (w : World) :
    Calls Tryd.prog 40 #[.int .i64 c] w fun e w' => (∃ n : Nat, e = .returned (.int .i64 n) ∧ Least c n) ∧ w' = w := by
  go_enter Tryd.func40, Tryd.ntmps40
  go_wp2
  go_loop [3] (fun ts => ∃ j s : Nat, j ≤ 10 ∧ Hid (2 ^ j = s) ∧ 1 ≤ s ∧ s ≤ 1024 ∧ ts = .int .i64 s) (fun ts => c - (intOf ts).toNat)
  case atStart => exact ⟨0, 1, by omega, rfl, by omega, by omega, rfl⟩
  case round =>
    obtain ⟨j, s, hj, HJ, hs1, hs2, rfl⟩ := hrel
    by_cases e : s < c
    · have hj10 : j < 10 := by
        refine Nat.lt_of_not_le fun h => ?_
        have : 2 ^ 10 ≤ 2 ^ j := Nat.pow_le_pow_right (by decide) h
        rw [HJ.out] at this; omega
      have h512 : s ≤ 512 := by
        have : 2 ^ j ≤ 2 ^ 9 := Nat.pow_le_pow_right (by decide) (by omega)
        rw [HJ.out] at this; omega
      have HJ2 : Hid (2 ^ (j + 1) = 2 * s) := by show 2 ^ (j + 1) = 2 * s; rw [Nat.pow_succ, HJ.out]; omega
      go_wp2
      go_round
      case rel => exact ⟨j + 1, 2 * s, by omega, HJ2, by omega, by omega, by go_num⟩
      case measure => simp [intOf]; omega
    · go_wp2
      go_ret
      exact ⟨⟨s, rfl, j, hj, HJ.out, by omega⟩, rfl⟩

set_option maxHeartbeats 1000000 in
theorem allFactors_any (a : Option Addr) (b off len cap : Nat) (z : Nat → Int) (w : World) (hmax : len ≤ 1048576) (hadr : 0 < len → a = some ⟨b, off, none⟩) (ha : IArr w b off len z) :
    Calls Tryd.prog 19 #[.slice a len cap] w fun e w' => e = .returned (.bool (decide (∀ i, i < len → -32768 ≤ z i ∧ z i ≤ 32767))) ∧ w' = w := by
  have HA : Hid (IArr w b off len z) := ha
  have HADR : Hid (0 < len → a = some ⟨b, off, none⟩) := hadr
  clear ha hadr
  go_enter Tryd.func19, Tryd.ntmps19
  go_wp2
  go_loop [7] (fun ti => ∃ k : Nat, k ≤ len ∧ ti = .int .i64 k ∧ Hid (∀ i, i < k → -32768 ≤ z i ∧ z i ≤ 32767)) (fun ti => len - (intOf ti).toNat)
  case atStart => exact ⟨0, Nat.zero_le _, rfl, fun i hi => by omega⟩
  case round =>
    obtain ⟨k, hk, rfl, HK⟩ := hrel
    by_cases hlt : k < len
    · obtain rfl : a = some ⟨b, off, none⟩ := HADR.out (by omega)
      have hc := (HA.out k hlt).1
      obtain ⟨v, hv⟩ : ∃ v, z k = v := ⟨_, rfl⟩
      rw [hv] at hc
      have HV : Hid (z k = v) := hv
      clear hv HADR
      by_cases he1 : v < -32768
      · go_wp2
        go_ret
        exact ⟨by rw [decide_eq_false (fun h => by have := h k hlt; rw [HV.out] at this; omega)]; rfl, rfl⟩
      · by_cases he2 : 32767 < v
        · go_wp2
          go_ret
          exact ⟨by rw [decide_eq_false (fun h => by have := h k hlt; rw [HV.out] at this; omega)]; rfl, rfl⟩
        · go_wp2
          go_round
          case rel =>
            refine ⟨k + 1, by omega, by go_num, fun i hi => ?_⟩
            by_cases e : i = k
            · subst e; rw [HV.out]; omega
            · exact HK.out i (by omega)
          case measure => simp [intOf]; omega
    · obtain rfl : k = len := by omega
      go_wp2
      go_ret
      exact ⟨by rw [decide_eq_true HK.out]; rfl, rfl⟩

set_option maxHeartbeats 1000000 in
theorem embedAll_any (b off len cap n : Nat) (z : Nat → Int) (w : World) (hlen : 1 ≤ len) (hn : len ≤ n) (hmax : n ≤ 1024) (ha : IArr w b off len z) :
    Calls Tryd.prog 42 #[.slice (some ⟨b, off, none⟩) len cap, .int .i64 n] w
      fun e w' => e = .returned (.slice (some ⟨w.heap.size, 0, none⟩) n n) ∧ Arr w' w.heap.size n (emb len z) ∧ Gw w w' ∧ w'.heap.size = w.heap.size + 1 := by
  have HA : Hid (IArr w b off len z) := ha
  clear ha
  go_enter Tryd.func42, Tryd.ntmps42
  go_wp2_with (at_make; refine wpList_make_u64 _ rfl _ _ 59 84 rfl Tryd.underlying59 info_u64 n _ rfl rfl rfl (by omega) ?_; intro w1 hA hG hZ)
  have HR0 : Hid (Arr w1 w.heap.size n (fun _ => 0) ∧ (∀ i, i < 0 → (0 : Int) = z i % PP) ∧ (∀ i, 0 ≤ i → i < n → (0 : Int) = 0) ∧ Gw w w1 ∧ w1.heap.size = w.heap.size + 1) := ⟨hA, fun i hi => by omega, fun _ _ _ => rfl, hG, hZ⟩
  clear hA hG hZ
  go_loopw [12] (fun ti wr => ∃ (k : Nat) (g : Nat → Int), k ≤ len ∧ ti = .int .i64 k ∧ Hid (Arr wr w.heap.size n g ∧ (∀ i, i < k → g i = z i % PP) ∧ (∀ i, k ≤ i → i < n → g i = 0) ∧ Gw w wr ∧ wr.heap.size = w.heap.size + 1)) (fun ti _ => len - (intOf ti).toNat)
  case atStart => exact ⟨0, fun _ => 0, Nat.zero_le _, rfl, HR0⟩
  case round =>
    obtain ⟨k, g, hk, rfl, HR⟩ := hrel
    by_cases hlt : k < len
    · obtain ⟨hA, hU, hV, hG, hZ⟩ := HR.out
      have hkn : k < n := by omega
      have hi := (HA.out.gw hG) k hlt
      have c1 := hi.1
      have ce := embed_any (z k) hi.2.1 hi.2.2
      have c2 := (hA k hkn).1
      have f2 := (hA k hkn).2
      obtain ⟨v, hv⟩ : ∃ v, z k = v := ⟨_, rfl⟩
      obtain ⟨u, hu⟩ : ∃ u, v % PP = u := ⟨_, rfl⟩
      rw [hv, hu] at ce
      rw [hv] at c1
      have HU : Hid (z k % PP = u) := by rw [hv, hu]; rfl
      clear hi hA hU hV hG hZ hv hu
      go_wp2_with (go_at_call 72; refine (ce _).mono ?_; rintro e w' ⟨rfl, hw⟩; subst w')
      go_roundw
      case rel =>
        refine ⟨k + 1, upd g k u, by omega, by go_num, ?_⟩
        obtain ⟨hA, hU, hV, hG, hZ⟩ := HR.out
        refine ⟨hA.set hkn u, fun i hi => ?_, fun i h1 h2 => ?_, hG.setCell (Nat.le_refl _) _, by simpa [World.setCell] using hZ⟩
        · by_cases e : i = k
          · subst e; rw [upd_same]; exact HU.out.symm
          · rw [upd_other e]; exact hU i (by omega)
        · rw [upd_other (by omega)]; exact hV i (by omega) h2
      case measure => simp [intOf]; omega
    · obtain rfl : k = len := by omega
      go_wp2
      go_ret
      obtain ⟨hA, hU, hV, hG, hZ⟩ := HR.out
      refine ⟨rfl, hA.congr fun i hi => ?_, hG, hZ⟩
      unfold emb
      by_cases e : i < k
      · rw [if_pos e]; exact hU i e
      · rw [if_neg e]; exact hV i (by omega) hi

set_option maxHeartbeats 1000000 in
theorem liftAll_any (b c n cap : Nat) (f : Nat → Int) (w : World) (hc : c ≤ n) (hmax : n ≤ 1024) (hf : Fits n f) (ha : Arr w b n f) :
    Calls Tryd.prog 44 #[.slice (some ⟨b, 0, none⟩) c cap] w
      fun e w' => e = .returned (.slice (some ⟨w.heap.size, 0, none⟩) c c) ∧ JArr w' w.heap.size c (fun i => liftv (f i)) ∧ Gw w w' ∧ w'.heap.size = w.heap.size + 1 := by
  have HA : Hid (Arr w b n f ∧ Fits n f) := ⟨ha, hf⟩
  clear ha hf
  go_enter Tryd.func44, Tryd.ntmps44
  go_wp2_with (at_make; refine wpList_make_i64 _ rfl _ _ 24 3 rfl Tryd.underlying24 info_int c _ rfl rfl rfl (by omega) ?_; intro w1 hA hG hZ)
  have HR0 : Hid (JArr w1 w.heap.size c (fun _ => 0) ∧ (∀ i, i < 0 → (0 : Int) = liftv (f i)) ∧ Gw w w1 ∧ w1.heap.size = w.heap.size + 1) := ⟨hA, fun i hi => by omega, hG, hZ⟩
  clear hA hG hZ
  go_loopw [11] (fun ti wr => ∃ (k : Nat) (g : Nat → Int), k ≤ c ∧ ti = .int .i64 k ∧ Hid (JArr wr w.heap.size c g ∧ (∀ i, i < k → g i = liftv (f i)) ∧ Gw w wr ∧ wr.heap.size = w.heap.size + 1)) (fun ti _ => c - (intOf ti).toNat)
  case atStart => exact ⟨0, fun _ => 0, Nat.zero_le _, rfl, HR0⟩
  case round =>
    obtain ⟨k, g, hk, rfl, HR⟩ := hrel
    by_cases hlt : k < c
    · obtain ⟨hA, hU, hG, hZ⟩ := HR.out
      have hkn : k < n := by omega
      have c1 := ((HA.out.1.gw hG) k hkn).1
      have bf := HA.out.2 k hkn
      have cl := lift_any (f k) bf.1 bf.2
      have c2 := (hA k hlt).1
      have f2 := (hA k hlt).2
      obtain ⟨v, hv⟩ : ∃ v, f k = v := ⟨_, rfl⟩
      obtain ⟨u, hu⟩ : ∃ u, liftv v = u := ⟨_, rfl⟩
      rw [hv, hu] at cl
      rw [hv] at c1
      have HU : Hid (liftv (f k) = u) := by rw [hv, hu]; rfl
      clear bf hA hU hG hZ hv hu
      go_wp2_with (go_at_call 76; refine (cl _).mono ?_; rintro e w' ⟨rfl, hw⟩; subst w')
      go_roundw
      case rel =>
        refine ⟨k + 1, upd g k u, by omega, by go_num, ?_⟩
        obtain ⟨hA, hU, hG, hZ⟩ := HR.out
        refine ⟨hA.set hlt u, fun i hi => ?_, hG.setCell (Nat.le_refl _) _, by simpa [World.setCell] using hZ⟩
        by_cases e : i = k
        · subst e; rw [upd_same]; exact HU.out.symm
        · rw [upd_other e]; exact hU i (by omega)
      case measure => simp [intOf]; omega
    · obtain rfl : k = c := by omega
      go_wp2
      go_ret
      obtain ⟨hA, hU, hG, hZ⟩ := HR.out
      exact ⟨rfl, hA.congr hU, hG, hZ⟩

end Go.Proofs.YtddpcjgekfmhkabDoor

/- The inverse of a transform, sums, turning round. Plain mathematics. -/
namespace Go.Proofs.YtddpcjgekfmhkabDoor

theorem sm_add (f g : Nat → Int) : ∀ n, sm (fun i => f i + g i) n = sm f n + sm g n
  | 0 => rfl
  | n + 1 => by unfold sm; rw [sm_add f g n]; omega
theorem sm_swap (f : Nat → Nat → Int) (m : Nat) : ∀ n, sm (fun i => sm (fun l => f i l) m) n = sm (fun l => sm (fun i => f i l) n) m
  | 0 => by
    show (0 : Int) = _
    have : ∀ m, sm (fun _ => (0 : Int)) m = 0 := by
      intro m; induction m with
      | zero => rfl
      | succ m ih => unfold sm; rw [ih]; rfl
    exact (this m).symm
  | n + 1 => by
    show sm (fun i => sm (fun l => f i l) m) n + sm (fun l => f n l) m = _
    rw [sm_swap f m n, ← sm_add]; rfl
theorem sm_zero {f : Nat → Int} {n : Nat} (h : ∀ i, i < n → f i % PP = 0) : sm f n % PP = 0 := by
  rw [sm_md n (g := fun _ => 0) (fun i hi => by rw [h i hi]; rfl)]
  induction n with
  | zero => rfl
  | succ n ih => unfold sm; rw [Int.add_zero]; exact ih (fun i hi => h i (by omega))
theorem sm_one (j : Nat) (f : Nat → Int) : ∀ n, j < n → (∀ i, i < n → i ≠ j → f i % PP = 0) → sm f n % PP = f j % PP
  | n + 1, hj, h => by
    unfold sm
    by_cases e : j = n
    · subst e
      rw [← md_add_l, sm_zero (fun i hi => h i (by omega) (by omega)), Int.zero_add]
    · rw [← md_add_r, h n (by omega) (by omega), Int.add_zero]
      exact sm_one j f n (by omega) (fun i hi => h i (by omega))
theorem sm_const (c : Int) : ∀ n : Nat, sm (fun _ => c) n = n * c
  | 0 => by simp [sm]
  | n + 1 => by unfold sm; rw [sm_const c n, Int.natCast_succ, Int.add_mul, Int.one_mul]

/-- A sum of powers. -/
theorem geo (r : Int) : ∀ n, ((r - 1) * sm (fun i => pw r i) n) % PP = (pw r n - 1) % PP
  | 0 => by rw [pw_zero]; show ((r - 1) * 0) % PP = (1 - 1) % PP; rw [Int.mul_zero]; rfl
  | n + 1 => by
    show ((r - 1) * (sm (fun i => pw r i) n + pw r n)) % PP = _
    rw [Int.mul_add, ← md_add_l, geo r n, md_add_l, pw_succ, md_sub_l]
    congr 1; grind
theorem cancel {a b : Int} (ha : a % PP ≠ 0) (h : (a * b) % PP = 0) : b % PP = 0 := by
  have e := inv_mul ha
  have e2 : (pw a invE * (a * b)) % PP = 0 := by rw [← md_mul_r, h, Int.mul_zero]; rfl
  rw [← Int.mul_assoc, ← md_mul_l, e, Int.one_mul] at e2
  exact e2
theorem root_inj {K l j : Nat} (hK : K ≤ 32) (hl : l < 2 ^ K) (hj : j < 2 ^ K) (h : pw (rootk K) l = pw (rootk K) j) : l = j := by
  unfold rootk at h
  rw [← pw_mul, ← pw_mul] at h
  have hm := rootE_mul hK
  have h0 : 0 < rootE K := by
    refine Nat.pos_of_ne_zero fun e => ?_
    rw [e, Nat.zero_mul] at hm
    exact absurd hm (by decide)
  have lt : ∀ i, i < 2 ^ K → rootE K * i < ordE := fun i hi => by rw [← hm]; exact Nat.mul_lt_mul_of_pos_left hi h0
  rcases Nat.lt_trichotomy l j with e | e | e
  · exact absurd h (seven_inj (lt j hj) (Nat.mul_lt_mul_of_pos_left e h0))
  · exact e
  · exact absurd h.symm (seven_inj (lt l hl) (Nat.mul_lt_mul_of_pos_left e h0))

theorem winv_mul {K : Nat} (hK : K ≤ 32) (j : Nat) : (pw (pw (rootk K) invE) j * pw (rootk K) j) % PP = 1 := by
  rw [← pw_dist, ← pw_md, inv_mul (rootk_ne hK), pw_one_l]

theorem kernel {K l j : Nat} (hK : K ≤ 32) (hl : l < 2 ^ K) (hj : j < 2 ^ K) :
    sm (fun i => pw (rootk K) (l * i) * pw (pw (rootk K) invE) (i * j)) (2 ^ K) % PP = if l = j then ((2 ^ K : Nat) : Int) % PP else 0 := by
  have term : ∀ i, (pw (rootk K) (l * i) * pw (pw (rootk K) invE) (i * j)) % PP = pw (pw (rootk K) l * pw (pw (rootk K) invE) j) i % PP := by
    intro i
    rw [pw_dist, md_md, pw_mul (rootk K) l i, Nat.mul_comm i j, pw_mul (pw (rootk K) invE) j i]
  rw [sm_md _ (fun i _ => term i)]
  by_cases e : l = j
  · subst e
    rw [if_pos rfl]
    have one : ∀ i, pw (pw (rootk K) l * pw (pw (rootk K) invE) l) i % PP = 1 % PP := by
      intro i
      rw [← pw_md, Int.mul_comm, winv_mul hK, pw_one_l]
    rw [sm_md _ (g := fun _ => 1) (fun i _ => one i), sm_const, Int.mul_one]
  · rw [if_neg e]
    refine cancel (a := pw (rootk K) l * pw (pw (rootk K) invE) j - 1) ?_ ?_
    · intro h
      have h1 : (pw (rootk K) l * pw (pw (rootk K) invE) j) % PP = 1 := by
        have := md_add_l (pw (rootk K) l * pw (pw (rootk K) invE) j - 1) 1
        rw [h] at this
        rw [show pw (rootk K) l * pw (pw (rootk K) invE) j - 1 + 1 = pw (rootk K) l * pw (pw (rootk K) invE) j by omega] at this
        rw [← this]; decide
      have h2 := inv_unique (a := pw (rootk K) l) (b := pw (rootk K) j) (c := pw (pw (rootk K) invE) j) h1 (by rw [Int.mul_comm]; exact winv_mul hK j)
      rw [pw_pw_md, pw_pw_md] at h2
      exact e (root_inj hK hl hj h2)
    · rw [geo, pw_dist, ← pw_mul, ← pw_mul, Nat.mul_comm l, pw_mul, rootk_pw hK, pw_one_l, Nat.mul_comm j, pw_mul, ← pw_mul (rootk K), Nat.mul_comm invE, pw_mul (rootk K) (2 ^ K), rootk_pw hK, pw_one_l, pw_one_l]
      decide

/-- The inverse of a transform is what it was made of. -/
theorem dft_back {K : Nat} (hK : K ≤ 32) (x : Nat → Int) (j : Nat) (hj : j < 2 ^ K) : (idft K (dft K x) j * pw ((2 ^ K : Nat) : Int) invE) % PP = x j % PP := by
  have e : idft K (dft K x) j = (x j * ((2 ^ K : Nat) : Int)) % PP := by
    unfold idft dft
    have s1 : ∀ i, i < 2 ^ K → ((sm (fun l => x l * pw (rootk K) (l * i)) (2 ^ K) % PP) * pw (pw (rootk K) invE) (i * j)) % PP = (sm (fun l => x l * (pw (rootk K) (l * i) * pw (pw (rootk K) invE) (i * j))) (2 ^ K)) % PP := by
      intro i _
      rw [md_mul_l, Int.mul_comm, sm_mul]
      refine sm_md _ fun l _ => ?_
      congr 1; grind
    rw [sm_md _ s1, sm_swap]
    have s2 : ∀ l, sm (fun i => x l * (pw (rootk K) (l * i) * pw (pw (rootk K) invE) (i * j))) (2 ^ K) = x l * sm (fun i => pw (rootk K) (l * i) * pw (pw (rootk K) invE) (i * j)) (2 ^ K) := fun l => (sm_mul _ _ _).symm
    rw [sm_congr _ (fun l _ => s2 l), sm_one j _ _ hj ?_]
    · rw [← md_mul_r, kernel hK hj hj, if_pos rfl, md_mul_r]
    · intro l hl hne
      rw [← md_mul_r, kernel hK hl hj, if_neg hne, Int.mul_zero]; rfl
  have hn : ((2 ^ K : Nat) : Int) % PP ≠ 0 := by
    have h1 : 1 ≤ 2 ^ K := Nat.one_le_two_pow
    have h2 : 2 ^ K ≤ 4294967296 := Nat.pow_le_pow_right (n := 2) (by decide) hK
    generalize 2 ^ K = n at *
    rw [md_small (by omega) (by omega)]; omega
  rw [e, md_mul_l, Int.mul_assoc, Int.mul_comm ((2 ^ K : Nat) : Int), ← md_mul_r, inv_mul hn, Int.mul_one]

theorem dft_add {K : Nat} (x y z : Nat → Int) (h : ∀ i, i < 2 ^ K → z i = (x i + y i) % PP) (j : Nat) : dft K z j = (dft K x j + dft K y j) % PP := by
  unfold dft
  rw [md_add, ← sm_add]
  refine sm_md _ fun i hi => ?_
  rw [h i hi, md_mul_l]; congr 1; grind
/-- A list turned by one place. -/
theorem dft_turn {K : Nat} (hK : K ≤ 32) (x t : Nat → Int) (h : ∀ i, i < 2 ^ K → t ((i + 1) % 2 ^ K) = x i) (j : Nat) : dft K t j = (dft K x j * pw (rootk K) j) % PP := by
  obtain ⟨m, hm⟩ : ∃ m, 2 ^ K = m + 1 := ⟨2 ^ K - 1, by have := Nat.two_pow_pos K; omega⟩
  have h0 : t 0 = x m := by
    have := h m (by omega)
    rwa [hm, Nat.mod_self] at this
  have hs : ∀ i, i < m → t (i + 1) = x i := by
    intro i hi
    have := h i (by omega)
    rwa [Nat.mod_eq_of_lt (by omega)] at this
  unfold dft
  rw [md_mul_l, Int.mul_comm (sm _ _), sm_mul]
  have hw := rootk_pw hK
  rw [hm] at hw ⊢
  rw [sm_first, show sm (fun i => pw (rootk K) j * (x i * pw (rootk K) (i * j))) (m + 1) = sm (fun i => pw (rootk K) j * (x i * pw (rootk K) (i * j))) m + pw (rootk K) j * (x m * pw (rootk K) (m * j)) from rfl, Int.add_comm, ← md_add]
  conv => rhs; rw [← md_add]
  congr 1
  congr 1
  · refine sm_md _ fun i hi => ?_
    rw [hs i hi, show (i + 1) * j = i * j + j by rw [Nat.add_mul]; omega, pw_add, md_mul_r]
    congr 1; grind
  · rw [h0, Nat.zero_mul, pw_zero, Int.mul_one]
    have e : (pw (rootk K) j * pw (rootk K) (m * j)) % PP = 1 := by
      rw [← pw_add, show j + m * j = (m + 1) * j by rw [Nat.add_mul]; omega, pw_mul, hw, pw_one_l]
    rw [show pw (rootk K) j * (x m * pw (rootk K) (m * j)) = x m * (pw (rootk K) j * pw (rootk K) (m * j)) by grind, ← md_mul_r, e, Int.mul_one]

end Go.Proofs.YtddpcjgekfmhkabDoor

/- convolve and Convolve, walked. -/
namespace Go.Proofs.YtddpcjgekfmhkabDoor
open Go.RowKit Go.Maps
set_option linter.unusedSimpArgs false
set_option linter.unusedVariables false

theorem IArr.but {w w' : World} {b off len c : Nat} {z : Nat → Int} (h : IArr w b off len z) (g : But c w w') (hb : b ≠ c) : IArr w' b off len z := fun i hi => ⟨g.at hb (h i hi).1, (h i hi).2⟩
theorem Tab.but {w w' : World} {c : Nat} (h : Tab w) (g : But c w w') (hc : 1 ≠ c) : Tab w' := fun i hi => g.at hc (h i hi)
theorem Tab.only {w w' : World} {c : Nat} (h : Tab w) (g : Only c w w') (hc : 1 ≠ c) : Tab w' := fun i hi => (g.cell hc).trans (h i hi)

/-- Products, place by place. -/
def prod (K la lb : Nat) (za zb : Nat → Int) (i : Nat) : Int := (dft K (emb la za) i * dft K (emb lb zb) i) % PP

theorem trans_bd (K : Nat) (inv : Bool) (x : Nat → Int) (i : Nat) : 0 ≤ trans K inv x i ∧ trans K inv x i ≤ 18446744069414584320 := by
  unfold trans
  cases inv
  · exact md_bd _
  · exact md_bd _
/-- What comes of it. -/
def ConvPost (c la lb : Nat) (za zb : Nat → Int) (mb : Nat) (w w' : World) (e : Ending) : Prop :=
  ∃ K ob, K ≤ 10 ∧ c ≤ 2 ^ K ∧ e = .returned (.slice (some ⟨ob, 0, none⟩) c c) ∧ JArr w' ob c (fun i => liftv (trans K true (prod K la lb za zb) i)) ∧ w.heap.size ≤ ob ∧ But mb w w'

theorem conv_first (sb mb K n : Nat) (hK : K ≤ 10) (hn : 2 ^ K = n) : ∀ (wa : World) (b : Nat) (f : Nat → Int) (inv : Bool), Shelf wa sb mb 0 (.map []) → Tab wa → Arr wa b n f → Elems n f →
    Calls Tryd.prog 41 #[.pointer (some ⟨sb, 0, none⟩), .slice (some ⟨b, 0, none⟩) n n, .bool inv] wa fun e w' => e = .returned (.slice (some ⟨wa.heap.size + 1, 0, none⟩) n n) ∧ Did K sb mb 0 inv f (.map []) wa w' := by
  intro wa b f inv hs ht ha hf
  subst hn
  exact transform_any K sb mb 0 b (2 ^ K) f (.map []) inv wa hK (by omega) ht ha hf hs rfl
theorem conv_more (sb mb K n : Nat) (hK : K ≤ 10) (hn : 2 ^ K = n) : ∀ (wa : World) (b : Nat) (f : Nat → Int) (inv : Bool) (k : Nat) (D : DataW Unit) (tb : Nat), k ≤ 1000000 → Shelf wa sb mb k D → Holds D n tb → Tab wa → Arr wa b n f → Elems n f → Arr wa tb n (fun i => pw (rootk K) i) → b ≠ mb → 1 ≠ mb → tb ≠ mb →
    Calls Tryd.prog 41 #[.pointer (some ⟨sb, 0, none⟩), .slice (some ⟨b, 0, none⟩) n n, .bool inv] wa fun e w' => e = .returned (.slice (some ⟨wa.heap.size, 0, none⟩) n n) ∧ Hit K sb mb k tb inv f D wa w' := by
  intro wa b f inv k D tb hk hs hD ht ha hf htb h1 h2 h3
  subst hn
  exact transform_hit K sb mb k b (2 ^ K) tb f D inv wa hK hk ht ha hf hs hD htb h1 h2 h3

set_option maxHeartbeats 4000000 in
theorem convolve_core (sb mb la lb b0 off0 cap0 b1 off1 cap1 : Nat) (za zb : Nat → Int) (w : World) (hla : 1 ≤ la) (hlb : 1 ≤ lb) (hsum : la + lb ≤ 1025) (ht : Tab w) (hs : Shelf w sb mb 0 (.map []))
    (ha : IArr w b0 off0 la za) (hb : IArr w b1 off1 lb zb) (h0m : b0 ≠ mb) (h1m : b1 ≠ mb) (htm : 1 ≠ mb) :
    Calls Tryd.prog 21 #[.pointer (some ⟨sb, 0, none⟩), .slice (some ⟨b0, off0, none⟩) la cap0, .slice (some ⟨b1, off1, none⟩) lb cap1] w
      fun e w' => ConvPost (la + lb - 1) la lb za zb mb w w' e := by
  obtain ⟨c, hc⟩ : ∃ c, la + lb - 1 = c := ⟨_, rfl⟩
  have hci : (la : Int) + (lb : Int) - 1 = (c : Int) := by omega
  have hc1 : 1 ≤ c := by omega
  have hc2 : c ≤ 1024 := by omega
  rw [hc]
  have HC : Hid (la + lb - 1 = c) := hc
  clear hc
  have csz := sizeFor_any c hc2
  have HW : Hid (Tab w ∧ Shelf w sb mb 0 (.map []) ∧ IArr w b0 off0 la za ∧ IArr w b1 off1 lb zb ∧ b0 ≠ mb ∧ b1 ≠ mb ∧ 1 ≠ mb) := ⟨ht, hs, ha, hb, h0m, h1m, htm⟩
  have hlt := hs.lt
  clear ht hs ha hb h0m h1m htm
  have tk1 : True := trivial
  have tk2 : True := trivial
  have tk3 : True := trivial
  go_enter Tryd.func21, Tryd.ntmps21
  go_wp2_with (first
    | (go_at_call 40; refine (csz _).mono ?_; rintro e w' ⟨⟨n, rfl, K, hK, hKn, hcn⟩, hw⟩; subst w'; have HN : Hid (2 ^ K = n) := hKn; have hn2 : n ≤ 1024 := (by rw [← hKn]; exact Nat.pow_le_pow_right (n := 2) (by decide) hK); have TA := conv_first sb mb K n hK hKn; have TB := conv_more sb mb K n hK hKn; clear hKn csz)
    | (go_at_call 42; have _t := tk1; refine (embedAll_any b0 off0 la cap0 n za w hla (by omega) hn2 HW.out.2.2.1).mono ?_; rintro e w1 ⟨rfl, hA1, hG1, hZ1⟩; clear tk1; have HG1 : Hid (Gw w w1 ∧ w1.heap.size = w.heap.size + 1 ∧ Arr w1 w.heap.size n (emb la za)) := ⟨hG1, hZ1, hA1⟩; clear hZ1 hA1 hG1)
    | (go_at_call 41; have _t := tk2; refine (TA w1 w.heap.size (emb la za) false (HW.out.2.1.gw HG1.out.1) (HW.out.1.gw HG1.out.1) HG1.out.2.2 (emb_elems _ _ _)).mono ?_; rintro e w2 ⟨rfl, D1⟩; clear tk2 TA; have HD1 : Hid (But mb w w2 ∧ w2.heap.size = w.heap.size + 3) := ⟨(But.of_gw mb HG1.out.1).trans D1.but, (by rw [D1.size, HG1.out.2.1])⟩)
    | (go_at_call 42; refine (embedAll_any b1 off1 lb cap1 n zb w2 hlb (by omega) hn2 (HW.out.2.2.2.1.but HD1.out.1 HW.out.2.2.2.2.2.1)).mono ?_; rintro e w3 ⟨rfl, hA3, hG3, hZ3⟩; have HG3 : Hid (Gw w2 w3 ∧ w3.heap.size = w2.heap.size + 1 ∧ Arr w3 w2.heap.size n (emb lb zb)) := ⟨hG3, hZ3, hA3⟩; clear hZ3 hA3 hG3)
    | (go_at_call 41; have _t := tk3; refine (TB w3 w2.heap.size (emb lb zb) false 1 _ w1.heap.size (by omega) (D1.shelf.gw HG3.out.1) (by rw [HN.out]; exact Holds.put isMap_empty n w1.heap.size) ((HW.out.1.but HD1.out.1 HW.out.2.2.2.2.2.2).gw HG3.out.1) HG3.out.2.2 (emb_elems _ _ _) (by have := D1.tab; rw [HN.out] at this; exact this.gw HG3.out.1) (by have := HD1.out.2; omega) HW.out.2.2.2.2.2.2 (by have := HG1.out.2.1; omega)).mono ?_; rintro e w4 ⟨rfl, D2⟩; clear tk3))
  have H4 : Hid (Arr w4 (w1.heap.size + 1) n (dft K (emb la za)) ∧ Arr w4 w3.heap.size n (dft K (emb lb zb)) ∧ Arr w4 w1.heap.size n (fun i => pw (rootk K) i) ∧ (∃ D, Shelf w4 sb mb 2 D ∧ Holds D n w1.heap.size) ∧ But mb w w4 ∧ w.heap.size < w1.heap.size ∧ w1.heap.size + 1 < w3.heap.size ∧ w3.heap.size < w4.heap.size) := by
    obtain ⟨g1, g2, g3⟩ := HG1.out
    obtain ⟨g4, g5, g6⟩ := HG3.out
    have o1 := D1.out
    have o2 := D2.out
    have o3 := D2.tab
    have s1 := D1.size
    have s2 := D2.size
    rw [HN.out] at o1 o2 o3
    refine ⟨(o1.gw g4).but D2.but (by omega), o2, o3, ⟨_, D2.shelf, ?_⟩, (HD1.out.1.trans (But.of_gw mb g4)).trans D2.but, by omega, by omega, by omega⟩
    rw [HN.out]
    exact Holds.put ((isMap_empty.put _ _).del _) n w1.heap.size
  have HT4 : Hid (Tab w4) := HW.out.1.but H4.out.2.2.2.2.1 HW.out.2.2.2.2.2.2
  have HM : Hid (1 ≠ mb ∧ sb < w.heap.size ∧ mb < w.heap.size) := ⟨HW.out.2.2.2.2.2.2, hlt⟩
  clear D1 D2 HD1 HG1 HG3 HW hlt
  generalize w1.heap.size = tb at *
  generalize w3.heap.size = Yb at *
  clear w1 w3
  obtain ⟨X, hX⟩ : ∃ X, tb + 1 = X := ⟨_, rfl⟩
  have HX : Hid (tb + 1 = X) := hX
  rw [hX] at H4
  rw [hX]
  clear hX
  go_loopw [32] (fun ti wr => ∃ (k : Nat) (g : Nat → Int), k ≤ n ∧ ti = .int .i64 k ∧ Hid (Arr wr X n g ∧ (∀ i, i < k → g i = prod K la lb za zb i) ∧ (∀ i, k ≤ i → i < n → g i = dft K (emb la za) i) ∧ Only X w4 wr)) (fun ti _ => n - (intOf ti).toNat)
  case atStart => exact ⟨0, _, Nat.zero_le _, rfl, H4.out.1, fun i hi => by omega, fun i _ _ => rfl, Only.refl _ _⟩
  case round =>
    obtain ⟨k, g, hk, rfl, HR⟩ := hrel
    by_cases hlt : k < n
    · obtain ⟨hA, hU, hV, hO⟩ := HR.out
      have hXY : ¬ X = Yb := by have := H4.out.2.2.2.2.2.2.1; omega
      have hYX : ¬ Yb = X := by omega
      have cx := (hA k hlt).1
      have fx := (hA k hlt).2
      have cy := ((H4.out.2.1.only hO hYX) k hlt).1
      rw [hV k (Nat.le_refl _) hlt] at cx
      have b1 : 0 ≤ dft K (emb la za) k ∧ dft K (emb la za) k ≤ 18446744069414584320 := md_bd _
      have b2 : 0 ≤ dft K (emb lb zb) k ∧ dft K (emb lb zb) k ≤ 18446744069414584320 := md_bd _
      have cm := mul_any _ _ b1.1 (Int.le_trans b1.2 (by omega)) b2.1 (Int.le_trans b2.2 (by omega))
      obtain ⟨v, hv⟩ : ∃ v, (dft K (emb la za) k * dft K (emb lb zb) k) % PP = v := ⟨_, rfl⟩
      rw [hv] at cm
      have HV : Hid (prod K la lb za zb k = v) := hv
      clear hv b1 b2 hA hU hV hO
      generalize dft K (emb la za) k = va at *
      generalize dft K (emb lb zb) k = vb at *
      have i1 : (k : Int) < (n : Int) := by omega
      go_wp2
      go_region_with (first | (go_at_call 43; refine (cm _).mono ?_; rintro e w' ⟨rfl, hw⟩; subst w'))
      all_goals
        go_wp2
        go_roundw
        case rel =>
          refine ⟨k + 1, upd g k v, by omega, by go_num, ?_⟩
          obtain ⟨hA, hU, hV, hO⟩ := HR.out
          refine ⟨(hA.set hlt v).drew, fun i hi => ?_, fun i h1 h2 => ?_, (hO.setCell rfl _).drew⟩
          · by_cases e : i = k
            · subst e; rw [upd_same]; exact HV.out.symm
            · rw [upd_other e]; exact hU i (by omega)
          · rw [upd_other (by omega)]; exact hV i (by omega) h2
        case measure => simp [intOf]; omega
    · obtain rfl : k = n := by omega
      obtain ⟨D3, hS4, hH4⟩ := H4.out.2.2.2.1
      have hS5 := hS4.only HR.out.2.2.2 (by have := HM.out.2.1; have := H4.out.2.2.2.2.2.1; have := HX.out; omega) (by have := HM.out.2.2; have := H4.out.2.2.2.2.2.1; have := HX.out; omega)
      have hT5 := H4.out.2.2.1.only HR.out.2.2.2 (by have := HX.out; omega)
      have hP5 : Arr wr X k (prod K la lb za zb) := HR.out.1.congr HR.out.2.1
      have c3 := TB wr X (prod K la lb za zb) true 2 D3 tb (by omega) hS5 hH4 (HT4.out.only HR.out.2.2.2 (by have := HM.out.2.2; have := H4.out.2.2.2.2.2.1; have := HX.out; have := HM.out.1; omega)) hP5 (fun _ _ => md_bd _) hT5 (by have := HM.out.2.2; have := H4.out.2.2.2.2.2.1; have := HX.out; omega) HM.out.1 (by have := HM.out.2.2; have := H4.out.2.2.2.2.2.1; omega)
      clear hS4 hH4 hS5 hT5 hP5 TB
      go_wp2_with (first
        | (go_at_call 41; refine c3.mono ?_; rintro e w5 ⟨rfl, D5⟩; clear c3; have ho5 := D5.out; rw [HN.out] at ho5; have cl := liftAll_any wr.heap.size c k k _ w5 hcn hn2 (fun i _ => ⟨(trans_bd K true _ i).1, Int.le_trans (trans_bd K true _ i).2 (by omega)⟩) ho5; have hb5 := D5.but; clear ho5 D5)
        | (go_at_call 44; refine cl.mono ?_; rintro e w6 ⟨rfl, hA6, hG6, hZ6⟩; clear cl))
      go_ret
      refine ⟨K, w5.heap.size, hK, by rw [HN.out]; exact hcn, rfl, hA6, ?_, ?_⟩
      · have := HX.out; have := hb5.size; have := HR.out.2.2.2.size; have := H4.out.2.2.2.2.2.2.2; have := H4.out.2.2.2.2.2.1; have := H4.out.2.2.2.2.2.2.1; omega
      · exact ((H4.out.2.2.2.2.1.of_new HR.out.2.2.2 (by have := H4.out.2.2.2.2.2.1; have := HX.out; omega)).trans hb5).trans (But.of_gw mb hG6)

end Go.Proofs.YtddpcjgekfmhkabDoor
