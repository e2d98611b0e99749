/- Texts joined: Tb Sh Tr Th Ia. -/
import Derived.Test.YtddpcjgekfmhkaaDoorM06
import Derived.RegionTactic
import Derived.BigRegion
import Derived.Maps.OwnSet
import Derived.Defers

/- slices.Reverse and turnBack, walked. -/
namespace Go.Proofs.YtddpcjgekfmhkaaDoor
open Go.RowKit
set_option linter.unusedSimpArgs false

/-- The first k and the last k of m things, from place 1 on, are turned round. -/
def Turned (m k : Nat) (f g : Nat → Int) : Prop := g 0 = f 0 ∧ ∀ p, p < m → (p < k ∨ m < p + k + 1 → g (1 + p) = f (1 + (m - 1 - p))) ∧ (¬ (p < k ∨ m < p + k + 1) → g (1 + p) = f (1 + p))
theorem Turned.step {m k J : Nat} {f g : Nat → Int} (h : Turned m k f g) (hkJ : k + J + 1 = m) (hlt : k < J) :
    Turned m (k + 1) f (upd (upd g (1 + k) (g (1 + J))) (1 + J) (g (1 + k))) := by
  obtain ⟨h0, h⟩ := h
  refine ⟨by rw [upd_other (by omega), upd_other (by omega)]; exact h0, fun p hp => ?_⟩
  have ek := (h k (by omega)).2 (by omega)
  have eJ := (h J (by omega)).2 (by omega)
  by_cases e1 : p = J
  · subst e1
    refine ⟨fun _ => ?_, fun k => absurd (Or.inr (by omega)) k⟩
    rw [upd_same, ek]; congr 1; omega
  · by_cases e2 : p = k
    · subst e2
      refine ⟨fun _ => ?_, fun k => absurd (Or.inl (by omega)) k⟩
      rw [upd_other (by omega), upd_same, eJ]; congr 1; omega
    · rw [upd_other (by omega), upd_other (by omega)]
      exact ⟨fun q => (h p hp).1 (by omega), fun q => (h p hp).2 (by omega)⟩

set_option maxHeartbeats 1000000 in
theorem reverse_any (b n m cap : Nat) (f : Nat → Int) (w : World) (hn : n = m + 1) (hmax : n ≤ 1048576) (ha : Arr w b n f) :
    Calls Tryd.prog 82 #[.slice (some ⟨b, 1, none⟩) m cap] w
      fun e w' => e = .returned (.tuple #[]) ∧ ∃ g, Arr w' b n g ∧ Only b w w' ∧ g 0 = f 0 ∧ ∀ p, p < m → g (1 + p) = f (1 + (m - 1 - p)) := by
  have HA : Hid (Arr w b n f) := ha
  clear ha
  go_enter Tryd.func82, Tryd.ntmps82
  go_wp2
  go_loopw [2, 3] (fun ti tj wr => ∃ (k : Nat) (g : Nat → Int), 2 * k ≤ m ∧ ti = .int .i64 k ∧ tj = .int .i64 ((m : Int) - 1 - (k : Int)) ∧ Hid (Arr wr b n g ∧ Turned m k f g ∧ Only b w wr)) (fun ti _ _ => m - (intOf ti).toNat)
  case atStart => exact ⟨0, f, by omega, rfl, by simp, HA.out, ⟨rfl, fun p hp => ⟨fun h => by omega, fun _ => rfl⟩⟩, Only.refl _ _⟩
  case round =>
    obtain ⟨k, g, hk, rfl, rfl, HR⟩ := hrel
    by_cases hlt : 2 * k + 1 < m
    · obtain ⟨J, hJ⟩ : ∃ J, k + J + 1 = m := ⟨m - 1 - k, by omega⟩
      have hJi : (m : Int) - 1 - (k : Int) = (J : Int) := by omega
      rw [hJi]
      have hkJ : k < J := by omega
      have hJm : J < m := by omega
      have hkm : k < m := by omega
      obtain ⟨hA, hT, hO⟩ := HR.out
      have c1 := (hA (1 + k) (by omega)).1
      have f1 := (hA (1 + k) (by omega)).2
      have c2 := (hA (1 + J) (by omega)).1
      have f2 := (hA (1 + J) (by omega)).2
      have i1 : (k : Int) < (m : Int) := by omega
      have i2 : (J : Int) < (m : Int) := by omega
      have i3 : ¬ 1 + k = 1 + J := by omega
      have i4 : ¬ 1 + J = 1 + k := by omega
      have i5 : ¬ k = J := by omega
      clear hA hT hO
      go_wp2
      go_region
      go_wp2
      go_roundw
      case rel =>
        refine ⟨k + 1, upd (upd g (1 + k) (g (1 + J))) (1 + J) (g (1 + k)), by omega, by go_num, ?_, ?_⟩
        · congr 1; omega
        · obtain ⟨hA, hT, hO⟩ := HR.out
          exact ⟨(hA.drew.set (by omega) _).set (by omega) _, hT.step hJ hkJ, (hO.drew.setCell rfl _).setCell rfl _⟩
      case measure => simp [intOf]; omega
    · go_wp2
      go_end0
      obtain ⟨hA, hT, hO⟩ := HR.out
      refine ⟨rfl, g, hA, hO, hT.1, fun p hp => ?_⟩
      by_cases e : p < k ∨ m < p + k + 1
      · exact (hT.2 p hp).1 e
      · rw [(hT.2 p hp).2 e]; congr 1; omega

theorem turned_all {n : Nat} {f g : Nat → Int} (hn : 1 ≤ n) (h0 : g 0 = f 0) (h : ∀ p, p < n - 1 → g (1 + p) = f (1 + (n - 1 - 1 - p))) : ∀ i, i < n → g i = f ((n - i) % n) := by
  intro i hi
  by_cases e : i = 0
  · subst e; rw [Nat.sub_zero, Nat.mod_self]; exact h0
  · have := h (i - 1) (by omega)
    rw [show 1 + (i - 1) = i by omega] at this
    rw [this, Nat.mod_eq_of_lt (by omega)]
    congr 1; omega
theorem turned_elems {n : Nat} {f g : Nat → Int} (hf : Elems n f) (h : ∀ i, i < n → g i = f ((n - i) % n)) : Elems n g := fun i hi => by
  rw [h i hi]; exact hf _ (Nat.mod_lt _ (by omega))

/-- A list turned round behind its first, each a share of what it was. -/
def Turnt (n : Nat) (s : Int) (f g : Nat → Int) : Prop := ∀ i, i < n → g i = (f ((n - i) % n) * s) % PP

theorem reverse_none (b : Nat) (w : World) :
    Calls Tryd.prog 82 #[.slice (some ⟨b, 0, none⟩) 0 0] w fun e w' => e = .returned (.tuple #[]) ∧ w' = w := by
  go_enter Tryd.func82, Tryd.ntmps82
  go_wp2
  go_loop [2, 3] (fun ti tj => ti = .int .i64 0 ∧ tj = .int .i64 (-1)) (fun _ _ => 0)
  case atStart => exact ⟨rfl, rfl⟩
  case round =>
    obtain ⟨rfl, rfl⟩ := hrel
    go_wp2
    go_end0
    exact ⟨rfl, rfl⟩

set_option maxHeartbeats 1000000 in
theorem turnBack_any (b n : Nat) (f : Nat → Int) (w : World) (hn : 1 ≤ n) (hmax : n ≤ 1048576) (hf : Elems n f) (ha : Arr w b n f) :
    Calls Tryd.prog 60 #[.slice (some ⟨b, 0, none⟩) n n] w
      fun e w' => e = .returned (.tuple #[]) ∧ ∃ g, Arr w' b n g ∧ Elems n g ∧ Turnt n (pw n invE) f g ∧ Only b w w' := by
  have ce := embed_any (n : Int) (by omega) (by omega)
  rw [md_small (a := (n : Int)) (by omega) (by omega)] at ce
  have ci := inv_any (n : Int) (by omega) (by omega)
  obtain ⟨s, hs⟩ : ∃ s, pw n invE = s := ⟨_, rfl⟩
  rw [hs] at ci ⊢
  have bs : Hid (0 ≤ s ∧ s ≤ 18446744073709551615) := by rw [← hs]; exact ⟨(pw_bd n invE).1, Int.le_trans (pw_bd n invE).2 (by omega)⟩
  clear hs
  by_cases h1 : n = 1
  · have cr := reverse_none b w
    have HG : Hid (Arr w b n f ∧ Only b w w) := ⟨ha, Only.refl _ _⟩
    have HE : Hid (Elems n f) := hf
    have HT : Hid (∀ i, i < n → f i = f ((n - i) % n)) := fun i hi => by congr 1; subst h1; omega
    obtain ⟨g1, hg1⟩ : ∃ g1, f = g1 := ⟨_, rfl⟩
    rw [hg1] at HG HE
    have HT : Hid (∀ i, i < n → g1 i = f ((n - i) % n)) := by rw [← hg1]; exact HT
    clear hf ha hg1
    subst h1
    go_enter Tryd.func60, Tryd.ntmps60
    go_wp2_with (first | (go_at_call 82; refine cr.mono ?_; rintro e w' ⟨rfl, hw⟩; subst w') | (go_at_call 23; refine (ce _).mono ?_; rintro e w' ⟨rfl, hw⟩; subst w') | (go_at_call 83; refine (ci _).mono ?_; rintro e w' ⟨rfl, hw⟩; subst w'))
    go_loopw [14] (fun ti wr => ∃ (k : Nat) (g : Nat → Int), k ≤ 1 ∧ ti = .int .i64 k ∧ Hid (Arr wr b 1 g ∧ Only b w wr ∧ (∀ i, i < k → g i = (g1 i * s) % PP) ∧ (∀ i, k ≤ i → i < 1 → g i = g1 i))) (fun ti _ => 1 - (intOf ti).toNat)
    case atStart => exact ⟨0, g1, Nat.zero_le _, rfl, HG.out.1, HG.out.2, fun i hi => by omega, fun i _ _ => rfl⟩
    case round =>
      obtain ⟨k, g, hk, rfl, HR⟩ := hrel
      by_cases hlt : k < 1
      · obtain ⟨hA, hO, hU, hV⟩ := HR.out
        have bg := HE.out.fits k hlt
        rw [← hV k (Nat.le_refl _) hlt] at bg
        have hc := (hA k hlt).1
        have hf := (hA k hlt).2
        have cm := mul_any _ _ bg.1 bg.2 bs.out.1 bs.out.2
        obtain ⟨v, hv⟩ : ∃ v, (g k * s) % PP = v := ⟨_, rfl⟩
        rw [hv] at cm
        have HV : Hid ((g k * s) % PP = v) := hv
        clear hA hO hU hV hv bg
        go_wp2_with (go_at_call 27; refine (cm _).mono ?_; rintro e w' ⟨rfl, hw⟩; subst w')
        go_roundw
        case rel =>
          refine ⟨k + 1, upd g k v, by omega, by go_num, ?_⟩
          obtain ⟨hA, hO, hU, hV⟩ := HR.out
          refine ⟨hA.set hlt v, hO.setCell rfl _, fun i hi => ?_, fun i h1 h2 => ?_⟩
          · by_cases e : i = k
            · subst e; rw [upd_same, ← HV.out, hV i (Nat.le_refl _) hlt]
            · rw [upd_other e]; exact hU i (by omega)
          · rw [upd_other (by omega)]; exact hV i (by omega) h2
        case measure => simp [intOf]; omega
      · obtain rfl : k = 1 := by omega
        go_wp2
        go_end0
        obtain ⟨hA, hO, hU, hV⟩ := HR.out
        exact ⟨rfl, g, hA, fun i hi => by rw [hU i hi]; exact md_bd _, fun i hi => by rw [hU i hi, HT.out i hi], hO⟩
  · have cr := reverse_any b n (n - 1) (n - 1) f w (by omega) hmax ha
    have HF : Hid (Elems n f) := hf
    clear hf ha
    go_enter Tryd.func60, Tryd.ntmps60
    go_wp2_with (first | (go_at_call 82; refine cr.mono ?_; rintro e w1 ⟨rfl, g1, hA1, hO1, h01, hT1⟩; clear cr; have HG : Hid (Arr w1 b n g1 ∧ Only b w w1) := ⟨hA1, hO1⟩; have HT : Hid (∀ i, i < n → g1 i = f ((n - i) % n)) := turned_all (by omega) h01 hT1; have HE : Hid (Elems n g1) := turned_elems HF.out HT.out; clear hA1 hO1 h01 hT1) | (go_at_call 23; refine (ce _).mono ?_; rintro e w' ⟨rfl, hw⟩; subst w') | (go_at_call 83; refine (ci _).mono ?_; rintro e w' ⟨rfl, hw⟩; subst w'))
    go_loopw [14] (fun ti wr => ∃ (k : Nat) (g : Nat → Int), k ≤ n ∧ ti = .int .i64 k ∧ Hid (Arr wr b n g ∧ Only b w wr ∧ (∀ i, i < k → g i = (g1 i * s) % PP) ∧ (∀ i, k ≤ i → i < n → g i = g1 i))) (fun ti _ => n - (intOf ti).toNat)
    case atStart => exact ⟨0, g1, Nat.zero_le _, rfl, HG.out.1, HG.out.2, fun i hi => by omega, fun i _ _ => rfl⟩
    case round =>
      obtain ⟨k, g, hk, rfl, HR⟩ := hrel
      by_cases hlt : k < n
      · obtain ⟨hA, hO, hU, hV⟩ := HR.out
        have bg := HE.out.fits k hlt
        rw [← hV k (Nat.le_refl _) hlt] at bg
        have hc := (hA k hlt).1
        have hf := (hA k hlt).2
        have cm := mul_any _ _ bg.1 bg.2 bs.out.1 bs.out.2
        obtain ⟨v, hv⟩ : ∃ v, (g k * s) % PP = v := ⟨_, rfl⟩
        rw [hv] at cm
        have HV : Hid ((g k * s) % PP = v) := hv
        clear hA hO hU hV hv bg
        go_wp2_with (go_at_call 27; refine (cm _).mono ?_; rintro e w' ⟨rfl, hw⟩; subst w')
        go_roundw
        case rel =>
          refine ⟨k + 1, upd g k v, by omega, by go_num, ?_⟩
          obtain ⟨hA, hO, hU, hV⟩ := HR.out
          refine ⟨hA.set hlt v, hO.setCell rfl _, fun i hi => ?_, fun i h1 h2 => ?_⟩
          · by_cases e : i = k
            · subst e; rw [upd_same, ← HV.out, hV i (Nat.le_refl _) hlt]
            · rw [upd_other e]; exact hU i (by omega)
          · rw [upd_other (by omega)]; exact hV i (by omega) h2
        case measure => simp [intOf]; omega
      · obtain rfl : k = n := by omega
        go_wp2
        go_end0
        obtain ⟨hA, hO, hU, hV⟩ := HR.out
        exact ⟨rfl, g, hA, fun i hi => by rw [hU i hi]; exact md_bd _, fun i hi => by rw [hU i hi, HT.out i hi], hO⟩

end Go.Proofs.YtddpcjgekfmhkaaDoor

/- The shelf, walked. -/
namespace Go.Proofs.YtddpcjgekfmhkaaDoor
open Go.RowKit Go.Maps
open Go.ChangeMaps (setBlock heap_setBlock_other)
set_option linter.unusedSimpArgs false

/-- Of what was there only block b has turned. -/
structure But (b : Nat) (w w' : World) : Prop where
  os : w'.os = w.os
  tape : w'.tape = w.tape
  output : w'.output = w.output
  size : w.heap.size ≤ w'.heap.size
  block : ∀ k, k < w.heap.size → k ≠ b → w'.heap[k]? = w.heap[k]?
  frozen : ∀ a, w'.frozen? a = w.frozen? a
theorem But.of_gw {w w' : World} (b : Nat) (h : Gw w w') : But b w w' := ⟨h.1.os, h.1.tape, h.1.output, h.1.size, fun k hk _ => h.1.block k hk, h.2⟩
theorem But.of_only {b : Nat} {w w' : World} (h : Only b w w') : But b w w' := ⟨h.os, h.tape, h.output, by rw [h.size]; exact Nat.le_refl _, fun k _ hk => h.block k hk, h.frozen⟩
theorem But.trans {b : Nat} {u v w : World} (h : But b u v) (k : But b v w) : But b u w :=
  ⟨k.os.trans h.os, k.tape.trans h.tape, k.output.trans h.output, Nat.le_trans h.size k.size, fun i hi hb => (k.block i (Nat.lt_of_lt_of_le hi h.size) hb).trans (h.block i hi hb), fun a => (k.frozen a).trans (h.frozen a)⟩
/-- A block that was made behind u may turn. -/
theorem But.of_new {b c : Nat} {u v w : World} (h : But b u v) (k : Only c v w) (hc : u.heap.size ≤ c) : But b u w :=
  ⟨k.os.trans h.os, k.tape.trans h.tape, k.output.trans h.output, by rw [k.size]; exact h.size, fun i hi hb => (k.block i (by omega)).trans (h.block i hi hb), fun a => (k.frozen a).trans (h.frozen a)⟩
theorem But.gw {b : Nat} {u v w : World} (h : Gw u v) (k : But b v w) (hb : u.heap.size ≤ b) : Gw u w :=
  ⟨⟨k.os.trans h.1.os, k.tape.trans h.1.tape, k.output.trans h.1.output, Nat.le_trans h.1.size k.size, fun i hi => (k.block i (Nat.lt_of_lt_of_le hi h.1.size) (by omega)).trans (h.1.block i hi)⟩, fun a => (k.frozen a).trans (h.2 a)⟩
theorem But.at {c : Nat} {w w' : World} (h : But c w w') {b o : Nat} {v : Value} (hb : b ≠ c) (hv : w.cell? ⟨b, o, none⟩ = some v) : w'.cell? ⟨b, o, none⟩ = some v := by
  have hlt : b < w.heap.size := by
    refine Nat.lt_of_not_le fun hle => ?_
    have e : w.heap[b]? = none := Array.getElem?_eq_none hle
    simp [World.cell?, e] at hv
  exact (World.cell?_of_block (w := w) (h.block b hlt hb)).trans hv
theorem Arr.but {w w' : World} {b n c : Nat} {f : Nat → Int} (h : Arr w b n f) (k : But c w w') (hc : b ≠ c) : Arr w' b n f :=
  fun i hi => ⟨k.at hc (h i hi).1, (k.frozen _).trans (h i hi).2⟩
theorem Only.of_turned {w w' : World} {b : Nat} (h : w.mapTurned w' b) : Only b w w' := by
  have hf := h.frozen
  have hg := h.grown
  obtain ⟨es, clock, es', clock', hb, rfl⟩ := h
  exact ⟨rfl, rfl, rfl, by simp [setBlock], fun k hk => heap_setBlock_other hb _ hk, hf⟩
theorem Gw.allocMap {a w : World} (h : Gw a w) : Gw a (w.alloc (.map #[] 0)) := by
  refine ⟨h.1.alloc h.1.size _, fun x => ?_⟩
  rw [← h.2 x]
  by_cases e : x.block = w.heap.size
  · have e1 : (w.alloc (.map #[] 0)).heap[x.block]? = some (.map #[] 0) := by rw [e]; show (w.heap.push _)[w.heap.size]? = _; simp
    have e2 : w.heap[x.block]? = none := by rw [e]; exact Array.getElem?_eq_none (Nat.le_refl _)
    simp [World.frozen?, e1, e2]
  · have e1 : (w.alloc (.map #[] 0)).heap[x.block]? = w.heap[x.block]? := by show (w.heap.push _)[x.block]? = _; rw [Array.getElem?_push, if_neg e]
    exact World.frozen?_of_block e1

/-- How a table reads in the shelf. -/
def slR (v : Value) : Option (DataW Unit × List MemPlace) :=
  match v with
  | .slice none 0 0 => some (.nil, [])
  | .slice (some ⟨b, 0, none⟩) n c => some (.agg [.lit (.int .u64 (b : Int)), .lit (.int .u64 (n : Int)), .lit (.int .u64 (c : Int))], [])
  | _ => none
def tabD (tb n : Nat) : DataW Unit := .agg [.lit (.int .u64 (tb : Int)), .lit (.int .u64 (n : Int)), .lit (.int .u64 (n : Int))]
theorem slR_mk (tb n : Nat) : slR (.slice (some ⟨tb, 0, none⟩) n n) = some (tabD tb n, []) := rfl
theorem slR_nil {v : Value} {ps : List MemPlace} (h : slR v = some (.nil, ps)) : v = .slice none 0 0 := by
  unfold slR at h
  split at h
  · rfl
  · simp at h
  · simp at h
theorem slR_tab {v : Value} {tb n : Nat} {ps : List MemPlace} (h : slR v = some (tabD tb n, ps)) : v = .slice (some ⟨tb, 0, none⟩) n n := by
  unfold slR tabD at h
  split at h
  · simp at h
  · rename_i b m c
    simp only [Option.some.injEq, Prod.mk.injEq, DataW.agg.injEq, List.cons.injEq, DataW.lit.injEq, Lit.int.injEq, true_and, Int.ofNat_inj] at h
    obtain ⟨⟨h1, h2, h3, _⟩, _⟩ := h
    subst h1 h2 h3; rfl
  · simp at h

theorem law : Keyed Tryd.prog 3 := int_keyed Tryd.underlying3
theorem zeroS (w : World) : (zeroValue 35).run Tryd.prog w = .ok (.slice none 0 0) w := by kernel_rfl
def key (n : Nat) : Lit := .int .i64 (n : Int)
theorem key_of {n : Nat} (h : n ≤ 1048576) : keyOf Tryd.prog 3 (.int .i64 (n : Int)) = some (key n) := keyOf_int_mk Tryd.underlying3 (WalkArith.wf_i64 (by omega))

/-- A shelf: its block, its map's, what is in it. -/
structure Shelf (w : World) (sb mb k : Nat) (D : DataW Unit) : Prop where
  cell : w.cell? ⟨sb, 0, none⟩ = some (.map (some mb))
  own : w.ownsMap Tryd.prog 3 slR mb k D

theorem newShelf_any (w : World) :
    Calls Tryd.prog 38 #[] w fun e w' => e = .returned (.pointer (some ⟨w.heap.size + 1, 0, none⟩)) ∧ Shelf w' (w.heap.size + 1) w.heap.size 0 (.map []) ∧ Gw w w' ∧ w'.heap.size = w.heap.size + 2 := by
  have hmm := @run_makeMap Tryd.prog
  go_enter Tryd.func38, Tryd.ntmps38
  go_wp2
  go_ret
  refine ⟨rfl, ⟨?_, ?_⟩, (Gw.refl _).allocMap.alloc _ _, by simp⟩
  · simp
  · exact (World.ownsMap_made w _ _ _).alloc _

set_option maxHeartbeats 400000 in
theorem borrow_none (K sb mb k : Nat) (D : DataW Unit) (w : World) (hK : K ≤ 10) (hs : Shelf w sb mb k D) (hD : Maps.has D (key (2 ^ K)) = false) :
    Calls Tryd.prog 56 #[.pointer (some ⟨sb, 0, none⟩), .int .i64 ((2 ^ K : Nat) : Int)] w
      fun e w' => e = .returned (.slice (some ⟨w.heap.size, 0, none⟩) (2 ^ K) (2 ^ K)) ∧ Arr w' w.heap.size (2 ^ K) (fun i => pw (rootk K) i) ∧ Gw w w' ∧ w'.heap.size = w.heap.size + 1 := by
  have cp := powers_any K hK w
  have hn : 2 ^ K ≤ 1024 := Nat.pow_le_pow_right (n := 2) (by decide) hK
  have hk := key_of (n := 2 ^ K) (by omega)
  obtain ⟨hc, hown⟩ := hs
  generalize 2 ^ K = n at *
  obtain ⟨v, ps, hrun, hv⟩ := hown.look_ok law Tryd.underlying84 (zeroS w) (zd := .nil) (zp := []) rfl hk
  rw [hD] at hrun
  rw [atKey_of_not_has hD] at hv
  have hv' := slR_nil hv
  subst hv'
  clear hv hown hk hD
  go_enter Tryd.func56, Tryd.ntmps56
  go_wp2_with (go_at_call 79; refine cp.mono ?_; rintro e w' ⟨rfl, hR⟩)
  go_ret
  exact ⟨rfl, hR⟩

theorem giveBack_any (sb mb k tb n : Nat) (D : DataW Unit) (u : FrameMode) (w : World) (hn : n ≤ 1048576) (hk : k ≤ 1000000) (hs : Shelf w sb mb k D) :
    CallsD Tryd.prog 57 #[.pointer (some ⟨sb, 0, none⟩), .slice (some ⟨tb, 0, none⟩) n n] u w
      fun e u' w' => u' = u ∧ (e = .returned (.tuple #[]) ∧ Shelf w' sb mb (k + 1) (D.put (key n) (tabD tb n)) ∧ Only mb w w') := by
  have hkey := key_of hn
  obtain ⟨hc, hown⟩ := hs
  obtain ⟨w', hrun, r1, r2⟩ := hown.store law Tryd.underlying84 (by unfold maxLen; omega) hkey (slR_mk tb n)
  have hsm : sb ≠ mb := by
    intro e; subst e
    obtain ⟨es, clock, hb, _⟩ := hown
    simp [World.cell?, hb] at hc
  have HR : Hid (Shelf w' sb mb (k + 1) (D.put (key n) (tabD tb n)) ∧ Only mb w w') := ⟨⟨((Only.of_turned r2).cell hsm).trans hc, r1⟩, Only.of_turned r2⟩
  clear r1 r2 hown hkey
  go_enter_d Tryd.func57, Tryd.ntmps57
  go_wp2
  go_end0
  exact ⟨rfl, HR.out⟩

end Go.Proofs.YtddpcjgekfmhkaaDoor

/- transform, walked. -/
namespace Go.Proofs.YtddpcjgekfmhkaaDoor
open Go.RowKit Go.Maps
set_option linter.unusedSimpArgs false

/-- What a transform is. -/
def trans (K : Nat) (inv : Bool) (x : Nat → Int) (j : Nat) : Int := if inv then (idft K x j * pw ((2 ^ K : Nat) : Int) invE) % PP else dft K x j

/-- What has become of the world behind a transform whose table was not there. -/
structure Did (K sb mb k : Nat) (inv : Bool) (x : Nat → Int) (D : DataW Unit) (w w' : World) : Prop where
  out : Arr w' (w.heap.size + 1) (2 ^ K) (trans K inv x)
  tab : Arr w' w.heap.size (2 ^ K) (fun i => pw (rootk K) i)
  shelf : Shelf w' sb mb (k + 1) (D.put (key (2 ^ K)) (tabD w.heap.size (2 ^ K)))
  but : But mb w w'
  size : w'.heap.size = w.heap.size + 2

theorem Shelf.gw {w w' : World} {sb mb k : Nat} {D : DataW Unit} (h : Shelf w sb mb k D) (g : Gw w w') : Shelf w' sb mb k D := by
  refine ⟨g.at h.cell, ?_⟩
  obtain ⟨es, clock, hb, r⟩ := h.own
  refine ⟨es, clock, ?_, r⟩
  have hlt : mb < w.heap.size := by
    refine Nat.lt_of_not_le fun hle => ?_
    rw [Array.getElem?_eq_none hle] at hb; cases hb
  rw [g.1.block mb hlt, hb]
theorem Shelf.only {w w' : World} {sb mb k c : Nat} {D : DataW Unit} (h : Shelf w sb mb k D) (g : Only c w w') (h1 : sb ≠ c) (h2 : mb ≠ c) : Shelf w' sb mb k D := by
  refine ⟨(g.cell h1).trans h.cell, ?_⟩
  obtain ⟨es, clock, hb, r⟩ := h.own
  exact ⟨es, clock, (g.block mb h2).trans hb, r⟩
theorem Shelf.lt {w : World} {sb mb k : Nat} {D : DataW Unit} (h : Shelf w sb mb k D) : sb < w.heap.size ∧ mb < w.heap.size := by
  constructor
  · refine Nat.lt_of_not_le fun hle => ?_
    have e : w.heap[sb]? = none := Array.getElem?_eq_none hle
    have := h.cell
    simp [World.cell?, e] at this
  · obtain ⟨es, clock, hb, r⟩ := h.own
    refine Nat.lt_of_not_le fun hle => ?_
    rw [Array.getElem?_eq_none hle] at hb; cases hb

theorem merged_of {K s : Nat} {f g : Nat → Int} (hs : s + 1 ≤ K) (hK : K ≤ 32) (h : ∀ c q, c < 2 ^ (K - (s + 1)) → q < 2 ^ s → Pair (2 ^ s) (fun q => pw (rootk K) (q * 2 ^ (K - (s + 1)))) f g c q) : Merged s (2 ^ (K - (s + 1))) f g := by
  intro c q hc hq
  have := h c q hc hq
  unfold Pair at this
  simp only [rootk_step K hs hK] at this
  exact this
theorem split_pow {K s : Nat} (hs : s + 1 ≤ K) : 2 ^ K = 2 ^ (K - (s + 1)) * (2 * 2 ^ s) := by
  rw [show 2 * 2 ^ s = 2 ^ (s + 1) by rw [Nat.pow_succ]; omega, ← Nat.pow_add]; congr 1; omega
theorem root_elems (K : Nat) : Elems (2 ^ K) (fun i => pw (rootk K) i) := fun _ _ => pw_bd _ _

set_option maxHeartbeats 2000000 in
theorem transform_any (K sb mb k lb cap : Nat) (x : Nat → Int) (D : DataW Unit) (inv : Bool) (w : World) (hK : K ≤ 10) (hk : k ≤ 1000000) (ht : Tab w) (ha : Arr w lb (2 ^ K) x) (hx : Elems (2 ^ K) x)
    (hs : Shelf w sb mb k D) (hD : Maps.has D (key (2 ^ K)) = false) :
    Calls Tryd.prog 39 #[.pointer (some ⟨sb, 0, none⟩), .slice (some ⟨lb, 0, none⟩) (2 ^ K) cap, .bool inv] w
      fun e w' => e = .returned (.slice (some ⟨w.heap.size + 1, 0, none⟩) (2 ^ K) (2 ^ K)) ∧ Did K sb mb k inv x D w w' := by
  have cb := borrow_none K sb mb k D w hK hs hD
  have hn : 2 ^ K ≤ 1024 := Nat.pow_le_pow_right (n := 2) (by decide) hK
  have hn1 : 1 ≤ 2 ^ K := Nat.one_le_two_pow
  have hlt := hs.lt
  have hlb := ha.lt (by omega)
  have csc := fun w1 (g : Gw w w1) => scatter_any K lb cap x w1 hK (ht.gw g) (ha.gw g)
  have HI : Hid (Shelf w sb mb k D ∧ Elems (2 ^ K) x ∧ K ≤ 10 ∧ k ≤ 1000000) := ⟨hs, hx, hK, hk⟩
  clear hs hD ht ha hx hK hk
  obtain ⟨n, hnn⟩ : ∃ n, 2 ^ K = n := ⟨_, rfl⟩
  have HN : Hid (2 ^ K = n) := hnn
  rw [hnn] at cb csc hn hn1 ⊢
  clear hnn
  go_enter_defers Tryd.func39, Tryd.ntmps39
  go_wp2_with (first
    | (go_at_call 56; refine cb.mono ?_; rintro e w1 ⟨rfl, hT1, hG1, hZ1⟩; clear cb)
    | (go_at_call 58; refine (csc _ hG1).mono ?_; rintro e w2 ⟨rfl, ⟨g0, hA2, hg0⟩, hG2, hZ2⟩; clear csc))
  have hz1 := hZ1
  have HB : Hid (Arr w2 w.heap.size n (fun i => pw (rootk K) i) ∧ Shelf w2 sb mb k D ∧ Gw w w2 ∧ w2.heap.size = w.heap.size + 2) := by
    refine ⟨hT1.gw hG2, (HI.out.1.gw hG1).gw hG2, hG1.trans hG2, ?_⟩
    rw [hZ2, hz1]
  rw [hz1] at hA2
  have HS : Hid (Arr w2 (w.heap.size + 1) n g0 ∧ Elems n g0 ∧ Stage K 0 x g0) := by
    refine ⟨hA2, ?_, Stage.start (fun i hi => HI.out.2.1.md i hi) (fun i hi => hg0 i (by rw [← HN.out]; exact hi))⟩
    intro i hi
    rw [hg0 i hi]
    have := rev_lt K i
    exact HI.out.2.1 _ this
  clear hT1 hG1 hZ1 hA2 hg0 hG2 hZ2 hz1
  go_loopw [9] (fun ts wr => ∃ (s H : Nat) (g : Nat → Int), s ≤ K ∧ Hid (2 ^ s = H) ∧ 1 ≤ H ∧ H ≤ n ∧ ts = .int .i64 ((2 * H : Nat) : Int) ∧ Hid (Arr wr (w.heap.size + 1) n g ∧ Elems n g ∧ Stage K s x g ∧ Only (w.heap.size + 1) w2 wr)) (fun ts _ => 2 * n + 1 - (intOf ts).toNat)
  case atStart => exact ⟨0, 1, g0, Nat.zero_le _, rfl, Nat.le_refl _, hn1, rfl, HS.out.1, HS.out.2.1, HS.out.2.2, Only.refl _ _⟩
  case round =>
    obtain ⟨s, H, g, hsK, HH, hH1, hHn, rfl, HR⟩ := hrel
    by_cases hlt2 : s < K
    · have hsp := split_pow (K := K) (s := s) hlt2
      rw [HH.out, HN.out] at hsp
      obtain ⟨C, hC⟩ : ∃ C, 2 ^ (K - (s + 1)) = C := ⟨_, rfl⟩
      rw [hC] at hsp
      have hC1 : 1 ≤ C := by rw [← hC]; exact Nat.one_le_two_pow
      have h2H : 2 * H ≤ n := by rw [hsp]; exact Nat.le_mul_of_pos_left _ hC1
      obtain ⟨hA, hE, hSt, hO⟩ := HR.out
      have cm := merge_any (w.heap.size + 1) w.heap.size n n n H C g (fun i => pw (rootk K) i) wr hsp hH1 (by omega) (by omega) (by omega) hE (fun _ _ => pw_bd _ _) hA (HB.out.1.only hO (by omega))
      have HC : Hid (2 ^ (K - (s + 1)) = C) := hC
      clear hsp hC hC1 hA hE hSt hO
      go_wp2_with (go_at_call 59; refine cm.mono ?_; rintro e w3 ⟨rfl, g3, hA3, hE3, hP3, hO3⟩; clear cm)
      go_roundw
      case rel =>
        refine ⟨s + 1, 2 * H, g3, hlt2, ?_, by omega, h2H, by go_num, ?_⟩
        · show 2 ^ (s + 1) = 2 * H
          rw [Nat.pow_succ, HH.out]; omega
        · obtain ⟨hA, hE, hSt, hO⟩ := HR.out
          refine ⟨hA3, hE3, hSt.next hlt2 (by have := HI.out.2.2.1; omega) (merged_of hlt2 (by have := HI.out.2.2.1; omega) ?_), hO.trans hO3⟩
          rw [HC.out, HH.out]
          exact hP3
      case measure => simp [intOf]; omega
    · have hsK' : s = K := by omega
      have hHn' : H = n := by rw [← HH.out, hsK', HN.out]
      subst hsK' hHn'
      have HK : Hid (k ≤ 1000000) := HI.out.2.2.2
      obtain ⟨hsb, hmb⟩ := hlt
      cases inv with
      | false =>
        have hS := (HB.out.2.1.only HR.out.2.2.2 (by omega) (by omega))
        go_wp2
        refine leaves_cons (f := 57) (args := #[.pointer (some ⟨sb, 0, none⟩), .slice (some ⟨w.heap.size, 0, none⟩) H H]) (by simp) (by simp [go_sem]) ?_
        refine (giveBack_any sb mb k w.heap.size H D .returning wr (by omega) HK.out hS).mono ?_
        rintro e u' w'' ⟨rfl, rfl, hS4, hO4⟩
        refine ⟨_, results_tmp rfl _ _ _, rfl, ?_⟩
        obtain ⟨hA, hE, hSt, hO⟩ := HR.out
        obtain ⟨hT, _, hG, hZ⟩ := HB.out
        have hA' := hA.only hO4 (by omega)
        have hT' := (hT.only hO (by omega)).only hO4 (by omega)
        refine ⟨?_, by rw [HN.out]; exact hT', by rw [HN.out]; exact hS4, ((But.of_gw mb hG).of_new hO (by omega)).trans (But.of_only hO4), by rw [hO4.size, hO.size, hZ]⟩
        rw [HN.out]
        exact hA'.congr fun i hi => hSt.done i (by rw [HN.out]; exact hi)
      | true =>
        obtain ⟨hA, hE, hSt, hO⟩ := HR.out
        have ct := turnBack_any (w.heap.size + 1) H g wr hH1 (by omega) hE hA
        clear hA hE hSt hO
        go_wp2_with (go_at_call 60; refine ct.mono ?_; rintro e w3 ⟨rfl, g3, hA3, hE3, hP3, hO3⟩; clear ct)
        have hS := (HB.out.2.1.only HR.out.2.2.2 (by omega) (by omega)).only hO3 (by omega) (by omega)
        refine leaves_cons (f := 57) (args := #[.pointer (some ⟨sb, 0, none⟩), .slice (some ⟨w.heap.size, 0, none⟩) H H]) (by simp) (by simp [go_sem]) ?_
        refine (giveBack_any sb mb k w.heap.size H D .returning w3 (by omega) HK.out hS).mono ?_
        rintro e u' w'' ⟨rfl, rfl, hS4, hO4⟩
        refine ⟨_, results_tmp rfl _ _ _, rfl, ?_⟩
        obtain ⟨hA, hE, hSt, hO⟩ := HR.out
        obtain ⟨hT, _, hG, hZ⟩ := HB.out
        have hA' := hA3.only hO4 (by omega)
        have hT' := ((hT.only hO (by omega)).only hO3 (by omega)).only hO4 (by omega)
        refine ⟨?_, by rw [HN.out]; exact hT', by rw [HN.out]; exact hS4, (((But.of_gw mb hG).of_new hO (by omega)).of_new hO3 (by omega)).trans (But.of_only hO4), by rw [hO4.size, hO3.size, hO.size, hZ]⟩
        rw [HN.out]
        refine hA'.congr fun i hi => ?_
        have hi' : i < 2 ^ s := by rw [HN.out]; exact hi
        rw [hP3 i hi, hSt.done _ (by rw [HN.out]; exact Nat.mod_lt _ (by omega))]
        show _ = (idft s x i * pw ((2 ^ s : Nat) : Int) invE) % PP
        rw [← idft_eq (by have := HI.out.2.2.1; omega) x i hi', HN.out]

end Go.Proofs.YtddpcjgekfmhkaaDoor

/- transform, walked where its table lies on the shelf. -/
namespace Go.Proofs.YtddpcjgekfmhkaaDoor
open Go.RowKit Go.Maps
set_option linter.unusedSimpArgs false
set_option linter.unusedVariables false

/-- The shelf holds a table. -/
structure Holds (D : DataW Unit) (n tb : Nat) : Prop where
  map : IsMap D
  has : Maps.has D (key n) = true
  at_ : ∀ z, D.atKey (key n) z = tabD tb n
theorem key_lit (n : Nat) : WideAt.IsKeyLit (key n) := trivial
theorem Holds.put {D : DataW Unit} (h : IsMap D) (n tb : Nat) : Holds (D.put (key n) (tabD tb n)) n tb :=
  ⟨h.put _ _, has_put_same h (key_lit n) _, fun z => atKey_put_same h (key_lit n) _ z⟩

set_option maxHeartbeats 400000 in
theorem borrow_some (sb mb k n tb : Nat) (D : DataW Unit) (w : World) (hn : n ≤ 1024) (hs : Shelf w sb mb k D) (hD : Holds D n tb) :
    Calls Tryd.prog 56 #[.pointer (some ⟨sb, 0, none⟩), .int .i64 (n : Int)] w
      fun e w' => e = .returned (.slice (some ⟨tb, 0, none⟩) n n) ∧ Shelf w' sb mb k (D.del (key n)) ∧ Only mb w w' := by
  have hk := key_of (n := n) (by omega)
  obtain ⟨hc, hown⟩ := hs
  have hsm : sb ≠ mb := by
    intro e; subst e
    obtain ⟨es, clock, hb, _⟩ := hown
    simp [World.cell?, hb] at hc
  obtain ⟨v, ps, hrun, hv⟩ := hown.look_ok law Tryd.underlying84 (zeroS w) (zd := .nil) (zp := []) rfl hk
  rw [hD.has] at hrun
  rw [hD.at_] at hv
  have hv' := slR_tab hv
  subst hv'
  clear hv
  go_enter Tryd.func56, Tryd.ntmps56
  go_wp2_with (at_delete; refine wpList_delete_own _ rfl _ _ _ _ rfl _ law Tryd.underlying84 slR mb k D rfl hown _ _ rfl hk ?_; intro w1 hown1 hturn1)
  go_ret
  exact ⟨rfl, ⟨((Only.of_turned hturn1).cell hsm).trans hc, hown1⟩, Only.of_turned hturn1⟩

/-- What has become of the world behind a transform whose table was there. -/
structure Hit (K sb mb k tb : Nat) (inv : Bool) (x : Nat → Int) (D : DataW Unit) (w w' : World) : Prop where
  out : Arr w' w.heap.size (2 ^ K) (trans K inv x)
  tab : Arr w' tb (2 ^ K) (fun i => pw (rootk K) i)
  shelf : Shelf w' sb mb (k + 1) ((D.del (key (2 ^ K))).put (key (2 ^ K)) (tabD tb (2 ^ K)))
  but : But mb w w'
  size : w'.heap.size = w.heap.size + 1

set_option maxHeartbeats 2000000 in
theorem transform_hit (K sb mb k lb cap tb : Nat) (x : Nat → Int) (D : DataW Unit) (inv : Bool) (w : World) (hK : K ≤ 10) (hk : k ≤ 1000000) (ht : Tab w) (ha : Arr w lb (2 ^ K) x) (hx : Elems (2 ^ K) x)
    (hs : Shelf w sb mb k D) (hD : Holds D (2 ^ K) tb) (htb : Arr w tb (2 ^ K) (fun i => pw (rootk K) i)) (hlm : lb ≠ mb) (h1m : 1 ≠ mb) (htm : tb ≠ mb) :
    Calls Tryd.prog 39 #[.pointer (some ⟨sb, 0, none⟩), .slice (some ⟨lb, 0, none⟩) (2 ^ K) cap, .bool inv] w
      fun e w' => e = .returned (.slice (some ⟨w.heap.size, 0, none⟩) (2 ^ K) (2 ^ K)) ∧ Hit K sb mb k tb inv x D w w' := by
  have hn : 2 ^ K ≤ 1024 := Nat.pow_le_pow_right (n := 2) (by decide) hK
  have cb := borrow_some sb mb k (2 ^ K) tb D w hn hs hD
  have hn1 : 1 ≤ 2 ^ K := Nat.one_le_two_pow
  have hlt := hs.lt
  have hlb := ha.lt (by omega)
  have htl := htb.lt (by omega)
  have csc := fun w1 (g : Only mb w w1) => scatter_any K lb cap x w1 hK (fun i hi => (g.cell h1m).trans (ht i hi)) (ha.only g hlm)
  have HTB : Hid (Arr w tb (2 ^ K) (fun i => pw (rootk K) i)) := htb
  have HI : Hid (Shelf w sb mb k D ∧ Elems (2 ^ K) x ∧ K ≤ 10 ∧ k ≤ 1000000) := ⟨hs, hx, hK, hk⟩
  clear hs hD ht ha hx hK hk htb
  obtain ⟨n, hnn⟩ : ∃ n, 2 ^ K = n := ⟨_, rfl⟩
  have HN : Hid (2 ^ K = n) := hnn
  rw [hnn] at cb csc hn hn1 HTB ⊢
  clear hnn
  go_enter_defers Tryd.func39, Tryd.ntmps39
  go_wp2_with (first
    | (go_at_call 56; refine cb.mono ?_; rintro e w1 ⟨rfl, hS1, hO1⟩; clear cb; have hz1 := hO1.size)
    | (go_at_call 58; refine (csc _ hO1).mono ?_; rintro e w2 ⟨rfl, ⟨g0, hA2, hg0⟩, hG2, hZ2⟩; clear csc))
  have HB : Hid (Arr w2 tb n (fun i => pw (rootk K) i) ∧ Shelf w2 sb mb k (D.del (key n)) ∧ But mb w w2 ∧ w2.heap.size = w.heap.size + 1) := by
    refine ⟨(HTB.out.only hO1 htm).gw hG2, hS1.gw hG2, (But.of_only hO1).trans (But.of_gw mb hG2), ?_⟩
    rw [hZ2, hz1]
  rw [hz1] at hA2
  have HS : Hid (Arr w2 (w.heap.size) n g0 ∧ Elems n g0 ∧ Stage K 0 x g0) := by
    refine ⟨hA2, ?_, Stage.start (fun i hi => HI.out.2.1.md i hi) (fun i hi => hg0 i (by rw [← HN.out]; exact hi))⟩
    intro i hi
    rw [hg0 i hi]
    have := rev_lt K i
    exact HI.out.2.1 _ this
  clear hS1 hO1 hA2 hg0 hG2 hZ2 hz1
  go_loopw [9] (fun ts wr => ∃ (s H : Nat) (g : Nat → Int), s ≤ K ∧ Hid (2 ^ s = H) ∧ 1 ≤ H ∧ H ≤ n ∧ ts = .int .i64 ((2 * H : Nat) : Int) ∧ Hid (Arr wr (w.heap.size) n g ∧ Elems n g ∧ Stage K s x g ∧ Only w.heap.size w2 wr)) (fun ts _ => 2 * n + 1 - (intOf ts).toNat)
  case atStart => exact ⟨0, 1, g0, Nat.zero_le _, rfl, Nat.le_refl _, hn1, rfl, HS.out.1, HS.out.2.1, HS.out.2.2, Only.refl _ _⟩
  case round =>
    obtain ⟨s, H, g, hsK, HH, hH1, hHn, rfl, HR⟩ := hrel
    by_cases hlt2 : s < K
    · have hsp := split_pow (K := K) (s := s) hlt2
      rw [HH.out, HN.out] at hsp
      obtain ⟨C, hC⟩ : ∃ C, 2 ^ (K - (s + 1)) = C := ⟨_, rfl⟩
      rw [hC] at hsp
      have hC1 : 1 ≤ C := by rw [← hC]; exact Nat.one_le_two_pow
      have h2H : 2 * H ≤ n := by rw [hsp]; exact Nat.le_mul_of_pos_left _ hC1
      obtain ⟨hA, hE, hSt, hO⟩ := HR.out
      have cm := merge_any w.heap.size tb n n n H C g (fun i => pw (rootk K) i) wr hsp hH1 (by omega) (by omega) (by omega) hE (fun _ _ => pw_bd _ _) hA (HB.out.1.only hO (by omega))
      have HC : Hid (2 ^ (K - (s + 1)) = C) := hC
      clear hsp hC hC1 hA hE hSt hO
      go_wp2_with (go_at_call 59; refine cm.mono ?_; rintro e w3 ⟨rfl, g3, hA3, hE3, hP3, hO3⟩; clear cm)
      go_roundw
      case rel =>
        refine ⟨s + 1, 2 * H, g3, hlt2, ?_, by omega, h2H, by go_num, ?_⟩
        · show 2 ^ (s + 1) = 2 * H
          rw [Nat.pow_succ, HH.out]; omega
        · obtain ⟨hA, hE, hSt, hO⟩ := HR.out
          refine ⟨hA3, hE3, hSt.next hlt2 (by have := HI.out.2.2.1; omega) (merged_of hlt2 (by have := HI.out.2.2.1; omega) ?_), hO.trans hO3⟩
          rw [HC.out, HH.out]
          exact hP3
      case measure => simp [intOf]; omega
    · have hsK' : s = K := by omega
      have hHn' : H = n := by rw [← HH.out, hsK', HN.out]
      subst hsK' hHn'
      have HK : Hid (k ≤ 1000000) := HI.out.2.2.2
      obtain ⟨hsb, hmb⟩ := hlt
      cases inv with
      | false =>
        have hS := (HB.out.2.1.only HR.out.2.2.2 (by omega) (by omega))
        go_wp2
        refine leaves_cons (f := 57) (args := #[.pointer (some ⟨sb, 0, none⟩), .slice (some ⟨tb, 0, none⟩) H H]) (by simp) (by simp [go_sem]) ?_
        refine (giveBack_any sb mb k tb H (D.del (key H)) .returning wr (by omega) HK.out hS).mono ?_
        rintro e u' w'' ⟨rfl, rfl, hS4, hO4⟩
        refine ⟨_, results_tmp rfl _ _ _, rfl, ?_⟩
        obtain ⟨hA, hE, hSt, hO⟩ := HR.out
        obtain ⟨hT, _, hG, hZ⟩ := HB.out
        have hA' := hA.only hO4 (by omega)
        have hT' := (hT.only hO (by omega)).only hO4 (by omega)
        refine ⟨?_, by rw [HN.out]; exact hT', by rw [HN.out]; exact hS4, (hG.of_new hO (by omega)).trans (But.of_only hO4), by rw [hO4.size, hO.size, hZ]⟩
        rw [HN.out]
        exact hA'.congr fun i hi => hSt.done i (by rw [HN.out]; exact hi)
      | true =>
        obtain ⟨hA, hE, hSt, hO⟩ := HR.out
        have ct := turnBack_any w.heap.size H g wr hH1 (by omega) hE hA
        clear hA hE hSt hO
        go_wp2_with (go_at_call 60; refine ct.mono ?_; rintro e w3 ⟨rfl, g3, hA3, hE3, hP3, hO3⟩; clear ct)
        have hS := (HB.out.2.1.only HR.out.2.2.2 (by omega) (by omega)).only hO3 (by omega) (by omega)
        refine leaves_cons (f := 57) (args := #[.pointer (some ⟨sb, 0, none⟩), .slice (some ⟨tb, 0, none⟩) H H]) (by simp) (by simp [go_sem]) ?_
        refine (giveBack_any sb mb k tb H (D.del (key H)) .returning w3 (by omega) HK.out hS).mono ?_
        rintro e u' w'' ⟨rfl, rfl, hS4, hO4⟩
        refine ⟨_, results_tmp rfl _ _ _, rfl, ?_⟩
        obtain ⟨hA, hE, hSt, hO⟩ := HR.out
        obtain ⟨hT, _, hG, hZ⟩ := HB.out
        have hA' := hA3.only hO4 (by omega)
        have hT' := ((hT.only hO (by omega)).only hO3 (by omega)).only hO4 (by omega)
        refine ⟨?_, by rw [HN.out]; exact hT', by rw [HN.out]; exact hS4, ((hG.of_new hO (by omega)).of_new hO3 (by omega)).trans (But.of_only hO4), by rw [hO4.size, hO3.size, hO.size, hZ]⟩
        rw [HN.out]
        refine hA'.congr fun i hi => ?_
        have hi' : i < 2 ^ s := by rw [HN.out]; exact hi
        rw [hP3 i hi, hSt.done _ (by rw [HN.out]; exact Nat.mod_lt _ (by omega))]
        show _ = (idft s x i * pw ((2 ^ s : Nat) : Int) invE) % PP
        rw [← idft_eq (by have := HI.out.2.2.1; omega) x i hi', HN.out]

end Go.Proofs.YtddpcjgekfmhkaaDoor

/- Whole numbers in memory. -/
namespace Go.Proofs.YtddpcjgekfmhkaaDoor
open Go.RowKit
set_option linter.unusedVariables false

/-- len whole numbers lie in block b from off on. -/
def IArr (w : World) (b off len : Nat) (z : Nat → Int) : Prop := ∀ i, i < len → w.cell? ⟨b, off + i, none⟩ = some (.int .i64 (z i)) ∧ -9223372036854775808 ≤ z i ∧ z i ≤ 9223372036854775807
theorem IArr.gw {w w' : World} {b off len : Nat} {z : Nat → Int} (h : IArr w b off len z) (g : Gw w w') : IArr w' b off len z := fun i hi => ⟨g.at (h i hi).1, (h i hi).2⟩
/-- What elements makes of them. -/
def emb (len : Nat) (z : Nat → Int) (i : Nat) : Int := if i < len then z i % PP else 0
theorem emb_elems (n len : Nat) (z : Nat → Int) : Elems n (emb len z) := by
  intro i _
  unfold emb
  by_cases h : i < len
  · rw [if_pos h]; exact md_bd _
  · rw [if_neg h]; omega

theorem IArr.lt {w : World} {b off len : Nat} {z : Nat → Int} (h : IArr w b off len z) (hl : 0 < len) : b < w.heap.size := by
  refine Nat.lt_of_not_le fun hle => ?_
  have e : w.heap[b]? = none := Array.getElem?_eq_none hle
  have := (h 0 hl).1
  simp [World.cell?, e] at this

end Go.Proofs.YtddpcjgekfmhkaaDoor
