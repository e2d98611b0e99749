/- The shelf, walked. -/
import Derived.Test.YtddpcjgekfmhkaaDoorPv
import Derived.Maps.OwnSet
import Derived.Defers
namespace Go.Proofs.YtddpcjgekfmhkaaDoor
open Go.RowKit Go.Maps
open Go.ChangeMaps (setBlock heap_setBlock_other)
set_option linter.unusedSimpArgs false

/-- Of what was there only block b has turned. -/
structure But (b : Nat) (w w' : World) : Prop where
  os : w'.os = w.os
  tape : w'.tape = w.tape
  output : w'.output = w.output
  size : w.heap.size ≤ w'.heap.size
  block : ∀ k, k < w.heap.size → k ≠ b → w'.heap[k]? = w.heap[k]?
  frozen : ∀ a, w'.frozen? a = w.frozen? a
theorem But.of_gw {w w' : World} (b : Nat) (h : Gw w w') : But b w w' := ⟨h.1.os, h.1.tape, h.1.output, h.1.size, fun k hk _ => h.1.block k hk, h.2⟩
theorem But.of_only {b : Nat} {w w' : World} (h : Only b w w') : But b w w' := ⟨h.os, h.tape, h.output, by rw [h.size]; exact Nat.le_refl _, fun k _ hk => h.block k hk, h.frozen⟩
theorem But.trans {b : Nat} {u v w : World} (h : But b u v) (k : But b v w) : But b u w :=
  ⟨k.os.trans h.os, k.tape.trans h.tape, k.output.trans h.output, Nat.le_trans h.size k.size, fun i hi hb => (k.block i (Nat.lt_of_lt_of_le hi h.size) hb).trans (h.block i hi hb), fun a => (k.frozen a).trans (h.frozen a)⟩
/-- A block that was made behind u may turn. -/
theorem But.of_new {b c : Nat} {u v w : World} (h : But b u v) (k : Only c v w) (hc : u.heap.size ≤ c) : But b u w :=
  ⟨k.os.trans h.os, k.tape.trans h.tape, k.output.trans h.output, by rw [k.size]; exact h.size, fun i hi hb => (k.block i (by omega)).trans (h.block i hi hb), fun a => (k.frozen a).trans (h.frozen a)⟩
theorem But.gw {b : Nat} {u v w : World} (h : Gw u v) (k : But b v w) (hb : u.heap.size ≤ b) : Gw u w :=
  ⟨⟨k.os.trans h.1.os, k.tape.trans h.1.tape, k.output.trans h.1.output, Nat.le_trans h.1.size k.size, fun i hi => (k.block i (Nat.lt_of_lt_of_le hi h.1.size) (by omega)).trans (h.1.block i hi)⟩, fun a => (k.frozen a).trans (h.2 a)⟩
theorem But.at {c : Nat} {w w' : World} (h : But c w w') {b o : Nat} {v : Value} (hb : b ≠ c) (hv : w.cell? ⟨b, o, none⟩ = some v) : w'.cell? ⟨b, o, none⟩ = some v := by
  have hlt : b < w.heap.size := by
    refine Nat.lt_of_not_le fun hle => ?_
    have e : w.heap[b]? = none := Array.getElem?_eq_none hle
    simp [World.cell?, e] at hv
  exact (World.cell?_of_block (w := w) (h.block b hlt hb)).trans hv
theorem Arr.but {w w' : World} {b n c : Nat} {f : Nat → Int} (h : Arr w b n f) (k : But c w w') (hc : b ≠ c) : Arr w' b n f :=
  fun i hi => ⟨k.at hc (h i hi).1, (k.frozen _).trans (h i hi).2⟩
theorem Only.of_turned {w w' : World} {b : Nat} (h : w.mapTurned w' b) : Only b w w' := by
  have hf := h.frozen
  have hg := h.grown
  obtain ⟨es, clock, es', clock', hb, rfl⟩ := h
  exact ⟨rfl, rfl, rfl, by simp [setBlock], fun k hk => heap_setBlock_other hb _ hk, hf⟩
theorem Gw.allocMap {a w : World} (h : Gw a w) : Gw a (w.alloc (.map #[] 0)) := by
  refine ⟨h.1.alloc h.1.size _, fun x => ?_⟩
  rw [← h.2 x]
  by_cases e : x.block = w.heap.size
  · have e1 : (w.alloc (.map #[] 0)).heap[x.block]? = some (.map #[] 0) := by rw [e]; show (w.heap.push _)[w.heap.size]? = _; simp
    have e2 : w.heap[x.block]? = none := by rw [e]; exact Array.getElem?_eq_none (Nat.le_refl _)
    simp [World.frozen?, e1, e2]
  · have e1 : (w.alloc (.map #[] 0)).heap[x.block]? = w.heap[x.block]? := by show (w.heap.push _)[x.block]? = _; rw [Array.getElem?_push, if_neg e]
    exact World.frozen?_of_block e1

/-- How a table reads in the shelf. -/
def slR (v : Value) : Option (DataW Unit × List MemPlace) :=
  match v with
  | .slice none 0 0 => some (.nil, [])
  | .slice (some ⟨b, 0, none⟩) n c => some (.agg [.lit (.int .u64 (b : Int)), .lit (.int .u64 (n : Int)), .lit (.int .u64 (c : Int))], [])
  | _ => none
def tabD (tb n : Nat) : DataW Unit := .agg [.lit (.int .u64 (tb : Int)), .lit (.int .u64 (n : Int)), .lit (.int .u64 (n : Int))]
theorem slR_mk (tb n : Nat) : slR (.slice (some ⟨tb, 0, none⟩) n n) = some (tabD tb n, []) := rfl
theorem slR_nil {v : Value} {ps : List MemPlace} (h : slR v = some (.nil, ps)) : v = .slice none 0 0 := by
  unfold slR at h
  split at h
  · rfl
  · simp at h
  · simp at h
theorem slR_tab {v : Value} {tb n : Nat} {ps : List MemPlace} (h : slR v = some (tabD tb n, ps)) : v = .slice (some ⟨tb, 0, none⟩) n n := by
  unfold slR tabD at h
  split at h
  · simp at h
  · rename_i b m c
    simp only [Option.some.injEq, Prod.mk.injEq, DataW.agg.injEq, List.cons.injEq, DataW.lit.injEq, Lit.int.injEq, true_and, Int.ofNat_inj] at h
    obtain ⟨⟨h1, h2, h3, _⟩, _⟩ := h
    subst h1 h2 h3; rfl
  · simp at h

theorem law : Keyed Tryd.prog 3 := int_keyed Tryd.underlying3
theorem zeroS (w : World) : (zeroValue 35).run Tryd.prog w = .ok (.slice none 0 0) w := by kernel_rfl
def key (n : Nat) : Lit := .int .i64 (n : Int)
theorem key_of {n : Nat} (h : n ≤ 1048576) : keyOf Tryd.prog 3 (.int .i64 (n : Int)) = some (key n) := keyOf_int_mk Tryd.underlying3 (WalkArith.wf_i64 (by omega))

/-- A shelf: its block, its map's, what is in it. -/
structure Shelf (w : World) (sb mb k : Nat) (D : DataW Unit) : Prop where
  cell : w.cell? ⟨sb, 0, none⟩ = some (.map (some mb))
  own : w.ownsMap Tryd.prog 3 slR mb k D

theorem newShelf_any (w : World) :
    Calls Tryd.prog 38 #[] w fun e w' => e = .returned (.pointer (some ⟨w.heap.size + 1, 0, none⟩)) ∧ Shelf w' (w.heap.size + 1) w.heap.size 0 (.map []) ∧ Gw w w' ∧ w'.heap.size = w.heap.size + 2 := by
  have hmm := @run_makeMap Tryd.prog
  go_enter Tryd.func38, Tryd.ntmps38
  go_wp2
  go_ret
  refine ⟨rfl, ⟨?_, ?_⟩, (Gw.refl _).allocMap.alloc _ _, by simp⟩
  · simp
  · exact (World.ownsMap_made w _ _ _).alloc _

set_option maxHeartbeats 400000 in
theorem borrow_none (K sb mb k : Nat) (D : DataW Unit) (w : World) (hK : K ≤ 10) (hs : Shelf w sb mb k D) (hD : Maps.has D (key (2 ^ K)) = false) :
    Calls Tryd.prog 56 #[.pointer (some ⟨sb, 0, none⟩), .int .i64 ((2 ^ K : Nat) : Int)] w
      fun e w' => e = .returned (.slice (some ⟨w.heap.size, 0, none⟩) (2 ^ K) (2 ^ K)) ∧ Arr w' w.heap.size (2 ^ K) (fun i => pw (rootk K) i) ∧ Gw w w' ∧ w'.heap.size = w.heap.size + 1 := by
  have cp := powers_any K hK w
  have hn : 2 ^ K ≤ 1024 := Nat.pow_le_pow_right (n := 2) (by decide) hK
  have hk := key_of (n := 2 ^ K) (by omega)
  obtain ⟨hc, hown⟩ := hs
  generalize 2 ^ K = n at *
  obtain ⟨v, ps, hrun, hv⟩ := hown.look_ok law Tryd.underlying84 (zeroS w) (zd := .nil) (zp := []) rfl hk
  rw [hD] at hrun
  rw [atKey_of_not_has hD] at hv
  have hv' := slR_nil hv
  subst hv'
  clear hv hown hk hD
  go_enter Tryd.func56, Tryd.ntmps56
  go_wp2_with (go_at_call 79; refine cp.mono ?_; rintro e w' ⟨rfl, hR⟩)
  go_ret
  exact ⟨rfl, hR⟩

theorem giveBack_any (sb mb k tb n : Nat) (D : DataW Unit) (u : FrameMode) (w : World) (hn : n ≤ 1048576) (hk : k ≤ 1000000) (hs : Shelf w sb mb k D) :
    CallsD Tryd.prog 57 #[.pointer (some ⟨sb, 0, none⟩), .slice (some ⟨tb, 0, none⟩) n n] u w
      fun e u' w' => u' = u ∧ (e = .returned (.tuple #[]) ∧ Shelf w' sb mb (k + 1) (D.put (key n) (tabD tb n)) ∧ Only mb w w') := by
  have hkey := key_of hn
  obtain ⟨hc, hown⟩ := hs
  obtain ⟨w', hrun, r1, r2⟩ := hown.store law Tryd.underlying84 (by unfold maxLen; omega) hkey (slR_mk tb n)
  have hsm : sb ≠ mb := by
    intro e; subst e
    obtain ⟨es, clock, hb, _⟩ := hown
    simp [World.cell?, hb] at hc
  have HR : Hid (Shelf w' sb mb (k + 1) (D.put (key n) (tabD tb n)) ∧ Only mb w w') := ⟨⟨((Only.of_turned r2).cell hsm).trans hc, r1⟩, Only.of_turned r2⟩
  clear r1 r2 hown hkey
  go_enter_d Tryd.func57, Tryd.ntmps57
  go_wp2
  go_end0
  exact ⟨rfl, HR.out⟩

end Go.Proofs.YtddpcjgekfmhkaaDoor
