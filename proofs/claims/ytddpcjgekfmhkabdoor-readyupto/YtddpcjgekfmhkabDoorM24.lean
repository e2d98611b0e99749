/- Texts joined: Of. -/
import Derived.Test.YtddpcjgekfmhkabDoorRows
import Derived.Test.YtddpcjgekfmhkabDoorM23
import Derived.WalkKit
import Derived.ProofKit
import Derived.OpenShut
import Derived.JoinedCond
import Derived.ChangeOld
import Derived.Below
import Derived.Deep.Slices

/- What comes in: lists of numbers, configurations, scripts. -/
namespace Go.Proofs.YtddpcjgekfmhkabDoor
open Go.ChangeShapes Go.WideShapes Go.ChangeAt Go.RowKit
set_option linter.unusedVariables false

theorem own_knob : ownKnob Tryd.prog.godebug = none := by kernel_rfl
theorem laid_out : laidOutB Tryd.prog = true := by kernel_rfl
theorem cells_st : Tryd.prog.cellsOf 75 = 5 := by kernel_rfl
theorem cells_ct : Tryd.prog.cellsOf 46 = 3 := by kernel_rfl
theorem cells_int : Tryd.prog.cellsOf 3 = 1 := by kernel_rfl
theorem cells_si : Tryd.prog.cellsOf 24 = 1 := by kernel_rfl

theorem bulk_pos {H : Type} (d : DataW H) : 0 < Rows.uptoBulk d := by
  cases d with
  | lit l => cases l <;> simp [Rows.uptoBulk]
  | _ => simp [Rows.uptoBulk]
theorem bulk_all {H : Type} : ∀ l : List (DataW H), l.length ≤ Rows.uptoBulkAll l
  | [] => Nat.le_refl _
  | d :: l => by
    have h1 := bulk_pos d
    have h2 := bulk_all l
    simp only [Rows.uptoBulkAll, List.length_cons]; omega
theorem bulk_mem {H : Type} : ∀ (l : List (DataW H)) (d : DataW H), d ∈ l → Rows.uptoBulk d ≤ Rows.uptoBulkAll l
  | [], d, h => by cases h
  | x :: l, d, h => by
    simp only [Rows.uptoBulkAll]
    rcases List.mem_cons.1 h with rfl | h
    · omega
    · have := bulk_mem l d h; omega

/-- A list of numbers that came in. -/
theorem nums_in {H : Type} {enc : TypeId × Value → H} {W : World} {a : Option Addr} {len cap fuel : Nat} {d : DataW H} {p : List MemPlace} (h : DataW.trod enc Tryd.prog W 0 (fun _ => true) true fuel 24 (Value.slice a len cap).cells.toList = some (d, p)) (hB : Rows.uptoBulk d ≤ 1048576) (ht : Tab W) :
    ∃ l : List Int, l.length = len ∧ InL W a cap l ∧ (0 < len → ∀ b o, a = some ⟨b, o, none⟩ → b < W.heap.size) := by
  rcases open_ints Tryd.underlying24 Tryd.underlying3 (by kernel_rfl) h with ⟨hcs, _⟩ | ⟨x, l, c, zs, hcs, _, hl, hm, hz, hd, hcell, hwz⟩
  · simp [Value.cells] at hcs
    obtain ⟨rfl, rfl, rfl⟩ := hcs
    exact ⟨[], rfl, ⟨ht, src_none _ _, fun x hx => by simp at hx, by simp, by simp, fun _ => rfl⟩, fun h => by omega⟩
  · simp [Value.cells] at hcs
    obtain ⟨rfl, rfl, rfl⟩ := hcs
    have hz' : zs.length = cap := by simpa using hz
    have hb : len ≤ Rows.uptoBulk d := by
      rw [(Prod.mk.inj hd).1]
      have := bulk_all (lits (H := H) .i64 (zs.take len))
      have e : (lits (H := H) .i64 (zs.take len)).length = (zs.take len).length := by simp [lits]
      rw [e, List.length_take] at this
      unfold Rows.uptoBulk; omega
    have hll : (zs.take len).length = len := by rw [List.length_take]; omega
    by_cases h0 : 0 < len
    · obtain ⟨b, off, hx, hcc⟩ := ints_at (zs := zs) (w := W) hcell (show 0 < zs.length by omega)
      subst hx
      have hsrc : Src W (some ⟨b, off, none⟩) (ints (zs.take len)) := Src.of_int (fun i v hi => by
        rw [List.getElem?_take] at hi
        split at hi
        · rename_i hil
          have := hcc i (by omega)
          rw [List.getD_eq_getElem?_getD, hi] at this
          exact this
        · cases hi)
      refine ⟨zs.take len, hll, ⟨ht, hsrc, fun v hv => bounds_i64 (hwz v (List.mem_of_mem_take hv)), by omega, by omega, fun e => by cases e⟩, fun _ b' o' e => ?_⟩
      simp at e
      obtain ⟨rfl, rfl⟩ := e
      exact World.block_lt_of_cell? W ⟨b, off + 0, none⟩ (hcc 0 (by omega))
    · have e0 : len = 0 := by omega
      subst e0
      exact ⟨[], rfl, ⟨ht, src_none _ _, fun v hv => by simp at hv, by simp, by simp, fun e => by cases e⟩, fun h => absurd h h0⟩

set_option maxRecDepth 20000 in
/-- A configuration that came in. -/
theorem conf_in {H : Type} {enc : TypeId × Value → H} {W : World} {cs : Array Value} {fuel : Nat} {x : DataW H × List MemPlace} (hs : cs.size = Tryd.prog.cellsOf 46) (h : DataW.trod enc Tryd.prog W 0 (fun _ => true) true fuel 46 (Value.agg cs).cells.toList = some x) :
    ∃ B R V : Int, cs = #[.int .i64 B, .int .i64 R, .int .i64 V] ∧ I64 B ∧ I64 R ∧ I64 V := by
  obtain ⟨xs, k, hk, hxy, _, hxl, hf⟩ := DataW.trod_struct Tryd.underlying46 h
  rw [cells_ct] at hs
  obtain ⟨l⟩ := cs
  match l, hs, xs, hxl with
  | [v0, v1, v2], _, [y0, y1, y2], _ =>
    have g0 := hf 0 _ rfl
    have g1 := hf 1 _ rfl
    have g2 := hf 2 _ rfl
    simp [cells_int, Value.cells] at g0 g1 g2
    obtain ⟨z0, q0, _, w0⟩ := DataW.trod_int Tryd.underlying3 g0
    obtain ⟨z1, q1, _, w1⟩ := DataW.trod_int Tryd.underlying3 g1
    obtain ⟨z2, q2, _, w2⟩ := DataW.trod_int Tryd.underlying3 g2
    simp at q0 q1 q2
    subst q0 q1 q2
    exact ⟨z0, z1, z2, rfl, bounds_i64 w0, bounds_i64 w1, bounds_i64 w2⟩

set_option maxRecDepth 20000 in
/-- A script that came in. -/
theorem steps_in {H : Type} {enc : TypeId × Value → H} {Wd : World} {a : Option Addr} {len cap fuel : Nat} {d : DataW H} {p : List MemPlace} (h : DataW.trod enc Tryd.prog Wd 0 (fun _ => true) true fuel 47 (Value.slice a len cap).cells.toList = some (d, p)) (hB : Rows.uptoBulk d ≤ 1048576) (ht : Tab Wd) :
    ∃ (sb so : Nat) (W K A B : Nat → Int) (La : Nat → Option Addr) (Lc : Nat → Nat) (Ls : Nat → List Int), (0 < len → a = some ⟨sb, so, none⟩) ∧ Scr Wd Wd.heap.size sb so len W K A B La Lc Ls ∧ len ≤ 1048576 := by
  rcases Go.Deep.open_slice Tryd.underlying47 h with ⟨hcs, _⟩ | ⟨x, l, c, m, n, D, Pl, hcs, _, hl, hm, hmm, hx, hel⟩
  · simp [Value.cells] at hcs
    obtain ⟨rfl, rfl, rfl⟩ := hcs
    exact ⟨0, 0, fun _ => 0, fun _ => 0, fun _ => 0, fun _ => 0, fun _ => none, fun _ => 0, fun _ => [], fun h => by omega, ⟨fun i hi => by omega, fun i hi => by omega, fun i hi => by omega, fun i hi => by omega, fun i hi => by omega, fun i hi => by omega, fun i hi => by omega, fun i hi => by omega, fun i hi => by omega, fun i hi => by omega, fun i hi => by omega, fun i hi => by omega, fun i hi => by omega, fun i b o hi => by omega⟩, by omega⟩
  · simp [Value.cells] at hcs
    obtain ⟨rfl, rfl, rfl⟩ := hcs
    have hmc : m = cap := by simpa using hmm
    have hd : d = .slice ((List.range len).map D) ((List.range (m - len)).map fun j => D (len + j)) := (Prod.mk.inj hx).1
    have hDi : ∀ i, i < len → Rows.uptoBulk (D i) ≤ 1048576 := by
      intro i hi
      have := bulk_mem ((List.range len).map D) (D i) (List.mem_map.2 ⟨i, List.mem_range.2 hi, rfl⟩)
      rw [hd] at hB
      unfold Rows.uptoBulk at hB
      omega
    have hb : len ≤ 1048576 := by
      have := bulk_all ((List.range len).map D)
      simp at this
      rw [hd] at hB
      unfold Rows.uptoBulk at hB
      omega
    by_cases h0 : 0 < len
    · have each : ∀ i, ∃ q : Int × Int × Int × Int × Option Addr × Nat × List Int, i < len → Wd.cell? (x.add (i * 5)) = some (.int .i64 q.1) ∧ Wd.cell? (x.add (i * 5 + 1)) = some (.int .i64 q.2.1) ∧ Wd.cell? (x.add (i * 5 + 2)) = some (.int .i64 q.2.2.1) ∧ Wd.cell? (x.add (i * 5 + 3)) = some (.int .i64 q.2.2.2.1) ∧ Wd.cell? (x.add (i * 5 + 4)) = some (.slice q.2.2.2.2.1 q.2.2.2.2.2.2.length q.2.2.2.2.2.1) ∧ I64 q.1 ∧ I64 q.2.2.1 ∧ I64 q.2.2.2.1 ∧ InL Wd q.2.2.2.2.1 q.2.2.2.2.2.1 q.2.2.2.2.2.2 ∧ (0 < q.2.2.2.2.2.2.length → ∀ b o, q.2.2.2.2.1 = some ⟨b, o, none⟩ → b < Wd.heap.size) := by
        intro i
        by_cases hi : i < len
        · obtain ⟨cs', k1, k2⟩ := hel i (by omega)
          rw [cells_st] at k1
          obtain ⟨_, hlen, hcell⟩ := World.cells?_some k1
          obtain ⟨xs, k, hk, hxy, _, hxl, hf⟩ := DataW.trod_struct Tryd.underlying75 k2
          match xs, hxl, hxy, cs', hlen with
          | [y0, y1, y2, y3, (d4, p4)], _, hxy, [v0, v1, v2, v3, v4], _ =>
            have g0 := hf 0 _ rfl
            have g1 := hf 1 _ rfl
            have g2 := hf 2 _ rfl
            have g3 := hf 3 _ rfl
            have g4 := hf 4 _ rfl
            simp [cells_int, cells_si] at g0 g1 g2 g3 g4
            obtain ⟨z0, q0, _, w0⟩ := DataW.trod_int Tryd.underlying3 g0
            obtain ⟨z1, q1, _, w1⟩ := DataW.trod_int Tryd.underlying3 g1
            obtain ⟨z2, q2, _, w2⟩ := DataW.trod_int Tryd.underlying3 g2
            obtain ⟨z3, q3, _, w3⟩ := DataW.trod_int Tryd.underlying3 g3
            obtain ⟨a4, l4, c4, hv4⟩ : ∃ a4 l4 c4, v4 = .slice a4 l4 c4 := by
              rcases Go.Deep.open_slice Tryd.underlying24 g4 with ⟨e, _⟩ | ⟨x', l', c', _, _, _, _, e, _⟩
              · simp at e; exact ⟨_, _, _, e⟩
              · simp at e; exact ⟨_, _, _, e⟩
            have hb4 : Rows.uptoBulk d4 ≤ 1048576 := by
              have := hDi i hi
              have hDe : D i = .agg ([y0, y1, y2, y3, (d4, p4)].map (·.1)) := (Prod.mk.inj hxy).1
              rw [hDe] at this
              have h2 := bulk_mem ([y0, y1, y2, y3, (d4, p4)].map (·.1)) d4 (by simp)
              unfold Rows.uptoBulk at this
              omega
            subst hv4
            obtain ⟨L, hL, hin, hlow⟩ := nums_in (a := a4) (len := l4) (cap := c4) (by simpa [Value.cells] using g4) hb4 ht
            subst hL
            have e0 := hcell 0 (by omega)
            have e1 := hcell 1 (by omega)
            have e2 := hcell 2 (by omega)
            have e3 := hcell 3 (by omega)
            have e4 := hcell 4 (by omega)
            rw [Go.Deep.add_add] at e0 e1 e2 e3 e4
            simp at q0 q1 q2 q3 e0 e1 e2 e3 e4
            subst q0 q1 q2 q3
            exact ⟨(z0, z1, z2, z3, a4, c4, L), fun _ => ⟨e0, e1, e2, e3, e4, bounds_i64 w0, bounds_i64 w2, bounds_i64 w3, hin, hlow⟩⟩
        · exact ⟨(0, 0, 0, 0, none, 0, []), fun h => absurd h hi⟩
      obtain ⟨f, hf⟩ := Classical.axiomOfChoice each
      obtain ⟨b, off, spot⟩ := x
      have hspot : spot = none := by simpa [Addr.add] using World.cell?_spot (hf 0 h0).1
      subst hspot
      have g : ∀ i, i < len → Wd.cell? ⟨b, off + i * 5, none⟩ = some (.int .i64 (f i).1) ∧ Wd.cell? ⟨b, off + i * 5 + 1, none⟩ = some (.int .i64 (f i).2.1) ∧ Wd.cell? ⟨b, off + i * 5 + 2, none⟩ = some (.int .i64 (f i).2.2.1) ∧ Wd.cell? ⟨b, off + i * 5 + 3, none⟩ = some (.int .i64 (f i).2.2.2.1) ∧ Wd.cell? ⟨b, off + i * 5 + 4, none⟩ = some (.slice (f i).2.2.2.2.1 (f i).2.2.2.2.2.2.length (f i).2.2.2.2.2.1) := by
        intro i hi
        obtain ⟨e0, e1, e2, e3, e4, _⟩ := hf i hi
        simp only [Go.WideShapes.add_plain, ← Nat.add_assoc] at e0 e1 e2 e3 e4
        exact ⟨e0, e1, e2, e3, e4⟩
      refine ⟨b, off, fun i => (f i).1, fun i => (f i).2.1, fun i => (f i).2.2.1, fun i => (f i).2.2.2.1, fun i => (f i).2.2.2.2.1, fun i => (f i).2.2.2.2.2.1, fun i => (f i).2.2.2.2.2.2, fun _ => rfl, ⟨fun i hi => (g i hi).1, fun i hi => (g i hi).2.1, fun i hi => (g i hi).2.2.1, fun i hi => (g i hi).2.2.2.1, fun i hi => (g i hi).2.2.2.2, fun i hi => (hf i hi).2.2.2.2.2.1, fun i hi => (hf i hi).2.2.2.2.2.2.1, fun i hi => (hf i hi).2.2.2.2.2.2.2.1, fun i hi => (hf i hi).2.2.2.2.2.2.2.2.1.src, fun i hi => (hf i hi).2.2.2.2.2.2.2.2.1.rng, fun i hi => (hf i hi).2.2.2.2.2.2.2.2.1.len, fun i hi => (hf i hi).2.2.2.2.2.2.2.2.1.cap, fun i hi => (hf i hi).2.2.2.2.2.2.2.2.1.nil, fun i b o hi h0 e => (hf i hi).2.2.2.2.2.2.2.2.2 h0 b o e⟩, hb⟩
    · have e0 : len = 0 := by omega
      subst e0
      exact ⟨0, 0, fun _ => 0, fun _ => 0, fun _ => 0, fun _ => 0, fun _ => none, fun _ => 0, fun _ => [], fun h => by omega, ⟨fun i hi => by omega, fun i hi => by omega, fun i hi => by omega, fun i hi => by omega, fun i hi => by omega, fun i hi => by omega, fun i hi => by omega, fun i hi => by omega, fun i hi => by omega, fun i hi => by omega, fun i hi => by omega, fun i hi => by omega, fun i hi => by omega, fun i b o hi => by omega⟩, by omega⟩
end Go.Proofs.YtddpcjgekfmhkabDoor
