/- Texts joined: Of Pa Ow Pb Pc. -/
import Derived.Test.YtddpcjgekfmhkabDoorRows
import Derived.Test.YtddpcjgekfmhkabDoorM23
import Derived.WalkKit
import Derived.ProofKit
import Derived.OpenShut
import Derived.JoinedCond
import Derived.ChangeOld
import Derived.Below
import Derived.Deep.Slices
import Derived.Test.YtddpcjgekfmhkabDoorM17
import Derived.SizedLaws

/- What comes in: lists of numbers, configurations, scripts. -/
namespace Go.Proofs.YtddpcjgekfmhkabDoor
open Go.ChangeShapes Go.WideShapes Go.ChangeAt Go.RowKit
set_option linter.unusedVariables false

theorem own_knob : ownKnob Tryd.prog.godebug = none := by kernel_rfl
theorem laid_out : laidOutB Tryd.prog = true := by kernel_rfl
theorem cells_st : Tryd.prog.cellsOf 75 = 5 := by kernel_rfl
theorem cells_ct : Tryd.prog.cellsOf 46 = 3 := by kernel_rfl
theorem cells_int : Tryd.prog.cellsOf 3 = 1 := by kernel_rfl
theorem cells_si : Tryd.prog.cellsOf 24 = 1 := by kernel_rfl

theorem bulk_pos {H : Type} (d : DataW H) : 0 < Rows.uptoBulk d := by
  cases d with
  | lit l => cases l <;> simp [Rows.uptoBulk]
  | _ => simp [Rows.uptoBulk]
theorem bulk_all {H : Type} : ∀ l : List (DataW H), l.length ≤ Rows.uptoBulkAll l
  | [] => Nat.le_refl _
  | d :: l => by
    have h1 := bulk_pos d
    have h2 := bulk_all l
    simp only [Rows.uptoBulkAll, List.length_cons]; omega
theorem bulk_mem {H : Type} : ∀ (l : List (DataW H)) (d : DataW H), d ∈ l → Rows.uptoBulk d ≤ Rows.uptoBulkAll l
  | [], d, h => by cases h
  | x :: l, d, h => by
    simp only [Rows.uptoBulkAll]
    rcases List.mem_cons.1 h with rfl | h
    · omega
    · have := bulk_mem l d h; omega

/-- A list of numbers that came in. -/
theorem nums_in {H : Type} {enc : TypeId × Value → H} {W : World} {a : Option Addr} {len cap fuel : Nat} {d : DataW H} {p : List MemPlace} (h : DataW.trod enc Tryd.prog W 0 (fun _ => true) true fuel 24 (Value.slice a len cap).cells.toList = some (d, p)) (hB : Rows.uptoBulk d ≤ 1048576) (ht : Tab W) :
    ∃ l : List Int, l.length = len ∧ InL W a cap l ∧ (0 < len → ∀ b o, a = some ⟨b, o, none⟩ → b < W.heap.size) := by
  rcases open_ints Tryd.underlying24 Tryd.underlying3 (by kernel_rfl) h with ⟨hcs, _⟩ | ⟨x, l, c, zs, hcs, _, hl, hm, hz, hd, hcell, hwz⟩
  · simp [Value.cells] at hcs
    obtain ⟨rfl, rfl, rfl⟩ := hcs
    exact ⟨[], rfl, ⟨ht, src_none _ _, fun x hx => by simp at hx, by simp, by simp, fun _ => rfl⟩, fun h => by omega⟩
  · simp [Value.cells] at hcs
    obtain ⟨rfl, rfl, rfl⟩ := hcs
    have hz' : zs.length = cap := by simpa using hz
    have hb : len ≤ Rows.uptoBulk d := by
      rw [(Prod.mk.inj hd).1]
      have := bulk_all (lits (H := H) .i64 (zs.take len))
      have e : (lits (H := H) .i64 (zs.take len)).length = (zs.take len).length := by simp [lits]
      rw [e, List.length_take] at this
      unfold Rows.uptoBulk; omega
    have hll : (zs.take len).length = len := by rw [List.length_take]; omega
    by_cases h0 : 0 < len
    · obtain ⟨b, off, hx, hcc⟩ := ints_at (zs := zs) (w := W) hcell (show 0 < zs.length by omega)
      subst hx
      have hsrc : Src W (some ⟨b, off, none⟩) (ints (zs.take len)) := Src.of_int (fun i v hi => by
        rw [List.getElem?_take] at hi
        split at hi
        · rename_i hil
          have := hcc i (by omega)
          rw [List.getD_eq_getElem?_getD, hi] at this
          exact this
        · cases hi)
      refine ⟨zs.take len, hll, ⟨ht, hsrc, fun v hv => bounds_i64 (hwz v (List.mem_of_mem_take hv)), by omega, by omega, fun e => by cases e⟩, fun _ b' o' e => ?_⟩
      simp at e
      obtain ⟨rfl, rfl⟩ := e
      exact World.block_lt_of_cell? W ⟨b, off + 0, none⟩ (hcc 0 (by omega))
    · have e0 : len = 0 := by omega
      subst e0
      exact ⟨[], rfl, ⟨ht, src_none _ _, fun v hv => by simp at hv, by simp, by simp, fun e => by cases e⟩, fun h => absurd h h0⟩

set_option maxRecDepth 20000 in
/-- A configuration that came in. -/
theorem conf_in {H : Type} {enc : TypeId × Value → H} {W : World} {cs : Array Value} {fuel : Nat} {x : DataW H × List MemPlace} (hs : cs.size = Tryd.prog.cellsOf 46) (h : DataW.trod enc Tryd.prog W 0 (fun _ => true) true fuel 46 (Value.agg cs).cells.toList = some x) :
    ∃ B R V : Int, cs = #[.int .i64 B, .int .i64 R, .int .i64 V] ∧ I64 B ∧ I64 R ∧ I64 V := by
  obtain ⟨xs, k, hk, hxy, _, hxl, hf⟩ := DataW.trod_struct Tryd.underlying46 h
  rw [cells_ct] at hs
  obtain ⟨l⟩ := cs
  match l, hs, xs, hxl with
  | [v0, v1, v2], _, [y0, y1, y2], _ =>
    have g0 := hf 0 _ rfl
    have g1 := hf 1 _ rfl
    have g2 := hf 2 _ rfl
    simp [cells_int, Value.cells] at g0 g1 g2
    obtain ⟨z0, q0, _, w0⟩ := DataW.trod_int Tryd.underlying3 g0
    obtain ⟨z1, q1, _, w1⟩ := DataW.trod_int Tryd.underlying3 g1
    obtain ⟨z2, q2, _, w2⟩ := DataW.trod_int Tryd.underlying3 g2
    simp at q0 q1 q2
    subst q0 q1 q2
    exact ⟨z0, z1, z2, rfl, bounds_i64 w0, bounds_i64 w1, bounds_i64 w2⟩

set_option maxRecDepth 20000 in
/-- A script that came in. -/
theorem steps_in {H : Type} {enc : TypeId × Value → H} {Wd : World} {a : Option Addr} {len cap fuel : Nat} {d : DataW H} {p : List MemPlace} (h : DataW.trod enc Tryd.prog Wd 0 (fun _ => true) true fuel 47 (Value.slice a len cap).cells.toList = some (d, p)) (hB : Rows.uptoBulk d ≤ 1048576) (ht : Tab Wd) :
    ∃ (sb so : Nat) (W K A B : Nat → Int) (La : Nat → Option Addr) (Lc : Nat → Nat) (Ls : Nat → List Int), (0 < len → a = some ⟨sb, so, none⟩) ∧ Scr Wd Wd.heap.size sb so len W K A B La Lc Ls ∧ len ≤ 1048576 := by
  rcases Go.Deep.open_slice Tryd.underlying47 h with ⟨hcs, _⟩ | ⟨x, l, c, m, n, D, Pl, hcs, _, hl, hm, hmm, hx, hel⟩
  · simp [Value.cells] at hcs
    obtain ⟨rfl, rfl, rfl⟩ := hcs
    exact ⟨0, 0, fun _ => 0, fun _ => 0, fun _ => 0, fun _ => 0, fun _ => none, fun _ => 0, fun _ => [], fun h => by omega, ⟨fun i hi => by omega, fun i hi => by omega, fun i hi => by omega, fun i hi => by omega, fun i hi => by omega, fun i hi => by omega, fun i hi => by omega, fun i hi => by omega, fun i hi => by omega, fun i hi => by omega, fun i hi => by omega, fun i hi => by omega, fun i hi => by omega, fun i b o hi => by omega⟩, by omega⟩
  · simp [Value.cells] at hcs
    obtain ⟨rfl, rfl, rfl⟩ := hcs
    have hmc : m = cap := by simpa using hmm
    have hd : d = .slice ((List.range len).map D) ((List.range (m - len)).map fun j => D (len + j)) := (Prod.mk.inj hx).1
    have hDi : ∀ i, i < len → Rows.uptoBulk (D i) ≤ 1048576 := by
      intro i hi
      have := bulk_mem ((List.range len).map D) (D i) (List.mem_map.2 ⟨i, List.mem_range.2 hi, rfl⟩)
      rw [hd] at hB
      unfold Rows.uptoBulk at hB
      omega
    have hb : len ≤ 1048576 := by
      have := bulk_all ((List.range len).map D)
      simp at this
      rw [hd] at hB
      unfold Rows.uptoBulk at hB
      omega
    by_cases h0 : 0 < len
    · have each : ∀ i, ∃ q : Int × Int × Int × Int × Option Addr × Nat × List Int, i < len → Wd.cell? (x.add (i * 5)) = some (.int .i64 q.1) ∧ Wd.cell? (x.add (i * 5 + 1)) = some (.int .i64 q.2.1) ∧ Wd.cell? (x.add (i * 5 + 2)) = some (.int .i64 q.2.2.1) ∧ Wd.cell? (x.add (i * 5 + 3)) = some (.int .i64 q.2.2.2.1) ∧ Wd.cell? (x.add (i * 5 + 4)) = some (.slice q.2.2.2.2.1 q.2.2.2.2.2.2.length q.2.2.2.2.2.1) ∧ I64 q.1 ∧ I64 q.2.2.1 ∧ I64 q.2.2.2.1 ∧ InL Wd q.2.2.2.2.1 q.2.2.2.2.2.1 q.2.2.2.2.2.2 ∧ (0 < q.2.2.2.2.2.2.length → ∀ b o, q.2.2.2.2.1 = some ⟨b, o, none⟩ → b < Wd.heap.size) := by
        intro i
        by_cases hi : i < len
        · obtain ⟨cs', k1, k2⟩ := hel i (by omega)
          rw [cells_st] at k1
          obtain ⟨_, hlen, hcell⟩ := World.cells?_some k1
          obtain ⟨xs, k, hk, hxy, _, hxl, hf⟩ := DataW.trod_struct Tryd.underlying75 k2
          match xs, hxl, hxy, cs', hlen with
          | [y0, y1, y2, y3, (d4, p4)], _, hxy, [v0, v1, v2, v3, v4], _ =>
            have g0 := hf 0 _ rfl
            have g1 := hf 1 _ rfl
            have g2 := hf 2 _ rfl
            have g3 := hf 3 _ rfl
            have g4 := hf 4 _ rfl
            simp [cells_int, cells_si] at g0 g1 g2 g3 g4
            obtain ⟨z0, q0, _, w0⟩ := DataW.trod_int Tryd.underlying3 g0
            obtain ⟨z1, q1, _, w1⟩ := DataW.trod_int Tryd.underlying3 g1
            obtain ⟨z2, q2, _, w2⟩ := DataW.trod_int Tryd.underlying3 g2
            obtain ⟨z3, q3, _, w3⟩ := DataW.trod_int Tryd.underlying3 g3
            obtain ⟨a4, l4, c4, hv4⟩ : ∃ a4 l4 c4, v4 = .slice a4 l4 c4 := by
              rcases Go.Deep.open_slice Tryd.underlying24 g4 with ⟨e, _⟩ | ⟨x', l', c', _, _, _, _, e, _⟩
              · simp at e; exact ⟨_, _, _, e⟩
              · simp at e; exact ⟨_, _, _, e⟩
            have hb4 : Rows.uptoBulk d4 ≤ 1048576 := by
              have := hDi i hi
              have hDe : D i = .agg ([y0, y1, y2, y3, (d4, p4)].map (·.1)) := (Prod.mk.inj hxy).1
              rw [hDe] at this
              have h2 := bulk_mem ([y0, y1, y2, y3, (d4, p4)].map (·.1)) d4 (by simp)
              unfold Rows.uptoBulk at this
              omega
            subst hv4
            obtain ⟨L, hL, hin, hlow⟩ := nums_in (a := a4) (len := l4) (cap := c4) (by simpa [Value.cells] using g4) hb4 ht
            subst hL
            have e0 := hcell 0 (by omega)
            have e1 := hcell 1 (by omega)
            have e2 := hcell 2 (by omega)
            have e3 := hcell 3 (by omega)
            have e4 := hcell 4 (by omega)
            rw [Go.Deep.add_add] at e0 e1 e2 e3 e4
            simp at q0 q1 q2 q3 e0 e1 e2 e3 e4
            subst q0 q1 q2 q3
            exact ⟨(z0, z1, z2, z3, a4, c4, L), fun _ => ⟨e0, e1, e2, e3, e4, bounds_i64 w0, bounds_i64 w2, bounds_i64 w3, hin, hlow⟩⟩
        · exact ⟨(0, 0, 0, 0, none, 0, []), fun h => absurd h hi⟩
      obtain ⟨f, hf⟩ := Classical.axiomOfChoice each
      obtain ⟨b, off, spot⟩ := x
      have hspot : spot = none := by simpa [Addr.add] using World.cell?_spot (hf 0 h0).1
      subst hspot
      have g : ∀ i, i < len → Wd.cell? ⟨b, off + i * 5, none⟩ = some (.int .i64 (f i).1) ∧ Wd.cell? ⟨b, off + i * 5 + 1, none⟩ = some (.int .i64 (f i).2.1) ∧ Wd.cell? ⟨b, off + i * 5 + 2, none⟩ = some (.int .i64 (f i).2.2.1) ∧ Wd.cell? ⟨b, off + i * 5 + 3, none⟩ = some (.int .i64 (f i).2.2.2.1) ∧ Wd.cell? ⟨b, off + i * 5 + 4, none⟩ = some (.slice (f i).2.2.2.2.1 (f i).2.2.2.2.2.2.length (f i).2.2.2.2.2.1) := by
        intro i hi
        obtain ⟨e0, e1, e2, e3, e4, _⟩ := hf i hi
        simp only [Go.WideShapes.add_plain, ← Nat.add_assoc] at e0 e1 e2 e3 e4
        exact ⟨e0, e1, e2, e3, e4⟩
      refine ⟨b, off, fun i => (f i).1, fun i => (f i).2.1, fun i => (f i).2.2.1, fun i => (f i).2.2.2.1, fun i => (f i).2.2.2.2.1, fun i => (f i).2.2.2.2.2.1, fun i => (f i).2.2.2.2.2.2, fun _ => rfl, ⟨fun i hi => (g i hi).1, fun i hi => (g i hi).2.1, fun i hi => (g i hi).2.2.1, fun i hi => (g i hi).2.2.2.1, fun i hi => (g i hi).2.2.2.2, fun i hi => (hf i hi).2.2.2.2.2.1, fun i hi => (hf i hi).2.2.2.2.2.2.1, fun i hi => (hf i hi).2.2.2.2.2.2.2.1, fun i hi => (hf i hi).2.2.2.2.2.2.2.2.1.src, fun i hi => (hf i hi).2.2.2.2.2.2.2.2.1.rng, fun i hi => (hf i hi).2.2.2.2.2.2.2.2.1.len, fun i hi => (hf i hi).2.2.2.2.2.2.2.2.1.cap, fun i hi => (hf i hi).2.2.2.2.2.2.2.2.1.nil, fun i b o hi h0 e => (hf i hi).2.2.2.2.2.2.2.2.2 h0 b o e⟩, hb⟩
    · have e0 : len = 0 := by omega
      subst e0
      exact ⟨0, 0, fun _ => 0, fun _ => 0, fun _ => 0, fun _ => 0, fun _ => none, fun _ => 0, fun _ => [], fun h => by omega, ⟨fun i hi => by omega, fun i hi => by omega, fun i hi => by omega, fun i hi => by omega, fun i hi => by omega, fun i hi => by omega, fun i hi => by omega, fun i hi => by omega, fun i hi => by omega, fun i hi => by omega, fun i hi => by omega, fun i hi => by omega, fun i hi => by omega, fun i b o hi => by omega⟩, by omega⟩
end Go.Proofs.YtddpcjgekfmhkabDoor

/- The laws without the document's answer: pick, fit, small. -/
namespace Go.Proofs.YtddpcjgekfmhkabDoor
open Go.RowKit
set_option linter.unusedSimpArgs false
set_option linter.unusedVariables false

/-- A list that came in, of any length that memory bears. -/
structure InW (w : World) (a : Option Addr) (c : Nat) (l : List Int) : Prop where
  tab : Tab w
  src : Src w a (ints l)
  rng : Rng l
  len : l.length ≤ 17592186044416
  cap : l.length ≤ c
  nil : a = none → c = 0
theorem InW.bt {w w' : World} {a : Option Addr} {c : Nat} {l : List Int} (h : InW w a c l) (b : Bt (fun _ => False) w w') : InW w' a c l := ⟨h.tab.bt b (fun x => x), h.src.bt b (fun _ _ _ x => x), h.rng, h.len, h.cap, h.nil⟩

theorem pick_keep (c n : Int) (w : World) (h1 : -9223372036854775808 ≤ c) (h2 : c ≤ 9223372036854775807) (h3 : 0 < n) (h4 : n ≤ 4294967296) :
    Calls Tryd.prog 11 #[.int .i64 c, .int .i64 n] w fun e w' => e = .returned (.int .i64 (pickv c n)) ∧ w' = w := by
  have hr := pickv_range c n h3
  have hn0 : ¬ n = 0 := by omega
  by_cases hc : c < 0
  · have e1 : Hid (pickv c n = Int.tmod (-(c + 1)) n) := by show pickv c n = _; unfold pickv; rw [if_pos hc, Int.tmod_eq_emod_of_nonneg (by omega)]
    have e2 : Hid (pickv c n = (-(c + 1)) % n) := by show pickv c n = _; unfold pickv; rw [if_pos hc]
    rw [e1.out] at hr
    go_enter Tryd.func11, Tryd.ntmps11
    go_wp2
    go_ret
    exact ⟨by first | (rw [e1.out]; rfl) | (rw [e1.out, Int.neg_tmod]; rfl) | (rw [e2.out]; rfl), rfl⟩
  · have e1 : Hid (pickv c n = Int.tmod c n) := by show pickv c n = _; unfold pickv; rw [if_neg hc, Int.tmod_eq_emod_of_nonneg (by omega)]
    have e2 : Hid (pickv c n = c % n) := by show pickv c n = _; unfold pickv; rw [if_neg hc]
    rw [e1.out] at hr
    go_enter Tryd.func11, Tryd.ntmps11
    go_wp2
    go_ret
    exact ⟨by first | (rw [e1.out]; rfl) | (rw [e2.out]; rfl), rfl⟩

/-- What fit gives: a configuration that is one. -/
def FitQ (w : World) (e : Ending) (w' : World) : Prop := ∃ B V : Int, e = .returned (.agg #[.int .i64 B, .int .i64 65536, .int .i64 V]) ∧ okBlock B ∧ 1 ≤ V ∧ V ≤ 64 ∧ Bt (fun _ => False) w w'

set_option maxHeartbeats 1000000 in
theorem fit_law (B R V : Int) (w : World) (hB : -9223372036854775808 ≤ B ∧ B ≤ 9223372036854775807) (hV : -9223372036854775808 ≤ V ∧ V ≤ 9223372036854775807) :
    Calls Tryd.prog 9 #[.agg #[.int .i64 B, .int .i64 R, .int .i64 V]] w fun e w' => FitQ w e w' := by
  have C5 := fun w => pick_keep B 5 w hB.1 hB.2 (by omega) (by omega)
  have C6 := fun w => pick_keep V 64 w hV.1 hV.2 (by omega) (by omega)
  have r5 := pickv_range B 5 (by omega)
  have r6 := pickv_range V 64 (by omega)
  generalize pickv B 5 = p at *
  generalize pickv V 64 = q at *
  have HE : Hid (∀ (b : Int) (w' : World), okBlock b → Bt (fun _ => False) w w' → FitQ w (.returned (.agg #[.int .i64 b, .int .i64 65536, .int .i64 (1 + q)])) w') := fun b w' h1 h2 => ⟨b, 1 + q, rfl, h1, by omega, by omega, h2⟩
  have hp : p = 0 ∨ p = 1 ∨ p = 2 ∨ p = 3 ∨ p = 4 := by omega
  rcases hp with rfl | rfl | rfl | rfl | rfl
  · go_enter Tryd.func9, Tryd.ntmps9
    go_wp2_with (first
      | (go_at_call 11; have _t := C5; refine (C5 _).mono ?_; clear C5; rintro e w' ⟨rfl, hw⟩; subst w')
      | (go_at_call 11; refine (C6 _).mono ?_; rintro e w' ⟨rfl, hw⟩; subst w'))
    exact bodyPost_ret (v := .agg #[.int .i64 16, .int .i64 65536, .int .i64 (1 + q)]) (by simp [results, Tryd.results9, go_sem]) rfl (HE.out 16 _ (by unfold okBlock; omega) (by repeat (first | exact Bt.refl _ _ | apply Bt.drewN | apply Bt.drew | apply Bt.alloc | refine Bt.setCell ?_ (by first | (simp; done) | (simp; omega) | (intro h; simp at h; omega)) _)))
  · go_enter Tryd.func9, Tryd.ntmps9
    go_wp2_with (first
      | (go_at_call 11; have _t := C5; refine (C5 _).mono ?_; clear C5; rintro e w' ⟨rfl, hw⟩; subst w')
      | (go_at_call 11; refine (C6 _).mono ?_; rintro e w' ⟨rfl, hw⟩; subst w'))
    exact bodyPost_ret (v := .agg #[.int .i64 32, .int .i64 65536, .int .i64 (1 + q)]) (by simp [results, Tryd.results9, go_sem]) rfl (HE.out 32 _ (by unfold okBlock; omega) (by repeat (first | exact Bt.refl _ _ | apply Bt.drewN | apply Bt.drew | apply Bt.alloc | refine Bt.setCell ?_ (by first | (simp; done) | (simp; omega) | (intro h; simp at h; omega)) _)))
  · go_enter Tryd.func9, Tryd.ntmps9
    go_wp2_with (first
      | (go_at_call 11; have _t := C5; refine (C5 _).mono ?_; clear C5; rintro e w' ⟨rfl, hw⟩; subst w')
      | (go_at_call 11; refine (C6 _).mono ?_; rintro e w' ⟨rfl, hw⟩; subst w'))
    exact bodyPost_ret (v := .agg #[.int .i64 64, .int .i64 65536, .int .i64 (1 + q)]) (by simp [results, Tryd.results9, go_sem]) rfl (HE.out 64 _ (by unfold okBlock; omega) (by repeat (first | exact Bt.refl _ _ | apply Bt.drewN | apply Bt.drew | apply Bt.alloc | refine Bt.setCell ?_ (by first | (simp; done) | (simp; omega) | (intro h; simp at h; omega)) _)))
  · go_enter Tryd.func9, Tryd.ntmps9
    go_wp2_with (first
      | (go_at_call 11; have _t := C5; refine (C5 _).mono ?_; clear C5; rintro e w' ⟨rfl, hw⟩; subst w')
      | (go_at_call 11; refine (C6 _).mono ?_; rintro e w' ⟨rfl, hw⟩; subst w'))
    exact bodyPost_ret (v := .agg #[.int .i64 128, .int .i64 65536, .int .i64 (1 + q)]) (by simp [results, Tryd.results9, go_sem]) rfl (HE.out 128 _ (by unfold okBlock; omega) (by repeat (first | exact Bt.refl _ _ | apply Bt.drewN | apply Bt.drew | apply Bt.alloc | refine Bt.setCell ?_ (by first | (simp; done) | (simp; omega) | (intro h; simp at h; omega)) _)))
  · go_enter Tryd.func9, Tryd.ntmps9
    go_wp2_with (first
      | (go_at_call 11; have _t := C5; refine (C5 _).mono ?_; clear C5; rintro e w' ⟨rfl, hw⟩; subst w')
      | (go_at_call 11; refine (C6 _).mono ?_; rintro e w' ⟨rfl, hw⟩; subst w'))
    exact bodyPost_ret (v := .agg #[.int .i64 256, .int .i64 65536, .int .i64 (1 + q)]) (by simp [results, Tryd.results9, go_sem]) rfl (HE.out 256 _ (by unfold okBlock; omega) (by repeat (first | exact Bt.refl _ _ | apply Bt.drewN | apply Bt.drew | apply Bt.alloc | refine Bt.setCell ?_ (by first | (simp; done) | (simp; omega) | (intro h; simp at h; omega)) _)))

/-- What small gives: up to so many numbers, one at least. -/
def SmallQ (w : World) (most : Nat) (e : Ending) (w' : World) : Prop := ∃ a c l, e = .returned (.slice a (List.length l) c) ∧ Lst w' w.heap.size 3 1 (.slice a l.length c) (ints l) ∧ 1 ≤ l.length ∧ l.length ≤ most ∧ (∀ x ∈ l, -30000 ≤ x ∧ x ≤ 30000) ∧ Bt (fun _ => False) w w'

set_option maxHeartbeats 2000000 in
theorem small_law (a : Option Addr) (c : Nat) (l : List Int) (most : Nat) (w : World) (src : Src w a (ints l)) (hr : Rng l) (hl : l.length ≤ 17592186044416) (hm : 1 ≤ most) (hm2 : most ≤ 1000) :
    Calls Tryd.prog 7 #[.slice a l.length c, .int .i64 most] w fun e w' => SmallQ w most e w' := by
  have HS : Hid (∀ i, i < l.length → (∃ b o, a = some ⟨b, o, none⟩ ∧ w.cell? ⟨b, o + i, none⟩ = some (.int .i64 (at0 l i))) ∧ -9223372036854775808 ≤ at0 l i ∧ at0 l i ≤ 9223372036854775807) := fun i hi => ⟨src.int (at0_some hi), hr.at (at0_some hi)⟩
  have HE : Hid (∀ v k w', Lst w' w.heap.size 3 1 v (ints k) → 1 ≤ k.length → k.length ≤ most → (∀ x ∈ k, -30000 ≤ x ∧ x ≤ 30000) → Bt (fun _ => False) w w' → SmallQ w most (.returned v) w') := by
    intro v k w' q1 q2 q3 q4 q5
    obtain ⟨a', c', hv, _, _⟩ := q1.form
    rw [ints_len] at hv
    exact ⟨a', c', k, by rw [hv], hv ▸ q1, q2, q3, q4, q5⟩
  have HAP : Hid (∀ (vo : Value) (wr : World) (y : Int) (l : List Int), Lst wr w.heap.size 3 1 vo (ints l) → Bt (fun _ => False) w wr → l.length < 1000 →
      ∃ v9 w9, (Builtin.append_ #[24, 24] 24 #[vo, .slice (some ⟨wr.heap.size, 0, none⟩) 1 1]).run Tryd.prog (wr.alloc (.cells #[.int .i64 y] 3)) = .ok v9 w9 ∧ Lst w9 w.heap.size 3 1 v9 (ints (l ++ [y])) ∧ Bt (fun _ => False) w w9) := by
    intro vo wr y l q b hlt
    have b1 : Bt (fun _ => False) wr (wr.alloc (.cells #[.int .i64 y] 3)) := (Bt.refl _ _).alloc _
    obtain ⟨v9, w9, hr, h9, b9, _⟩ := append_nums (w := wr.alloc (.cells #[.int .i64 y] 3)) 24 w.heap.size vo l (q.bt b1 (fun _ _ x => x)) (some ⟨wr.heap.size, 0, none⟩) 1 1 [y] rfl (Src.of_int (fun j x hj => by
      have hj0 : j = 0 := by
        rcases Nat.eq_zero_or_pos j with e | e
        · exact e
        · rw [List.getElem?_eq_none (by simp; omega)] at hj; cases hj
      subst hj0
      simp at hj
      subst hj
      exact World.cell?_alloc_at _ _ _ _ rfl)) (by omega) (Nat.le_trans b.size b1.size)
    exact ⟨v9, w9, hr, h9, (b.trans b1 (fun _ _ x => x)).trans b9 (fun k hk e => by have := (q.ge e).1; omega)⟩
  have HONE : Hid (∀ wr : World, Bt (fun _ => False) w wr → SmallQ w most (.returned (.slice (some ⟨wr.heap.size, 0, none⟩) 1 1)) (wr.alloc (.cells #[.int .i64 1] 3))) := by
    intro wr b
    refine ⟨_, _, [1], rfl, ⟨ints_el _, .inr ⟨wr.heap.size, 0, 1, [[.int .i64 1]], by simp [ints], b.size, ?_, fun e he => ?_, by simp, by simp [ints], by unfold maxLen; omega, by simp [ints]⟩⟩, by simp, by simpa using hm, fun x hx => by simp at hx; omega, b.alloc _⟩
    · show (wr.heap.push _)[wr.heap.size]? = _
      simp
    · simp at he; subst he; exact ⟨rfl, fun v hv => by simp at hv; subst hv; rfl⟩
  obtain ⟨n, hn⟩ : ∃ n, l.length = n := ⟨_, rfl⟩
  rw [hn] at HS hl ⊢
  clear src hr hn
  go_enter Tryd.func7, Tryd.ntmps7
  go_wp2
  go_loopw [5, 6] (fun to ti wr => ∃ (i : Nat) (vo : Value) (k : List Int), vo = to ∧ ti = .int .i64 i ∧ i ≤ n ∧ i ≤ most ∧ Hid (Lst wr w.heap.size 3 1 vo (ints k) ∧ k.length = i ∧ (∀ x ∈ k, -30000 ≤ x ∧ x ≤ 30000) ∧ Bt (fun _ => False) w wr)) (fun _ ti _ => n - (intOf ti).toNat)
  case atStart => exact ⟨0, _, [], rfl, rfl, Nat.zero_le _, Nat.zero_le _, Lst.nil _ _ _ _, rfl, fun x hx => by simp at hx, Bt.refl _ _⟩
  case round =>
    obtain ⟨i, vo, k, hvo, rfl, hi, him, HI⟩ := hrel
    subst hvo
    by_cases hgo : i < n ∧ i < most
    · obtain ⟨hlt, hlm⟩ := hgo
      have hlt1 : (i : Int) < (n : Int) := by omega
      have hlm1 : (i : Int) < (most : Int) := by omega
      obtain ⟨⟨b, o, rfl, ci⟩, r0, r1⟩ := HS.out i hlt
      have ci1 := HI.out.2.2.2.cell (fun x => x) ci
      generalize at0 l i = x at *
      have CK := fun w => pick_keep x 60001 w r0 r1 (by omega) (by omega)
      have hp := pickv_range x 60001 (by omega)
      generalize pickv x 60001 = p at *
      obtain ⟨v9, w9, hr9, h9, b9⟩ := HAP.out vo wr (p - 30000) k HI.out.1 HI.out.2.2.2 (by rw [HI.out.2.1]; omega)
      have H9 : Hid (Lst w9 w.heap.size 3 1 v9 (ints (k ++ [p - 30000])) ∧ Bt (fun _ => False) w w9) := ⟨h9, b9⟩
      clear h9 b9 ci
      go_wp2_with (first
        | (go_at_call 11; refine (CK _).mono ?_; rintro e w' ⟨rfl, hw⟩; subst w')
        | (at_builtin; refine wpList_append_run rfl _ _ 24 24 rfl _ _ _ _ rfl rfl hr9 ?_))
      go_roundw
      case rel =>
        refine ⟨i + 1, v9, k ++ [p - 30000], rfl, by go_num, by omega, by omega, H9.out.1, by rw [List.length_append, HI.out.2.1]; rfl, ?_, H9.out.2⟩
        intro y hy
        rcases List.mem_append.1 hy with hy | hy
        · exact HI.out.2.2.1 y hy
        · simp at hy; omega
      case measure => simp [intOf]; omega
    · obtain ⟨a5, c5, hv5, _, _⟩ := HI.out.1.form
      rw [ints_len, HI.out.2.1] at hv5
      by_cases hi0 : i = 0
      · subst hi0
        have hfor : ¬ ((0 : Nat) < n) := by omega
        obtain rfl : n = 0 := by omega
        subst hv5
        go_wp2
        go_ret
        exact HONE.out _ HI.out.2.2.2
      · have hi1 : ¬ (i : Int) = 0 := by omega
        by_cases hlt : i < n
        · have hlt1 : (i : Int) < (n : Int) := by omega
          have hlm1 : ¬ (i : Int) < (most : Int) := by omega
          have HI2 : Hid (SmallQ w most (.returned vo) wr) := HE.out vo k wr HI.out.1 (by rw [HI.out.2.1]; omega) (by rw [HI.out.2.1]; omega) HI.out.2.2.1 HI.out.2.2.2
          subst hv5
          go_wp2
          go_ret
          exact HI2.out
        · have hlt1 : ¬ (i : Int) < (n : Int) := by omega
          have HI2 : Hid (SmallQ w most (.returned vo) wr) := HE.out vo k wr HI.out.1 (by rw [HI.out.2.1]; omega) (by rw [HI.out.2.1]; omega) HI.out.2.2.1 HI.out.2.2.2
          subst hv5
          go_wp2
          go_ret
          exact HI2.out
end Go.Proofs.YtddpcjgekfmhkabDoor

/- What comes in, of any length that memory bears: a list of numbers. -/
namespace Go.Proofs.YtddpcjgekfmhkabDoor
open Go.ChangeShapes Go.WideShapes Go.ChangeAt Go.RowKit
set_option linter.unusedVariables false

theorem bytes_int : Tryd.prog.bytesOf 3 = 8 := by kernel_rfl

/-- A list of numbers that came in. -/
theorem nums_wide {H : Type} {enc : TypeId × Value → H} {W : World} {a : Option Addr} {len cap fuel : Nat} {d : DataW H} {p : List MemPlace} (h : DataW.trod enc Tryd.prog W 0 (fun _ => true) true fuel 24 (Value.slice a len cap).cells.toList = some (d, p)) (hB : ∀ es sp, d = .slice es sp → (es.length + sp.length) * Tryd.prog.bytesOf 3 ≤ reachBytes) (ht : Tab W) :
    ∃ l : List Int, l.length = len ∧ InW W a cap l := by
  rcases open_ints Tryd.underlying24 Tryd.underlying3 (by kernel_rfl) h with ⟨hcs, _⟩ | ⟨x, l, c, zs, hcs, _, hl, hm, hz, hd, hcell, hwz⟩
  · simp [Value.cells] at hcs
    obtain ⟨rfl, rfl, rfl⟩ := hcs
    exact ⟨[], rfl, ⟨ht, src_none _ _, fun x hx => by simp at hx, by simp, by simp, fun _ => rfl⟩⟩
  · simp [Value.cells] at hcs
    obtain ⟨rfl, rfl, rfl⟩ := hcs
    have hz' : zs.length = cap := by simpa using hz
    have hb : len ≤ 17592186044416 := by
      have := hB _ _ (Prod.mk.inj hd).1
      rw [bytes_int] at this
      simp only [lits, List.length_map, List.length_take, List.length_drop, reachBytes] at this
      omega
    have hll : (zs.take len).length = len := by rw [List.length_take]; omega
    by_cases h0 : 0 < len
    · obtain ⟨b, off, hx, hcc⟩ := ints_at (zs := zs) (w := W) hcell (show 0 < zs.length by omega)
      subst hx
      have hsrc : Src W (some ⟨b, off, none⟩) (ints (zs.take len)) := Src.of_int (fun i v hi => by
        rw [List.getElem?_take] at hi
        split at hi
        · rename_i hil
          have := hcc i (by omega)
          rw [List.getD_eq_getElem?_getD, hi] at this
          exact this
        · cases hi)
      exact ⟨zs.take len, hll, ⟨ht, hsrc, fun v hv => bounds_i64 (hwz v (List.mem_of_mem_take hv)), by omega, by omega, fun e => by cases e⟩⟩
    · have e0 : len = 0 := by omega
      subst e0
      exact ⟨[], rfl, ⟨ht, src_none _ _, fun v hv => by simp at hv, by simp, by simp, fun e => by cases e⟩⟩
end Go.Proofs.YtddpcjgekfmhkabDoor

/- What a filter gives for samples that are pushed in pieces: the mathematics. -/
namespace Go.Proofs.YtddpcjgekfmhkabDoor
set_option linter.unusedVariables false

def yv (h x : List Int) (n : Nat) : Int := flt h.length (at0 h) (at0 x) n
def gen (h x : List Int) (m : Nat) : List Int := (List.range m).map (yv h x)
theorem gen_len (h x : List Int) (m : Nat) : (gen h x m).length = m := by simp [gen]
theorem gen_at (h x : List Int) (m i : Nat) (hi : i < m) : at0 (gen h x m) i = yv h x i := by
  unfold at0 gen
  rw [List.getD_eq_getElem?_getD, List.getElem?_map, List.getElem?_range hi]; rfl
theorem flt_congr {L : Nat} {h z z' : Nat → Int} {n : Nat} (e : ∀ i, i ≤ n → z i = z' i) : flt L h z n = flt L h z' n := by
  induction L with
  | zero => rfl
  | succ L ih =>
    rw [flt_succ, flt_succ, ih]
    by_cases hl : L ≤ n
    · rw [if_pos hl, if_pos hl, e (n - L) (by omega)]
    · rw [if_neg hl, if_neg hl]
theorem at0_take (x : List Int) (k i : Nat) (hi : i < k) : at0 (x.take k) i = at0 x i := by
  unfold at0
  rw [List.getD_eq_getElem?_getD, List.getD_eq_getElem?_getD, List.getElem?_take, if_pos hi]
theorem at0_zeros (x : List Int) (m i : Nat) : at0 (x ++ List.replicate m 0) i = at0 x i := by
  unfold at0
  rw [List.getD_eq_getElem?_getD, List.getD_eq_getElem?_getD]
  by_cases h : i < x.length
  · rw [List.getElem?_append_left h]
  · rw [List.getElem?_append_right (by omega), List.getElem?_eq_none (by omega : x.length ≤ i), List.getElem?_replicate]
    split <;> rfl

/-- A filter with one list of taps, and samples of x up to some place. -/
structure Run (s : FlS) (bn : Nat) (h x : List Int) (P : Nat) : Prop where
  ok : s.Ok
  B : s.B = bn
  R : s.R = 65536
  parts : s.parts = [(0, h)]
  pulled : s.pulled = P
  y : ∀ n, n < s.X.length → s.y n = yv h x n

theorem run_y {s : FlS} {h x : List Int} (hp : s.parts = [(0, h)]) (hX : ∀ i, i < s.X.length → at0 s.X i = at0 x i) (n : Nat) (hn : n < s.X.length) : s.y n = yv h x n := by
  unfold FlS.y yv
  have e : tapsAt s.parts n [] = h := by rw [hp]; simp [tapsAt]
  rw [e]
  exact flt_congr (fun i hi => hX i (by omega))

theorem run_fresh {B V : Int} {h x : List Int} (hB : okBlock B) (hV : 1 ≤ V ∧ V ≤ 64) (ht : okTaps h) : Run (FlS.fresh B.toNat 65536 V.toNat h) B.toNat h x 0 ∧ (FlS.fresh B.toNat 65536 V.toNat h).X = [] := by
  have ok : okConf B 65536 V := ⟨hB, by unfold okBlock at hB; omega, by omega, hV.1, hV.2⟩
  have := FlS.Ok.fresh ok ht
  exact ⟨⟨this, rfl, rfl, rfl, rfl, fun n hn => by simp [FlS.fresh] at hn⟩, rfl⟩

theorem run_push {s : FlS} {bn P : Nat} {h x : List Int} {k n : Nat} (r : Run s bn h x P) (hX : s.X = x.take k) (hk : k + n ≤ x.length) (hx : x.length ≤ 1000) (hs : ∀ v ∈ x, okSample v) :
    pushR s ((x.drop k).take n) = n ∧ pushE s ((x.drop k).take n) = 0 ∧ Run (pushS s ((x.drop k).take n)) bn h x P ∧ (pushS s ((x.drop k).take n)).X = x.take (k + n) := by
  have hall : ∀ v ∈ (x.drop k).take n, okSample v := fun v hv => hs v (List.mem_of_mem_drop (List.mem_of_mem_take hv))
  have hl : ((x.drop k).take n).length = n := by rw [List.length_take, List.length_drop]; omega
  have hXl : s.X.length = k := by rw [hX, List.length_take]; omega
  have hN : pushN s ((x.drop k).take n) = n := by
    unfold pushN FlS.room
    rw [hl, r.R, hXl]; omega
  have hpS : pushS s ((x.drop k).take n) = s.more ((x.drop k).take n) := by
    unfold pushS
    rw [if_pos hall, hN, List.take_of_length_le (by omega)]
  have hX2 : (s.more ((x.drop k).take n)).X = x.take (k + n) := by
    show s.X ++ (x.drop k).take n = _
    rw [hX, List.take_add]
  refine ⟨by unfold pushR; rw [if_pos hall, hN], by unfold pushE; rw [if_pos hall], ?_, by rw [hpS]; exact hX2⟩
  have okp := (r.ok.push ((x.drop k).take n)).1
  rw [hpS] at okp ⊢
  refine ⟨okp, r.B, r.R, r.parts, r.pulled, fun m hm => run_y (s := s.more ((x.drop k).take n)) r.parts (fun i hi => ?_) m hm⟩
  rw [hX2] at hi ⊢
  exact at0_take x (k + n) i (by rw [List.length_take] at hi; omega)

/-- How many samples whole blocks have, filled up. -/
def upN (bn n : Nat) : Nat := n + (bn - n % bn) % bn
theorem upN_mod {bn n : Nat} (h : 0 < bn) : upN bn n % bn = 0 := (missing_at h (Nat.le_refl _)).2 rfl
theorem run_flush {s : FlS} {bn P : Nat} {h x : List Int} (r : Run s bn h x P) (hX : s.X = x) (hx : x.length ≤ 1000) :
    flushE s = 0 ∧ Run (flushS s) bn h x P ∧ (flushS s).whole = upN bn x.length ∧ (flushS s).X.length = upN bn x.length := by
  have hB0 := r.ok.B0
  have hB1 := r.ok.B1
  have hm : s.missing < s.B := Nat.mod_lt _ hB0
  have hroom : ¬ s.room < s.missing := by
    unfold FlS.room
    rw [r.R, hX]
    omega
  have hS : flushS s = s.more (List.replicate s.missing 0) := by unfold flushS; rw [if_neg hroom]
  have hlen : (s.more (List.replicate s.missing 0)).X.length = upN bn x.length := by
    show (s.X ++ List.replicate s.missing 0).length = _
    rw [List.length_append, List.length_replicate, hX]
    unfold FlS.missing upN
    rw [hX, r.B]
  have okf := r.ok.flush.1
  rw [hS] at okf ⊢
  refine ⟨by unfold flushE; rw [if_neg hroom], ⟨okf, r.B, r.R, r.parts, r.pulled, fun m hm => run_y (s := s.more (List.replicate s.missing 0)) r.parts (fun i _ => ?_) m hm⟩, ?_, hlen⟩
  · show at0 (s.X ++ List.replicate s.missing 0) i = at0 x i
    rw [at0_zeros, hX]
  · unfold FlS.whole
    rw [hlen]
    show upN bn x.length / s.B * s.B = _
    rw [r.B]
    have h1 := Nat.div_add_mod (upN bn x.length) bn
    rw [upN_mod (by rw [← r.B]; exact hB0)] at h1
    rw [Nat.mul_comm]; omega

theorem run_pull {s : FlS} {bn P : Nat} {h x : List Int} (r : Run s bn h x P) (n : Int) : s.outs (s.can n) = (List.range (s.can n)).map (fun i => yv h x (P + i)) ∧ Run (s.took (s.can n)) bn h x (P + s.can n) := by
  have hc : s.can n ≤ s.whole - s.pulled := Nat.min_le_right _ _
  have hw := s.whole_le
  have hp := r.pulled
  refine ⟨?_, r.ok.took n, r.B, r.R, r.parts, by show s.pulled + s.can n = _; rw [hp], fun m hm => r.y m hm⟩
  unfold FlS.outs
  refine List.map_congr_left fun i hi => ?_
  have hi' := List.mem_range.1 hi
  have := r.ok.pl
  rw [hp] at hc this ⊢
  exact r.y (P + i) (by omega)
theorem gen_add (h x : List Int) (P m : Nat) : gen h x (P + m) = gen h x P ++ (List.range m).map (fun i => yv h x (P + i)) := by
  unfold gen
  rw [List.range_add, List.map_append, List.map_map]; rfl
end Go.Proofs.YtddpcjgekfmhkabDoor

/- all: what a filter gives for samples that are pushed in pieces, and flushed. -/
namespace Go.Proofs.YtddpcjgekfmhkabDoor
open Go.RowKit
set_option linter.unusedSimpArgs false
set_option linter.unusedVariables false

/-- What is there while samples are pushed: the filter, and what came out of it. -/
def AllI (FI : Nat → Nat → FlS → Res) (w : World) (xb : Nat) (s : FlS) (vo : Value) (ol : List Int) (wr : World) : Prop :=
  ∃ F, FI w.heap.size xb s wr F ∧ Lst wr w.heap.size 3 1 vo (ints ol) ∧ (∀ g, vo.ownBlock = some g → ¬ F g) ∧ Bt (fun _ => False) w wr
section
variable {FI : Nat → Nat → FlS → Res} {w wr : World} {xb : Nat} {s : FlS} {vo : Value} {ol : List Int}
theorem AllI.push (ok : FltOk FI) (h : AllI FI w xb s vo ol wr) (hs : s.Small) (a : Option Addr) (c : Nat) (l : List Int) (src : Src wr a (ints l)) (hr : Rng l) (hl : l.length ≤ 1048576) (hlc : l.length ≤ c) (hnil : a = none → c = 0) (hb : ∀ b o, a = some ⟨b, o, none⟩ → b < w.heap.size) :
    Calls Tryd.prog 13 #[.pointer (some ⟨xb, 0, none⟩), .slice a l.length c] wr fun e w' => e = .returned (.tuple #[.int .i64 (pushR s l), .int .i64 (pushE s l)]) ∧ Hid (AllI FI w xb (pushS s l) vo ol w') := by
  obtain ⟨F, h1, h2, h3, h4⟩ := h
  have hF : ∀ k, F k → w.heap.size ≤ k := fun k hk => ((ok.fr _ _ _).lt h1 hk).1
  refine (ok.push h1 hs a c l src hr hl hlc hnil (fun b o e q => by have := hF b q; have := hb b o e; omega)).mono ?_
  rintro e w' ⟨rfl, F', q1, q2⟩
  exact ⟨rfl, F', q1, h2.bt q2.bt (fun g hg e => h3 g hg e), fun g hg => q2.out (h2.ge hg).2 (h3 g hg), h4.trans q2.bt (fun k hk e => by have := hF k e; omega)⟩
theorem AllI.flush (ok : FltOk FI) (h : AllI FI w xb s vo ol wr) (hs : s.Small) :
    Calls Tryd.prog 15 #[.pointer (some ⟨xb, 0, none⟩)] wr fun e w' => e = .returned (.tuple #[.int .i64 (flushR s), .int .i64 (flushE s)]) ∧ Hid (AllI FI w xb (flushS s) vo ol w') := by
  obtain ⟨F, h1, h2, h3, h4⟩ := h
  have hF : ∀ k, F k → w.heap.size ≤ k := fun k hk => ((ok.fr _ _ _).lt h1 hk).1
  refine (ok.flush h1 hs).mono ?_
  rintro e w' ⟨rfl, F', q1, q2⟩
  exact ⟨rfl, F', q1, h2.bt q2.bt (fun g hg e => h3 g hg e), fun g hg => q2.out (h2.ge hg).2 (h3 g hg), h4.trans q2.bt (fun k hk e => by have := hF k e; omega)⟩
/-- Pull, and append. -/
theorem AllI.pull (ok : FltOk FI) (h : AllI FI w xb s vo ol wr) (hs : s.Small) (n : Int) (hn0 : -9223372036854775808 ≤ n) (hn1 : n ≤ 9223372036854775807) (hol : ol.length ≤ 100000) :
    Calls Tryd.prog 16 #[.pointer (some ⟨xb, 0, none⟩), .int .i64 n] wr fun e w' => Hid (∃ a c m, e = .returned (.slice a m c) ∧ ∃ v' w'', (Builtin.append_ #[24, 24] 24 #[vo, .slice a m c]).run Tryd.prog w' = .ok v' w'' ∧ AllI FI w xb (s.took (s.can n)) v' (ol ++ s.outs (s.can n)) w'') := by
  obtain ⟨F, h1, h2, h3, h4⟩ := h
  have hF : ∀ k, F k → w.heap.size ≤ k := fun k hk => ((ok.fr _ _ _).lt h1 hk).1
  have hcan := hs.ok.can_le n
  refine (ok.pull h1 hs n hn0 hn1).mono ?_
  rintro e w' ⟨ao, lb, he, g1, g2, g3, g4, F', g5, g6, g7⟩
  have hb' : Bt (fun _ => False) w w' := h4.trans g6.bt (fun k hk e => by have := hF k e; omega)
  have h2' : Lst w' w.heap.size 3 1 vo (ints ol) := h2.bt g6.bt (fun g hg e => h3 g hg e)
  have hout := outs_len s (s.can n)
  have hsrc : Src w' ao (ints (s.outs (s.can n))) := by
    by_cases h0 : 0 < s.can n
    · rw [g1 h0]; exact g3.src _ (by rw [hout]; exact Nat.le_refl _) (fun _ _ => rfl)
    · rw [List.eq_nil_of_length_eq_zero (by rw [hout]; omega : (s.outs (s.can n)).length = 0)]; exact src_none _ _
  obtain ⟨v', w'', hr, hl, hb, hv⟩ := append_nums (w := w') 24 w.heap.size vo ol h2' ao (s.can n) (s.can n) (s.outs (s.can n)) hout hsrc (by omega) hb'.size
  have hF' : ∀ g, vo.ownBlock = some g → ¬ F' g := fun g hg => g6.out (h2.ge hg).2 (h3 g hg)
  refine ⟨ao, s.can n, s.can n, he, v', w'', hr, F', (ok.fr _ _ _).btw g5 hb (fun k hk e => hF' k e hk) (fun k e => (h2'.ge e).1), hl, fun g hg => ?_, hb'.trans hb (fun k hk e => by have := (h2'.ge e).1; omega)⟩
  rcases hv with e | e
  · exact hF' g (e ▸ hg)
  · rw [e] at hg
    have : w'.heap.size = g := Option.some.inj hg
    exact fun q => by have := ((ok.fr _ _ _).lt g5 q).2; omega
theorem AllI.drewN (ok : FltOk FI) (h : AllI FI w xb s vo ol wr) (m : Nat) : AllI FI w xb s vo ol (wr.drewN m) := by
  obtain ⟨F, h1, h2, h3, h4⟩ := h
  have b : Bt (fun _ => False) wr (wr.drewN m) := (Bt.refl _ _).drewN m
  exact ⟨F, (ok.fr _ _ _).bt h1 b (fun _ _ x => x), h2.bt b (fun _ _ x => x), h3, h4.drewN m⟩
end

/-- What all gives. -/
def AllQ (w : World) (h x : List Int) (N : Nat) (e : Ending) (w' : World) : Prop := ∃ vo, e = .returned (.tuple #[vo, .bool true]) ∧ Lst w' w.heap.size 3 1 vo (ints (gen h x N)) ∧ Bt (fun _ => False) w w'
end Go.Proofs.YtddpcjgekfmhkabDoor
