/- The statement Rings: its second form's row. -/
import Derived.Test.YtddpcjgekfmhkaaRows
import Derived.Test.YtddpcjgekfmhkaaGg
import Derived.WalkKit
import Derived.ProofKit
import Derived.OpenShut
import Derived.JoinedCond
import Derived.ChangeOld
import Derived.Below
import Derived.Deep.Slices
namespace Go.Proofs.Ytddpcjgekfmhkaa.rings
open Go.ChangeShapes Go.WideShapes Go.ChangeAt Go.RowKit
set_option linter.unusedVariables false

theorem own : ownKnob Try.prog.godebug = none := by kernel_rfl
theorem laidOut : laidOutB Try.prog = true := by kernel_rfl
theorem cellsDE : Try.prog.cellsOf 52 = 5 := by kernel_rfl
theorem cellsI : Try.prog.cellsOf 3 = 1 := by kernel_rfl
theorem cellsS : Try.prog.cellsOf 9 = 1 := by kernel_rfl

theorem bulk_pos {H : Type} (d : DataW H) : 0 < Rows.uptoBulk d := by
  cases d with
  | lit l => cases l <;> simp [Rows.uptoBulk]
  | _ => simp [Rows.uptoBulk]
theorem bulk_all {H : Type} : ∀ l : List (DataW H), l.length ≤ Rows.uptoBulkAll l
  | [] => Nat.le_refl _
  | d :: l => by
    have h1 := bulk_pos d
    have h2 := bulk_all l
    simp only [Rows.uptoBulkAll, List.length_cons]; omega

/-- A script that came in. -/
theorem deeds_in {H : Type} {enc : TypeId × Value → H} {Wd : World} {a : Option Addr} {len cap fuel : Nat} {d : DataW H} {p : List MemPlace} (h : DataW.trod enc Try.prog Wd 0 (fun _ => true) true fuel 39 (Value.slice a len cap).cells.toList = some (d, p)) :
    ∃ (sb so : Nat) (W K N U : Nat → Int) (T : Nat → ByteArray), (0 < len → a = some ⟨sb, so, none⟩) ∧ DArr Wd sb so len W K N U T ∧ len ≤ Rows.uptoBulk d := by
  rcases Go.Deep.open_slice Try.underlying39 h with ⟨hcs, _⟩ | ⟨x, l, c, m, n, D, Pl, hcs, _, hl, hm, hmm, hx, hel⟩
  · simp [Value.cells] at hcs
    obtain ⟨rfl, rfl, rfl⟩ := hcs
    exact ⟨0, 0, fun _ => 0, fun _ => 0, fun _ => 0, fun _ => 0, fun _ => .empty, fun h => by omega, fun i hi => by omega, Nat.zero_le _⟩
  · simp [Value.cells] at hcs
    obtain ⟨rfl, rfl, rfl⟩ := hcs
    have hmc : m = cap := by simpa using hmm
    have hb : len ≤ Rows.uptoBulk d := by
      rw [(Prod.mk.inj hx).1]
      have := bulk_all ((List.range len).map D)
      simp at this
      unfold Rows.uptoBulk; omega
    by_cases h0 : 0 < len
    · have each : ∀ i, ∃ q : Int × Int × Int × Int × ByteArray, i < len → Wd.cell? (x.add (i * 5)) = some (.int .i64 q.1) ∧ Wd.cell? (x.add (i * 5 + 1)) = some (.int .i64 q.2.1) ∧ Wd.cell? (x.add (i * 5 + 2)) = some (.int .i64 q.2.2.1) ∧ Wd.cell? (x.add (i * 5 + 3)) = some (.int .i64 q.2.2.2.1) ∧ Wd.cell? (x.add (i * 5 + 4)) = some (.string q.2.2.2.2) ∧ (Lit.int .i64 q.2.2.1).wf = true := by
        intro i
        by_cases hi : i < len
        · obtain ⟨cs', k1, k2⟩ := hel i (by omega)
          rw [cellsDE] at k1
          obtain ⟨_, hlen, hcell⟩ := World.cells?_some k1
          obtain ⟨xs, k, hk, hxy, _, hxl, hf⟩ := DataW.trod_struct Try.underlying52 k2
          match xs, hxl, cs', hlen with
          | [y0, y1, y2, y3, y4], _, [v0, v1, v2, v3, v4], _ =>
            have g0 := hf 0 _ rfl
            have g1 := hf 1 _ rfl
            have g2 := hf 2 _ rfl
            have g3 := hf 3 _ rfl
            have g4 := hf 4 _ rfl
            simp [cellsI, cellsS] at g0 g1 g2 g3 g4
            obtain ⟨z0, q0, _, _⟩ := DataW.trod_int Try.underlying3 g0
            obtain ⟨z1, q1, _, _⟩ := DataW.trod_int Try.underlying3 g1
            obtain ⟨z2, q2, _, w2⟩ := DataW.trod_int Try.underlying3 g2
            obtain ⟨z3, q3, _, _⟩ := DataW.trod_int Try.underlying3 g3
            obtain ⟨z4, q4, _, _⟩ := DataW.trod_string Try.underlying9 g4
            have e0 := hcell 0 (by omega)
            have e1 := hcell 1 (by omega)
            have e2 := hcell 2 (by omega)
            have e3 := hcell 3 (by omega)
            have e4 := hcell 4 (by omega)
            rw [Go.Deep.add_add] at e0 e1 e2 e3 e4
            simp at q0 q1 q2 q3 q4 e0 e1 e2 e3 e4
            subst q0 q1 q2 q3 q4
            exact ⟨(z0, z1, z2, z3, z4), fun _ => ⟨e0, e1, e2, e3, e4, w2⟩⟩
        · exact ⟨(0, 0, 0, 0, .empty), fun h => absurd h hi⟩
      obtain ⟨f, hf⟩ := Classical.axiomOfChoice each
      obtain ⟨b, off, spot⟩ := x
      have hspot : spot = none := by simpa [Addr.add] using World.cell?_spot (hf 0 h0).1
      subst hspot
      refine ⟨b, off, fun i => (f i).1, fun i => (f i).2.1, fun i => (f i).2.2.1, fun i => (f i).2.2.2.1, fun i => (f i).2.2.2.2, fun _ => rfl, fun i hi => ?_, hb⟩
      obtain ⟨e0, e1, e2, e3, e4, e5⟩ := hf i hi
      simp only [Go.WideShapes.add_plain, ← Nat.add_assoc] at e0 e1 e2 e3 e4
      have hbd := bounds_i64 e5
      exact ⟨e0, e1, e2, e3, e4, hbd.1, hbd.2⟩
    · exact ⟨0, 0, fun _ => 0, fun _ => 0, fun _ => 0, fun _ => 0, fun _ => .empty, fun h => absurd h h0, fun i hi => by omega, hb⟩

theorem contract (H : Type) (enc : TypeId × Value → H) (W : World) (base : Nat) (args : Array Value) (ds gs : List (DataW H)) (before : List MemPlace)
    (hval : ∀ (j : Nat) t v, Try.f7.params[j]? = some t → args[j]? = some v → Value.okWide Try.prog W .any base t v)
    (hW : DataW.Whole enc Try.prog Try.f7.params.toList Rows.ringsSpec.vars false W args.toList ds gs before) (hB : Rows.uptoBulkAll (ds ++ gs) ≤ 1048576) :
    Calls Try.prog 7 args W fun e W' => ∃ v, e = .returned v ∧ Rows.ringsSpec.post enc Try.prog Try.f7 false true false false W args v W' := by
  have hW' := hW
  obtain ⟨p, q, hA0, hV, rfl, hfz, hnd⟩ := hW
  have hA : DataW.TrodAll enc Try.prog W 0 (fun _ => true) true Try.f7.params.toList args.toList ds p := hA0
  rw [Try.params7] at hA hval
  obtain ⟨v0, vs0, d0, ds0, p0, q0, hargs, rfl, rfl, h0, r0⟩ := trodAll_cons hA
  obtain ⟨v1, vs1, d1, ds1, p1, q1, rfl, rfl, rfl, h1, r1⟩ := trodAll_cons r0
  obtain ⟨v2, vs2, d2, ds2, p2, q2, rfl, rfl, rfl, h2, r2⟩ := trodAll_cons r1
  obtain ⟨rfl, rfl, rfl⟩ := trodAll_nil r2
  obtain rfl : args = #[v0, v1, v2] := by cases args; simp_all
  obtain ⟨rfl, rfl⟩ := trodVars_none hV
  obtain ⟨a, rfl, rfl, rfl, wa⟩ := open_int Try.underlying3 (hval 0 3 v0 rfl rfl) h0
  obtain ⟨b, rfl, rfl, rfl, wb⟩ := open_int Try.underlying3 (hval 1 3 v1 rfl rfl) h1
  obtain ⟨a2, len2, cap2, rfl⟩ := okWide_slice Try.underlying39 (hval 2 39 v2 rfl rfl)
  have k2 := h2
  have lt2 : ∀ x ∈ p2, x.block < W.heap.size := by obtain ⟨m, hm⟩ := k2; exact DataW.trod_lt m _ _ _ hm
  have hB' : Rows.uptoBulk (DataW.lit (H := H) (.int .i64 a)) + (Rows.uptoBulk (DataW.lit (H := H) (.int .i64 b)) + (Rows.uptoBulk d2 + 0)) ≤ 1048576 := hB
  obtain ⟨f2, hf2⟩ := h2
  obtain ⟨sb, so, Wf, Kf, Nf, Uf, Tf, s1, s2, s3⟩ := deeds_in hf2
  have hba := bounds_i64 wa
  have hbb := bounds_i64 wb
  clear hA0
  refine (rings_core a b a2 sb so len2 cap2 Wf Kf Nf Uf Tf W hba.1 hba.2 hbb.1 hbb.2 (by omega) s1 s2).mono fun e W' ⟨he, bel⟩ => ?_
  subst he
  exact ⟨_, rfl, _, _, _, [], _, [], hW', trodAll_mk1 (shut_bool Try.underlying4 _), (trodAll_cons_mk (shut_int Try.underlying3 wa) (trodAll_cons_mk (shut_int Try.underlying3 wb) (trodAll_cons_mk (Below.trod laidOut (by kernel_rfl) (of_decide_eq_true (by kernel_rfl)) k2 bel lt2) trodAll_mk0))), rfl, bel.frame _, fun h => by cases h⟩

set_option maxRecDepth 100000 in
theorem lifted (os : Os) (started : os.Started) (H : Type) (enc : TypeId × Value → H) (F : Stop.Interp) :
    ReturnsInHanded {} Try.checked os 7 .any ((Rows.OpenSpec.upto Rows.ringsSpec).pre6 enc Try.prog Try.f7 Rows.ringsUptoRow.domain false) (((Rows.OpenSpec.upto Rows.ringsSpec).at F).post enc Try.prog Try.f7 false true false false) := by
  refine returnsInHanded_of_cond (C := Try.checked) (s := Rows.OpenSpec.upto Rows.ringsSpec) (k := Rows.uptoSmall) rfl own started (by kernel_rfl) Try.func7
    (OpenSpec.witness (enc := enc) (C := Try.checked) (s := Rows.OpenSpec.upto Rows.ringsSpec) (k := Rows.uptoSmall) rfl false ⟨#[], #[.int .i64 0, .int .i64 0, .slice none 0 0], []⟩ 8 (by kernel_rfl) (by kernel_rfl) (by kernel_rfl)
      (x := ([.lit (.int .i64 0), .lit (.int .i64 0), .nil], [], [])) (by kernel_rfl) rfl (by kernel_rfl)) ?_
  intro W base args ds gs before hval hW _ hk _
  exact contract H enc W base args ds gs before hval hW (of_decide_eq_true hk)

theorem provedUpto : Rows.RingsUptoSaid :=
  OpenClaim.holds_of_cond 7 Try.f7 rfl rfl rfl rfl rfl rfl rfl ⟨rfl, rfl, rfl, rfl, rfl⟩ rfl rfl rfl rfl rfl (by kernel_rfl) Try.func7 (by kernel_rfl)
    (of_decide_eq_true (by kernel_rfl)) (by unfold Func.isWrapper; first | (rw [if_pos (by decide +kernel)]; kernel_rfl) | (rw [if_neg (by decide +kernel)]; exact ⟨rfl, rfl⟩))
    (fun os started H enc _ F => lifted os started H enc F)

end Go.Proofs.Ytddpcjgekfmhkaa.rings
#print axioms Go.Proofs.Ytddpcjgekfmhkaa.rings.provedUpto
