/- The statement Queue: its first form's row. -/
import Derived.Test.YtddpcjgekfmhkaaRows
import Derived.Test.YtddpcjgekfmhkaaQv
import Derived.WalkKit
import Derived.ProofKit
import Derived.OpenShut
import Derived.JoinedCond
import Derived.SliceStrings
import Derived.SizedLaws
import Derived.ChangeOld
import Derived.Below
namespace Go.Proofs.Ytddpcjgekfmhkaa.queue
open Go.ChangeShapes Go.WideShapes Go.ChangeAt Go.RowKit
set_option linter.unusedVariables false

theorem own : ownKnob Try.prog.godebug = none := by kernel_rfl
theorem laidOut : laidOutB Try.prog = true := by kernel_rfl

theorem bytes_i : Try.prog.bytesOf 3 = 8 := by kernel_rfl
theorem bytes_s : Try.prog.bytesOf 9 = 16 := by kernel_rfl

/-- A list of numbers that came in. -/
theorem ints_in {H : Type} {enc : TypeId × Value → H} {W : World} {a : Option Addr} {len cap fuel : Nat} {d : DataW H} {p : List MemPlace} (h : DataW.trod enc Try.prog W 0 (fun _ => true) true fuel 57 (Value.slice a len cap).cells.toList = some (d, p)) (hB : ∀ es sp, d = .slice es sp → (es.length + sp.length) * Try.prog.bytesOf 3 ≤ reachBytes) :
    ∃ (b o : Nat) (z : Nat → Int), (0 < len → a = some ⟨b, o, none⟩) ∧ (∀ i, i < len → W.cell? ⟨b, o + i, none⟩ = some (.int .i64 (z i)) ∧ -9223372036854775808 ≤ z i ∧ z i ≤ 9223372036854775807) ∧ len ≤ 17592186044416 := by
  rcases open_ints Try.underlying57 Try.underlying3 (by kernel_rfl) h with ⟨hcs, _⟩ | ⟨x, l, c, zs, hcs, _, hl, hm, hz, hd, hcell, hwz⟩
  · simp [Value.cells] at hcs
    obtain ⟨rfl, rfl, rfl⟩ := hcs
    exact ⟨0, 0, fun _ => 0, fun h => by omega, fun i hi => by omega, Nat.zero_le _⟩
  · simp [Value.cells] at hcs
    obtain ⟨rfl, rfl, rfl⟩ := hcs
    have hz' : zs.length = cap := by simpa using hz
    have hb : len ≤ 17592186044416 := by
      have q := hB _ _ (Prod.mk.inj hd).1
      rw [bytes_i] at q
      simp only [lits, List.length_map, List.length_take, List.length_drop, reachBytes] at q
      omega
    by_cases h0 : 0 < len
    · obtain ⟨b, off, hx, hcc⟩ := ints_at (zs := zs) (w := W) hcell (show 0 < zs.length by omega)
      refine ⟨b, off, fun i => zs.getD i 0, fun _ => by rw [hx], fun i hi => ?_, hb⟩
      have hb := bounds_i64 (hwz (zs.getD i 0) (by rw [List.getD_eq_getElem?_getD, List.getElem?_eq_getElem (by omega)]; exact List.getElem_mem _))
      exact ⟨hcc i (by omega), hb.1, hb.2⟩
    · exact ⟨0, 0, fun _ => 0, fun h => by omega, fun i hi => by omega, hb⟩

/-- A list of texts that came in. -/
theorem strs_in {H : Type} {enc : TypeId × Value → H} {W : World} {a : Option Addr} {len cap fuel : Nat} {d : DataW H} {p : List MemPlace} (hB : ∀ es sp, d = .slice es sp → (es.length + sp.length) * Try.prog.bytesOf 9 ≤ reachBytes) (h : DataW.trod enc Try.prog W 0 (fun _ => true) true fuel 56 (Value.slice a len cap).cells.toList = some (d, p)) :
    ∃ (b o : Nat) (S : List (List Value)), (0 < len → a = some ⟨b, o, none⟩ ∧ QL W b o len cap S) ∧ len ≤ 8796093021952 := by
  rcases open_strings Try.underlying56 Try.underlying9 (by kernel_rfl) h with ⟨hcs, _⟩ | ⟨x, l, c, ss, hcs, _, hl, hm, hz, hd, hcell, hwz⟩
  · simp [Value.cells] at hcs
    obtain ⟨rfl, rfl, rfl⟩ := hcs
    exact ⟨0, 0, [], fun h => by omega, Nat.zero_le _⟩
  · simp [Value.cells] at hcs
    obtain ⟨rfl, rfl, rfl⟩ := hcs
    have hz' : ss.length = cap := by simpa using hz
    have hb : cap ≤ 8796093021952 := by
      have q := hB _ _ (Prod.mk.inj hd).1
      rw [bytes_s] at q
      simp only [strs, List.length_map, List.length_take, List.length_drop, reachBytes] at q
      omega
    by_cases h0 : 0 < len
    · obtain ⟨b, off, spot⟩ := x
      have hspot : spot = none := by simpa [Addr.add] using World.cell?_spot (hcell 0 (by omega))
      subst hspot
      refine ⟨b, off, (ss.take len).map (fun s => [.string s]), fun _ => ⟨rfl, ?_, ?_, by simp; omega, hl, by omega, ?_⟩, by omega⟩
      · intro _
        refine ⟨b, off, rfl, fun j v hj => ?_⟩
        have e : ((ss.take len).map (fun s => [Value.string s])).flatten = (ss.take len).map Value.string := by
          induction ss.take len with
          | nil => rfl
          | cons x r ih => simp [ih]
        rw [e, List.getElem?_map] at hj
        obtain ⟨s, hs, rfl⟩ := Option.map_eq_some_iff.1 hj
        rw [List.getElem?_take] at hs
        split at hs
        · have hjl : j < ss.length := (List.getElem?_eq_some_iff.1 hs).1
          have := hcell j hjl
          rw [Go.WideShapes.add_plain] at this
          rw [this, List.getD_eq_getElem?_getD, hs]; rfl
        · cases hs
      · intro e he
        obtain ⟨s, _, rfl⟩ := List.mem_map.1 he
        exact ⟨s, rfl⟩
      · exact World.block_lt_of_cell? W _ (hcell 0 (by omega))
    · exact ⟨0, 0, [], fun h => absurd h h0, by omega⟩

theorem contract (H : Type) (enc : TypeId × Value → H) (W : World) (base : Nat) (args : Array Value) (ds gs : List (DataW H)) (before : List MemPlace)
    (hval : ∀ (j : Nat) t v, Try.f8.params[j]? = some t → args[j]? = some v → Value.okWide Try.prog W .any base t v)
    (hW : DataW.Whole enc Try.prog Try.f8.params.toList Rows.queueSpec.vars false W args.toList ds gs before) (hsz0 : (DataW.weightsEach Try.prog (Try.f8.params.toList ++ Rows.queueSpec.plain.varTypes Try.prog) (ds ++ gs)).all (· ≤ reachBytes) = true) :
    Calls Try.prog 8 args W fun e W' => ∃ v, e = .returned v ∧ Rows.queueSpec.post enc Try.prog Try.f8 false true false false W args v W' := by
  have hW' := hW
  obtain ⟨p, q, hA0, hV, rfl, hfz, hnd⟩ := hW
  have hA : DataW.TrodAll enc Try.prog W 0 (fun _ => true) true Try.f8.params.toList args.toList ds p := hA0
  rw [Try.params8] at hA hval hsz0
  obtain ⟨v0, vs0, d0, ds0, p0, q0, hargs, rfl, rfl, h0, r0⟩ := trodAll_cons hA
  obtain ⟨v1, vs1, d1, ds1, p1, q1, rfl, rfl, rfl, h1, r1⟩ := trodAll_cons r0
  obtain ⟨v2, vs2, d2, ds2, p2, q2, rfl, rfl, rfl, h2, r2⟩ := trodAll_cons r1
  obtain ⟨rfl, rfl, rfl⟩ := trodAll_nil r2
  obtain rfl : args = #[v0, v1, v2] := by cases args; simp_all
  obtain ⟨rfl, rfl⟩ := trodVars_none hV
  obtain ⟨room, rfl, rfl, rfl, wr⟩ := open_int Try.underlying3 (hval 0 3 v0 rfl rfl) h0
  obtain ⟨a1, len1, cap1, rfl⟩ := okWide_slice Try.underlying56 (hval 1 56 v1 rfl rfl)
  obtain ⟨a2, len2, cap2, rfl⟩ := okWide_slice Try.underlying57 (hval 2 57 v2 rfl rfl)
  have k0 := h0
  have k1 := h1
  have k2 := h2
  have lt1 : ∀ x ∈ p1, x.block < W.heap.size := by obtain ⟨m, hm⟩ := k1; exact DataW.trod_lt m _ _ _ hm
  have lt2 : ∀ x ∈ p2, x.block < W.heap.size := by obtain ⟨m, hm⟩ := k2; exact DataW.trod_lt m _ _ _ hm
  obtain ⟨f1, hf1⟩ := h1
  obtain ⟨f2, hf2⟩ := h2
  obtain ⟨b1, o1, S, s1, s2⟩ := strs_in (fun es sp e => sized_slice hsz0 (j := 1) (t := 56) (e := 9) rfl (by subst e; rfl) Try.underlying56) hf1
  obtain ⟨b2, o2, z, z1, z2, z3⟩ := ints_in hf2 (fun es sp e => sized_slice hsz0 (j := 2) (t := 57) (e := 3) rfl (by subst e; rfl) Try.underlying57)
  have hbr := bounds_i64 wr
  clear hA0
  refine (queue_core room a1 b1 o1 len1 cap1 S a2 b2 o2 len2 cap2 z W hbr.1 hbr.2 (by omega) s1 (by omega) z1 z2).mono fun e W' ⟨he, bel⟩ => ?_
  subst he
  exact ⟨_, rfl, _, _, _, [], _, [], hW', trodAll_mk1 (shut_bool Try.underlying4 _), (trodAll_cons_mk (shut_int Try.underlying3 wr) (trodAll_cons_mk (Below.trod laidOut (by kernel_rfl) (of_decide_eq_true (by kernel_rfl)) k1 bel lt1) (trodAll_cons_mk (Below.trod laidOut (by kernel_rfl) (of_decide_eq_true (by kernel_rfl)) k2 bel lt2) trodAll_mk0))), rfl, bel.frame _, fun h => by cases h⟩

set_option maxRecDepth 100000 in
theorem lifted (os : Os) (started : os.Started) (H : Type) (enc : TypeId × Value → H) :
    ReturnsInHanded {} Try.checked os 8 .any (Rows.queueSpec.pre6 enc Try.prog Try.f8 Rows.queueRow.domain false) (Rows.queueSpec.post enc Try.prog Try.f8 false true false false) := by
  refine returnsInHanded_of_change_sized (C := Try.checked) own started (by kernel_rfl) Try.func8
    (ChangeSpec.witness6 (enc := enc) (C := Try.checked) false ⟨#[], #[.int .i64 0, .slice none 0 0, .slice none 0 0], []⟩ 8 (by kernel_rfl) (by kernel_rfl) (by kernel_rfl) (by kernel_rfl)) ?_
  intro W base args ds gs before hval hW _ hsz _
  exact contract H enc W base args ds gs before hval hW hsz

theorem proved : Rows.QueueSaid :=
  OpenClaim.holds_of_wide 8 Try.f8 rfl rfl rfl rfl rfl rfl rfl ⟨rfl, rfl, rfl, rfl, rfl⟩ rfl rfl rfl rfl rfl (by kernel_rfl) Try.func8 (by kernel_rfl)
    (of_decide_eq_true (by kernel_rfl)) (by unfold Func.isWrapper; first | (rw [if_pos (by decide +kernel)]; kernel_rfl) | (rw [if_neg (by decide +kernel)]; exact ⟨rfl, rfl⟩))
    (fun os started H enc _ => lifted os started H enc)

end Go.Proofs.Ytddpcjgekfmhkaa.queue
#print axioms Go.Proofs.Ytddpcjgekfmhkaa.queue.proved
