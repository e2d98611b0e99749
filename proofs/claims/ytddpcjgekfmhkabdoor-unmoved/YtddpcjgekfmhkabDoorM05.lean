/- Texts joined: Fg Fh Fi. -/
import Derived.Test.YtddpcjgekfmhkabDoorM04

/- append of zeros; append by its run; the document's filter as something that is owned. -/
namespace Go.Proofs.YtddpcjgekfmhkabDoor
open Go.RowKit
set_option linter.unusedSimpArgs false
set_option linter.unusedVariables false

section
variable {P : Program} {w : World}
theorem append_zeros (base : Nat) (t ti ty e : TypeId) (kn : IntKind) (zv : Value) (z : List Value) (sz bytes : Nat) (ht : P.underlying t = some (.slice e)) (hti : P.underlying ti = some (.int kn)) (hinfo : (P.info? e).map (fun i => (i.zero, i.size, i.bytes)) = some (some zv, sz, bytes)) (hz : zv.cells = z.toArray) (hZ : El sz [z]) (hsz : 0 < sz)
    (v : Value) (L : List (List Value)) (h : Lst w base e sz v L) (m : Nat) (hn : L.length + m ≤ 1099511627776) (hby : bytes ≤ 64) (hbase : base ≤ w.heap.size) :
    ∃ v' w', (Builtin.append_ #[t, ti] ty #[v, .int .i64 m]).run P w = .ok v' w' ∧ Lst w' base e sz v' (L ++ List.replicate m z) ∧ Bt (fun k => v.ownBlock = some k) w w' ∧ (v'.ownBlock = v.ownBlock ∨ v'.ownBlock = some w.heap.size) := by
  obtain ⟨i, hi, hz0, hz1, hz2⟩ := info_parts hinfo
  subst hz1 hz2
  have hzl : z.length = i.size := (hZ z (by simp)).1
  have hw : IntKind.i64.wrap (m : Int) = m := by rw [IntKind.wrap_i64]; omega
  have hneg : ¬ ((m : Int) < 0) := by omega
  have hb1 : m * i.bytes ≤ 1099511627776 * 64 := Nat.mul_le_mul (by omega) hby
  have h48i : ¬ (281474976710656 < (m : Int) * (i.bytes : Int)) := by
    rw [← Int.natCast_mul]; omega
  have hX : El i.size (List.replicate m z) := hZ.replicate m
  have hxl : (List.replicate m z).flatten.length = m * i.size := by rw [hX.flat_len, List.length_replicate]
  have hzc : Builtin.zeroCells zv.cells m = (List.replicate m z).flatten.toArray := by
    apply Array.ext'; rw [hz, zeroCells_flat]
  by_cases h0 : m = 0
  · subst h0
    obtain ⟨a, cp, hv, hle, _⟩ := h.form
    refine ⟨v, w, ?_, by simpa using h, Bt.refl _ _, .inl rfl⟩
    rw [hv]
    have hw0 : IntKind.i64.wrap 0 = 0 := by rw [IntKind.wrap_i64]; omega
    cases a <;> simp [Builtin.append_, run_underlying ht, run_underlying hti, sizeOf, typeInfo, hi, hle, storeCells, asInt, asIntOf, hw0]
  · have hms : ¬ (m * i.size = 0) := by
      intro e; rcases Nat.mul_eq_zero.1 e with e | e <;> omega
    have hadd : ∀ (q p j : Nat), (⟨q, p, none⟩ : Addr).add j = ⟨q, p + j, none⟩ := by intro q p j; unfold Addr.add; split <;> simp_all
    have hb2 : (L.length + m) * i.bytes ≤ 1099511627776 * 64 := Nat.mul_le_mul hn hby
    have hs0 : ¬ (m = 0 ∨ i.size = 0) := by omega
    -- a new row
    have grown : ∀ old, Lst (w.drew.alloc (.cells (L.flatten.toArray ++ (List.replicate m z).flatten.toArray ++ Builtin.zeroCells zv.cells (grownCap w (L.length + m) old e - (L.length + m))) e)) base e i.size (.slice (some ⟨w.heap.size, 0, none⟩) (L.length + m) (grownCap w (L.length + m) old e)) (L ++ List.replicate m z) := by
      intro old
      have hge := grownCap_ge w (L.length + m) old e
      have hcm := grownCap_le_maxLen w (L.length + m) old e (by unfold maxLen; omega)
      have hE := hZ.replicate (grownCap w (L.length + m) old e - (L.length + m))
      refine ⟨h.1.append hX, .inr ⟨w.heap.size, 0, _, (L ++ List.replicate m z) ++ List.replicate (grownCap w (L.length + m) old e - (L.length + m)) z, ?_, hbase, ?_, (h.1.append hX).append hE, ?_, ?_, hcm, ?_⟩⟩
      · simp
      · show ((w.drew).heap.push _)[w.heap.size]? = _
        have e1 : L.flatten.toArray ++ (List.replicate m z).flatten.toArray ++ Builtin.zeroCells zv.cells (grownCap w (L.length + m) old e - (L.length + m)) = ((L ++ List.replicate m z) ++ List.replicate (grownCap w (L.length + m) old e - (L.length + m)) z).flatten.toArray := by
          have := zeroCells_flat z (grownCap w (L.length + m) old e - (L.length + m))
          apply Array.ext'
          rw [hz]
          simp only [List.append_toArray, Array.toList_append, List.toList_toArray, this, List.flatten_append]
        rw [e1]
        show (w.heap.push _)[w.heap.size]? = _
        simp
      · simp; omega
      · simp; omega
      · rw [List.drop_zero, List.take_append_of_le_length (Nat.le_refl _), List.take_of_length_le (Nat.le_refl _)]
    have bs : ∀ old : Nat, old ≤ maxLen → ¬ (L.length + m ≤ old) → ¬ (281474976710656 < Builtin.nextslicecap (L.length + m) old * i.bytes) := by
      intro old h1 h2
      have := growslice_fits (need := L.length + m) (old := old) (bytes := i.bytes) (by omega) (by omega)
      omega
    rcases h.2 with ⟨rfl, rfl⟩ | ⟨g, off, cap, C, rfl, h1, h2, h3, h4, h5, h6, h7⟩
    · have hg := grown 0
      have hn0 : ¬ (m ≤ 0) := by omega
      have hbs := bs 0 (by unfold maxLen; omega) (by simp; omega)
      simp only [List.length_nil, Nat.zero_add, List.flatten_nil, List.append_toArray, List.nil_append] at hg hbs hn
      have h63' : ¬ (9223372036854775807 < (m : Int)) := by omega
      refine ⟨_, _, ?_, hg, ((Bt.refl _ w).drew).alloc _, .inr rfl⟩
      simp [Builtin.append_, run_underlying ht, run_underlying hti, sizeOf, typeInfo, zeroValue, hi, hz0, asInt, asIntOf, hw, hneg, h48i, hn0, h0, h63', hbs, Question.forced, newRow, grownCap, hms, hzc, Builtin.firstCells]
    · by_cases hroom : L.length + m ≤ cap
      · -- there is room
        have hst := run_storeCells_at P g (off * i.size + L.length * i.size) e (List.replicate m z).flatten 0 C.flatten.toArray w h2 (by
          have : (off + L.length + m) * i.size ≤ C.length * i.size := Nat.mul_le_mul_right _ (by omega)
          rw [Nat.add_mul, Nat.add_mul] at this
          simp only [Nat.add_zero, List.size_toArray, hxl, h3.flat_len]; exact this) hX.one
        simp only [Nat.add_zero, ← Nat.add_mul] at hst
        have he := h3.flat_splice hX (off + L.length)
        simp only [List.append_assoc] at hst he
        rw [he] at hst
        have lc : (splice C (off + L.length) (List.replicate m z)).length = C.length := length_splice _ _ _ (by simp; omega)
        refine ⟨.slice (some ⟨g, off * i.size, none⟩) (L.length + m) cap, w.setRow g (splice C (off + L.length) (List.replicate m z)).flatten.toArray, ?_, ⟨h.1.append hX, .inr ⟨g, off, cap, splice C (off + L.length) (List.replicate m z), by simp, h1, h2.setRow _, h3.spl hX _, by omega, by simp; omega, h6, ?_⟩⟩, (bt_setRow w g _).mono (fun k _ hk => by subst hk; rfl), .inl rfl⟩
        · simp [Builtin.append_, run_underlying ht, run_underlying hti, sizeOf, typeInfo, zeroValue, hi, hz0, asInt, asIntOf, hw, hneg, h48i, hroom, hms, hzc, hadd, ← Nat.add_mul, hst, h0]
        · apply List.ext_getElem?
          intro j
          have hL : (C.drop off).take L.length = L := h7
          rw [List.getElem?_take, List.getElem?_drop, get_splice (by simp; omega), List.getElem?_append]
          simp only [List.length_append, List.length_replicate]
          by_cases hj : j < L.length + m
          · rw [if_pos hj]
            by_cases hj2 : j < L.length
            · rw [if_neg (by omega), if_pos hj2]
              have := congrArg (fun l => l[j]?) hL
              simp only [List.getElem?_take, if_pos hj2, List.getElem?_drop] at this
              exact this
            · rw [if_pos (by omega), if_neg hj2]; congr 1; omega
          · rw [if_neg hj, if_neg (by omega), List.getElem?_eq_none (by simp; omega)]
      · -- a new row is made
        have hso := h2.src h3 off L.length (some ⟨g, off * i.size, none⟩) (fun _ => rfl)
        rw [h7] at hso
        have holds : ∀ j u, L.flatten[j]? = some u → w.drew.cell? ((⟨g, off * i.size, none⟩ : Addr).add j) = some u := by
          intro j u hj
          have hpos : 0 < L.length := by
            rcases Nat.eq_zero_or_pos L.length with h0 | h0
            · rw [List.eq_nil_of_length_eq_zero h0] at hj; simp at hj
            · exact h0
          obtain ⟨b', o', e', hc⟩ := hso hpos
          simp at e'
          obtain ⟨rfl, rfl⟩ := e'
          rw [hadd]; exact hc j u hj
        have hold := run_firstCells_some (P := P) w.drew i.size L.length ⟨g, off * i.size, none⟩ L.length cap L.flatten h.1.flat_len holds
        have hbs := bs cap h6 hroom
        have h63' : ¬ (9223372036854775807 < (L.length : Int) + (m : Int)) := by omega
        refine ⟨_, _, ?_, grown cap, ((Bt.refl _ w).drew).alloc _, .inr rfl⟩
        simp [Builtin.append_, run_underlying ht, run_underlying hti, sizeOf, typeInfo, zeroValue, hi, hz0, asInt, asIntOf, hw, hneg, h48i, hroom, h0, h63', hbs, Question.forced, hold, newRow, grownCap, hms, hzc]
        congr 2
        apply Array.ext'
        simp

theorem wpList_append_run {ops : Array Oper} {rest : List Oper} {o : Oper} {a : Act} {Q : Exit → Act → World → Prop} (hgd : o.guard = none) (s x : Operand) (t tx : TypeId)
    (ho : o.op = .call { callee := .builtin .append, args := #[s, x], argTypes := #[t, tx] }) (v xv v' : Value) (w' : World) (hs : a.eval s = v) (hx : a.eval x = xv)
    (hr : (Builtin.append_ #[t, tx] o.type #[v, xv]).run P w = .ok v' w') (hK : wpList P ops Q rest (a.put o.dst v') w') : wpList P ops Q (o :: rest) a w := by
  refine wpList_plain hgd fun K hK' => ?_
  unfold Oper.wp execOp
  simp only [ho, resolve, invoke, builtin, Sem.run_bind, Sem.run_pure, Result.andThen_ok, List.map_toArray, List.map_cons, List.map_nil, hs, hx, hr]
  exact hK' _ _ hK
end

theorem step_app_run {P : Program} {ops : Array Oper} {o : Oper} {a : Act} {w : World} {K : Act → World → Prop} {Q : Exit → Act → World → Prop} {E : Prop}
    (hg : o.guard = none) (s x : Operand) (t tx : TypeId) (hop : o.op = Op.call { callee := Callee.builtin Builtin.append, args := #[s, x], argTypes := #[t, tx] })
    (v xv v' : Value) (w' : World) (hs : a.eval s = v) (hx : a.eval x = xv) (hr : (Builtin.append_ #[t, tx] o.type #[v, xv]).run P w = .ok v' w') (hK : K (a.put o.dst v') w') :
    if Region.wanted o (yielded ops a.tmps) = true then Oper.wp P o a w K Q else E := by
  have hw : Region.wanted o (yielded ops a.tmps) = true := by simp [Region.wanted, hg]
  rw [if_pos hw]
  unfold Oper.wp
  simp [execOp, hop, resolve, invoke, builtin, hs, hx, hr, Result.andThen]
  exact hK

/-- The document's filter at fb: an owner. -/
def RF (base fb : Nat) (s : FlS) : Res := fun w F => ∃ vx vp tv, RefAt w base fb vx vp tv s ∧ ∀ k, F k ↔ rfoot fb vx vp tv k
theorem RF.fr (base fb : Nat) (s : FlS) : Fr base (RF base fb s) := by
  refine ⟨fun h b hs _ => ?_, fun h hk => ?_⟩
  · obtain ⟨vx, vp, tv, h, hF⟩ := h
    exact ⟨vx, vp, tv, h.bt b (fun i hi => hs i ((hF i).2 hi)), hF⟩
  · obtain ⟨vx, vp, tv, h, hF⟩ := h
    exact h.lt ((hF _).1 hk)

theorem info_part : (Tryd.prog.info? 135).map (fun i => (i.zero, i.size, i.bytes)) = some (some (.agg #[.int .i64 0, .slice none 0 0]), 2, 32) := by kernel_rfl
theorem info_num : (Tryd.prog.info? 3).map (fun i => (i.zero, i.size, i.bytes)) = some (some (.int .i64 0), 1, 8) := by kernel_rfl
theorem zel_num : El 1 [[Value.int .i64 0]] := fun e he => by simp at he; subst he; exact ⟨rfl, fun v hv => by simp at hv; subst hv; rfl⟩
theorem zel_part : El 2 [[Value.int .i64 0, Value.slice none 0 0]] := fun e he => by simp at he; subst he; exact ⟨rfl, fun v hv => by simp at hv; rcases hv with rfl | rfl <;> rfl⟩

/-- append of numbers to a list of numbers. -/
theorem append_nums {w : World} (ty : TypeId) (base : Nat) (v : Value) (X : List Int) (h : Lst w base 3 1 v (ints X)) (sp : Option Addr) (m c : Nat) (l : List Int) (hl : l.length = m) (hs : Src w sp (ints l)) (hn : X.length + m ≤ 1099511627776) (hbase : base ≤ w.heap.size) :
    ∃ v' w', (Builtin.append_ #[24, 24] ty #[v, .slice sp m c]).run Tryd.prog w = .ok v' w' ∧ Lst w' base 3 1 v' (ints (X ++ l)) ∧ Bt (fun k => v.ownBlock = some k) w w' ∧ (v'.ownBlock = v.ownBlock ∨ v'.ownBlock = some w.heap.size) := by
  rw [ints_app]
  exact append_lst (P := Tryd.prog) base 24 ty 3 (.int .i64 0) [.int .i64 0] 1 8 Tryd.underlying24 info_num rfl zel_num (by decide) v _ h sp m c (ints l) (by rw [ints_len]; exact hl) (ints_el l) hs (by rw [ints_len]; exact hn) (by decide) hbase
theorem append_nulls {w : World} (ty : TypeId) (base : Nat) (v : Value) (X : List Int) (h : Lst w base 3 1 v (ints X)) (m : Nat) (hn : X.length + m ≤ 1099511627776) (hbase : base ≤ w.heap.size) :
    ∃ v' w', (Builtin.append_ #[24, 3] ty #[v, .int .i64 m]).run Tryd.prog w = .ok v' w' ∧ Lst w' base 3 1 v' (ints (X ++ List.replicate m 0)) ∧ Bt (fun k => v.ownBlock = some k) w w' ∧ (v'.ownBlock = v.ownBlock ∨ v'.ownBlock = some w.heap.size) := by
  have e : ints (X ++ List.replicate m 0) = ints X ++ List.replicate m [.int .i64 0] := by rw [ints_app]; simp [ints]
  rw [e]
  exact append_zeros (P := Tryd.prog) base 24 3 ty 3 .i64 (.int .i64 0) [.int .i64 0] 1 8 Tryd.underlying24 (by kernel_rfl) info_num rfl zel_num (by decide) v _ h m (by rw [ints_len]; exact hn) (by decide) hbase
end Go.Proofs.YtddpcjgekfmhkabDoor

/- The document's filter: put. -/
namespace Go.Proofs.YtddpcjgekfmhkabDoor
open Go.RowKit
set_option linter.unusedSimpArgs false
set_option linter.unusedVariables false

def FlS.plus (s : FlS) (f : Nat) (l : List Int) : FlS := { s with parts := s.parts ++ [(f, l)] }
/-- An owner's step: what is there behind it. -/
def Steps (w : World) (F : Nat → Prop) (R : Res) (w' : World) : Prop := ∃ F', R w' F' ∧ Stp w F w' F'

theorem put_fin {w w8 w9 w10 : World} {base fb : Nat} {vx vp v8 v10 : Value} {tv : List Value} {s : FlS} {F : Nat → Prop} {f : Nat} {l : List Int} {t : TypeId} (h : RefAt w base fb vx vp tv s) (hF : ∀ k, F k ↔ rfoot fb vx vp tv k)
    (h8 : Lst w8 w.heap.size 3 1 v8 (ints l)) (b8 : Bt (fun _ => False) w w8) (b9 : Bt (fun _ => False) w8 w9)
    (h10 : Lst w10 base 135 2 v10 (partRows s.parts tv ++ [[.int .i64 (f : Int), v8]])) (b10 : Bt (fun k => vp.ownBlock = some k) w9 w10) (o10 : v10.ownBlock = vp.ownBlock ∨ v10.ownBlock = some w9.heap.size) (hz : w8.heap.size < w9.heap.size) :
    Steps w F (RF base fb (s.plus f l)) (w10.setCell ⟨fb, 4, none⟩ v10) := by
  have b1 : Bt (fun k => vp.ownBlock = some k) w w10 := ((b8.trans b9 (fun _ _ x => x)).mono (fun _ _ x => x.elim)).trans b10 (fun _ _ x => x)
  have s8 := b8.size
  have s10 := b10.size
  have hbase : base ≤ w.heap.size := by have := h.ge; have := h.blk.lt; omega
  have hlt : ∀ k, v8.ownBlock = some k → w.heap.size ≤ k ∧ k < w8.heap.size := fun k hk => h8.ge hk
  have hv10 : ∀ k, v10.ownBlock = some k → vp.ownBlock = some k ∨ k = w9.heap.size := fun k hk => by
    rcases o10 with e | e
    · exact .inl (e ▸ hk)
    · rw [e] at hk; exact .inr (Option.some.inj hk).symm
  have hlo : ∀ k, rfoot fb vx vp tv k → k < w.heap.size := fun k hk => (h.lt hk).2
  have hsz9 : w.heap.size < w9.heap.size := by omega
  have bc : Bt (fun k => k = fb) w10 (w10.setCell ⟨fb, 4, none⟩ v10) := (Bt.refl (fun k => k = fb) w10).setCell (p := ⟨fb, 4, none⟩) (fun _ => rfl) _
  have nfb10 : v10.ownBlock ≠ some fb := fun e => by
    rcases hv10 fb e with q | q
    · exact h.n1.2 q
    · have := h.blk.lt; omega
  refine ⟨rfoot fb vx v10 (tv ++ [v8]), ⟨vx, v10, tv ++ [v8], ⟨?_, ?_, ?_, ?_, ?_, h.ge, ⟨h.n1.1, nfb10⟩, ?_, ?_⟩, fun _ => Iff.rfl⟩, ?_, ?_⟩
  · exact (h.blk.bt b1 (fun e => h.n1.2 e)).set4 v10
  · exact (h.x.bt b1 (fun g hg e => h.n2 g hg e)).bt bc (fun g hg e => h.n1.1 (e ▸ hg))
  · have e : partRows (s.plus f l).parts (tv ++ [v8]) = partRows s.parts tv ++ [[.int .i64 (f : Int), v8]] := by
      unfold partRows FlS.plus
      show List.zipWith _ (s.parts ++ [(f, l)]) (tv ++ [v8]) = _
      rw [List.zipWith_append h.len.symm]; rfl
    rw [e]
    exact h10.bt bc (fun g hg e => nfb10 (e ▸ hg))
  · simp [FlS.plus, h.len]
  · intro i p v hp hv
    have hp' : (s.parts ++ [(f, l)])[i]? = some p := hp
    by_cases hi : i < s.parts.length
    · rw [List.getElem?_append_left hi] at hp'
      rw [List.getElem?_append_left (by rw [h.len]; exact hi)] at hv
      have hm := List.mem_of_getElem? hv
      exact ((h.taps i p v hp' hv).bt b1 (fun g hg e => (h.n3 v hm g hg).2.2 e)).bt bc (fun g hg e => (h.n3 v hm g hg).1 e)
    · rw [List.getElem?_append_right (by omega)] at hp'
      rw [List.getElem?_append_right (by rw [h.len]; omega)] at hv
      have hi0 : i - s.parts.length = 0 := by
        rcases Nat.eq_zero_or_pos (i - s.parts.length) with e | e
        · exact e
        · rw [List.getElem?_eq_none (by simp; omega)] at hp'; cases hp'
      rw [h.len] at hv
      rw [hi0] at hp' hv
      simp at hp' hv
      subst hp' hv
      have q : Lst w10 w.heap.size 3 1 v8 (ints l) := (h8.bt b9 (fun _ _ x => x)).bt b10 (fun g hg e => by have := hlt g hg; have := hlo g (.inr (.inr (.inl e))); omega)
      exact (q.mono hbase).bt bc (fun g hg e => by have := hlt g hg; have := h.blk.lt; omega)
  · intro k hk e
    rcases hv10 k e with q | q
    · exact h.n2 k hk q
    · have := hlo k (.inr (.inl hk)); omega
  · intro v hv k hk
    rcases List.mem_append.1 hv with hv | hv
    · have q := h.n3 v hv k hk
      refine ⟨q.1, q.2.1, fun e => ?_⟩
      rcases hv10 k e with e | e
      · exact q.2.2 e
      · have := hlo k (.inr (.inr (.inr ⟨v, hv, hk⟩))); omega
    · simp at hv
      subst hv
      have q := hlt k hk
      refine ⟨fun e => ?_, fun e => ?_, fun e => ?_⟩
      · have := h.blk.lt; omega
      · have := hlo k (.inr (.inl e)); omega
      · rcases hv10 k e with e | e
        · have := hlo k (.inr (.inr (.inl e))); omega
        · omega
  · exact (b1.mono (fun k _ hk => (hF k).2 (.inr (.inr (.inl hk))))).trans bc (fun k _ e => (hF k).2 (.inl e))
  · rintro k (rfl | hk | hk | ⟨v, hv, hk⟩)
    · exact .inl ((hF _).2 (.inl rfl))
    · exact .inl ((hF k).2 (.inr (.inl hk)))
    · rcases hv10 k hk with e | e
      · exact .inl ((hF k).2 (.inr (.inr (.inl e))))
      · exact .inr (by omega)
    · rcases List.mem_append.1 hv with hv | hv
      · exact .inl ((hF k).2 (.inr (.inr (.inr ⟨v, hv, hk⟩))))
      · simp at hv
        subst hv
        exact .inr (hlt k hk).1

set_option maxHeartbeats 1000000 in
set_option maxRecDepth 20000 in
theorem put_ref {w : World} {base fb : Nat} {s : FlS} {F : Nat → Prop} (h : RF base fb s w F) (a : Option Addr) (c : Nat) (l : List Int) (f : Nat) (hs : Src w a (ints l)) (hl : l.length ≤ 1048576) (hp : s.parts.length ≤ 1099511627) :
    Calls Tryd.prog 84 #[.pointer (some ⟨fb, 0, none⟩), .int .i64 f, .slice a l.length c] w fun e w' => e = .returned (.tuple #[]) ∧ Steps w F (RF base fb (s.plus f l)) w' := by
  obtain ⟨vx, vp, tv, h, hF⟩ := h
  have HH : Hid (RefAt w base fb vx vp tv s ∧ ∀ k, F k ↔ rfoot fb vx vp tv k) := ⟨h, hF⟩
  have hplen : (partRows s.parts tv).length = s.parts.length := by simp [partRows, h.len]
  obtain ⟨v8, w8, hr8, h8, b8, o8⟩ := append_nums (w := w) 24 w.heap.size (.slice none 0 0) [] (Lst.nil _ _ _ _) a l.length c l rfl hs (by simp; omega) (Nat.le_refl _)
  have B8 : Bt (fun _ => False) w w8 := b8.mono (fun k _ hk => by cases hk)
  obtain ⟨a8, c8, rfl, _, _⟩ := h8.form
  rw [List.nil_append, ints_len] at h8
  rw [List.nil_append, ints_len] at hr8
  obtain ⟨w9, hw9⟩ : ∃ w9, w9 = w8.alloc (.cells #[.int .i64 (f : Int), .slice a8 l.length c8] 135) := ⟨_, rfl⟩
  have B9 : Bt (fun _ => False) w8 w9 := by rw [hw9]; exact (Bt.refl _ _).alloc _
  have Z9 : w8.heap.size < w9.heap.size := by rw [hw9]; simp
  have S9 : Src w9 (some ⟨w8.heap.size, 0, none⟩) [[.int .i64 (f : Int), .slice a8 l.length c8]] := by
    rw [hw9]
    intro _
    refine ⟨_, _, rfl, fun j u hj => ?_⟩
    rw [World.cell?_alloc_at _ _ _ _ rfl]
    simpa using hj
  have c4 := (h.blk.bt B8 (fun x => x)).c4
  have d4 := (h.blk.bt (B8.trans B9 (fun _ _ x => x)) (fun x => x))
  obtain ⟨v10, w10, hr10, h10, b10, o10⟩ := append_lst (P := Tryd.prog) (w := w9) base 123 123 135 (.agg #[.int .i64 0, .slice none 0 0]) [.int .i64 0, .slice none 0 0] 2 32 Tryd.underlying123 info_part rfl zel_part (by decide) vp (partRows s.parts tv) (h.p.bt (B8.trans B9 (fun _ _ x => x)) (fun _ _ x => x)) (some ⟨w8.heap.size, 0, none⟩) 1 1 [[.int .i64 (f : Int), .slice a8 l.length c8]] rfl (fun e he => by simp at he; subst he; exact ⟨rfl, fun v hv => by simp at hv; rcases hv with rfl | rfl <;> rfl⟩) S9 (by rw [hplen]; omega) (by decide) (by have := h.ge; have := h.blk.lt; have := B8.size; omega)
  have e10 := (d4.bt b10 (fun e => h.n1.2 e)).c4
  have f10 := (d4.bt b10 (fun e => h.n1.2 e)).fr 4
  have HF : Hid (Steps w F (RF base fb (s.plus f l)) (w10.setCell ⟨fb, 4, none⟩ v10)) := put_fin (t := 135) h hF h8 B8 B9 h10 b10 o10 Z9
  obtain ⟨a10, c10, hv10, _, _⟩ := h10.form
  obtain ⟨ap, cp, hvp, _, _⟩ := h.p.form
  rw [hw9] at hr10
  rw [hv10] at hr10 HF
  rw [hvp] at c4 e10 hr10
  generalize (partRows s.parts tv ++ [[Value.int .i64 (f : Int), .slice a8 l.length c8]]).length = n10 at *
  generalize (partRows s.parts tv).length = np at *
  generalize l.length = ll at *
  clear hplen h hF h8 B8 B9 h10 b10 o10 hs d4 S9 b8 o8 HH hw9 Z9 hv10 hvp
  go_enter Tryd.func84, Tryd.ntmps84
  go_wp2_with (first
    | (at_builtin; refine wpList_append_run rfl _ _ 24 24 rfl _ _ _ _ rfl rfl hr8 ?_)
    | (at_builtin; refine wpList_append_run rfl _ _ 123 123 rfl _ _ _ _ rfl rfl hr10 ?_))
  go_end0
  exact ⟨rfl, HF.out⟩
end Go.Proofs.YtddpcjgekfmhkabDoor

/- The document's filter: Push, Flush. -/
namespace Go.Proofs.YtddpcjgekfmhkabDoor
open Go.RowKit
set_option linter.unusedSimpArgs false
set_option linter.unusedVariables false

theorem more_fin {w w8 : World} {base fb : Nat} {vx vp v8 : Value} {tv : List Value} {s : FlS} {F : Nat → Prop} {l : List Int} (h : RefAt w base fb vx vp tv s) (hF : ∀ k, F k ↔ rfoot fb vx vp tv k)
    (h8 : Lst w8 base 3 1 v8 (ints (s.X ++ l))) (b8 : Bt (fun k => vx.ownBlock = some k) w w8) (o8 : v8.ownBlock = vx.ownBlock ∨ v8.ownBlock = some w.heap.size) :
    Steps w F (RF base fb (s.more l)) (w8.setCell ⟨fb, 3, none⟩ v8) := by
  have hlo : ∀ k, rfoot fb vx vp tv k → k < w.heap.size := fun k hk => (h.lt hk).2
  have hv8 : ∀ k, v8.ownBlock = some k → vx.ownBlock = some k ∨ k = w.heap.size := fun k hk => by
    rcases o8 with e | e
    · exact .inl (e ▸ hk)
    · rw [e] at hk; exact .inr (Option.some.inj hk).symm
  have bc : Bt (fun k => k = fb) w8 (w8.setCell ⟨fb, 3, none⟩ v8) := (Bt.refl (fun k => k = fb) w8).setCell (p := ⟨fb, 3, none⟩) (fun _ => rfl) _
  have nfb : v8.ownBlock ≠ some fb := fun e => by
    rcases hv8 fb e with q | q
    · exact h.n1.1 q
    · have := h.blk.lt; omega
  refine ⟨rfoot fb v8 vp tv, ⟨v8, vp, tv, ⟨?_, ?_, ?_, h.len, ?_, h.ge, ⟨nfb, h.n1.2⟩, ?_, ?_⟩, fun _ => Iff.rfl⟩, ?_, ?_⟩
  · exact (h.blk.bt b8 (fun e => h.n1.1 e)).set3 v8
  · exact h8.bt bc (fun g hg e => nfb (e ▸ hg))
  · exact (h.p.bt b8 (fun g hg e => h.n2 g e hg)).bt bc (fun g hg e => h.n1.2 (e ▸ hg))
  · intro i p v hp hv
    have hm := List.mem_of_getElem? hv
    exact ((h.taps i p v hp hv).bt b8 (fun g hg e => (h.n3 v hm g hg).2.1 e)).bt bc (fun g hg e => (h.n3 v hm g hg).1 e)
  · intro k hk e
    rcases hv8 k hk with q | q
    · exact h.n2 k q e
    · have := hlo k (.inr (.inr (.inl e))); omega
  · intro v hv k hk
    have q := h.n3 v hv k hk
    refine ⟨q.1, fun e => ?_, q.2.2⟩
    rcases hv8 k e with e | e
    · exact q.2.1 e
    · have := hlo k (.inr (.inr (.inr ⟨v, hv, hk⟩))); omega
  · exact (b8.mono (fun k _ hk => (hF k).2 (.inr (.inl hk)))).trans bc (fun k _ e => (hF k).2 (.inl e))
  · rintro k (rfl | hk | hk | ⟨v, hv, hk⟩)
    · exact .inl ((hF _).2 (.inl rfl))
    · rcases hv8 k hk with e | e
      · exact .inl ((hF k).2 (.inr (.inl e)))
      · exact .inr (by omega)
    · exact .inl ((hF k).2 (.inr (.inr (.inl hk))))
    · exact .inl ((hF k).2 (.inr (.inr (.inr ⟨v, hv, hk⟩))))

theorem Stp.drewN {w : World} {F : Nat → Prop} (m : Nat) : Stp w F (w.drewN m) F := ⟨(Bt.refl _ _).drewN m, fun _ h => .inl h⟩

/-- What Push tells and leaves. -/
def pushN (s : FlS) (l : List Int) : Nat := min l.length s.room
def pushS (s : FlS) (l : List Int) : FlS := if ∀ v ∈ l, okSample v then s.more (l.take (pushN s l)) else s
def pushR (s : FlS) (l : List Int) : Int := if ∀ v ∈ l, okSample v then pushN s l else 0
def pushE (s : FlS) (l : List Int) : Int := if ∀ v ∈ l, okSample v then 0 else 5

set_option maxHeartbeats 2000000 in
set_option maxRecDepth 20000 in
theorem push_ref {w : World} {base fb : Nat} {s : FlS} {F : Nat → Prop} (h : RF base fb s w F) (a : Option Addr) (c : Nat) (l : List Int) (hs : Src w a (ints l)) (hl : l.length ≤ 1099511627776) (hlc : l.length ≤ c) (hnil : a = none → c = 0)
    (hx : s.X.length ≤ 549755813888) (h1 : s.pulled ≤ s.X.length) (h2 : s.X.length ≤ s.pulled + s.R) (h3 : s.R ≤ 65536) :
    Calls Tryd.prog 85 #[.pointer (some ⟨fb, 0, none⟩), .slice a l.length c] w fun e w' => e = .returned (.tuple #[.int .i64 (pushR s l), .int .i64 (pushE s l)]) ∧ Steps w F (RF base fb (pushS s l)) w' := by
  obtain ⟨vx, vp, tv, h, hF⟩ := h
  have HH : Hid (RefAt w base fb vx vp tv s ∧ ∀ k, F k ↔ rfoot fb vx vp tv k) := ⟨h, hF⟩
  have CR : ∀ w', Bt (fun _ => False) w w' → Calls Tryd.prog 86 #[.pointer (some ⟨fb, 0, none⟩)] w' fun e w'' => e = .returned (.int .i64 (s.room : Nat)) ∧ ∃ m : Nat, w'' = w'.drewN m :=
    fun w' b => room_any (h.bt b (fun _ _ x => x)) (by omega) h1 h2 h3
  have HS : Hid (∀ i, i < l.length → ∃ b o, a = some ⟨b, o, none⟩ ∧ w.cell? ⟨b, o + i, none⟩ = some (.int .i64 (at0 l i))) := fun i hi => hs.int (at0_some hi)
  have HSr : Hid (Src w a (ints l)) := hs
  have hroom : s.room ≤ 65536 := by unfold FlS.room; omega
  obtain ⟨N, hN⟩ : ∃ N, l.length = N := ⟨_, rfl⟩
  have HN : Hid (l.length = N) := hN
  have c3 := h.blk.c3
  obtain ⟨ax, cx, hvx, _, _⟩ := h.x.form
  rw [hvx, ints_len] at c3
  -- the end, with k samples more
  have HE : Hid (∀ (m k : Nat), (∀ v ∈ l, okSample v) → k = pushN s l → ∃ a8 n8 c8 w8, (Builtin.append_ #[24, 24] 24 #[.slice ax s.X.length cx, .slice a k c]).run Tryd.prog (w.drewN m).drew = .ok (.slice a8 n8 c8) w8 ∧ w8.cell? ⟨fb, 3, none⟩ = some (.slice ax s.X.length cx) ∧ w8.frozen? ⟨fb, 3, none⟩ = false ∧ Steps w F (RF base fb (pushS s l)) (w8.setCell ⟨fb, 3, none⟩ (.slice a8 n8 c8))) := by
    intro m k hall hk
    have b0 : Bt (fun _ => False) w (w.drewN m).drew := ((Bt.refl _ _).drewN m).drew
    have hk2 : (l.take k).length = k := by rw [List.length_take, hk]; unfold pushN; omega
    have hs2 : Src (w.drewN m).drew a (ints (l.take k)) := by rw [ints_take]; exact (hs.bt b0 (fun _ _ _ x => x)).take (ints_el l) k
    obtain ⟨v8, w8, hr, h8, b8, o8⟩ := append_nums (w := (w.drewN m).drew) 24 base vx s.X (h.x.bt b0 (fun _ _ x => x)) a k c (l.take k) hk2 hs2 (by rw [hk]; unfold pushN; omega) (by have := h.ge; have := h.blk.lt; show base ≤ w.heap.size; omega)
    obtain ⟨a8, c8, hv8, _, _⟩ := h8.form
    have hb := (h.blk.bt b0 (fun x => x)).bt b8 (fun e => h.n1.1 e)
    refine ⟨a8, _, c8, w8, by rw [← hv8, ← hr, hvx, ints_len], by rw [hb.c3, hvx, ints_len], hb.fr 3, ?_⟩
    have e : pushS s l = s.more (l.take k) := by unfold pushS; rw [if_pos hall, hk]
    rw [e, ← hv8]
    have := more_fin (h.bt b0 (fun _ _ x => x)) hF h8 b8 o8
    obtain ⟨F', q1, q2⟩ := this
    exact ⟨F', q1, (show Stp w F (w.drewN m).drew F from ⟨((Bt.refl _ _).drewN m).drew, fun _ h => .inl h⟩).trans q2⟩
  have HB : Hid (∀ v, v ∈ l → ¬ okSample v → pushR s l = 0 ∧ pushE s l = 5 ∧ pushS s l = s) := by
    intro v hv hb
    have hn : ¬ ∀ v ∈ l, okSample v := fun q => hb (q v hv)
    unfold pushR pushE pushS
    rw [if_neg hn, if_neg hn, if_neg hn]; exact ⟨rfl, rfl, rfl⟩
  have HG : Hid ((∀ v ∈ l, okSample v) → pushR s l = (pushN s l : Nat) ∧ pushE s l = 0) := by
    intro hall
    unfold pushR pushE
    rw [if_pos hall, if_pos hall]; exact ⟨rfl, rfl⟩
  have HP : Hid (pushN s l = min N s.room) := by unfold pushN; rw [hN]; exact rfl
  generalize hR : pushR s l = R0 at *
  generalize hEE : pushE s l = E0 at *
  rw [hN] at HS hl hlc ⊢
  generalize s.X.length = NX at *
  generalize s.room = r at *
  clear h hF hs hN hvx hR hEE
  go_enter Tryd.func85, Tryd.ntmps85
  go_wp2
  go_loop [6] (fun ti => ∃ i : Nat, ti = .int .i64 i ∧ i ≤ N ∧ Hid (∀ j, j < i → okSample (at0 l j))) (fun ti => N - (intOf ti).toNat)
  case atStart => exact ⟨0, rfl, Nat.zero_le _, fun j hj => by omega⟩
  case round =>
    obtain ⟨i, rfl, hi, HI⟩ := hrel
    by_cases hlt : i < N
    · obtain ⟨b, o, rfl, ci⟩ := HS.out i hlt
      have hlt1 : (i : Int) < (N : Int) := by omega
      have hmem : at0 l i ∈ l := List.mem_of_getElem? (at0_some (by rw [HN.out]; exact hlt))
      obtain ⟨x, hx⟩ : ∃ x, at0 l i = x := ⟨_, rfl⟩
      have HX : Hid (at0 l i = x) := hx
      rw [hx] at ci
      clear hx
      by_cases e1 : x < -2147483648
      · have hbad : Hid (R0 = 0 ∧ E0 = 5 ∧ pushS s l = s) := HB.out _ hmem (fun q => by unfold okSample at q; rw [HX.out] at q; omega)
        clear hmem
        go_wp2
        go_ret2
        refine ⟨by rw [hbad.out.1, hbad.out.2.1]; rfl, ?_⟩
        rw [hbad.out.2.2]
        exact ⟨F, ⟨vx, vp, tv, HH.out⟩, Stp.refl _ _⟩
      · have p1 : decide (x < -2147483648) = false := decide_eq_false e1
        by_cases e2 : 2147483647 < x
        · have hbad : Hid (R0 = 0 ∧ E0 = 5 ∧ pushS s l = s) := HB.out _ hmem (fun q => by unfold okSample at q; rw [HX.out] at q; omega)
          clear hmem
          go_wp2
          go_ret2
          refine ⟨by rw [hbad.out.1, hbad.out.2.1]; rfl, ?_⟩
          rw [hbad.out.2.2]
          exact ⟨F, ⟨vx, vp, tv, HH.out⟩, Stp.refl _ _⟩
        · have p2 : decide (2147483647 < x) = false := decide_eq_false e2
          clear hmem
          go_wp2
          go_round
          case rel =>
            refine ⟨i + 1, by go_num, by omega, fun j hj => ?_⟩
            by_cases e : j = i
            · subst e; rw [HX.out]; exact ⟨by omega, by omega⟩
            · exact HI.out j (by omega)
          case measure => simp [intOf]; omega
    · obtain rfl : i = N := by omega
      have hall : ∀ v ∈ l, okSample v := by
        intro v hv
        obtain ⟨j, hj⟩ := List.getElem?_of_mem hv
        have hjl : j < l.length := by
          rcases Nat.lt_or_ge j l.length with e | e
          · exact e
          · rw [List.getElem?_eq_none e] at hj; cases hj
        rw [at0_some hjl] at hj
        rw [← Option.some.inj hj]
        exact HI.out j (by rw [← HN.out]; exact hjl)
      have HALL : Hid ((∀ v ∈ l, okSample v) ∧ R0 = (pushN s l : Nat) ∧ E0 = 0) := ⟨hall, HG.out hall⟩
      clear hall
      by_cases hr : r < i
      · have hr1 : (r : Int) < (i : Int) := by omega
        have hk : r = pushN s l := by rw [HP.out]; omega
        have HK : Hid (r = pushN s l) := hk
        clear hk
        have hrc : r ≤ c := by omega
        cases a with
        | none => have := hnil rfl; omega
        | some ad =>
          clear hnil
          go_wp2_with (first
            | (go_at_call 86; have _t := CR; refine (CR _ (Bt.refl _ _)).mono ?_; rintro e w' ⟨rfl, m, hw⟩; subst hw)
            | (go_at_call 86; refine (CR _ ((Bt.refl _ _).drewN _)).mono ?_; rintro e w' ⟨rfl, m2, hw⟩; rw [drewN_add] at hw; subst hw))
          obtain ⟨a8, n8, c8, w8, hr8, c8', f8, HF⟩ := HE.out (m + m2) r HALL.out.1 HK.out
          have HF' : Hid (Steps w F (RF base fb (pushS s l)) (w8.setCell ⟨fb, 3, none⟩ (.slice a8 n8 c8))) := HF
          clear HF
          go_region_law (refine step_app_run rfl _ _ 24 24 rfl _ _ _ _ rfl rfl hr8 ?_)
          go_wp2
          go_ret2
          exact ⟨by rw [HALL.out.2.1, HALL.out.2.2, ← HK.out]; rfl, HF'.out⟩
      · have hr1 : ¬ (r : Int) < (i : Int) := by omega
        have hk : i = pushN s l := by rw [HP.out]; omega
        have HK : Hid (i = pushN s l) := hk
        clear hk
        cases a with
        | none =>
          have hc0 := hnil rfl
          subst hc0
          obtain rfl : i = 0 := by omega
          clear hnil
          go_wp2_with (go_at_call 86; refine (CR _ (Bt.refl _ _)).mono ?_; rintro e w' ⟨rfl, m, hw⟩; subst hw)
          obtain ⟨a8, n8, c8, w8, hr8, c8', f8, HF⟩ := HE.out m 0 HALL.out.1 HK.out
          have HF' : Hid (Steps w F (RF base fb (pushS s l)) (w8.setCell ⟨fb, 3, none⟩ (.slice a8 n8 c8))) := HF
          clear HF
          go_region_law (refine step_app_run rfl _ _ 24 24 rfl _ _ _ _ rfl rfl hr8 ?_)
          go_wp2
          go_ret2
          exact ⟨by rw [HALL.out.2.1, HALL.out.2.2, ← HK.out]; rfl, HF'.out⟩
        | some ad =>
          clear hnil
          go_wp2_with (go_at_call 86; refine (CR _ (Bt.refl _ _)).mono ?_; rintro e w' ⟨rfl, m, hw⟩; subst hw)
          obtain ⟨a8, n8, c8, w8, hr8, c8', f8, HF⟩ := HE.out m i HALL.out.1 HK.out
          have HF' : Hid (Steps w F (RF base fb (pushS s l)) (w8.setCell ⟨fb, 3, none⟩ (.slice a8 n8 c8))) := HF
          clear HF
          go_region_law (refine step_app_run rfl _ _ 24 24 rfl _ _ _ _ rfl rfl hr8 ?_)
          go_wp2
          go_ret2
          exact ⟨by rw [HALL.out.2.1, HALL.out.2.2, ← HK.out]; rfl, HF'.out⟩

/-- What Flush tells and leaves. -/
def flushS (s : FlS) : FlS := if s.room < s.missing then s else s.more (List.replicate s.missing 0)
def flushR (s : FlS) : Int := if s.room < s.missing then 0 else s.missing
def flushE (s : FlS) : Int := if s.room < s.missing then 7 else 0

theorem missing_at {n B k : Nat} (h0 : 0 < B) (hk : k ≤ (B - n % B) % B) : (n + k) % B = 0 ↔ k = (B - n % B) % B := by
  have hn := Nat.div_add_mod n B
  have hl := Nat.mod_lt n h0
  generalize n % B = r at *
  by_cases hr : r = 0
  · subst hr
    rw [Nat.sub_zero, Nat.mod_self] at hk ⊢
    obtain rfl : k = 0 := by omega
    rw [Nat.add_zero, ← hn, Nat.add_zero, Nat.mul_mod_right]
  · have e2 : (B - r) % B = B - r := Nat.mod_eq_of_lt (by omega)
    rw [e2] at hk ⊢
    have e : n + k = (r + k) + B * (n / B) := by omega
    rw [e, Nat.add_mul_mod_self_left]
    by_cases h : r + k = B
    · rw [h, Nat.mod_self]; exact ⟨fun _ => by omega, fun _ => rfl⟩
    · rw [Nat.mod_eq_of_lt (by omega)]; omega

set_option maxHeartbeats 2000000 in
set_option maxRecDepth 20000 in
theorem flush_ref {w : World} {base fb : Nat} {s : FlS} {F : Nat → Prop} (h : RF base fb s w F)
    (hx : s.X.length ≤ 549755813888) (h1 : s.pulled ≤ s.X.length) (h2 : s.X.length ≤ s.pulled + s.R) (h3 : s.R ≤ 65536) (hB0 : 0 < s.B) (hB : s.B ≤ 256) :
    Calls Tryd.prog 59 #[.pointer (some ⟨fb, 0, none⟩)] w fun e w' => e = .returned (.tuple #[.int .i64 (flushR s), .int .i64 (flushE s)]) ∧ Steps w F (RF base fb (flushS s)) w' := by
  obtain ⟨vx, vp, tv, h, hF⟩ := h
  have HH : Hid (RefAt w base fb vx vp tv s ∧ ∀ k, F k ↔ rfoot fb vx vp tv k) := ⟨h, hF⟩
  have CR : ∀ w', Bt (fun _ => False) w w' → Calls Tryd.prog 86 #[.pointer (some ⟨fb, 0, none⟩)] w' fun e w'' => e = .returned (.int .i64 (s.room : Nat)) ∧ ∃ m : Nat, w'' = w'.drewN m :=
    fun w' b => room_any (h.bt b (fun _ _ x => x)) (by omega) h1 h2 h3
  have hroom : s.room ≤ 65536 := by unfold FlS.room; omega
  have hmis : s.missing < s.B := Nat.mod_lt _ hB0
  have c3 := h.blk.c3
  have c0 := h.blk.c0
  obtain ⟨ax, cx, hvx, _, _⟩ := h.x.form
  rw [hvx, ints_len] at c3
  have HE : Hid (∀ (m : Nat), ¬ s.room < s.missing → ∃ a8 n8 c8 w8, (Builtin.append_ #[24, 3] 24 #[.slice ax s.X.length cx, .int .i64 (s.missing : Nat)]).run Tryd.prog (w.drewN m) = .ok (.slice a8 n8 c8) w8 ∧ w8.cell? ⟨fb, 3, none⟩ = some (.slice ax s.X.length cx) ∧ w8.frozen? ⟨fb, 3, none⟩ = false ∧ Steps w F (RF base fb (flushS s)) (w8.setCell ⟨fb, 3, none⟩ (.slice a8 n8 c8))) := by
    intro m hr
    have b0 : Bt (fun _ => False) w (w.drewN m) := (Bt.refl _ _).drewN m
    obtain ⟨v8, w8, hr8, h8, b8, o8⟩ := append_nulls (w := w.drewN m) 24 base vx s.X (h.x.bt b0 (fun _ _ x => x)) s.missing (by omega) (by have := h.ge; have := h.blk.lt; show base ≤ w.heap.size; omega)
    obtain ⟨a8, c8, hv8, _, _⟩ := h8.form
    have hb := (h.blk.bt b0 (fun x => x)).bt b8 (fun e => h.n1.1 e)
    refine ⟨a8, _, c8, w8, by rw [← hv8, ← hr8, hvx, ints_len], by rw [hb.c3, hvx, ints_len], hb.fr 3, ?_⟩
    have e : flushS s = s.more (List.replicate s.missing 0) := by unfold flushS; rw [if_neg hr]
    rw [e, ← hv8]
    obtain ⟨F', q1, q2⟩ := more_fin (h.bt b0 (fun _ _ x => x)) hF h8 b8 o8
    exact ⟨F', q1, (Stp.drewN m).trans q2⟩
  have HM : Hid (∀ k, k ≤ s.missing → ((s.X.length + k) % s.B = 0 ↔ k = s.missing)) := fun k hk => missing_at hB0 hk
  have HV : Hid ((s.room < s.missing → flushR s = 0 ∧ flushE s = 7 ∧ flushS s = s) ∧ (¬ s.room < s.missing → flushR s = (s.missing : Nat) ∧ flushE s = 0)) := by
    unfold flushR flushE flushS
    exact ⟨fun hr => by rw [if_pos hr, if_pos hr, if_pos hr]; exact ⟨rfl, rfl, rfl⟩, fun hr => by rw [if_neg hr, if_neg hr]; exact ⟨rfl, rfl⟩⟩
  generalize flushR s = R0 at *
  generalize flushE s = E0 at *
  generalize s.missing = M at *
  generalize s.room = r at *
  generalize s.X.length = NX at *
  generalize s.B = B at *
  clear h hF hvx
  go_enter Tryd.func59, Tryd.ntmps59
  go_wp2
  go_loopw [4] (fun ti wr => ∃ (i m : Nat), ti = .int .i64 i ∧ i ≤ M ∧ wr = w.drewN m) (fun ti _ => M - (intOf ti).toNat)
  case atStart => exact ⟨0, 0, rfl, Nat.zero_le _, rfl⟩
  case round =>
    obtain ⟨i, m, rfl, hi, rfl⟩ := hrel
    obtain ⟨q, hq⟩ : ∃ q : Nat, (NX + i) % B = q := ⟨_, rfl⟩
    have hq2 : q < B := by rw [← hq]; exact Nat.mod_lt _ hB0
    have d1 : ((NX : Int) + (i : Int)).tmod (B : Int) = (q : Int) := by rw [Int.tmod_eq_emod_of_nonneg (by omega), ← hq]; rfl
    have d2 : ((NX : Int) + (i : Int)) % (B : Int) = (q : Int) := by rw [← hq]; rfl
    have hBi : ¬ ((B : Int) = 0) := by omega
    have HQ : Hid (q = 0 ↔ i = M) := by rw [← hq]; exact HM.out i hi
    clear hq
    by_cases hlt : i < M
    · have q0 : (0 : Int) < (q : Int) := by have := HQ.out; omega
      go_wp2
      go_quiet (fail)
      go_wp2
      go_roundw
      case rel => exact ⟨i + 1, _, by go_num, by omega, rfl⟩
      case measure => simp [intOf]; omega
    · obtain rfl : i = M := by omega
      have q0 : ¬ (0 : Int) < (q : Int) := by have := HQ.out.2 rfl; omega
      by_cases hr : r < i
      · have hr1 : (r : Int) < (i : Int) := by omega
        have HX : Hid (R0 = 0 ∧ E0 = 7 ∧ flushS s = s) := HV.out.1 hr
        go_wp2
        go_quiet (fail)
        go_wp2_with (go_at_call 86; refine (CR _ ((Bt.refl _ _).drewN _)).mono ?_; rintro e w' ⟨rfl, m2, hw⟩; rw [drewN_add] at hw; subst hw)
        go_ret2
        refine ⟨by rw [HX.out.1, HX.out.2.1]; rfl, ?_⟩
        rw [HX.out.2.2]
        exact ⟨F, ⟨vx, vp, tv, HH.out.1.bt ((Bt.refl (fun _ => False) w).drewN _) (fun _ _ x => x), HH.out.2⟩, Stp.drewN _⟩
      · have hr1 : ¬ (r : Int) < (i : Int) := by omega
        have HX : Hid (R0 = (i : Nat) ∧ E0 = 0) := HV.out.2 hr
        go_wp2
        go_quiet (fail)
        go_wp2_with (first
          | (go_at_call 86; refine (CR _ ((Bt.refl _ _).drewN _)).mono ?_; rintro e w' ⟨rfl, m2, hw⟩; rw [drewN_add] at hw; subst hw; obtain ⟨a8, n8, c8, w8, hr8, c8', f8, HF⟩ := HE.out _ hr; have HF' : Hid (Steps w F (RF base fb (flushS s)) (w8.setCell ⟨fb, 3, none⟩ (.slice a8 n8 c8))) := HF; clear HF)
          | (at_builtin; refine wpList_append_run rfl _ _ 24 3 rfl _ _ _ _ rfl rfl hr8 ?_))
        go_ret2
        exact ⟨by rw [HX.out.1, HX.out.2]; rfl, HF'.out⟩
end Go.Proofs.YtddpcjgekfmhkabDoor
