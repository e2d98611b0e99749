/- A list of things that is cut at its head and appended to. -/
import Derived.Test.YtddpcjgekfmhkaaAp
namespace Go.Proofs.Ytddpcjgekfmhkaa
open Go.RowKit
set_option linter.unusedSimpArgs false
set_option linter.unusedVariables false

/-- The slice v holds the things L; it lies in a row of the call's own. -/
def Lst (w : World) (base : Nat) (e : TypeId) (sz : Nat) (v : Value) (L : List (List Value)) : Prop :=
  El sz L ∧ ((v = .slice none 0 0 ∧ L = []) ∨ ∃ g off cap C, v = .slice (some ⟨g, off * sz, none⟩) L.length cap ∧ base ≤ g ∧ Rw w g e C ∧ El sz C ∧ off + cap ≤ C.length ∧ L.length ≤ cap ∧ cap ≤ maxLen ∧ (C.drop off).take L.length = L)
section
variable {w w' : World} {base : Nat} {e : TypeId} {sz : Nat} {v : Value} {L : List (List Value)}
theorem Lst.nil (w : World) (base : Nat) (e : TypeId) (sz : Nat) : Lst w base e sz (.slice none 0 0) [] := ⟨fun x hx => by simp at hx, .inl ⟨rfl, rfl⟩⟩
theorem Lst.bt {S : Nat → Prop} (h : Lst w base e sz v L) (k : Bt S w w') (hs : ∀ g, v.ownBlock = some g → ¬ S g) : Lst w' base e sz v L := by
  refine ⟨h.1, ?_⟩
  rcases h.2 with h | ⟨g, off, cap, C, rfl, h1, h2, h3⟩
  · exact .inl h
  · exact .inr ⟨g, off, cap, C, rfl, h1, h2.bt k (hs g rfl), h3⟩
theorem Lst.mono {base' : Nat} (h : Lst w base e sz v L) (hb : base' ≤ base) : Lst w base' e sz v L := by
  refine ⟨h.1, ?_⟩
  rcases h.2 with h | ⟨g, off, cap, C, rfl, h1, h2⟩
  · exact .inl h
  · exact .inr ⟨g, off, cap, C, rfl, Nat.le_trans hb h1, h2⟩
theorem Lst.ge (h : Lst w base e sz v L) {g : Nat} (hg : v.ownBlock = some g) : base ≤ g ∧ g < w.heap.size := by
  rcases h.2 with ⟨rfl, _⟩ | ⟨g', off, cap, C, rfl, h1, h2, h3⟩
  · cases hg
  · simp [Value.ownBlock] at hg
    subst hg
    exact ⟨h1, h2.lt⟩
theorem Lst.form (h : Lst w base e sz v L) : ∃ a c, v = .slice a L.length c ∧ L.length ≤ c ∧ Src w a L := by
  rcases h.2 with ⟨rfl, rfl⟩ | ⟨g, off, cap, C, rfl, h1, h2, h3, h4, h5, h6, h7⟩
  · exact ⟨none, 0, rfl, Nat.le_refl _, fun h => by simp at h⟩
  · refine ⟨_, cap, rfl, h5, ?_⟩
    have := h2.src h3 off L.length (some ⟨g, off * sz, none⟩) (fun _ => rfl)
    rwa [h7] at this
/-- Cut at its head. -/
theorem Lst.cut (h : Lst w base e sz v L) {a : Option Addr} {c : Nat} (hv : v = .slice a L.length c) {n : Nat} (hn : n ≤ L.length) :
    (a = none → n = 0 ∧ c = 0 ∧ L = []) ∧ (∀ b o, a = some ⟨b, o, none⟩ → (n < c → Lst w base e sz (.slice (some ⟨b, o + n * sz, none⟩) (L.length - n) (c - n)) (L.drop n)) ∧ (n = c → Lst w base e sz (.slice (some ⟨b, o, none⟩) 0 0) (L.drop n))) := by
  rcases h.2 with ⟨rfl, rfl⟩ | ⟨g, off, cap, C, rfl, h1, h2, h3, h4, h5, h6, h7⟩
  · simp only [Value.slice.injEq] at hv
    obtain ⟨rfl, _, rfl⟩ := hv
    exact ⟨fun _ => ⟨by simpa using hn, rfl, rfl⟩, fun b o h => (by cases h)⟩
  · simp only [Value.slice.injEq] at hv
    obtain ⟨rfl, _, rfl⟩ := hv
    refine ⟨fun h => (by cases h), fun b o hb => ?_⟩
    simp at hb
    obtain ⟨rfl, rfl⟩ := hb
    refine ⟨fun hlt => ⟨h.1.drop n, .inr ⟨g, off + n, cap - n, C, ?_, h1, h2, h3, by omega, by simp; omega, by omega, ?_⟩⟩, fun heq => ⟨h.1.drop n, .inr ⟨g, off, 0, C, ?_, h1, h2, h3, by omega, ?_, by unfold maxLen; omega, ?_⟩⟩⟩
    · rw [Nat.add_mul, List.length_drop]
    · have e1 : L.drop n = (((C.drop off).take L.length).drop n) := by rw [h7]
      rw [List.length_drop]
      rw [e1, List.drop_take, List.drop_drop]
    · rw [List.drop_of_length_le (by omega)]; rfl
    · simp; omega
    · rw [List.drop_of_length_le (by omega)]; simp
end

section
variable {P : Program} {w : World}
theorem append_lst (base : Nat) (t ty e : TypeId) (zv : Value) (z : List Value) (sz bytes : Nat) (ht : P.underlying t = some (.slice e)) (hinfo : (P.info? e).map (fun i => (i.zero, i.size, i.bytes)) = some (some zv, sz, bytes)) (hz : zv.cells = z.toArray) (hZ : El sz [z]) (hsz : 0 < sz)
    (v : Value) (L : List (List Value)) (h : Lst w base e sz v L) (sp : Option Addr) (m c : Nat) (X : List (List Value)) (hl : X.length = m) (hX : El sz X) (hs : Src w sp X) (hn : L.length + m ≤ 1099511627776) (hby : bytes ≤ 64) (hbase : base ≤ w.heap.size) :
    ∃ v' w', (Builtin.append_ #[t, t] ty #[v, .slice sp m c]).run P w = .ok v' w' ∧ Lst w' base e sz v' (L ++ X) ∧ Bt (fun k => v.ownBlock = some k) w w' ∧ (v'.ownBlock = v.ownBlock ∨ v'.ownBlock = some w.heap.size) := by
  obtain ⟨i, hi, hz0, hz1, hz2⟩ := info_parts hinfo
  subst hz1 hz2
  have hzl : z.length = i.size := (hZ z (by simp)).1
  by_cases h0 : m = 0
  · subst h0
    obtain rfl : X = [] := List.eq_nil_of_length_eq_zero hl
    rw [List.append_nil]
    obtain ⟨a, cp, hv, hle, _⟩ := h.form
    refine ⟨v, w, ?_, h, Bt.refl _ _, .inl rfl⟩
    rw [hv]
    cases a <;> cases sp <;> simp [Builtin.append_, run_underlying ht, sizeOf, typeInfo, hi, Builtin.lenOf, Builtin.firstCells, hle, loadCells, loadCellsFrom, storeCells]
  · obtain ⟨b, o, rfl, hsrc⟩ := hs (by omega)
    have hadd : ∀ (q p j : Nat), (⟨q, p, none⟩ : Addr).add j = ⟨q, p + j, none⟩ := by intro q p j; unfold Addr.add; split <;> simp_all
    have hnews : ∀ j u, X.flatten[j]? = some u → w.cell? ((⟨b, o, none⟩ : Addr).add j) = some u := fun j u hj => by rw [hadd]; exact hsrc j u hj
    have hxl : X.flatten.length = m * i.size := by rw [hX.flat_len, hl]
    have hb2 : (L.length + m) * i.bytes ≤ 1099511627776 * 64 := Nat.mul_le_mul hn hby
    -- a new row
    have grown : ∀ old, Lst (w.drew.alloc (.cells (L.flatten.toArray ++ X.flatten.toArray ++ Builtin.zeroCells zv.cells (grownCap w (L.length + m) old e - (L.length + m))) e)) base e i.size (.slice (some ⟨w.heap.size, 0, none⟩) (L.length + m) (grownCap w (L.length + m) old e)) (L ++ X) := by
      intro old
      have hge := grownCap_ge w (L.length + m) old e
      have hcm := grownCap_le_maxLen w (L.length + m) old e (by unfold maxLen; omega)
      have hE := hZ.replicate (grownCap w (L.length + m) old e - (L.length + m))
      refine ⟨h.1.append hX, .inr ⟨w.heap.size, 0, _, (L ++ X) ++ List.replicate (grownCap w (L.length + m) old e - (L.length + m)) z, ?_, hbase, ?_, (h.1.append hX).append hE, ?_, ?_, hcm, ?_⟩⟩
      · simp [hl]
      · show ((w.drew).heap.push _)[w.heap.size]? = _
        have e1 : L.flatten.toArray ++ X.flatten.toArray ++ Builtin.zeroCells zv.cells (grownCap w (L.length + m) old e - (L.length + m)) = ((L ++ X) ++ List.replicate (grownCap w (L.length + m) old e - (L.length + m)) z).flatten.toArray := by
          have := zeroCells_flat z (grownCap w (L.length + m) old e - (L.length + m))
          apply Array.ext'
          rw [hz]
          simp only [List.append_toArray, Array.toList_append, List.toList_toArray, this, List.flatten_append]
        rw [e1]
        show (w.heap.push _)[w.heap.size]? = _
        simp
      · simp; omega
      · simp; omega
      · rw [List.drop_zero, List.take_append_of_le_length (Nat.le_refl _), List.take_of_length_le (Nat.le_refl _)]
    rcases h.2 with ⟨rfl, rfl⟩ | ⟨g, off, cap, C, rfl, h1, h2, h3, h4, h5, h6, h7⟩
    · have hr := run_append_nil (P := P) w t ty e i zv ht hi hz0 ⟨b, o, none⟩ m c X.flatten hxl hnews (by omega) (by simp at hn; omega) (by simp at hb2; omega)
      have hg := grown 0
      simp only [List.length_nil, Nat.zero_add, List.flatten_nil, List.append_toArray, List.nil_append] at hg
      refine ⟨_, _, hr, by simpa using hg, ((Bt.refl _ w).drew).alloc _, .inr rfl⟩
    · by_cases hroom : L.length + m ≤ cap
      · -- there is room
        have hf := run_firstCells_some (P := P) w i.size m ⟨b, o, none⟩ m c X.flatten hxl hnews
        have hst := run_storeCells_at P g (off * i.size + L.length * i.size) e X.flatten 0 C.flatten.toArray w h2 (by
          have : (off + L.length + m) * i.size ≤ C.length * i.size := Nat.mul_le_mul_right _ (by omega)
          rw [Nat.add_mul, Nat.add_mul] at this
          simp only [Nat.add_zero, List.size_toArray, hxl, h3.flat_len]; exact this) hX.one
        simp only [Nat.add_zero, ← Nat.add_mul] at hst
        have he := h3.flat_splice hX (off + L.length)
        simp only [List.append_assoc] at hst he
        rw [he] at hst
        have lc : (splice C (off + L.length) X).length = C.length := length_splice _ _ _ (by omega)
        refine ⟨.slice (some ⟨g, off * i.size, none⟩) (L.length + m) cap, w.setRow g (splice C (off + L.length) X).flatten.toArray, ?_, ⟨h.1.append hX, .inr ⟨g, off, cap, splice C (off + L.length) X, by simp [hl], h1, h2.setRow _, h3.spl hX _, by omega, by simp; omega, h6, ?_⟩⟩, (bt_setRow w g _).mono (fun k _ hk => by subst hk; rfl), .inl rfl⟩
        · simp [Builtin.append_, run_underlying ht, sizeOf, typeInfo, hi, Builtin.lenOf, hroom, hf, hadd, ← Nat.add_mul, hst]
        · apply List.ext_getElem?
          intro j
          have hL : (C.drop off).take L.length = L := h7
          rw [List.getElem?_take, List.getElem?_drop, get_splice (by omega), List.getElem?_append]
          simp only [List.length_append, hl]
          by_cases hj : j < L.length + m
          · rw [if_pos hj]
            by_cases hj2 : j < L.length
            · rw [if_neg (by omega), if_pos hj2]
              have := congrArg (fun l => l[j]?) hL
              simp only [List.getElem?_take, if_pos hj2, List.getElem?_drop] at this
              exact this
            · rw [if_pos (by omega), if_neg hj2]; congr 1; omega
          · rw [if_neg hj, if_neg (by omega), List.getElem?_eq_none (by omega)]
      · -- a new row is made
        have hso := h2.src h3 off L.length (some ⟨g, off * i.size, none⟩) (fun _ => rfl)
        rw [h7] at hso
        have holds : ∀ j u, L.flatten[j]? = some u → w.cell? ((⟨g, off * i.size, none⟩ : Addr).add j) = some u := by
          intro j u hj
          have hpos : 0 < L.length := by
            rcases Nat.eq_zero_or_pos L.length with h0 | h0
            · rw [List.eq_nil_of_length_eq_zero h0] at hj; simp at hj
            · exact h0
          obtain ⟨b', o', e', hc⟩ := hso hpos
          simp at e'
          obtain ⟨rfl, rfl⟩ := e'
          rw [hadd]; exact hc j u hj
        have hr := run_append_grow (P := P) w t ty e i zv ht hi hz0 ⟨g, off * i.size, none⟩ L.length cap L.flatten h.1.flat_len holds ⟨b, o, none⟩ m c X.flatten hxl hnews (by omega) (by omega) (growslice_fits (by omega) (by omega))
        exact ⟨_, _, hr, grown cap, ((Bt.refl _ w).drew).alloc _, .inr rfl⟩
theorem wpList_append_lst {ops : Array Oper} {rest : List Oper} {o : Oper} {a : Act} {Q : Exit → Act → World → Prop} (hgd : o.guard = none) (s x : Operand) (t : TypeId)
    (ho : o.op = .call { callee := .builtin .append, args := #[s, x], argTypes := #[t, t] })
    (base : Nat) (e : TypeId) (zv : Value) (z : List Value) (sz bytes : Nat) (ht : P.underlying t = some (.slice e)) (hinfo : (P.info? e).map (fun i => (i.zero, i.size, i.bytes)) = some (some zv, sz, bytes)) (hz : zv.cells = z.toArray) (hZ : El sz [z]) (hsz : 0 < sz)
    (v : Value) (L : List (List Value)) (hv : a.eval s = v) (h : Lst w base e sz v L) (sp : Option Addr) (m c : Nat) (X : List (List Value)) (hx : a.eval x = .slice sp m c) (hl : X.length = m) (hX : El sz X) (hs : Src w sp X) (hn : L.length + m ≤ 1099511627776) (hby : bytes ≤ 64) (hbase : base ≤ w.heap.size)
    (hK : ∀ v' w', Hid (Lst w' base e sz v' (L ++ X) ∧ Bt (fun k => v.ownBlock = some k) w w' ∧ (v'.ownBlock = v.ownBlock ∨ v'.ownBlock = some w.heap.size)) → wpList P ops Q rest (a.put o.dst v') w') :
    wpList P ops Q (o :: rest) a w := by
  refine wpList_plain hgd fun K hK' => ?_
  obtain ⟨v', w', hr, h2, h3, h4⟩ := append_lst (P := P) (w := w) base t o.type e zv z sz bytes ht hinfo hz hZ hsz v L h sp m c X hl hX hs hn hby hbase
  unfold Oper.wp execOp
  simp only [ho, resolve, invoke, builtin, Sem.run_bind, Sem.run_pure, Result.andThen_ok, List.map_toArray, List.map_cons, List.map_nil, hv, hx, hr]
  exact hK' _ _ (hK v' w' ⟨h2, h3, h4⟩)
end

end Go.Proofs.Ytddpcjgekfmhkaa
