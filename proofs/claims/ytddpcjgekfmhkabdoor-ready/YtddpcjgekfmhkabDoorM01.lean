/- Texts joined: Qa Ap. -/
import Derived.WalkKit
import Derived.RowKit3
import Derived.Laws.CopyOwn
import Derived.Lib.SliceRun
import Derived.Deep.AppendLies
import Derived.Deep.QuietTactic
import Derived.BigQuiet
import Derived.RegionTactic

/- Rows of things of some cells each; what has turned; a row that goes round. -/
namespace Go.Proofs.YtddpcjgekfmhkabDoor
open Go.RowKit

/-- Of what was there only the blocks of S have turned. -/
structure Bt (S : Nat → Prop) (w w' : World) : Prop where
  os : w'.os = w.os
  tape : w'.tape = w.tape
  output : w'.output = w.output
  size : w.heap.size ≤ w'.heap.size
  block : ∀ k, k < w.heap.size → ¬ S k → w'.heap[k]? = w.heap[k]?
theorem Bt.refl (S : Nat → Prop) (w : World) : Bt S w w := ⟨rfl, rfl, rfl, Nat.le_refl _, fun _ _ _ => rfl⟩
theorem Bt.trans {S T : Nat → Prop} {u v w : World} (h : Bt S u v) (k : Bt T v w) (hs : ∀ i, i < u.heap.size → T i → S i) : Bt S u w :=
  ⟨k.os.trans h.os, k.tape.trans h.tape, k.output.trans h.output, Nat.le_trans h.size k.size, fun i hi hb => (k.block i (Nat.lt_of_lt_of_le hi h.size) (fun t => hb (hs i hi t))).trans (h.block i hi hb)⟩
theorem Bt.mono {S T : Nat → Prop} {u v : World} (h : Bt S u v) (hs : ∀ i, i < u.heap.size → S i → T i) : Bt T u v := ⟨h.os, h.tape, h.output, h.size, fun i hi hb => h.block i hi fun s => hb (hs i hi s)⟩
theorem Bt.drewN {S : Nat → Prop} {u w : World} (h : Bt S u w) (n : Nat) : Bt S u (w.drewN n) := ⟨h.os, h.tape, h.output, h.size, h.block⟩
theorem Bt.drew {S : Nat → Prop} {u w : World} (h : Bt S u w) : Bt S u w.drew := ⟨h.os, h.tape, h.output, h.size, h.block⟩
theorem Bt.alloc {S : Nat → Prop} {u w : World} (h : Bt S u w) (o : Obj) : Bt S u (w.alloc o) :=
  ⟨h.os, h.tape, h.output, by simp; have := h.size; omega, fun k hk hs => by
    have h1 := h.size
    show (w.heap.push o)[k]? = _
    rw [Array.getElem?_push, if_neg (by omega)]
    exact h.block k hk hs⟩
theorem Bt.setCell {S : Nat → Prop} {u w : World} (h : Bt S u w) {p : Addr} (hp : p.block < u.heap.size → S p.block) (v : Value) : Bt S u (w.setCell p v) :=
  ⟨h.os, h.tape, h.output, by simpa [World.setCell] using h.size, fun k hk hs => (Below.heap_setCell _ _ _ _ (by intro e; subst e; exact hs (hp hk))).trans (h.block k hk hs)⟩
theorem Bt.grownBy {u w : World} {r : Option Nat} (h : u.grownBy w r) : Bt (fun k => r = some k) u w :=
  ⟨h.os, h.tape, h.output, h.size, fun k hk hs => h.block k hk (fun e => hs e.symm)⟩
theorem Bt.cell {S : Nat → Prop} {u w : World} (h : Bt S u w) {b o : Nat} {v : Value} (hb : ¬ S b) (hv : u.cell? ⟨b, o, none⟩ = some v) : w.cell? ⟨b, o, none⟩ = some v := by
  have hlt : b < u.heap.size := by
    refine Nat.lt_of_not_le fun hle => ?_
    have e : u.heap[b]? = none := Array.getElem?_eq_none hle
    simp [World.cell?, e] at hv
  exact (World.cell?_of_block (w := u) (h.block b hlt hb)).trans hv
theorem drewN_add (w : World) (m n : Nat) : (w.drewN m).drewN n = w.drewN (m + n) := by
  simp [World.drewN, Nat.add_assoc]
theorem lt_of_some {w : World} {b : Nat} {o : Obj} (h : w.heap[b]? = some o) : b < w.heap.size := by
  refine Nat.lt_of_not_le fun hle => ?_
  rw [Array.getElem?_eq_none hle] at h; cases h
theorem Bt.heap {S : Nat → Prop} {u w : World} (h : Bt S u w) {b : Nat} {o : Obj} (hb : ¬ S b) (hv : u.heap[b]? = some o) : w.heap[b]? = some o := (h.block b (lt_of_some hv) hb).trans hv
theorem Bt.below {S : Nat → Prop} {u w : World} (h : Bt S u w) {B : Nat} (hB : B ≤ u.heap.size) (hs : ∀ k, k < B → ¬ S k) : Below B u w := ⟨h.os, h.tape, h.output, h.size, fun k hk => h.block k (by omega) (hs k hk)⟩

/-- Things of sz cells each. -/
def El (sz : Nat) (C : List (List Value)) : Prop := ∀ e ∈ C, e.length = sz ∧ ∀ v ∈ e, v.oneCell' = true
theorem El.cons {sz : Nat} {e : List Value} {C : List (List Value)} (h : El sz (e :: C)) : e.length = sz ∧ El sz C := ⟨(h e (by simp)).1, fun x hx => h x (by simp [hx])⟩
theorem El.take {sz : Nat} {C : List (List Value)} (h : El sz C) (k : Nat) : El sz (C.take k) := fun x hx => h x (List.mem_of_mem_take hx)
theorem El.drop {sz : Nat} {C : List (List Value)} (h : El sz C) (k : Nat) : El sz (C.drop k) := fun x hx => h x (List.mem_of_mem_drop hx)
theorem El.append {sz : Nat} {C D : List (List Value)} (h : El sz C) (k : El sz D) : El sz (C ++ D) := fun x hx => (List.mem_append.1 hx).elim (h x) (k x)
theorem El.left {sz : Nat} {C D : List (List Value)} (h : El sz (C ++ D)) : El sz C := fun x hx => h x (by simp [hx])
theorem El.replicate {sz : Nat} {z : List Value} (h : El sz [z]) (k : Nat) : El sz (List.replicate k z) := fun x hx => h x (by rw [List.eq_of_mem_replicate hx]; simp)
theorem El.spl {sz : Nat} {C D : List (List Value)} (h : El sz C) (k : El sz D) (off : Nat) : El sz (splice C off D) := (h.take _).append (k.append (h.drop _))
theorem El.flat_len {sz : Nat} : ∀ {C : List (List Value)}, El sz C → C.flatten.length = C.length * sz
  | [], _ => by simp
  | e :: C, h => by
    have := h.cons.2.flat_len
    simp only [List.flatten_cons, List.length_append, List.length_cons, this, h.cons.1, Nat.succ_mul]; omega
theorem El.flat_take {sz : Nat} : ∀ {C : List (List Value)} (k : Nat), El sz C → C.flatten.take (k * sz) = (C.take k).flatten
  | [], _, _ => by simp
  | e :: C, 0, h => by simp
  | e :: C, k + 1, h => by
    have := h.cons.2.flat_take k
    have he := h.cons.1
    rw [List.flatten_cons, List.take_append, List.take_of_length_le (by rw [he, Nat.succ_mul]; omega), he, Nat.succ_mul, Nat.add_sub_cancel, this]
    simp
theorem El.flat_drop {sz : Nat} : ∀ {C : List (List Value)} (k : Nat), El sz C → C.flatten.drop (k * sz) = (C.drop k).flatten
  | [], _, _ => by simp
  | e :: C, 0, h => by simp
  | e :: C, k + 1, h => by
    have := h.cons.2.flat_drop k
    have he := h.cons.1
    rw [List.flatten_cons, List.drop_append, List.drop_of_length_le (by rw [he, Nat.succ_mul]; omega), he, Nat.succ_mul, Nat.add_sub_cancel, this]
    simp
theorem El.one {sz : Nat} {C : List (List Value)} (h : El sz C) : ∀ v ∈ C.flatten, v.oneCell' = true := by
  intro v hv
  obtain ⟨e, he, hv⟩ := List.mem_flatten.1 hv
  exact (h e he).2 v hv
theorem El.flat_splice {sz : Nat} {C D : List (List Value)} (h : El sz C) (k : El sz D) (off : Nat) :
    C.flatten.take (off * sz) ++ D.flatten ++ C.flatten.drop (off * sz + D.flatten.length) = (splice C off D).flatten := by
  rw [k.flat_len, ← Nat.add_mul, h.flat_take, h.flat_drop]
  simp [splice]

/-- The row g holds the things C. -/
def Rw (w : World) (g : Nat) (t : TypeId) (C : List (List Value)) : Prop := w.heap[g]? = some (.cells C.flatten.toArray t (0, 0))
theorem Rw.lt {w : World} {g : Nat} {t : TypeId} {C : List (List Value)} (h : Rw w g t C) : g < w.heap.size := lt_of_some h
theorem Rw.bt {w w' : World} {g : Nat} {t : TypeId} {C : List (List Value)} {S : Nat → Prop} (h : Rw w g t C) (k : Bt S w w') (hs : ¬ S g) : Rw w' g t C := k.heap hs h
theorem Rw.drewN {w : World} {g : Nat} {t : TypeId} {C : List (List Value)} (h : Rw w g t C) (n : Nat) : Rw (w.drewN n) g t C := h
/-- The cells at sp are those of X. -/
def Src (w : World) (sp : Option Addr) (X : List (List Value)) : Prop := 0 < X.length → ∃ b o, sp = some ⟨b, o, none⟩ ∧ ∀ j v, X.flatten[j]? = some v → w.cell? ⟨b, o + j, none⟩ = some v
theorem Rw.src {w : World} {g : Nat} {t : TypeId} {C : List (List Value)} {sz : Nat} (h : Rw w g t C) (hC : El sz C) (s k : Nat) (sp : Option Addr) (hsp : 0 < k → sp = some ⟨g, s * sz, none⟩) :
    Src w sp ((C.drop s).take k) := by
  intro h0
  refine ⟨g, s * sz, hsp (by simp at h0; omega), fun j v hj => ?_⟩
  have e : ((C.drop s).take k).flatten = ((C.flatten).drop (s * sz)).take (k * sz) := by rw [hC.flat_drop, (hC.drop s).flat_take]
  rw [e, List.getElem?_take] at hj
  split at hj
  · rw [List.getElem?_drop] at hj
    unfold Rw at h
    simp [World.cell?, h, hj]
  · cases hj
theorem Src.bt {w w' : World} {S : Nat → Prop} {sp : Option Addr} {X : List (List Value)} (h : Src w sp X) (k : Bt S w w') (hs : ∀ b o, sp = some ⟨b, o, none⟩ → ¬ S b) : Src w' sp X := by
  intro h0
  obtain ⟨b, o, e, hc⟩ := h h0
  exact ⟨b, o, e, fun j v hj => k.cell (hs b o e) (hc j v hj)⟩
theorem Src.take {w : World} {sp : Option Addr} {X : List (List Value)} {sz : Nat} (h : Src w sp X) (hX : El sz X) (k : Nat) : Src w sp (X.take k) := by
  intro h0
  obtain ⟨b, o, e, hc⟩ := h (by simp at h0; omega)
  refine ⟨b, o, e, fun j v hj => hc j v ?_⟩
  rw [← hX.flat_take, List.getElem?_take] at hj
  split at hj
  · exact hj
  · cases hj
theorem Src.drop {w : World} {sp sp' : Option Addr} {X : List (List Value)} {sz : Nat} (h : Src w sp X) (hX : El sz X) (k : Nat) (hp : k < X.length → ∀ b o, sp = some ⟨b, o, none⟩ → sp' = some ⟨b, o + k * sz, none⟩) : Src w sp' (X.drop k) := by
  intro h0
  have hk : k < X.length := by simp at h0; omega
  obtain ⟨b, o, e, hc⟩ := h (by omega)
  refine ⟨b, o + k * sz, hp hk b o e, fun j v hj => ?_⟩
  rw [← hX.flat_drop, List.getElem?_drop] at hj
  have := hc _ v hj
  rwa [← Nat.add_assoc] at this

section
variable {P : Program} {w : World}
theorem run_copy_el (dT sT ty elem : TypeId) (sz : Nat) (hu : P.underlying dT = some (.slice elem)) (hsz : (P.info? elem).map (·.size) = some sz)
    (dp sp : Option Addr) (dLen dCap sLen sCap : Nat) (g off : Nat) (C : List (List Value)) (t : TypeId) (hg : Rw w g t C) (hC : El sz C) (cs : List (List Value)) (hcs : El sz cs) (hn : cs.length = Nat.min sLen dLen)
    (hd : 0 < cs.length → dp = some ⟨g, off * sz, none⟩) (hs : Src w sp cs) (hfit : off + cs.length ≤ C.length) :
    (Builtin.copy_ #[dT, sT] ty #[.slice dp dLen dCap, .slice sp sLen sCap]).run P w = .ok (goInt cs.length) (w.setRow g (splice C off cs).flatten.toArray) := by
  obtain ⟨i, hq, hi⟩ : ∃ i, P.info? elem = some i ∧ i.size = sz := by
    cases hq : P.info? elem with
    | none => simp [hq] at hsz
    | some i => exact ⟨i, rfl, by simpa [hq] using hsz⟩
  by_cases h0 : cs.length = 0
  · obtain rfl : cs = [] := List.eq_nil_of_length_eq_zero h0
    have e : w.setRow g (splice C off []).flatten.toArray = w := by
      have e0 : splice C off [] = C := by simp [splice]
      rw [e0]; exact setRow_self w g _ t _ hg
    rw [e]
    have hm : Nat.min sLen dLen = 0 := by simpa using hn.symm
    cases dp <;> cases sp <;> simp [Builtin.copy_, run_underlying hu, Builtin.lenOf, Builtin.firstCells, sizeOf, typeInfo, hq, hm, loadCells, loadCellsFrom, storeCells]
  · obtain ⟨b, o, rfl, hsrc⟩ := hs (by omega)
    obtain rfl := hd (by omega)
    have hl := run_loadCells_list (P := P) w ⟨b, o, none⟩ cs.flatten (fun j v hj => by
      have e : (⟨b, o, none⟩ : Addr).add j = ⟨b, o + j, none⟩ := by unfold Addr.add; split <;> simp_all
      rw [e]; exact hsrc j v hj)
    have hst := run_storeCells_at P g (off * sz) t cs.flatten 0 C.flatten.toArray w hg (by
      have : (off + cs.length) * sz ≤ C.length * sz := Nat.mul_le_mul_right _ hfit
      rw [Nat.add_mul] at this
      simp only [Nat.add_zero, List.size_toArray, hcs.flat_len, hC.flat_len]; exact this) hcs.one
    have hfl : cs.flatten.length = Nat.min sLen dLen * sz := by rw [hcs.flat_len, hn]
    rw [hfl] at hl
    have he := hC.flat_splice hcs off
    simp only [Nat.add_zero, List.append_assoc] at hst he
    rw [he] at hst
    simp [Builtin.copy_, run_underlying hu, Builtin.lenOf, Builtin.firstCells, sizeOf, typeInfo, hq, hi, hl, hst, hn]

theorem Rw.setRow {g : Nat} {t : TypeId} {C : List (List Value)} (h : Rw w g t C) (D : List (List Value)) : Rw (w.setRow g D.flatten.toArray) g t D := setRow_heap w g _ _ t _ h
theorem bt_setRow (w : World) (g : Nat) (cs : Array Value) : Bt (fun k => k = g) w (w.setRow g cs) :=
  ⟨rfl, rfl, rfl, by simp [World.setRow], fun k _ hk => setRow_other w g k cs hk⟩

theorem copy_ex (dT sT ty elem : TypeId) (sz : Nat) (hu : P.underlying dT = some (.slice elem)) (hsz : (P.info? elem).map (·.size) = some sz)
    (dp sp : Option Addr) (dLen dCap sLen sCap : Nat) (g off : Nat) (C : List (List Value)) (t : TypeId) (hg : Rw w g t C) (hC : El sz C) (cs : List (List Value)) (hcs : El sz cs) (hn : cs.length = Nat.min sLen dLen)
    (hd : 0 < cs.length → dp = some ⟨g, off * sz, none⟩) (hs : Src w sp cs) (hfit : off + cs.length ≤ C.length) :
    ∃ w', (Builtin.copy_ #[dT, sT] ty #[.slice dp dLen dCap, .slice sp sLen sCap]).run P w = .ok (goInt cs.length) w' ∧ Rw w' g t (splice C off cs) ∧ Bt (fun k => k = g) w w' ∧ w'.heap.size = w.heap.size :=
  ⟨_, run_copy_el dT sT ty elem sz hu hsz dp sp dLen dCap sLen sCap g off C t hg hC cs hcs hn hd hs hfit, hg.setRow _, bt_setRow w g _, by simp [World.setRow]⟩

theorem wpList_copy_el {ops : Array Oper} {rest : List Oper} {o : Oper} {a : Act} {Q : Exit → Act → World → Prop} (hgd : o.guard = none) (d s : Operand) (dT sT : TypeId)
    (ho : o.op = .call { callee := .builtin .copy, args := #[d, s], argTypes := #[dT, sT] }) (elem : TypeId) (sz : Nat) (hu : P.underlying dT = some (.slice elem)) (hsz : (P.info? elem).map (·.size) = some sz)
    (dp sp : Option Addr) (dLen dCap sLen sCap : Nat) (hd : a.eval d = .slice dp dLen dCap) (hs : a.eval s = .slice sp sLen sCap)
    (g off : Nat) (C : List (List Value)) (t : TypeId) (hg : Rw w g t C) (hC : El sz C) (cs : List (List Value)) (hcs : El sz cs) (hn : cs.length = Nat.min sLen dLen)
    (hdp : 0 < cs.length → dp = some ⟨g, off * sz, none⟩) (hsp : Src w sp cs) (hfit : off + cs.length ≤ C.length)
    (h : ∀ w', Hid (Rw w' g t (splice C off cs) ∧ Bt (fun k => k = g) w w' ∧ w'.heap.size = w.heap.size) → wpList P ops Q rest (a.put o.dst (goInt cs.length)) w') : wpList P ops Q (o :: rest) a w := by
  refine wpList_plain hgd fun K hK => ?_
  have hrun := run_copy_el (P := P) (w := w) dT sT o.type elem sz hu hsz dp sp dLen dCap sLen sCap g off C t hg hC cs hcs hn hdp hsp hfit
  unfold Oper.wp
  simp [execOp, ho, resolve, invoke, builtin, hd, hs, hrun, Result.andThen]
  exact hK _ _ (h _ ⟨hg.setRow _, bt_setRow w g _, by simp [World.setRow]⟩)

theorem zeroCells_flat (z : List Value) (n : Nat) : (Builtin.zeroCells z.toArray n).toList = (List.replicate n z).flatten := by
  apply List.ext_getElem?
  intro i
  by_cases hi : i < n * z.length
  · have hz : 0 < z.length := by rcases Nat.eq_zero_or_pos z.length with h | h; · rw [h] at hi; omega
                                 · exact h
    have h1 : i % z.length < z.length := Nat.mod_lt _ hz
    have hr : ∀ (m j : Nat), j < m * z.length → (List.replicate m z).flatten[j]? = z[j % z.length]? := by
      intro m
      induction m with
      | zero => intro j hj; omega
      | succ m ih =>
        intro j hj
        rw [List.replicate_succ, List.flatten_cons, List.getElem?_append]
        by_cases h : j < z.length
        · rw [if_pos h, Nat.mod_eq_of_lt h]
        · rw [if_neg h, ih (j - z.length) (by rw [Nat.succ_mul] at hj; omega), ← Nat.mod_eq_sub_mod (Nat.le_of_not_lt h)]
    rw [hr n i hi]
    simp [Builtin.zeroCells, hi, h1]
  · have e : (List.replicate n z).flatten.length = n * z.length := by simp
    rw [List.getElem?_eq_none (by simp [Builtin.zeroCells]; omega), List.getElem?_eq_none (by rw [e]; omega)]

theorem run_clear_el (dT ty elem : TypeId) (sz : Nat) (zv : Value) (z : List Value) (hu : P.underlying dT = some (.slice elem)) (hzv : ∀ w, (zeroValue elem).run P w = .ok zv w) (hz : zv.cells = z.toArray) (hZ : El sz [z])
    (dp : Option Addr) (n dCap : Nat) (g off : Nat) (C : List (List Value)) (t : TypeId) (hg : Rw w g t C) (hC : El sz C) (hd : 0 < n → dp = some ⟨g, off * sz, none⟩) (hfit : off + n ≤ C.length) :
    (Builtin.clear_ #[dT] ty #[.slice dp n dCap]).run P w = .ok (.tuple #[]) (w.setRow g (splice C off (List.replicate n z)).flatten.toArray) := by
  by_cases h0 : n = 0
  · subst h0
    have e : w.setRow g (splice C off (List.replicate 0 z)).flatten.toArray = w := by
      have e0 : splice C off (List.replicate 0 z) = C := by simp [splice]
      rw [e0]; exact setRow_self w g _ t _ hg
    rw [e]
    cases dp <;> simp [Builtin.clear_, run_underlying hu]
  · obtain rfl := hd (by omega)
    have hR := hZ.replicate n
    have hst := run_storeCells_at P g (off * sz) t (List.replicate n z).flatten 0 C.flatten.toArray w hg (by
      have : (off + n) * sz ≤ C.length * sz := Nat.mul_le_mul_right _ hfit
      rw [Nat.add_mul] at this
      simp only [Nat.add_zero, List.size_toArray, hR.flat_len, hC.flat_len, List.length_replicate]; exact this) hR.one
    have he := hC.flat_splice hR off
    simp only [Nat.add_zero, List.append_assoc] at hst he
    rw [he] at hst
    obtain ⟨m, rfl⟩ : ∃ m, n = m + 1 := ⟨n - 1, by omega⟩
    simp [Builtin.clear_, run_underlying hu, hzv, hz, zeroCells_flat, hst]

theorem clear_ex (dT ty elem : TypeId) (sz : Nat) (zv : Value) (z : List Value) (hu : P.underlying dT = some (.slice elem)) (hzv : ∀ w, (zeroValue elem).run P w = .ok zv w) (hz : zv.cells = z.toArray) (hZ : El sz [z])
    (dp : Option Addr) (n dCap : Nat) (g off : Nat) (C : List (List Value)) (t : TypeId) (hg : Rw w g t C) (hC : El sz C) (hd : 0 < n → dp = some ⟨g, off * sz, none⟩) (hfit : off + n ≤ C.length) :
    ∃ w', (Builtin.clear_ #[dT] ty #[.slice dp n dCap]).run P w = .ok (.tuple #[]) w' ∧ Rw w' g t (splice C off (List.replicate n z)) ∧ Bt (fun k => k = g) w w' ∧ w'.heap.size = w.heap.size :=
  ⟨_, run_clear_el dT ty elem sz zv z hu hzv hz hZ dp n dCap g off C t hg hC hd hfit, hg.setRow _, bt_setRow w g _, by simp [World.setRow]⟩

theorem wpList_clear_el {ops : Array Oper} {rest : List Oper} {o : Oper} {a : Act} {Q : Exit → Act → World → Prop} (hgd : o.guard = none) (d : Operand) (dT : TypeId)
    (ho : o.op = .call { callee := .builtin .clear, args := #[d], argTypes := #[dT] }) (hdst : o.dst = none) (elem : TypeId) (sz : Nat) (zv : Value) (z : List Value) (hu : P.underlying dT = some (.slice elem)) (hzv : ∀ w, (zeroValue elem).run P w = .ok zv w) (hz : zv.cells = z.toArray) (hZ : El sz [z])
    (dp : Option Addr) (n dCap : Nat) (hd : a.eval d = .slice dp n dCap)
    (g off : Nat) (C : List (List Value)) (t : TypeId) (hg : Rw w g t C) (hC : El sz C) (hdp : 0 < n → dp = some ⟨g, off * sz, none⟩) (hfit : off + n ≤ C.length)
    (h : ∀ w', Hid (Rw w' g t (splice C off (List.replicate n z)) ∧ Bt (fun k => k = g) w w' ∧ w'.heap.size = w.heap.size) → wpList P ops Q rest a w') : wpList P ops Q (o :: rest) a w := by
  refine wpList_plain hgd fun K hK => ?_
  have hrun := run_clear_el (P := P) (w := w) dT o.type elem sz zv z hu hzv hz hZ dp n dCap g off C t hg hC hdp hfit
  unfold Oper.wp
  simp [execOp, ho, resolve, invoke, builtin, hd, hrun, Result.andThen]
  have hp : a.put o.dst (.tuple #[]) = a := by rw [hdst]; rfl
  refine (hK _ _ ?_ : K (a.put o.dst (.tuple #[])) _)
  rw [hp]
  exact h _ ⟨hg.setRow _, bt_setRow w g _, by simp [World.setRow]⟩

theorem wpList_make_el {ops : Array Oper} {rest : List Oper} {o : Oper} {a : Act} {Q : Exit → Act → World → Prop}
    (hg : o.guard = none) (l c : Operand) (t e : TypeId) (hop : o.op = Op.makeSlice t l c)
    (h1 : P.underlying t = some (.slice e)) (zv : Value) (z : List Value) (sz bytes : Nat) (hinfo : (P.info? e).map (fun i => (i.zero, i.size, i.bytes)) = some (some zv, sz, bytes)) (hz : zv.cells = z.toArray) (hzs : z.length = sz)
    (n : Nat) (L : Int) (hl : a.eval l = .int .i64 L) (hc : a.eval c = .int .i64 L) (hL : L = n) (hn : n * bytes ≤ 281474976710656) (hn2 : n ≤ 281474976710656)
    (hK : ∀ w1, Hid (Rw w1 w.heap.size e (List.replicate n z) ∧ Bt (fun _ => False) w w1 ∧ w1.heap.size = w.heap.size + 1) → wpList P ops Q rest (a.put o.dst (.slice (some ⟨w.heap.size, 0, none⟩) n n)) w1) :
    wpList P ops Q (o :: rest) a w := by
  obtain ⟨i, hi, hz0, hz1, hz2⟩ := info_parts hinfo
  have hr := run_make (P := P) w t e i zv h1 hi hz0 .i64 .i64 n n (by omega) (by omega) (by rw [hz2, ← Int.natCast_mul, Nat.mul_comm]; exact Int.ofNat_le.2 hn) (by omega)
  simp only [Int.toNat_natCast, hz1] at hr
  subst hL
  refine wpList_plain hg fun K hK' => ?_
  unfold Oper.wp
  simp [execOp, hop, hl, hc, hr, Result.andThen]
  refine hK' _ _ (hK _ ⟨?_, (Bt.refl _ _).alloc _, by simp⟩)
  have e1 : madeCells zv.cells (n * sz) = (List.replicate n z).flatten.toArray := by
    have := zeroCells_flat z n
    rw [hz, ← this, ← hzs]
    rfl
  rw [e1]
  show (w.heap.push _)[w.heap.size]? = _
  simp
end

/-- Place i of a row of n that goes round from place f on. -/
def pos (f n i : Nat) : Nat := if i < n - f then f + i else i - (n - f)
/-- The things L lie in the row C, from place f on, round its end. -/
structure Circ (C : List (List Value)) (f : Nat) (L : List (List Value)) : Prop where
  le : L.length ≤ C.length
  first : f < C.length ∨ (C.length = 0 ∧ f = 0)
  at' : ∀ i, i < L.length → C[pos f C.length i]? = L[i]?
theorem get_splice {α : Type} {C cs : List α} {off : Nat} (h : off + cs.length ≤ C.length) (i : Nat) : (splice C off cs)[i]? = if off ≤ i ∧ i < off + cs.length then cs[i - off]? else C[i]? := by
  have hl : (C.take off).length = off := by simp; omega
  unfold splice
  rw [List.getElem?_append, hl]
  by_cases h1 : i < off
  · rw [if_pos h1, if_neg (by omega), List.getElem?_take, if_pos h1]
  · rw [if_neg h1, List.getElem?_append]
    by_cases h2 : i < off + cs.length
    · rw [if_pos (by omega), if_pos ⟨by omega, h2⟩]
    · rw [if_neg (by omega), if_neg (by omega), List.getElem?_drop]
      congr 1; omega
theorem Circ.pos_lt {C L : List (List Value)} {f : Nat} (h : Circ C f L) {i : Nat} (hi : i ≤ C.length) (hC : 0 < C.length) : pos f C.length i < C.length := by
  have := h.first; unfold pos; split <;> omega
theorem Circ.pieces {C L : List (List Value)} {f : Nat} (h : Circ C f L) {k : Nat} (hk : k ≤ L.length) :
    (C.drop (pos f C.length 0)).take (Nat.min k (C.length - pos f C.length 0)) ++ C.take (k - Nat.min k (C.length - pos f C.length 0)) = L.take k := by
  have hle := h.le
  have hf := h.first
  by_cases hk0 : k = 0
  · subst hk0; simp
  have e0 : pos f C.length 0 = f := by unfold pos; split <;> omega
  rw [e0]
  obtain ⟨st, hst⟩ : ∃ st, st = Nat.min k (C.length - f) := ⟨_, rfl⟩
  have hst' : st = min k (C.length - f) := hst
  rw [← hst]
  apply List.ext_getElem?
  intro i
  have hl : ((C.drop f).take st).length = st := by simp; omega
  rw [List.getElem?_append, hl, List.getElem?_take (l := L)]
  by_cases hi : i < k
  · rw [if_pos hi, ← h.at' i (by omega)]
    by_cases h1 : i < st
    · rw [if_pos h1, List.getElem?_take, if_pos h1, List.getElem?_drop]
      congr 1; unfold pos; split <;> omega
    · rw [if_neg h1, List.getElem?_take, if_pos (by omega)]
      congr 1; unfold pos; split <;> omega
  · rw [if_neg hi, if_neg (by omega), List.getElem?_take, if_neg (by omega)]
theorem Circ.put {C L : List (List Value)} {f : Nat} (h : Circ C f L) {X : List (List Value)} (hk : L.length + X.length ≤ C.length) :
    Circ (splice (splice C (pos f C.length L.length) (X.take (Nat.min X.length (C.length - pos f C.length L.length)))) 0 (X.drop (Nat.min X.length (C.length - pos f C.length L.length)))) f (L ++ X) := by
  have hf := h.first
  by_cases hX : X.length = 0
  · obtain rfl : X = [] := List.eq_nil_of_length_eq_zero hX
    simpa [splice] using h
  obtain ⟨s, hs⟩ : ∃ s, s = pos f C.length L.length := ⟨_, rfl⟩
  have hsl : s < C.length := by rw [hs]; exact h.pos_lt (by omega) (by omega)
  have hs' : s = if L.length < C.length - f then f + L.length else L.length - (C.length - f) := hs
  obtain ⟨st, hst⟩ : ∃ st, st = Nat.min X.length (C.length - s) := ⟨_, rfl⟩
  have hst' : st = min X.length (C.length - s) := hst
  rw [← hs, ← hst]
  have l1 : (X.take st).length = st := by simp; omega
  have l2 : (X.drop st).length = X.length - st := by simp
  have f1 : s + (X.take st).length ≤ C.length := by omega
  have l3 : (splice C s (X.take st)).length = C.length := length_splice _ _ _ f1
  have f2 : 0 + (X.drop st).length ≤ (splice C s (X.take st)).length := by omega
  have l4 : (splice (splice C s (X.take st)) 0 (X.drop st)).length = C.length := (length_splice _ _ _ f2).trans l3
  have hle := h.le
  refine ⟨by rw [l4]; simp; omega, by rw [l4]; exact hf, fun i hi => ?_⟩
  rw [l4, get_splice f2, get_splice f1, l1, l2]
  simp only [List.length_append] at hi
  have hp : pos f C.length i = if i < C.length - f then f + i else i - (C.length - f) := rfl
  obtain ⟨p, hp0⟩ : ∃ p, p = pos f C.length i := ⟨_, rfl⟩
  rw [← hp0] at hp ⊢
  rw [List.getElem?_append]
  by_cases hiL : i < L.length
  · rw [if_pos hiL, if_neg (by split at hs' <;> split at hp <;> omega), if_neg (by split at hs' <;> split at hp <;> omega), hp0]
    exact h.at' i hiL
  · rw [if_neg hiL]
    by_cases h1 : i - L.length < st
    · rw [if_neg (by split at hs' <;> split at hp <;> omega), if_pos (by split at hs' <;> split at hp <;> omega), List.getElem?_take, if_pos (by split at hs' <;> split at hp <;> omega)]
      congr 1; split at hs' <;> split at hp <;> omega
    · rw [if_pos (by split at hs' <;> split at hp <;> omega), List.getElem?_drop]
      congr 1; split at hs' <;> split at hp <;> omega
theorem Circ.gone {C L : List (List Value)} {f : Nat} (h : Circ C f L) (z : List Value) {k : Nat} (hk : k ≤ L.length) :
    Circ (splice (splice C (pos f C.length 0) (List.replicate (Nat.min k (C.length - pos f C.length 0)) z)) 0 (List.replicate (k - Nat.min k (C.length - pos f C.length 0)) z)) (pos f C.length k) (L.drop k) := by
  have hf := h.first
  have hle := h.le
  by_cases hk0 : k = 0
  · subst hk0
    have e0 : pos f C.length 0 = f := by unfold pos; split <;> omega
    rw [e0]; simpa [splice] using h
  have e0 : pos f C.length 0 = f := by unfold pos; split <;> omega
  rw [e0]
  obtain ⟨st, hst⟩ : ∃ st, st = Nat.min k (C.length - f) := ⟨_, rfl⟩
  have hst' : st = min k (C.length - f) := hst
  rw [← hst]
  have l1 : (List.replicate st z).length = st := by simp
  have l2 : (List.replicate (k - st) z).length = k - st := by simp
  have f1 : f + (List.replicate st z).length ≤ C.length := by omega
  have l3 : (splice C f (List.replicate st z)).length = C.length := length_splice _ _ _ f1
  have f2 : 0 + (List.replicate (k - st) z).length ≤ (splice C f (List.replicate st z)).length := by omega
  have l4 : (splice (splice C f (List.replicate st z)) 0 (List.replicate (k - st) z)).length = C.length := (length_splice _ _ _ f2).trans l3
  have hpl := h.pos_lt (i := k) (by omega) (by omega)
  obtain ⟨q, hq⟩ : ∃ q, q = pos f C.length k := ⟨_, rfl⟩
  have hq' : q = if k < C.length - f then f + k else k - (C.length - f) := hq
  rw [← hq] at hpl ⊢
  refine ⟨by rw [l4]; simp; omega, by rw [l4]; exact .inl hpl, fun i hi => ?_⟩
  simp only [List.length_drop] at hi
  rw [l4, get_splice f2, get_splice f1, l1, l2, List.getElem?_drop, ← h.at' (k + i) (by omega)]
  have hp : pos q C.length i = if i < C.length - q then q + i else i - (C.length - q) := rfl
  have hp2 : pos f C.length (k + i) = if k + i < C.length - f then f + (k + i) else k + i - (C.length - f) := rfl
  obtain ⟨p, hp0⟩ : ∃ p, p = pos q C.length i := ⟨_, rfl⟩
  obtain ⟨r, hr0⟩ : ∃ r, r = pos f C.length (k + i) := ⟨_, rfl⟩
  rw [← hp0] at hp ⊢
  rw [← hr0] at hp2 ⊢
  rw [if_neg (by split at hq' <;> split at hp <;> omega), if_neg (by split at hq' <;> split at hp <;> omega)]
  congr 1; split at hq' <;> split at hp <;> split at hp2 <;> omega
theorem Circ.fresh {N : Nat} (z : List Value) {L A B : List (List Value)} (hL : A ++ B = L) (hN : L.length ≤ N) (h1 : 0 < N) : Circ (splice (splice (List.replicate N z) 0 A) A.length B) 0 L := by
  subst hL
  simp only [List.length_append] at hN
  have f1 : 0 + A.length ≤ (List.replicate N z).length := by simp; omega
  have l1 : (splice (List.replicate N z) 0 A).length = N := (length_splice _ _ _ f1).trans (by simp)
  have f2 : A.length + B.length ≤ (splice (List.replicate N z) 0 A).length := by omega
  have l2 := (length_splice _ _ _ f2).trans l1
  refine ⟨by rw [l2]; simpa using hN, by rw [l2]; exact .inl h1, fun i hi => ?_⟩
  rw [l2]
  simp only [List.length_append] at hi
  have e : pos 0 N i = i := by unfold pos; split <;> omega
  rw [e, get_splice f2, get_splice f1, List.getElem?_append]
  by_cases h : i < A.length
  · rw [if_neg (by omega), if_pos (by omega), if_pos h]; rfl
  · rw [if_pos (by omega), if_neg h]

/-- A ring's block: its room, its slots, which is first, how many there are. -/
def RB (w : World) (rb : Nat) (t : TypeId) (room : Int) (sp : Option Addr) (n f c : Nat) : Prop := w.heap[rb]? = some (.cells #[.int .i64 room, .slice sp n n, .int .i64 f, .int .i64 c] t (0, 0))
section
variable {w : World} {rb : Nat} {t : TypeId} {room : Int} {sp : Option Addr} {n f c : Nat}
theorem RB.c0 (h : RB w rb t room sp n f c) : w.cell? ⟨rb, 0, none⟩ = some (.int .i64 room) := by unfold RB at h; simp [World.cell?, h]
theorem RB.c1 (h : RB w rb t room sp n f c) : w.cell? ⟨rb, 1, none⟩ = some (.slice sp n n) := by unfold RB at h; simp [World.cell?, h]
theorem RB.c2 (h : RB w rb t room sp n f c) : w.cell? ⟨rb, 2, none⟩ = some (.int .i64 f) := by unfold RB at h; simp [World.cell?, h]
theorem RB.c3 (h : RB w rb t room sp n f c) : w.cell? ⟨rb, 3, none⟩ = some (.int .i64 c) := by unfold RB at h; simp [World.cell?, h]
theorem RB.fr (h : RB w rb t room sp n f c) (o : Nat) : w.frozen? ⟨rb, o, none⟩ = false := by unfold RB at h; simp [World.frozen?, h]
theorem RB.lt (h : RB w rb t room sp n f c) : rb < w.heap.size := lt_of_some h
theorem RB.drewN (h : RB w rb t room sp n f c) (m : Nat) : RB (w.drewN m) rb t room sp n f c := h
theorem RB.bt {w' : World} {S : Nat → Prop} (h : RB w rb t room sp n f c) (k : Bt S w w') (hs : ¬ S rb) : RB w' rb t room sp n f c := k.heap hs h
theorem RB.set1 (h : RB w rb t room sp n f c) (sp' : Option Addr) (n' : Nat) : RB (w.setCell ⟨rb, 1, none⟩ (.slice sp' n' n')) rb t room sp' n' f c := by
  unfold RB at h ⊢; rw [setCell_eq_setRow w rb 1 _ t (0, 0) _ h]; exact setRow_heap w rb _ _ t _ h
theorem RB.set2 (h : RB w rb t room sp n f c) (f' : Nat) : RB (w.setCell ⟨rb, 2, none⟩ (.int .i64 f')) rb t room sp n f' c := by
  unfold RB at h ⊢; rw [setCell_eq_setRow w rb 2 _ t (0, 0) _ h]; exact setRow_heap w rb _ _ t _ h
theorem RB.set3 (h : RB w rb t room sp n f c) (c' : Nat) : RB (w.setCell ⟨rb, 3, none⟩ (.int .i64 c')) rb t room sp n f c' := by
  unfold RB at h ⊢; rw [setCell_eq_setRow w rb 3 _ t (0, 0) _ h]; exact setRow_heap w rb _ _ t _ h
theorem RB.of_eq {w' : World} (h : RB w rb t room sp n f c) (e : w'.heap = w.heap) : RB w' rb t room sp n f c := by unfold RB at h ⊢; rw [e]; exact h
end

/-- Where the pieces of a ring's slots lie. -/
def PcQ (gb sz n s : Nat) (hp tp : Option Addr) : Prop := (0 < n → hp = some ⟨gb, s * sz, none⟩ ∧ tp = some ⟨gb, 0, none⟩) ∧ (n = 0 → hp = none ∧ tp = none)
/-- A ring at rb of the things L: they lie in the row C at gb, from place f on. -/
structure RingAt (RT EL : TypeId) (sz M : Nat) (w : World) (rb gb : Nat) (room : Int) (C : List (List Value)) (f : Nat) (L : List (List Value)) : Prop where
  circ : Circ C f L
  elC : El sz C
  elL : El sz L
  small : C.length ≤ 2 * M
  blk : RB w rb RT room (if C.length = 0 then none else some ⟨gb, 0, none⟩) C.length f L.length
  row : 0 < C.length → Rw w gb EL C ∧ gb ≠ rb
  le : (L.length : Int) ≤ room
  roomM : room ≤ 9223372036854775807
theorem RingAt.bt {RT EL : TypeId} {sz M : Nat} {w w' : World} {rb gb : Nat} {room : Int} {C : List (List Value)} {f : Nat} {L : List (List Value)} {S : Nat → Prop} (h : RingAt RT EL sz M w rb gb room C f L) (k : Bt S w w') (h1 : ¬ S rb) (h2 : ¬ S gb) : RingAt RT EL sz M w' rb gb room C f L :=
  ⟨h.circ, h.elC, h.elL, h.small, h.blk.bt k h1, fun hc => ⟨(h.row hc).1.bt k h2, (h.row hc).2⟩, h.le, h.roomM⟩
/-- A ring at rb, its slots at gb, with these things in it. -/
def Ring (RT EL : TypeId) (sz M : Nat) (w : World) (rb gb : Nat) (room : Int) (L : List (List Value)) : Prop := ∃ C f, RingAt RT EL sz M w rb gb room C f L ∧ (C.length = 0 → gb = rb)
theorem Ring.bt {RT EL : TypeId} {sz M : Nat} {w w' : World} {rb gb : Nat} {room : Int} {L : List (List Value)} {S : Nat → Prop} (h : Ring RT EL sz M w rb gb room L) (k : Bt S w w') (h1 : ¬ S rb) (h2 : ¬ S gb) : Ring RT EL sz M w' rb gb room L := by
  obtain ⟨C, f, h, e⟩ := h
  exact ⟨C, f, h.bt k h1 h2, e⟩
theorem Ring.lt {RT EL : TypeId} {sz M : Nat} {w : World} {rb gb : Nat} {room : Int} {L : List (List Value)} (h : Ring RT EL sz M w rb gb room L) : rb < w.heap.size ∧ gb < w.heap.size := by
  obtain ⟨C, f, h, e⟩ := h
  refine ⟨h.blk.lt, ?_⟩
  by_cases h0 : C.length = 0
  · rw [e h0]; exact h.blk.lt
  · exact (h.row (by omega)).1.lt
theorem Ring.el {RT EL : TypeId} {sz M : Nat} {w : World} {rb gb : Nat} {room : Int} {L : List (List Value)} (h : Ring RT EL sz M w rb gb room L) : El sz L := by
  obtain ⟨C, f, h, e⟩ := h
  exact h.elL
theorem Ring.le {RT EL : TypeId} {sz M : Nat} {w : World} {rb gb : Nat} {room : Int} {L : List (List Value)} (h : Ring RT EL sz M w rb gb room L) : (L.length : Int) ≤ room := by
  obtain ⟨C, f, h, e⟩ := h
  exact h.le

section
variable {P : Program} {w : World}
theorem make_ex (t e : TypeId) (h1 : P.underlying t = some (.slice e)) (zv : Value) (z : List Value) (sz bytes : Nat) (hinfo : (P.info? e).map (fun i => (i.zero, i.size, i.bytes)) = some (some zv, sz, bytes)) (hz : zv.cells = z.toArray) (hzs : z.length = sz)
    (n : Nat) (hn : n * bytes ≤ 281474976710656) (hn2 : n ≤ 281474976710656) :
    ∃ w1, (Instr.makeSlice t (.int .i64 n) (.int .i64 n)).run P w = .ok (.slice (some ⟨w.heap.size, 0, none⟩) n n) w1 ∧ Rw w1 w.heap.size e (List.replicate n z) ∧ Bt (fun _ => False) w w1 ∧ w1.heap.size = w.heap.size + 1 := by
  obtain ⟨i, hi, hz0, hz1, hz2⟩ := info_parts hinfo
  have hr := run_make (P := P) w t e i zv h1 hi hz0 .i64 .i64 n n (by omega) (by omega) (by rw [hz2, ← Int.natCast_mul, Nat.mul_comm]; exact Int.ofNat_le.2 hn) (by omega)
  simp only [Int.toNat_natCast, hz1] at hr
  refine ⟨_, hr, ?_, (Bt.refl _ _).alloc _, by simp⟩
  have e1 : madeCells zv.cells (n * sz) = (List.replicate n z).flatten.toArray := by
    have := zeroCells_flat z n
    rw [hz, ← this, ← hzs]
    rfl
  rw [e1]
  show (w.heap.push _)[w.heap.size]? = _
  simp
end

end Go.Proofs.YtddpcjgekfmhkabDoor

/- append of things to a row that the call owns; pick. -/
namespace Go.Proofs.YtddpcjgekfmhkabDoor
open Go.RowKit
set_option linter.unusedSimpArgs false
set_option linter.unusedVariables false

section
variable {P : Program} {w : World}
theorem wpList_append_el {ops : Array Oper} {rest : List Oper} {o : Oper} {a : Act} {Q : Exit → Act → World → Prop} (hgd : o.guard = none) (s x : Operand) (t : TypeId)
    (ho : o.op = .call { callee := .builtin .append, args := #[s, x], argTypes := #[t, t] })
    (base : Nat) (e : TypeId) (zv : Value) (sz bytes : Nat) (ht : P.underlying t = some (.slice e)) (hinfo : (P.info? e).map (fun i => (i.zero, i.size, i.bytes)) = some (some zv, sz, bytes)) (hzs : zv.cells.size = sz) (hsz : 0 < sz)
    (v : Value) (n : Nat) (xs : List (List Value)) (hs : a.eval s = v) (hown : w.ownsRow base e sz v n xs.flatten)
    (b off m c : Nat) (news : List (List Value)) (hx : a.eval x = .slice (some ⟨b, off, none⟩) m c) (hl : news.length = m) (hel : El sz news) (hsrc : Src w (some ⟨b, off, none⟩) news)
    (hn : n + m ≤ 1099511627776) (hby : bytes ≤ 64) (hbase : base ≤ w.heap.size)
    (h : ∀ v' w', Hid (w'.ownsRow base e sz v' (n + m) (xs ++ news).flatten ∧ w.grownBy w' v.ownBlock ∧ (v'.ownBlock = v.ownBlock ∨ v'.ownBlock = some w.heap.size)) → wpList P ops Q rest (a.put o.dst v') w') :
    wpList P ops Q (o :: rest) a w := by
  obtain ⟨i, hi, hz0, hz1, hz2⟩ := info_parts hinfo
  refine wpList_append_own_at w hgd s x t ho base e i zv sz bytes ht hi hz0 hz1 hz2 hzs hsz v n xs.flatten hs hown ⟨b, off, none⟩ m c news.flatten hx (by rw [hel.flat_len, hl]) ?_ hel.one (by unfold maxLen; omega) ?_ hbase ?_
  · intro j u hj
    have hpos : 0 < news.length := by
      rcases Nat.eq_zero_or_pos news.length with h0 | h0
      · rw [List.eq_nil_of_length_eq_zero h0] at hj; simp at hj
      · exact h0
    obtain ⟨b', o', e', hc⟩ := hsrc hpos
    simp at e'
    obtain ⟨rfl, rfl⟩ := e'
    have e2 : (⟨b, off, none⟩ : Addr).add j = ⟨b, off + j, none⟩ := by unfold Addr.add; split <;> simp_all
    rw [e2]; exact hc j u hj
  · have : (n + m) * bytes ≤ 1099511627776 * 64 := Nat.mul_le_mul hn hby
    omega
  · intro v' w' h1 h2 _ h4
    exact h v' w' ⟨by rw [List.flatten_append]; exact h1, h2, h4⟩
end

/-- What an owned row is, once something else has turned. -/
theorem own_bt {w w' : World} {S : Nat → Prop} {base : Nat} {e : TypeId} {sz : Nat} {v : Value} {n : Nat} {xs : List Value} (h : w.ownsRow base e sz v n xs) (k : Bt S w w') (hs : ∀ g, v.ownBlock = some g → ¬ S g) : w'.ownsRow base e sz v n xs := by
  refine ⟨h.1, ?_⟩
  rcases h.2 with h | ⟨g, cap, cur, rfl, h1, h2, h3⟩
  · exact .inl h
  · exact .inr ⟨g, cap, cur, rfl, h1, k.heap (hs g rfl) h2, h3⟩
theorem own_ge {w : World} {base : Nat} {e : TypeId} {sz : Nat} {v : Value} {n : Nat} {xs : List Value} (h : w.ownsRow base e sz v n xs) {g : Nat} (hg : v.ownBlock = some g) : base ≤ g ∧ g < w.heap.size := by
  rcases h.2 with ⟨rfl, _⟩ | ⟨g', cap, cur, rfl, h1, h2, h3⟩
  · cases hg
  · simp [Value.ownBlock] at hg
    subst hg
    exact ⟨h1, lt_of_some h2⟩

/-- What pick gives. -/
def pickv (c n : Int) : Int := (if c < 0 then -(c + 1) else c) % n
theorem pickv_range (c n : Int) (h : 0 < n) : 0 ≤ pickv c n ∧ pickv c n < n := ⟨Int.emod_nonneg _ (by omega), Int.emod_lt_of_pos _ h⟩

end Go.Proofs.YtddpcjgekfmhkabDoor
