/- Texts joined: Nk. -/
import Derived.Test.YtddpcjgekfmhkabDoorM14
import Derived.Deep.RegionLawGrows

/- book.keep and book.whole, for longer books (made out of Ks and Kp by program). -/
namespace Go.Proofs.YtddpcjgekfmhkabDoor
open Go Go.RowKit Go.Maps
set_option linter.unusedSimpArgs false
set_option linter.unusedVariables false


section
variable {P : Program} {ops : Array Oper} {Q : Exit → Act → World → Prop} {i : Nat} {K : Act → World → Prop} {a : Act} {w : World} {d : Option Tmp}

def Is (ops : Array Oper) (i : Nat) (op : Op) (d : Option Tmp) : Prop := (ops[i]?).map (fun o => (o.op, o.dst, o.guard)) = some (op, d, none)

theorem step_run {op : Op} {v : Value} {w' : World} (ho : Is ops i op d) (hrun : ∀ o : Oper, o.op = op → (execOp a.eval o).run P w = .ok (.value v) w') (h : K (a.put d v) w') : wpOp P ops Q i K a w := by
  unfold Is at ho
  cases e : ops[i]? with
  | none => rw [e] at ho; cases ho
  | some o =>
    rw [e] at ho
    simp only [Option.map_some, Option.some.injEq, Prod.mk.injEq] at ho
    obtain ⟨h1, h2, h3⟩ := ho
    refine wpOp_of e h3 ?_
    unfold Oper.wp
    rw [hrun o h1]
    show K (a.put o.dst v) w'
    rw [h2]; exact h

theorem step_move (x : Operand) (ho : Is ops i (.move x) d) (h : K (a.put d (a.eval x)) w) : wpOp P ops Q i K a w :=
  step_run ho (fun o e => by simp [execOp, e]) h
theorem step_nil (x : Operand) (p : Addr) (hx : a.eval x = .pointer (some p)) (ho : Is ops i (.nilCheck x) d) (h : K (a.put d (.pointer (some p))) w) : wpOp P ops Q i K a w :=
  step_run ho (fun o e => by revert hx; generalize a.eval = ρ; intro hx; simp [execOp, e, hx, go_sem]) h
theorem step_field (x : Operand) (b : Nat) (hx : a.eval x = .pointer (some ⟨b, 0, none⟩)) (ho : Is ops i (.fieldAddr 70 x 0) d) (h : K (a.put d (.pointer (some ⟨b, 0, none⟩))) w) : wpOp Tryd.prog ops Q i K a w :=
  step_run ho (fun o e => by revert hx; generalize a.eval = ρ; intro hx; simp [execOp, e, hx, go_sem]) h
theorem step_load (x : Operand) (b : Nat) (v : Value) (hx : a.eval x = .pointer (some ⟨b, 0, none⟩)) (hc : w.cell? ⟨b, 0, none⟩ = some v) (ho : Is ops i (.load 68 x) d) (h : K (a.put d v) w) : wpOp Tryd.prog ops Q i K a w :=
  step_run ho (fun o e => by revert hx; generalize a.eval = ρ; intro hx; simp [execOp, e, hx, hc, go_sem]) h
theorem step_build1 (x : Operand) (m : Int) (hx : a.eval x = .int .i64 m) (ho : Is ops i (.buildSlice 24 1 #[(0, x)]) d) (h : K (a.put d (.slice (some ⟨w.heap.size, 0, none⟩) 1 1)) (w.alloc (.cells #[.int .i64 m] 3))) : wpOp Tryd.prog ops Q i K a w :=
  step_run ho (fun o e => by revert hx; generalize a.eval = ρ; intro hx; simp [execOp, e, hx, go_sem]) h
theorem step_build2 (x y : Operand) (m : Int) (hx : a.eval x = .int .i64 m) (hy : a.eval y = .int .i64 m) (ho : Is ops i (.buildSlice 24 2 #[(0, x), (1, y)]) d) (h : K (a.put d (.slice (some ⟨w.heap.size, 0, none⟩) 2 2)) (w.alloc (.cells #[.int .i64 m, .int .i64 m] 3))) : wpOp Tryd.prog ops Q i K a w :=
  step_run ho (fun o e => by revert hx hy; generalize a.eval = ρ; intro hx hy; simp [execOp, e, hx, hy, go_sem]) h
theorem step_build3 (x y z : Operand) (m : Int) (hx : a.eval x = .int .i64 m) (hy : a.eval y = .int .i64 m) (hz : a.eval z = .int .i64 m) (ho : Is ops i (.buildSlice 24 3 #[(0, x), (1, y), (2, z)]) d) (h : K (a.put d (.slice (some ⟨w.heap.size, 0, none⟩) 3 3)) (w.alloc (.cells #[.int .i64 m, .int .i64 m, .int .i64 m] 3))) : wpOp Tryd.prog ops Q i K a w :=
  step_run ho (fun o e => by revert hx hy hz; generalize a.eval = ρ; intro hx hy hz; simp [execOp, e, hx, hy, hz, go_sem]) h
theorem step_build4 (x y z u : Operand) (a0 a1 a2 a3 : Option Addr) (n0 n1 n2 n3 c0 c1 c2 c3 : Nat) (hx : a.eval x = .slice a0 n0 c0) (hy : a.eval y = .slice a1 n1 c1) (hz : a.eval z = .slice a2 n2 c2) (hu : a.eval u = .slice a3 n3 c3) (ho : Is ops i (.buildSlice 68 4 #[(0, x), (1, y), (2, z), (3, u)]) d)
    (h : K (a.put d (.slice (some ⟨w.heap.size, 0, none⟩) 4 4)) (w.alloc (.cells #[.slice a0 n0 c0, .slice a1 n1 c1, .slice a2 n2 c2, .slice a3 n3 c3] 24))) : wpOp Tryd.prog ops Q i K a w :=
  step_run ho (fun o e => by revert hx hy hz hu; generalize a.eval = ρ; intro hx hy hz hu; simp [execOp, e, hx, hy, hz, hu, go_sem]) h

theorem is_some {op : Op} (ho : Is ops i op d) : ∃ o, ops[i]? = some o ∧ o.op = op ∧ o.dst = d ∧ o.guard = none := by
  unfold Is at ho
  cases e : ops[i]? with
  | none => rw [e] at ho; cases ho
  | some o =>
    rw [e] at ho
    simp only [Option.map_some, Option.some.injEq, Prod.mk.injEq] at ho
    exact ⟨o, rfl, ho⟩

theorem step_grow (s x : Operand) (ao : Option Addr) (c : Nat) (olds news : List Value) (ad : Addr) (m cx : Nat) (hs : a.eval s = .slice ao c c) (hx : a.eval x = .slice (some ad) m cx) (hm : 0 < m) (hc : c + m ≤ 131072)
    (hnone : ao = none → c = 0) (hlo : olds.length = c) (holds : ∀ b, ao = some b → ∀ j u, olds[j]? = some u → w.cell? (b.add j) = some u) (hn : news.length = m) (hcn : ∀ j u, news[j]? = some u → w.cell? (ad.add j) = some u) (h1c : ∀ u ∈ news, u.oneCell' = true)
    (ho : Is ops i (.call { callee := .builtin .append, args := #[s, x], argTypes := #[24, 24] }) d)
    (hK : ∀ v' w', w'.ownsRow w.heap.size 3 1 v' (c + m) (olds ++ news) → w.grownBy w' none → K (a.put d v') w') : wpOp Tryd.prog ops Q i K a w := by
  obtain ⟨o, e, h1, h2, h3⟩ := is_some ho
  obtain ⟨i0, hi0, hz0, hz1, hz2⟩ := info_parts info_num
  refine wpOp_if e (step_append_grows h3 s x 24 h1 3 i0 _ 1 8 Tryd.underlying24 hi0 hz0 hz1 hz2 rfl (by omega) ao c c olds hs (fun h => ⟨hnone h, hnone h⟩) (by omega) holds ad m cx news hx (by omega) hcn h1c (by omega) (by unfold maxLen; omega) (by omega) ?_)
  rw [h2]; exact hK

theorem info_sl : (Tryd.prog.info? 24).map (fun i => (i.zero, i.size, i.bytes)) = some (some (.slice none 0 0), 1, 24) := by kernel_rfl

theorem step_lies (s x : Operand) (base : Nat) (v : Value) (n : Nat) (xs news : List Value) (ad : Addr) (hs : a.eval s = v) (hown : w.ownsRow base 24 1 v n xs) (hx : a.eval x = .slice (some ad) 4 4) (hn : n ≤ 8388608)
    (hl : news.length = 4) (hnews : ∀ j u, news[j]? = some u → w.cell? (ad.add j) = some u) (h1 : ∀ u ∈ news, u.oneCell' = true) (hbase : base ≤ w.heap.size)
    (ho : Is ops i (.call { callee := .builtin .append, args := #[s, x], argTypes := #[68, 68] }) d)
    (hK : ∀ g cap w', w'.ownsRow base 24 1 (.slice (some ⟨g, 0, none⟩) (n + 4) cap) (n + 4) (xs ++ news) → w.grownBy w' v.ownBlock → (v.ownBlock = some g ∨ g = w.heap.size) → K (a.put d (.slice (some ⟨g, 0, none⟩) (n + 4) cap)) w') : wpOp Tryd.prog ops Q i K a w := by
  obtain ⟨o, e, e1, e2, e3⟩ := is_some ho
  obtain ⟨i0, hi0, hz0, hz1, hz2⟩ := info_parts info_sl
  refine wpOp_of e e3 (wp_append_lies w s x 68 e1 base 24 i0 _ 1 24 Tryd.underlying68 hi0 hz0 hz1 hz2 rfl (by omega) v n xs hs hown ad 4 4 news hx (by omega) hnews h1 (by omega) (by unfold maxLen; omega) (by omega) hbase _ rfl ?_)
  intro g cap w' h1 h2 h3 h4
  rw [e2]; exact hK g cap w' h1 h2 h3

theorem step_store (x y : Operand) (b : Nat) (old : Value) (a0 : Option Addr) (n c : Nat) (hx : a.eval x = .pointer (some ⟨b, 0, none⟩)) (hy : a.eval y = .slice a0 n c) (hc : w.cell? ⟨b, 0, none⟩ = some old) (hf : w.frozen? ⟨b, 0, none⟩ = false) (ho : Is ops i (.store 68 x y) none) (h : K a (w.setCell ⟨b, 0, none⟩ (.slice a0 n c))) : wpOp Tryd.prog ops Q i K a w := by
  obtain ⟨o, e, e1, e2, e3⟩ := is_some ho
  refine wpOp_of e e3 ?_
  unfold Oper.wp
  have hr : (execOp a.eval o).run Tryd.prog w = .ok .skip (w.setCell ⟨b, 0, none⟩ (.slice a0 n c)) := by
    revert hx hy; generalize a.eval = ρ; intro hx hy
    simp [execOp, e1, hx, hy, hc, hf, go_sem]
  rw [hr]
  show K (a.put o.dst undef) _
  rw [e2]; exact h
end

theorem alloc_at (w : World) (cs : Array Value) (t : TypeId) (j : Nat) (u : Value) (h : cs[j]? = some u) : (w.alloc (.cells cs t)).cell? ⟨w.heap.size, j, none⟩ = some u := by
  have e := heap_alloc_new w (.cells cs t)
  simp only [World.cell?]
  rw [e]
  exact h

theorem own_mono {w w' : World} {base : Nat} {e : TypeId} {v : Value} {n : Nat} {xs : List Value} (h : w.ownsRow base e 1 v n xs) (hg : w.grownBy w' none) : w'.ownsRow base e 1 v n xs := by
  refine ⟨h.1, ?_⟩
  rcases h.2 with h0 | ⟨g, cap, cur, hv, hb, hc, h1, h2, h3, h4⟩
  · exact .inl h0
  · have hlt : g < w.heap.size := by
      rcases Nat.lt_or_ge g w.heap.size with h | h
      · exact h
      · rw [Array.getElem?_eq_none h] at hc; cases hc
    exact .inr ⟨g, cap, cur, hv, hb, (hg.block g hlt (by simp)).trans hc, h1, h2, h3, h4⟩

theorem marks_of_own {w : World} {H B c m : Nat} {e : TypeId} {v M : Value} (h : w.ownsRow B e 1 v (c + m) (List.replicate c M ++ List.replicate m M)) (hm : 0 < m) (hB : H ≤ B) : Marks H M (c + m) v w := by
  rcases h.2 with ⟨_, h0⟩ | ⟨g, cap, cur, hv, hb, hc, h1, h2, h3, h4⟩
  · omega
  · refine ⟨g, cap, hv, by omega, fun j hj => ?_⟩
    have e1 : cur[j]? = some M := by
      have e2 : (cur.toList.take ((c + m) * 1))[j]? = some M := by
        rw [h4, List.replicate_append_replicate, List.getElem?_replicate]; simp [hj]
      rw [List.getElem?_take] at e2
      rw [if_pos (by omega)] at e2
      simpa using e2
    simp [World.cell?, hc, e1]

theorem Marks.lt {w : World} {H n : Nat} {M v : Value} (h : Marks H M n v w) (hn : 0 < n) : ∃ g cap, v = .slice (some ⟨g, 0, none⟩) n cap ∧ H ≤ g ∧ g < w.heap.size := by
  obtain ⟨g, cap, hv, hH, hc⟩ := h
  exact ⟨g, cap, hv, hH, World.block_lt_of_cell? w _ (hc 0 hn)⟩


theorem getD_tt {l : Array Bool} {i : Nat} (h : l.getD i false = true) (h' : l.getD i true = false) : False := by
  rw [Array.getD_eq_getD_getElem?] at h h'
  cases e : l[i]? with
  | none => rw [e] at h; cases h
  | some b => rw [e] at h h'; simp at h h'; rw [h] at h'; cases h'

theorem rep_false (n j : Nat) : (Array.replicate n false).getD j false = false := by
  rw [Array.getD_eq_getD_getElem?, Array.getElem?_replicate]
  split <;> rfl

theorem rep_some {n j : Nat} {M u : Value} (h : (List.replicate n M)[j]? = some u) : j < n ∧ u = M := by
  rw [List.getElem?_replicate] at h
  split at h
  · rename_i hj; exact ⟨hj, (Option.some.inj h).symm⟩
  · cases h
theorem marks_at (n : Nat) (M : Value) (j : Nat) (h : j < n) : (Array.replicate n M)[j]? = some M := by
  rw [Array.getElem?_replicate, if_pos h]
theorem add_at (g j : Nat) : (⟨g, 0, none⟩ : Addr).add j = ⟨g, j, none⟩ := by
  unfold Addr.add
  split <;> simp_all
def lowB (ops : Array Oper) : Bool := (List.range ops.size).all fun i => ((ops[i]?).map fun o => o.after.all fun e => decide (e.on < i)).getD true
theorem low_of {ops : Array Oper} (h : lowB ops = true) : ∀ i o, ops[i]? = some o → ∀ e ∈ o.after, Region.binds .any e = true → e.on < i := by
  intro i o ho e he _
  have hi : i < ops.size := (Array.getElem?_eq_some_iff.mp ho).1
  have := List.all_eq_true.mp h i (List.mem_range.mpr hi)
  rw [ho] at this
  simp only [Option.map_some, Option.getD_some, Array.all_eq_true_iff_forall_mem, decide_eq_true_eq] at this
  exact this e he

/-- What has become of it. -/
def KeepPost (base bb lb c ni : Nat) (ao : Option Addr) (IV : Value) (xs : List Value) (w w' : World) (e : Ending) : Prop :=
  e = .returned (.tuple #[]) ∧ ∃ wl w1 v, Jr wl lb c (fun _ => -1000 - (ni : Int)) ∧ Only lb w wl ∧ wl.grownBy w1 IV.ownBlock ∧ Own base 24 wl.heap.size c ni (.slice ao c c) IV (.int .i64 (-1000 - (ni : Int))) xs v w1 ∧ w' = w1.setCell ⟨bb, 0, none⟩ v

set_option maxHeartbeats 4000000 in
theorem keep_any (bb lb c ni icap base : Nat) (ao ia : Option Addr) (f : Nat → Int) (xs : List Value) (w : World) (hc : c ≤ 65536) (hni : ni ≤ 8388608) (hao : 0 < c → ao = some ⟨lb, 0, none⟩)
    (hb0 : w.cell? ⟨bb, 0, none⟩ = some (.slice ia ni icap)) (hbf : w.frozen? ⟨bb, 0, none⟩ = false) (hown : w.ownsRow base 24 1 (.slice ia ni icap) ni xs) (hl : Jr w lb c f) (hne : lb ≠ bb) (hIl : (Value.slice ia ni icap).ownBlock ≠ some lb) (hIb : (Value.slice ia ni icap).ownBlock ≠ some bb) (hnil : ao = none → c = 0) (hbase : base ≤ w.heap.size) :
    Calls Tryd.prog 66 #[.pointer (some ⟨bb, 0, none⟩), .slice ao c c] w fun e w' => KeepPost base bb lb c ni ao (.slice ia ni icap) xs w w' e := by
  have HA : Hid (Jr w lb c f) := hl
  have HAO : Hid (0 < c → ao = some ⟨lb, 0, none⟩) := hao
  have HO : Hid (w.ownsRow base 24 1 (.slice ia ni icap) ni xs) := hown
  clear hl hao hown
  have hne1 : ¬ lb = bb := hne
  have hne2 : ¬ bb = lb := fun e => hne e.symm
  obtain ⟨m, hm⟩ : ∃ m : Int, m = -1000 - (ni : Int) := ⟨_, rfl⟩
  go_enter Tryd.func66, Tryd.ntmps66
  go_wp2
  rw [← hm]
  have HM : Hid (m = -1000 - (ni : Int)) := hm
  clear hm
  go_loopw [5] (fun ti wr => ∃ (k : Nat) (g : Nat → Int), k ≤ c ∧ ti = .int .i64 k ∧ Hid (Jr wr lb c g ∧ (∀ i, i < k → g i = m) ∧ Only lb w wr)) (fun ti _ => c - (intOf ti).toNat)
  case atStart => exact ⟨0, f, Nat.zero_le _, rfl, HA.out, fun i hi => by omega, Only.refl _ _⟩
  case round =>
    obtain ⟨k, g, hk, rfl, HR⟩ := hrel
    by_cases hlt : k < c
    · obtain rfl : ao = some ⟨lb, 0, none⟩ := HAO.out (by omega)
      obtain ⟨hA, hU, hO⟩ := HR.out
      have c1 := (hA k hlt).1
      have f1 := (hA k hlt).2
      have i1 : (k : Int) < (c : Int) := by omega
      clear hA hU hO
      go_wp2
      go_roundw
      case rel =>
        refine ⟨k + 1, upd g k m, by omega, by go_num, ?_⟩
        obtain ⟨hA, hU, hO⟩ := HR.out
        refine ⟨hA.set hlt m, fun i hi => ?_, hO.setCell rfl _⟩
        by_cases e : i = k
        · subst e; rw [upd_same]
        · rw [upd_other e]; exact hU i (by omega)
      case measure => simp [intOf]; omega
    · obtain rfl : k = c := by omega
      have cb := (HR.out.2.2.cell hne2).trans hb0
      go_wp2
      have hfb := (HR.out.2.2.frozen ⟨bb, 0, none⟩).trans hbf
      have hA := HR.out.1.congr HR.out.2.1
      have hOnly := HR.out.2.2
      have hm := HM.out
      obtain ⟨w0, hw0⟩ : ∃ w0 : World, w0 = { wr with drawn := wr.drawn + 1 } := ⟨_, rfl⟩
      have hO0 : w0.ownsRow base 24 1 (.slice ia ni icap) ni xs := by
        rw [hw0]
        refine ⟨HO.out.1, ?_⟩
        rcases HO.out.2 with h0 | ⟨g, cap, cur, hv, hb, hcu, h1, h2, h3, h4⟩
        · exact .inl h0
        · refine .inr ⟨g, cap, cur, hv, hb, ?_, h1, h2, h3, h4⟩
          refine (hOnly.block g ?_).trans hcu
          intro e
          exact hIl (by rw [hv, e]; rfl)
      have hsz : w0.heap.size = wr.heap.size := by rw [hw0]
      have hbase0 : base ≤ w0.heap.size := by rw [hsz, hOnly.size]; exact hbase
      have hrow : ∀ j, (Value.slice ia ni icap).ownBlock = some j → j < w0.heap.size := by
        intro j hj
        rcases hO0.2 with ⟨h0, _⟩ | ⟨g, cap, cur, hv, hb, hcu, _⟩
        · rw [h0] at hj; cases hj
        · rw [hv] at hj
          obtain rfl : g = j := Option.some.inj hj
          rcases Nat.lt_or_ge g w0.heap.size with h | h
          · exact h
          · rw [Array.getElem?_eq_none h] at hcu; cases hcu
      have hbb : ∀ w : World, w0.grownBy w (Value.slice ia ni icap).ownBlock → w.cell? ⟨bb, 0, none⟩ = some (.slice ia ni icap) ∧ w.frozen? ⟨bb, 0, none⟩ = false := by
        intro w2 hg
        have c0 : w0.cell? ⟨bb, 0, none⟩ = some (.slice ia ni icap) := by rw [hw0]; exact cb
        have f0 : w0.frozen? ⟨bb, 0, none⟩ = false := by rw [hw0]; exact hfb
        exact ⟨hg.cell c0 (fun e => hIb e.symm), (hg.frozen_far _ (World.block_lt_of_cell? w0 _ c0) (fun e => hIb e.symm)).trans f0⟩
      have hlc : ∀ w : World, w0.grownBy w (Value.slice ia ni icap).ownBlock → ∀ b, ao = some b → ∀ (j : Nat) u, (List.replicate k (Value.int .i64 m))[j]? = some u → w.cell? (b.add j) = some u := by
        intro w2 hg b hb j u hu
        obtain ⟨hj, rfl⟩ := rep_some hu
        obtain rfl : b = ⟨lb, 0, none⟩ := Option.some.inj (hb.symm.trans (HAO.out (by omega)))
        have c0 : w0.cell? ⟨lb, j, none⟩ = some (.int .i64 m) := by rw [hw0]; exact (hA j hj).1
        rw [add_at]; exact hg.cell c0 (fun e => hIl e.symm)
      clear HA HR cb hfb HO
      refine wp_region_inv (by kernel_rfl) (KK base 24 ni xs w0 bb k (.slice ao k k) (.slice ia ni icap) (.int .i64 m)) ?_ ?_ ?_
      · refine .inl ⟨rep_false _ _, ⟨by simp, rfl, rfl, rfl, rfl, rfl, fun j hj h => ?_, fun h => ?_, fun h => ?_, ?_, ?_⟩, fun h => ?_⟩
        · rw [rep_false] at h; cases h
        · rw [rep_false] at h; cases h
        · rw [rep_false] at h; cases h
        · rw [← hw0]; exact World.grownBy.refl _ _
        · intro _; rw [← hw0]; exact World.grownBy.refl _ _
        · rw [rep_false] at h; cases h
      · intro listed a w i hdown hKK hi
        have hun := (mem_ready.mp hi).1
        have hlt : i < 26 := by obtain ⟨_, o, ho, _⟩ := mem_ready.mp hi; exact (Array.getElem?_eq_some_iff.mp ho).1
        rcases hKK with ⟨h25, hJ, hown⟩ | ⟨hall, _⟩
        case inr => exact absurd (hall i hlt) (fun h => getD_tt h hun)
        rcases (show i = 0 ∨ i = 1 ∨ i = 2 ∨ i = 3 ∨ i = 4 ∨ i = 5 ∨ i = 6 ∨ i = 7 ∨ i = 8 ∨ i = 9 ∨ i = 10 ∨ i = 11 ∨ i = 12 ∨ i = 13 ∨ i = 14 ∨ i = 15 ∨ i = 16 ∨ i = 17 ∨ i = 18 ∨ i = 19 ∨ i = 20 ∨ i = 21 ∨ i = 22 ∨ i = 23 ∨ i = 24 ∨ i = 25 by omega) with rfl | rfl | rfl | rfl | rfl | rfl | rfl | rfl | rfl | rfl | rfl | rfl | rfl | rfl | rfl | rfl | rfl | rfl | rfl | rfl | rfl | rfl | rfl | rfl | rfl | rfl
        · exact step_move (.tmp 0) rfl (KK.same hJ hrow h25 hown 0 (by omega) (by omega) _ hJ.t0 (fun e => by omega))
        · exact step_move (.tmp 0) rfl (KK.same hJ hrow h25 hown 1 (by omega) (by omega) _ hJ.t0 (fun e => by omega))
        · exact step_nil (.tmp 23) ⟨bb, 0, none⟩ (hJ.vals 1 (by omega) (dep 1 hi (by kernel_rfl))) rfl (KK.same hJ hrow h25 hown 2 (by omega) (by omega) _ rfl (fun e => by omega))
        · exact step_field (.tmp 24) bb (hJ.vals 2 (by omega) (dep 2 hi (by kernel_rfl))) rfl (KK.same hJ hrow h25 hown 3 (by omega) (by omega) _ rfl (fun e => by omega))
        · exact step_load (.tmp 25) bb _ (hJ.vals 3 (by omega) (dep 3 hi (by kernel_rfl))) (hbb w hJ.grown).1 rfl (KK.same hJ hrow h25 hown 4 (by omega) (by omega) _ rfl (fun e => by omega))
        · exact step_move (.tmp 1) rfl (KK.same hJ hrow h25 hown 5 (by omega) (by omega) _ hJ.t1 (fun e => by omega))
        · exact step_move (.tmp 1) rfl (KK.same hJ hrow h25 hown 6 (by omega) (by omega) _ hJ.t1 (fun e => by omega))
        · exact step_move (.tmp 4) rfl (KK.same hJ hrow h25 hown 7 (by omega) (by omega) _ hJ.t4 (fun e => by omega))
        · exact step_build1 (.tmp 29) m (hJ.vals 7 (by omega) (dep 7 hi (by kernel_rfl))) rfl (KK.grow hJ hrow h25 8 (by omega) (by omega) hun _ _ (World.grownBy_alloc w _ _) ⟨w.heap.size, 1, rfl, hJ.grown.size, fun j hj => alloc_at w _ _ j _ (marks_at 1 (.int .i64 m) j hj)⟩)
        · obtain ⟨gn, cn, hv, hH, hcn⟩ := (hJ.vals 8 (by omega) (dep 8 hi (by kernel_rfl)))
          refine step_grow (.tmp 28) (.tmp 30) ao k (List.replicate k (.int .i64 m)) (List.replicate 1 (.int .i64 m)) ⟨gn, 0, none⟩ 1 cn (hJ.vals 6 (by omega) (dep 6 hi (by kernel_rfl))) hv (by omega) (by omega) hnil (by simp) (hlc w hJ.grown) (by simp) ?_ ?_ rfl ?_
          · intro j u hu
            obtain ⟨hj, rfl⟩ := rep_some hu
            rw [add_at]; exact hcn j hj
          · intro u hu
            rw [List.eq_of_mem_replicate hu]; rfl
          · intro v' w' ho hg
            exact KK.grow hJ hrow h25 9 (by omega) (by omega) hun v' w' hg (marks_of_own ho (by omega) hJ.grown.size)
        · exact step_move (.tmp 1) rfl (KK.same hJ hrow h25 hown 10 (by omega) (by omega) _ hJ.t1 (fun e => by omega))
        · exact step_move (.tmp 4) rfl (KK.same hJ hrow h25 hown 11 (by omega) (by omega) _ hJ.t4 (fun e => by omega))
        · exact step_move (.tmp 4) rfl (KK.same hJ hrow h25 hown 12 (by omega) (by omega) _ hJ.t4 (fun e => by omega))
        · exact step_build2 (.tmp 33) (.tmp 34) m (hJ.vals 11 (by omega) (dep 11 hi (by kernel_rfl))) (hJ.vals 12 (by omega) (dep 12 hi (by kernel_rfl))) rfl (KK.grow hJ hrow h25 13 (by omega) (by omega) hun _ _ (World.grownBy_alloc w _ _) ⟨w.heap.size, 2, rfl, hJ.grown.size, fun j hj => alloc_at w _ _ j _ (marks_at 2 (.int .i64 m) j hj)⟩)
        · obtain ⟨gn, cn, hv, hH, hcn⟩ := (hJ.vals 13 (by omega) (dep 13 hi (by kernel_rfl)))
          refine step_grow (.tmp 32) (.tmp 35) ao k (List.replicate k (.int .i64 m)) (List.replicate 2 (.int .i64 m)) ⟨gn, 0, none⟩ 2 cn (hJ.vals 10 (by omega) (dep 10 hi (by kernel_rfl))) hv (by omega) (by omega) hnil (by simp) (hlc w hJ.grown) (by simp) ?_ ?_ rfl ?_
          · intro j u hu
            obtain ⟨hj, rfl⟩ := rep_some hu
            rw [add_at]; exact hcn j hj
          · intro u hu
            rw [List.eq_of_mem_replicate hu]; rfl
          · intro v' w' ho hg
            exact KK.grow hJ hrow h25 14 (by omega) (by omega) hun v' w' hg (marks_of_own ho (by omega) hJ.grown.size)
        · exact step_move (.tmp 1) rfl (KK.same hJ hrow h25 hown 15 (by omega) (by omega) _ hJ.t1 (fun e => by omega))
        · exact step_move (.tmp 4) rfl (KK.same hJ hrow h25 hown 16 (by omega) (by omega) _ hJ.t4 (fun e => by omega))
        · exact step_move (.tmp 4) rfl (KK.same hJ hrow h25 hown 17 (by omega) (by omega) _ hJ.t4 (fun e => by omega))
        · exact step_move (.tmp 4) rfl (KK.same hJ hrow h25 hown 18 (by omega) (by omega) _ hJ.t4 (fun e => by omega))
        · exact step_build3 (.tmp 38) (.tmp 39) (.tmp 40) m (hJ.vals 16 (by omega) (dep 16 hi (by kernel_rfl))) (hJ.vals 17 (by omega) (dep 17 hi (by kernel_rfl))) (hJ.vals 18 (by omega) (dep 18 hi (by kernel_rfl))) rfl (KK.grow hJ hrow h25 19 (by omega) (by omega) hun _ _ (World.grownBy_alloc w _ _) ⟨w.heap.size, 3, rfl, hJ.grown.size, fun j hj => alloc_at w _ _ j _ (marks_at 3 (.int .i64 m) j hj)⟩)
        · obtain ⟨gn, cn, hv, hH, hcn⟩ := (hJ.vals 19 (by omega) (dep 19 hi (by kernel_rfl)))
          refine step_grow (.tmp 37) (.tmp 41) ao k (List.replicate k (.int .i64 m)) (List.replicate 3 (.int .i64 m)) ⟨gn, 0, none⟩ 3 cn (hJ.vals 15 (by omega) (dep 15 hi (by kernel_rfl))) hv (by omega) (by omega) hnil (by simp) (hlc w hJ.grown) (by simp) ?_ ?_ rfl ?_
          · intro j u hu
            obtain ⟨hj, rfl⟩ := rep_some hu
            rw [add_at]; exact hcn j hj
          · intro u hu
            rw [List.eq_of_mem_replicate hu]; rfl
          · intro v' w' ho hg
            exact KK.grow hJ hrow h25 20 (by omega) (by omega) hun v' w' hg (marks_of_own ho (by omega) hJ.grown.size)
        · have r1 := (hJ.vals 9 (by omega) (dep 9 hi (by kernel_rfl)))
          have r2 := (hJ.vals 14 (by omega) (dep 14 hi (by kernel_rfl)))
          have r3 := (hJ.vals 20 (by omega) (dep 20 hi (by kernel_rfl)))
          obtain ⟨g1, c1, hv1, hH1, hc1⟩ := (show Marks w0.heap.size (.int .i64 m) (k + 1) (a.tmps.getD 31 undef) w from r1)
          obtain ⟨g2, c2, hv2, hH2, hc2⟩ := (show Marks w0.heap.size (.int .i64 m) (k + 2) (a.tmps.getD 36 undef) w from r2)
          obtain ⟨g3, c3, hv3, hH3, hc3⟩ := (show Marks w0.heap.size (.int .i64 m) (k + 3) (a.tmps.getD 42 undef) w from r3)
          refine step_build4 (.tmp 27) (.tmp 31) (.tmp 36) (.tmp 42) _ _ _ _ _ _ _ _ _ _ _ _ (hJ.vals 5 (by omega) (dep 5 hi (by kernel_rfl))) hv1 hv2 hv3 rfl (KK.grow hJ hrow h25 21 (by omega) (by omega) hun _ _ (World.grownBy_alloc w _ _) ⟨w.heap.size, .slice (some ⟨g1, 0, none⟩) (k + 1) c1, .slice (some ⟨g2, 0, none⟩) (k + 2) c2, .slice (some ⟨g3, 0, none⟩) (k + 3) c3, rfl, hJ.grown.size, ?_, ?_⟩)
          · have F : Fours w0.heap.size k (.slice ao k k) (.int .i64 m) (.slice (some ⟨g1, 0, none⟩) (k + 1) c1) (.slice (some ⟨g2, 0, none⟩) (k + 2) c2) (.slice (some ⟨g3, 0, none⟩) (k + 3) c3) w := ⟨⟨g1, c1, rfl, hH1, hc1⟩, ⟨g2, c2, rfl, hH2, hc2⟩, ⟨g3, c3, rfl, hH3, hc3⟩⟩
            exact F.mono (World.grownBy_alloc w _ none) (fun _ h => by cases h)
          · intro j u hu
            exact alloc_at w _ _ j u (by simpa using hu)
        · obtain ⟨gn, v1, v2, v3, hv, hH, hF, hcn⟩ := (hJ.vals 21 (by omega) (dep 21 hi (by kernel_rfl)))
          have hall : ∀ j, 1 ≤ j → j < 22 → listed.getD j false = true := ready_reach hdown hi 12 22 1 (by kernel_rfl)
          have h22 : listed.getD 22 false = false := by
            cases e : listed.getD 22 false with
            | false => rfl
            | true => exact (getD_tt e hun).elim
          refine step_lies (.tmp 26) (.tmp 43) base (.slice ia ni icap) ni xs [.slice ao k k, v1, v2, v3] ⟨gn, 0, none⟩ (hJ.vals 4 (by omega) (dep 4 hi (by kernel_rfl))) (own_mono hO0 (hJ.pure h22)) hv hni rfl ?_ ?_ (Nat.le_trans hbase0 hJ.grown.size) rfl ?_
          · intro j u hu
            rw [add_at]; exact hcn j u hu
          · intro u hu
            obtain ⟨g1, c1, e1, _⟩ := hF.r1
            obtain ⟨g2, c2, e2, _⟩ := hF.r2
            obtain ⟨g3, c3, e3, _⟩ := hF.r3
            subst e1 e2 e3
            simp at hu
            rcases hu with rfl | rfl | rfl | rfl <;> rfl
          · intro g cap w' ho hg hat
            obtain ⟨g1, c1, e1, b1, l1⟩ := hF.r1.lt (by omega)
            obtain ⟨g2, c2, e2, b2, l2⟩ := hF.r2.lt (by omega)
            obtain ⟨g3, c3, e3, b3, l3⟩ := hF.r3.lt (by omega)
            have hsep : ∀ x, w0.heap.size ≤ x → x < w.heap.size → x ≠ g := by
              intro x h1 h2 e
              subst e
              rcases hat with h | h
              · have := hrow _ h; omega
              · omega
            refine KK.own hJ hrow h25 hall _ w' hg ⟨g, cap, v1, v2, v3, rfl, ho, hF.mono hg hrow, hat.imp id (fun h => by have := hJ.grown.size; omega), ?_, ?_, ?_⟩
            · rw [e1]; intro h; exact hsep g1 b1 l1 (Option.some.inj h)
            · rw [e2]; intro h; exact hsep g2 b2 l2 (Option.some.inj h)
            · rw [e3]; intro h; exact hsep g3 b3 l3 (Option.some.inj h)
        · exact step_nil (.tmp 22) ⟨bb, 0, none⟩ (hJ.vals 0 (by omega) (dep 0 hi (by kernel_rfl))) rfl (KK.same hJ hrow h25 hown 23 (by omega) (by omega) _ rfl (fun e => by omega))
        · exact step_field (.tmp 45) bb (hJ.vals 23 (by omega) (dep 23 hi (by kernel_rfl))) rfl (KK.same hJ hrow h25 hown 24 (by omega) (by omega) _ rfl (fun e => dep 23 hi (by kernel_rfl)))
        · have h22 := dep 22 hi (by kernel_rfl)
          have h24 := dep 24 hi (by kernel_rfl)
          have hO := hown h22
          obtain ⟨g, cap, v1, v2, v3, hv, hrest⟩ := hO
          refine step_store (.tmp 46) (.tmp 44) bb _ _ _ _ (hJ.vals 24 (by omega) h24) hv (hbb w hJ.grown).1 (hbb w hJ.grown).2 rfl ?_
          exact KK.stored hJ ⟨g, cap, v1, v2, v3, rfl, hv ▸ hrest⟩ (fun j hj => ready_reach hdown hi 2 25 0 (by kernel_rfl) j (Nat.zero_le _) hj)
      · intro listed a w2 hKK hr
        rcases hKK with ⟨h25, hJ, _⟩ | ⟨_, hd, w1, v, hg, hO, hw2⟩
        · exfalso
          have := all_listed hJ.lsize hr (low_of (by kernel_rfl)) 25 (by decide)
          rw [this] at h25; cases h25
        · refine bodyPost_end (results_none rfl _ _ _) hd ?_
          subst hm
          exact ⟨rfl, wr, w1, v, hA, hOnly, ⟨by rw [hg.os, hw0], by rw [hg.tape, hw0], by rw [hg.output, hw0], by rw [← hsz]; exact hg.size, fun q hq hne => by rw [hg.block q (by omega) hne, hw0]⟩, by rw [← hsz]; exact hO, hw2⟩

end Go.Proofs.YtddpcjgekfmhkabDoor
