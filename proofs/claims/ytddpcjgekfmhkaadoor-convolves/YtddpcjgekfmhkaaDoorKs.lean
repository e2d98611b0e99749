/- Steps of a drawn region, by what an operation is. -/
import Derived.Test.YtddpcjgekfmhkaaDoorKj
import Derived.Test.YtddpcjgekfmhkaaDoorLx
namespace Go.Proofs.YtddpcjgekfmhkaaDoor
open Go Go.RowKit
set_option linter.unusedVariables false
set_option linter.unusedSimpArgs false

section
variable {P : Program} {ops : Array Oper} {Q : Exit → Act → World → Prop} {i : Nat} {K : Act → World → Prop} {a : Act} {w : World} {d : Option Tmp}

def Is (ops : Array Oper) (i : Nat) (op : Op) (d : Option Tmp) : Prop := (ops[i]?).map (fun o => (o.op, o.dst, o.guard)) = some (op, d, none)

theorem step_run {op : Op} {v : Value} {w' : World} (ho : Is ops i op d) (hrun : ∀ o : Oper, o.op = op → (execOp a.eval o).run P w = .ok (.value v) w') (h : K (a.put d v) w') : wpOp P ops Q i K a w := by
  unfold Is at ho
  cases e : ops[i]? with
  | none => rw [e] at ho; cases ho
  | some o =>
    rw [e] at ho
    simp only [Option.map_some, Option.some.injEq, Prod.mk.injEq] at ho
    obtain ⟨h1, h2, h3⟩ := ho
    refine wpOp_of e h3 ?_
    unfold Oper.wp
    rw [hrun o h1]
    show K (a.put o.dst v) w'
    rw [h2]; exact h

theorem step_move (x : Operand) (ho : Is ops i (.move x) d) (h : K (a.put d (a.eval x)) w) : wpOp P ops Q i K a w :=
  step_run ho (fun o e => by simp [execOp, e]) h
theorem step_nil (x : Operand) (p : Addr) (hx : a.eval x = .pointer (some p)) (ho : Is ops i (.nilCheck x) d) (h : K (a.put d (.pointer (some p))) w) : wpOp P ops Q i K a w :=
  step_run ho (fun o e => by revert hx; generalize a.eval = ρ; intro hx; simp [execOp, e, hx, go_sem]) h
theorem step_field (x : Operand) (b : Nat) (hx : a.eval x = .pointer (some ⟨b, 0, none⟩)) (ho : Is ops i (.fieldAddr 34 x 0) d) (h : K (a.put d (.pointer (some ⟨b, 0, none⟩))) w) : wpOp Tryd.prog ops Q i K a w :=
  step_run ho (fun o e => by revert hx; generalize a.eval = ρ; intro hx; simp [execOp, e, hx, go_sem]) h
theorem step_load (x : Operand) (b : Nat) (v : Value) (hx : a.eval x = .pointer (some ⟨b, 0, none⟩)) (hc : w.cell? ⟨b, 0, none⟩ = some v) (ho : Is ops i (.load 31 x) d) (h : K (a.put d v) w) : wpOp Tryd.prog ops Q i K a w :=
  step_run ho (fun o e => by revert hx; generalize a.eval = ρ; intro hx; simp [execOp, e, hx, hc, go_sem]) h
theorem step_build1 (x : Operand) (m : Int) (hx : a.eval x = .int .i64 m) (ho : Is ops i (.buildSlice 22 1 #[(0, x)]) d) (h : K (a.put d (.slice (some ⟨w.heap.size, 0, none⟩) 1 1)) (w.alloc (.cells #[.int .i64 m] 3))) : wpOp Tryd.prog ops Q i K a w :=
  step_run ho (fun o e => by revert hx; generalize a.eval = ρ; intro hx; simp [execOp, e, hx, go_sem]) h
theorem step_build2 (x y : Operand) (m : Int) (hx : a.eval x = .int .i64 m) (hy : a.eval y = .int .i64 m) (ho : Is ops i (.buildSlice 22 2 #[(0, x), (1, y)]) d) (h : K (a.put d (.slice (some ⟨w.heap.size, 0, none⟩) 2 2)) (w.alloc (.cells #[.int .i64 m, .int .i64 m] 3))) : wpOp Tryd.prog ops Q i K a w :=
  step_run ho (fun o e => by revert hx hy; generalize a.eval = ρ; intro hx hy; simp [execOp, e, hx, hy, go_sem]) h
theorem step_build3 (x y z : Operand) (m : Int) (hx : a.eval x = .int .i64 m) (hy : a.eval y = .int .i64 m) (hz : a.eval z = .int .i64 m) (ho : Is ops i (.buildSlice 22 3 #[(0, x), (1, y), (2, z)]) d) (h : K (a.put d (.slice (some ⟨w.heap.size, 0, none⟩) 3 3)) (w.alloc (.cells #[.int .i64 m, .int .i64 m, .int .i64 m] 3))) : wpOp Tryd.prog ops Q i K a w :=
  step_run ho (fun o e => by revert hx hy hz; generalize a.eval = ρ; intro hx hy hz; simp [execOp, e, hx, hy, hz, go_sem]) h
theorem step_build4 (x y z u : Operand) (a0 a1 a2 a3 : Option Addr) (n0 n1 n2 n3 c0 c1 c2 c3 : Nat) (hx : a.eval x = .slice a0 n0 c0) (hy : a.eval y = .slice a1 n1 c1) (hz : a.eval z = .slice a2 n2 c2) (hu : a.eval u = .slice a3 n3 c3) (ho : Is ops i (.buildSlice 31 4 #[(0, x), (1, y), (2, z), (3, u)]) d)
    (h : K (a.put d (.slice (some ⟨w.heap.size, 0, none⟩) 4 4)) (w.alloc (.cells #[.slice a0 n0 c0, .slice a1 n1 c1, .slice a2 n2 c2, .slice a3 n3 c3] 22))) : wpOp Tryd.prog ops Q i K a w :=
  step_run ho (fun o e => by revert hx hy hz hu; generalize a.eval = ρ; intro hx hy hz hu; simp [execOp, e, hx, hy, hz, hu, go_sem]) h

theorem is_some {op : Op} (ho : Is ops i op d) : ∃ o, ops[i]? = some o ∧ o.op = op ∧ o.dst = d ∧ o.guard = none := by
  unfold Is at ho
  cases e : ops[i]? with
  | none => rw [e] at ho; cases ho
  | some o =>
    rw [e] at ho
    simp only [Option.map_some, Option.some.injEq, Prod.mk.injEq] at ho
    exact ⟨o, rfl, ho⟩

theorem step_grow (s x : Operand) (ao : Option Addr) (c : Nat) (olds news : List Value) (ad : Addr) (m cx : Nat) (hs : a.eval s = .slice ao c c) (hx : a.eval x = .slice (some ad) m cx) (hm : 0 < m) (hc : c + m ≤ 2048)
    (hnone : ao = none → c = 0) (hlo : olds.length = c) (holds : ∀ b, ao = some b → ∀ j u, olds[j]? = some u → w.cell? (b.add j) = some u) (hn : news.length = m) (hcn : ∀ j u, news[j]? = some u → w.cell? (ad.add j) = some u) (h1c : ∀ u ∈ news, u.oneCell' = true)
    (ho : Is ops i (.call { callee := .builtin .append, args := #[s, x], argTypes := #[22, 22] }) d)
    (hK : ∀ v' w', w'.ownsRow w.heap.size 3 1 v' (c + m) (olds ++ news) → w.grownBy w' none → K (a.put d v') w') : wpOp Tryd.prog ops Q i K a w := by
  obtain ⟨o, e, h1, h2, h3⟩ := is_some ho
  obtain ⟨i0, hi0, hz0, hz1, hz2⟩ := info_parts info_int
  refine wpOp_if e (step_append_grows h3 s x 22 h1 3 i0 _ 1 8 Tryd.underlying22 hi0 hz0 hz1 hz2 rfl (by omega) ao c c olds hs (fun h => ⟨hnone h, hnone h⟩) (by omega) holds ad m cx news hx (by omega) hcn h1c (by omega) (by unfold maxLen; omega) (by omega) ?_)
  rw [h2]; exact hK

theorem info_sl : (Tryd.prog.info? 22).map (fun i => (i.zero, i.size, i.bytes)) = some (some (.slice none 0 0), 1, 24) := by kernel_rfl

theorem step_lies (s x : Operand) (base : Nat) (v : Value) (n : Nat) (xs news : List Value) (ad : Addr) (hs : a.eval s = v) (hown : w.ownsRow base 22 1 v n xs) (hx : a.eval x = .slice (some ad) 4 4) (hn : n ≤ 1000)
    (hl : news.length = 4) (hnews : ∀ j u, news[j]? = some u → w.cell? (ad.add j) = some u) (h1 : ∀ u ∈ news, u.oneCell' = true) (hbase : base ≤ w.heap.size)
    (ho : Is ops i (.call { callee := .builtin .append, args := #[s, x], argTypes := #[31, 31] }) d)
    (hK : ∀ g cap w', w'.ownsRow base 22 1 (.slice (some ⟨g, 0, none⟩) (n + 4) cap) (n + 4) (xs ++ news) → w.grownBy w' v.ownBlock → (v.ownBlock = some g ∨ g = w.heap.size) → K (a.put d (.slice (some ⟨g, 0, none⟩) (n + 4) cap)) w') : wpOp Tryd.prog ops Q i K a w := by
  obtain ⟨o, e, e1, e2, e3⟩ := is_some ho
  obtain ⟨i0, hi0, hz0, hz1, hz2⟩ := info_parts info_sl
  refine wpOp_of e e3 (wp_append_lies w s x 31 e1 base 22 i0 _ 1 24 Tryd.underlying31 hi0 hz0 hz1 hz2 rfl (by omega) v n xs hs hown ad 4 4 news hx (by omega) hnews h1 (by omega) (by unfold maxLen; omega) (by omega) hbase _ rfl ?_)
  intro g cap w' h1 h2 h3 h4
  rw [e2]; exact hK g cap w' h1 h2 h3

theorem step_store (x y : Operand) (b : Nat) (old : Value) (a0 : Option Addr) (n c : Nat) (hx : a.eval x = .pointer (some ⟨b, 0, none⟩)) (hy : a.eval y = .slice a0 n c) (hc : w.cell? ⟨b, 0, none⟩ = some old) (hf : w.frozen? ⟨b, 0, none⟩ = false) (ho : Is ops i (.store 31 x y) none) (h : K a (w.setCell ⟨b, 0, none⟩ (.slice a0 n c))) : wpOp Tryd.prog ops Q i K a w := by
  obtain ⟨o, e, e1, e2, e3⟩ := is_some ho
  refine wpOp_of e e3 ?_
  unfold Oper.wp
  have hr : (execOp a.eval o).run Tryd.prog w = .ok .skip (w.setCell ⟨b, 0, none⟩ (.slice a0 n c)) := by
    revert hx hy; generalize a.eval = ρ; intro hx hy
    simp [execOp, e1, hx, hy, hc, hf, go_sem]
  rw [hr]
  show K (a.put o.dst undef) _
  rw [e2]; exact h
end

theorem alloc_at (w : World) (cs : Array Value) (t : TypeId) (j : Nat) (u : Value) (h : cs[j]? = some u) : (w.alloc (.cells cs t)).cell? ⟨w.heap.size, j, none⟩ = some u := by
  have e := heap_alloc_new w (.cells cs t)
  simp only [World.cell?]
  rw [e]
  exact h

theorem own_mono {w w' : World} {base : Nat} {e : TypeId} {v : Value} {n : Nat} {xs : List Value} (h : w.ownsRow base e 1 v n xs) (hg : w.grownBy w' none) : w'.ownsRow base e 1 v n xs := by
  refine ⟨h.1, ?_⟩
  rcases h.2 with h0 | ⟨g, cap, cur, hv, hb, hc, h1, h2, h3, h4⟩
  · exact .inl h0
  · have hlt : g < w.heap.size := by
      rcases Nat.lt_or_ge g w.heap.size with h | h
      · exact h
      · rw [Array.getElem?_eq_none h] at hc; cases hc
    exact .inr ⟨g, cap, cur, hv, hb, (hg.block g hlt (by simp)).trans hc, h1, h2, h3, h4⟩

theorem marks_of_own {w : World} {H B c m : Nat} {e : TypeId} {v M : Value} (h : w.ownsRow B e 1 v (c + m) (List.replicate c M ++ List.replicate m M)) (hm : 0 < m) (hB : H ≤ B) : Marks H M (c + m) v w := by
  rcases h.2 with ⟨_, h0⟩ | ⟨g, cap, cur, hv, hb, hc, h1, h2, h3, h4⟩
  · omega
  · refine ⟨g, cap, hv, by omega, fun j hj => ?_⟩
    have e1 : cur[j]? = some M := by
      have e2 : (cur.toList.take ((c + m) * 1))[j]? = some M := by
        rw [h4, List.replicate_append_replicate, List.getElem?_replicate]; simp [hj]
      rw [List.getElem?_take] at e2
      rw [if_pos (by omega)] at e2
      simpa using e2
    simp [World.cell?, hc, e1]

theorem Marks.lt {w : World} {H n : Nat} {M v : Value} (h : Marks H M n v w) (hn : 0 < n) : ∃ g cap, v = .slice (some ⟨g, 0, none⟩) n cap ∧ H ≤ g ∧ g < w.heap.size := by
  obtain ⟨g, cap, hv, hH, hc⟩ := h
  exact ⟨g, cap, hv, hH, World.block_lt_of_cell? w _ (hc 0 hn)⟩
end Go.Proofs.YtddpcjgekfmhkaaDoor
