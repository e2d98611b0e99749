/- Steps of a drawn region: what is of no program. -/
import Derived.Test.YtddpcjgekfmhkaaKj
import Derived.WalkKit
namespace Go.Proofs.Ytddpcjgekfmhkaa
open Go Go.RowKit
set_option linter.unusedVariables false
set_option linter.unusedSimpArgs false

section
variable {P : Program} {ops : Array Oper} {Q : Exit → Act → World → Prop} {i : Nat} {K : Act → World → Prop} {a : Act} {w : World} {d : Option Tmp}

def Is (ops : Array Oper) (i : Nat) (op : Op) (d : Option Tmp) : Prop := (ops[i]?).map (fun o => (o.op, o.dst, o.guard)) = some (op, d, none)

theorem step_run {op : Op} {v : Value} {w' : World} (ho : Is ops i op d) (hrun : ∀ o : Oper, o.op = op → (execOp a.eval o).run P w = .ok (.value v) w') (h : K (a.put d v) w') : wpOp P ops Q i K a w := by
  unfold Is at ho
  cases e : ops[i]? with
  | none => rw [e] at ho; cases ho
  | some o =>
    rw [e] at ho
    simp only [Option.map_some, Option.some.injEq, Prod.mk.injEq] at ho
    obtain ⟨h1, h2, h3⟩ := ho
    refine wpOp_of e h3 ?_
    unfold Oper.wp
    rw [hrun o h1]
    show K (a.put o.dst v) w'
    rw [h2]; exact h

theorem step_move (x : Operand) (ho : Is ops i (.move x) d) (h : K (a.put d (a.eval x)) w) : wpOp P ops Q i K a w :=
  step_run ho (fun o e => by simp [execOp, e]) h
theorem step_nil (x : Operand) (p : Addr) (hx : a.eval x = .pointer (some p)) (ho : Is ops i (.nilCheck x) d) (h : K (a.put d (.pointer (some p))) w) : wpOp P ops Q i K a w :=
  step_run ho (fun o e => by revert hx; generalize a.eval = ρ; intro hx; simp [execOp, e, hx, go_sem]) h
theorem is_some {op : Op} (ho : Is ops i op d) : ∃ o, ops[i]? = some o ∧ o.op = op ∧ o.dst = d ∧ o.guard = none := by
  unfold Is at ho
  cases e : ops[i]? with
  | none => rw [e] at ho; cases ho
  | some o =>
    rw [e] at ho
    simp only [Option.map_some, Option.some.injEq, Prod.mk.injEq] at ho
    exact ⟨o, rfl, ho⟩

end

theorem alloc_at (w : World) (cs : Array Value) (t : TypeId) (j : Nat) (u : Value) (h : cs[j]? = some u) : (w.alloc (.cells cs t)).cell? ⟨w.heap.size, j, none⟩ = some u := by
  have e := heap_alloc_new w (.cells cs t)
  simp only [World.cell?]
  rw [e]
  exact h

theorem own_mono {w w' : World} {base : Nat} {e : TypeId} {v : Value} {n : Nat} {xs : List Value} (h : w.ownsRow base e 1 v n xs) (hg : w.grownBy w' none) : w'.ownsRow base e 1 v n xs := by
  refine ⟨h.1, ?_⟩
  rcases h.2 with h0 | ⟨g, cap, cur, hv, hb, hc, h1, h2, h3, h4⟩
  · exact .inl h0
  · have hlt : g < w.heap.size := by
      rcases Nat.lt_or_ge g w.heap.size with h | h
      · exact h
      · rw [Array.getElem?_eq_none h] at hc; cases hc
    exact .inr ⟨g, cap, cur, hv, hb, (hg.block g hlt (by simp)).trans hc, h1, h2, h3, h4⟩

theorem getD_tt {l : Array Bool} {i : Nat} (h : l.getD i false = true) (h' : l.getD i true = false) : False := by
  rw [Array.getD_eq_getD_getElem?] at h h'
  cases e : l[i]? with
  | none => rw [e] at h; cases h
  | some b => rw [e] at h h'; simp at h h'; rw [h] at h'; cases h'

theorem rep_false (n j : Nat) : (Array.replicate n false).getD j false = false := by
  rw [Array.getD_eq_getD_getElem?, Array.getElem?_replicate]
  split <;> rfl

theorem rep_some {n j : Nat} {M u : Value} (h : (List.replicate n M)[j]? = some u) : j < n ∧ u = M := by
  rw [List.getElem?_replicate] at h
  split at h
  · rename_i hj; exact ⟨hj, (Option.some.inj h).symm⟩
  · cases h
theorem add_at (g j : Nat) : (⟨g, 0, none⟩ : Addr).add j = ⟨g, j, none⟩ := by
  unfold Addr.add
  split <;> simp_all
def lowB (ops : Array Oper) : Bool := (List.range ops.size).all fun i => ((ops[i]?).map fun o => o.after.all fun e => decide (e.on < i)).getD true
theorem low_of {ops : Array Oper} (h : lowB ops = true) : ∀ i o, ops[i]? = some o → ∀ e ∈ o.after, Region.binds .any e = true → e.on < i := by
  intro i o ho e he _
  have hi : i < ops.size := (Array.getElem?_eq_some_iff.mp ho).1
  have := List.all_eq_true.mp h i (List.mem_range.mpr hi)
  rw [ho] at this
  simp only [Option.map_some, Option.getD_some, Array.all_eq_true_iff_forall_mem, decide_eq_true_eq] at this
  exact this e he

end Go.Proofs.Ytddpcjgekfmhkaa
