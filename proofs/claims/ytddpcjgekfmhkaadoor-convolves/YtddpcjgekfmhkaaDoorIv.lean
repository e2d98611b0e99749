/- A region that draws its order, by an invariant: one step for each operation, whatever came before it. -/
import Derived.RegionTactic
namespace Go.Proofs.YtddpcjgekfmhkaaDoor
open Go

theorem count_set {i : Nat} : ∀ (l : List Bool), l[i]? = some false → ((l.set i true).countP (· == false)) + 1 = l.countP (· == false) := by
  induction i with
  | zero => intro l h; cases l with
    | nil => simp at h
    | cons x l => simp at h; subst h; simp
  | succ i ih => intro l h; cases l with
    | nil => simp at h
    | cons x l =>
      simp at h
      have := ih l (by simpa using h)
      simp only [List.set_cons_succ, List.countP_cons]
      omega

theorem wpAny_inv {P : Program} {md : Region.Mode} {ops : Array Oper} {Q : Exit → Act → World → Prop} (J : Array Bool → Act → World → Prop)
    (hs : ∀ listed a w i, J listed a w → i ∈ Region.ready md ops listed → wpOp P ops Q i (J (listed.setIfInBounds i true)) a w)
    (hd : ∀ listed a w, J listed a w → Region.ready md ops listed = [] → Q .normal a w) :
    ∀ (fuel : Nat) (listed : Array Bool) (a : Act) (w : World), listed.toList.countP (· == false) ≤ fuel → J listed a w → wpAny P md ops Q fuel listed a w := by
  intro fuel
  induction fuel with
  | zero =>
    intro listed a w hc hJ
    have hr : Region.ready md ops listed = [] := by
      refine List.eq_nil_iff_forall_not_mem.mpr fun i hi => ?_
      have h0 := (mem_ready.mp hi).1
      have h1 : listed.toList[i]? = some false := by
        rw [Array.getElem?_toList]
        cases e : listed[i]? with
        | none => simp [Array.getD_eq_getD_getElem?, e] at h0
        | some b => simp [Array.getD_eq_getD_getElem?, e] at h0; rw [h0]
      have := count_set _ h1
      omega
    exact ⟨hr, hd listed a w hJ hr⟩
  | succ fuel ih =>
    intro listed a w hc hJ
    refine ⟨hd listed a w hJ, fun i hi => ?_⟩
    have h0 := (mem_ready.mp hi).1
    have h1 : listed.toList[i]? = some false := by
      rw [Array.getElem?_toList]
      cases e : listed[i]? with
      | none => simp [Array.getD_eq_getD_getElem?, e] at h0
      | some b => simp [Array.getD_eq_getD_getElem?, e] at h0; rw [h0]
    have h2 := count_set _ h1
    refine wpOp_mono (fun a' w' h => ih _ a' w' ?_ h) (hs listed a w i hJ hi)
    rw [Array.toList_setIfInBounds]
    omega

/-- Whatever has come up, what it waits for has come up too. -/
def Down (md : Region.Mode) (ops : Array Oper) (listed : Array Bool) : Prop := ∀ k o, ops[k]? = some o → listed.getD k false = true → ∀ e ∈ o.after, Region.binds md e = true → listed.getD e.on false = true

theorem Down.next {md : Region.Mode} {ops : Array Oper} {listed : Array Bool} {i : Nat} (h : Down md ops listed) (hi : i ∈ Region.ready md ops listed) : Down md ops (listed.setIfInBounds i true) := by
  intro k o ho hk e he hb
  refine getD_set_true ?_
  by_cases c : i = k
  · subst c
    obtain ⟨_, o', ho', hd⟩ := mem_ready.mp hi
    rw [ho] at ho'
    cases ho'
    exact hd e he hb
  · rw [getD_set_ne false c] at hk
    exact h k o ho hk e he hb

def depsOf (md : Region.Mode) (ops : Array Oper) (i : Nat) : List Nat := ((ops[i]?).map fun o => (o.after.toList.filter (Region.binds md)).map (·.on)).getD []
def reach (md : Region.Mode) (ops : Array Oper) : Nat → List Nat → List Nat
  | 0, l => l
  | f + 1, l => l ++ reach md ops f (l.flatMap (depsOf md ops))

theorem reach_listed {md : Region.Mode} {ops : Array Oper} {listed : Array Bool} (h : Down md ops listed) : ∀ (f : Nat) (l : List Nat), (∀ x ∈ l, listed.getD x false = true) → ∀ x ∈ reach md ops f l, listed.getD x false = true := by
  intro f
  induction f with
  | zero => intro l hl; exact hl
  | succ f ih =>
    intro l hl x hx
    rcases List.mem_append.mp hx with hx | hx
    · exact hl x hx
    · refine ih _ (fun y hy => ?_) x hx
      obtain ⟨z, hz, hy⟩ := List.mem_flatMap.mp hy
      unfold depsOf at hy
      cases e : ops[z]? with
      | none => rw [e] at hy; cases hy
      | some o =>
        rw [e] at hy
        simp only [Option.map_some, Option.getD_some, List.mem_map, List.mem_filter, Array.mem_toList_iff] at hy
        obtain ⟨d, ⟨hd, hb⟩, rfl⟩ := hy
        exact h z o e (hl z hz) d hd hb

theorem ready_reach {md : Region.Mode} {ops : Array Oper} {listed : Array Bool} {i : Nat} (h : Down md ops listed) (hi : i ∈ Region.ready md ops listed) (f n : Nat) (b : Nat) (hr : ((List.range n).all fun j => decide (j < b) || (reach md ops f (depsOf md ops i)).contains j) = true) (j : Nat) (hb : b ≤ j) (hj : j < n) : listed.getD j false = true := by
  refine reach_listed h f (depsOf md ops i) (fun x hx => ?_) j ?_
  · obtain ⟨_, o, ho, hd⟩ := mem_ready.mp hi
    unfold depsOf at hx
    rw [ho] at hx
    simp only [Option.map_some, Option.getD_some, List.mem_map, List.mem_filter, Array.mem_toList_iff] at hx
    obtain ⟨d, ⟨hd', hb⟩, rfl⟩ := hx
    exact hd d hd' hb
  · have := List.all_eq_true.mp hr j (List.mem_range.mpr hj)
    have hnb : ¬ j < b := by omega
    simpa [hnb] using this

/-- The whole region. -/
theorem wp_region_inv {P : Program} {id : Nat} {ops : Array Oper} {Q : Exit → Act → World → Prop} {a : Act} {w : World} (hm : P.follows .mixedOrders = true) (J : Array Bool → Act → World → Prop)
    (h0 : J (Array.replicate ops.size false) a { w with drawn := w.drawn + 1 })
    (hs : ∀ listed a w i, Down .any ops listed → J listed a w → i ∈ Region.ready .any ops listed → wpOp P ops Q i (J (listed.setIfInBounds i true)) a w)
    (hd : ∀ listed a w, J listed a w → Region.ready .any ops listed = [] → Q .normal a w) : (Code.region id ops true).wp P Q a w := by
  refine wp_region_any hm (wpAny_inv (fun l a w => Down .any ops l ∧ J l a w) (fun l a w i h hi => wpOp_mono (fun a' w' h' => ⟨h.1.next hi, h'⟩) (hs l a w i h.1 h.2 hi)) (fun l a w h => hd l a w h.2) _ _ _ _ ?_ ⟨?_, h0⟩)
  case refine_2 =>
    intro k o _ hk
    rw [Array.getD_eq_getD_getElem?, Array.getElem?_replicate] at hk
    split at hk <;> cases hk
  have := List.countP_le_length (p := (· == false)) (l := (Array.replicate ops.size false).toList)
  simpa using this

end Go.Proofs.YtddpcjgekfmhkaaDoor
