/- The statement Convolves, walked. -/
import Derived.Test.YtddpcjgekfmhkaaDoorCx
import Derived.Test.YtddpcjgekfmhkaaDoorSu
namespace Go.Proofs.YtddpcjgekfmhkaaDoor
open Go.RowKit Go.Maps
set_option linter.unusedSimpArgs false
set_option linter.unusedVariables false

def ez1 (i : Nat) : Int := [1, 2, 3].getD i 0
def ez2 (i : Nat) : Int := [0, 1, -1].getD i 0
def ez3 (i : Nat) : Int := [0, 1, 1, 1, -3].getD i 0
theorem ex_code : code 3 3 ez1 ez2 = 0 := by decide
theorem ex_cnt : cnt 3 3 ez1 ez2 = 5 := by decide
theorem ex_cv : ∀ i : Fin 5, cv 3 3 ez1 ez2 i.val = ez3 i.val := by decide

/-- DOC.md's example. -/
theorem example_any (b0 b1 : Nat) (w : World) (ht : Tab w) (ht1 : 1 < w.heap.size) (ha : IArr w b0 0 3 ez1) (hb : IArr w b1 0 3 ez2) :
    Calls Tryd.prog 16 #[.slice (some ⟨b0, 0, none⟩) 3 3, .slice (some ⟨b1, 0, none⟩) 3 3] w fun e w' =>
      ∃ ob, e = .returned (.tuple #[.slice (some ⟨ob, 0, none⟩) 5 5, .int .i64 0]) ∧ JArr w' ob 5 ez3 ∧ Gw w w' := by
  refine (conv_res _ _ 3 b0 0 3 3 b1 0 3 ez1 ez2 w ht ht1 (by omega) (by omega) (fun _ => rfl) (fun _ => rfl) ha hb).mono ?_
  rintro e w' ⟨oa, ob, he, _, h1, hJ, hob, hg⟩
  rw [ex_cnt] at h1 he hJ
  rw [ex_code] at he
  obtain rfl := h1 (by omega)
  exact ⟨ob, he, hJ.congr fun i hi => ex_cv ⟨i, hi⟩, hg⟩

theorem iarr_alloc (w : World) (cs : Array Value) (t : TypeId) (n : Nat) (z : Nat → Int) (h : ∀ i, i < n → cs[i]? = some (.int .i64 (z i)) ∧ -9223372036854775808 ≤ z i ∧ z i ≤ 9223372036854775807) : IArr (w.alloc (.cells cs t)) w.heap.size 0 n z :=
  fun i hi => ⟨by rw [Nat.zero_add]; exact alloc_at w cs t i _ (h i hi).1, (h i hi).2⟩

end Go.Proofs.YtddpcjgekfmhkaaDoor
