/- Transform and the reference's, in one form. -/
import Derived.Test.YtddpcjgekfmhkaaDoorRu
import Derived.Test.YtddpcjgekfmhkaaDoorIm
import Derived.Test.YtddpcjgekfmhkaaDoorSk
namespace Go.Proofs.YtddpcjgekfmhkaaDoor
open Go.RowKit Go.Maps
set_option linter.unusedSimpArgs false
set_option linter.unusedVariables false

/-- Numbers as 64 bits. -/
def Zm (z : Nat → Int) (i : Nat) : Int := z i % 18446744073709551616
theorem Zm_fits (z : Nat → Int) (n : Nat) : Fits n (Zm z) := fun i _ => by unfold Zm; omega

theorem trans_bd (K : Nat) (inv : Bool) (X : Nat → Int) (j : Nat) : 0 ≤ trans K inv X j ∧ trans K inv X j ≤ 18446744069414584320 := by
  unfold trans
  split
  · exact md_bd _
  · exact md_bd _

structure TRes (len : Nat) (inv : Bool) (z : Nat → Int) (code : Int) (cnt : Nat) (F : Nat → Int) : Prop where
  le : cnt ≤ 1024
  bd : ∀ i, 0 ≤ F i ∧ F i ≤ 18446744069414584320
  prog : ∀ (w : World) (lb cap : Nat), Tab w → Arr w lb len (Zm z) → Calls Tryd.prog 11 #[.slice (some ⟨lb, 0, none⟩) len cap, .bool inv] w
    fun e w' => ∃ al ob, e = .returned (.tuple #[.slice al cnt cnt, .int .i64 code]) ∧ (cnt = 0 → al = none) ∧ (0 < cnt → al = some ⟨ob, 0, none⟩) ∧ Arr w' ob cnt F ∧ w.heap.size ≤ ob ∧ Gw w w'
  ref : ∀ (w : World) (a : Option Addr) (b cap : Nat), (0 < len → a = some ⟨b, 0, none⟩) → NArr w b len (Zm z) → Calls Tryd.prog 9 #[.slice a len cap, .bool inv] w
    fun e w' => ∃ aw ob cw, e = .returned (.tuple #[.slice aw cnt cw, .int .i64 code]) ∧ (0 < cnt → aw = some ⟨ob, 0, none⟩) ∧ NArr w' ob cnt F ∧ Below w.heap.size w w'

theorem t_res (len : Nat) (inv : Bool) (z : Nat → Int) (hmax : len ≤ 1048576) : ∃ code cnt F, TRes len inv z code cnt F := by
  by_cases hp : ∃ k, k ≤ 10 ∧ len = 2 ^ k
  · obtain ⟨K, hK, rfl⟩ := hp
    have hn : 2 ^ K ≤ 1024 := Nat.pow_le_pow_right (n := 2) (by decide) hK
    have hn1 : 1 ≤ 2 ^ K := Nat.one_le_two_pow
    by_cases hg : ∀ i, i < 2 ^ K → Zm z i ≤ 18446744069414584320
    · have hE : Elems (2 ^ K) (Zm z) := fun i hi => ⟨(Zm_fits z _ i hi).1, hg i hi⟩
      refine ⟨0, 2 ^ K, trans K inv (Zm z), hn, trans_bd K inv _, fun w lb cap ht ha => ?_, fun w a b cap ha hN => ?_⟩
      · refine (Transform_ok K lb cap (Zm z) inv w hK ht hE ha).mono ?_
        rintro e w' ⟨rfl, D⟩
        exact ⟨_, _, rfl, fun h => by omega, fun _ => rfl, D.out, by omega, D.gw⟩
      · rw [ha (by omega)]
        refine (tref_ok K b cap inv (Zm z) w hK hN hE).mono ?_
        rintro e w' ⟨g, c, rfl, h1, h2, h3⟩
        exact ⟨_, g, c, rfl, fun _ => rfl, h1, h2⟩
    · refine ⟨2, 0, fun _ => 0, by omega, fun _ => by omega, fun w lb cap ht ha => ?_, fun w a b cap ha hN => ?_⟩
      · refine (Transform_value K lb cap (Zm z) inv w hK (Zm_fits z _) ha hg).mono ?_
        rintro e w' ⟨rfl, rfl⟩
        exact ⟨none, _, rfl, fun _ => rfl, fun h => by omega, fun i hi => by omega, Nat.le_refl _, Gw.refl _⟩
      · rw [ha (by omega)]
        refine (tref_value K b cap inv (Zm z) w hK hN (Zm_fits z _) hg).mono ?_
        rintro e w' ⟨rfl, h1⟩
        exact ⟨none, 0, 0, rfl, fun h => by omega, fun i hi => by omega, h1.1⟩
  · refine ⟨1, 0, fun _ => 0, by omega, fun _ => by omega, fun w lb cap ht ha => ?_, fun w a b cap ha hN => ?_⟩
    · refine (Transform_size lb len cap inv w hmax hp).mono ?_
      rintro e w' ⟨rfl, rfl⟩
      exact ⟨none, _, rfl, fun _ => rfl, fun h => by omega, fun i hi => by omega, Nat.le_refl _, Gw.refl _⟩
    · refine (tref_size a len cap inv w hp).mono ?_
      rintro e w' ⟨rfl, rfl⟩
      exact ⟨none, 0, 0, rfl, fun h => by omega, fun i hi => by omega, Below.refl _ _⟩

/-- The list of numbers, while it is made. -/
def XQ (w wr : World) (z : Nat → Int) (vx : Value) (i : Nat) : Prop := wr.ownsRow w.heap.size 26 2 vx i (outE (Zm z) i).flatten ∧ Bt (fun _ => False) w wr
theorem XQ.gw {w wr wr' : World} {z : Nat → Int} {vx : Value} {i : Nat} (h : XQ w wr z vx i) (g : Gw wr wr') : XQ w wr' z vx i :=
  ⟨own_bt h.1 (Bt.of_gw (fun _ => False) g) (fun _ _ x => x), h.2.trans (Bt.of_gw (fun _ => False) g) (fun _ _ x => x)⟩
theorem XQ.app {w wr wr' : World} {z : Nat → Int} {vx v' : Value} {i : Nat} (h : XQ w wr z vx i) (p : wr'.ownsRow w.heap.size 26 2 v' (i + 1) (outE (Zm z) i ++ [numE (Zm z i)]).flatten ∧ wr.grownBy wr' vx.ownBlock ∧ (v'.ownBlock = vx.ownBlock ∨ v'.ownBlock = some wr.heap.size)) : XQ w wr' z v' (i + 1) := by
  refine ⟨by rw [outE_succ]; exact p.1, h.2.trans (Bt.grownBy p.2.1) (fun k hk e => by have := own_ge h.1 e; omega)⟩
theorem XQ.form {w wr : World} {z : Nat → Int} {vx : Value} {n : Nat} (h : XQ w wr z vx n) : ∃ a b c, vx = .slice a n c ∧ (0 < n → a = some ⟨b, 0, none⟩) ∧ NArr wr b n (Zm z) := by
  rcases h.1.2 with ⟨rfl, rfl⟩ | ⟨g, cp, cur, rfl, hb, hcu, q1, q2, q3, q4⟩
  · exact ⟨none, 0, 0, rfl, fun h => by omega, fun i hi => by omega⟩
  · refine ⟨_, g, cp, rfl, fun _ => rfl, fun i hi => ?_⟩
    have ho := outE_at (Zm z) n i hi
    rw [← q4, List.getElem?_take, if_pos (by omega), List.getElem?_take, if_pos (by omega)] at ho
    exact ⟨by simp [World.cell?, hcu]; simpa using ho.1, by simp [World.cell?, hcu]; simpa using ho.2⟩

theorem IArr.below {w w' : World} {b off len B : Nat} {z : Nat → Int} (h : IArr w b off len z) (g : Below B w w') (hb : 0 < len → b < B) : IArr w' b off len z := fun i hi => ⟨(g.cell (p := ⟨b, off + i, none⟩) (hb (by omega))).trans (h i hi).1, (h i hi).2⟩
theorem NArr.below {w w' : World} {b n B : Nat} {f : Nat → Int} (h : NArr w b n f) (g : Below B w w') (hb : 0 < n → b < B) : NArr w' b n f := fun i hi => ⟨(g.cell (p := ⟨b, i * 2, none⟩) (hb (by omega))).trans (h i hi).1, (g.cell (p := ⟨b, i * 2 + 1, none⟩) (hb (by omega))).trans (h i hi).2⟩
theorem Tab.below {w w' : World} {B : Nat} (h : Tab w) (g : Below B w w') (hb : 1 < B) : Tab w' := fun i hi => (g.cell (p := ⟨1, i, none⟩) hb).trans (h i hi)

end Go.Proofs.YtddpcjgekfmhkaaDoor
