/- Convolve, walked. -/
import Derived.Test.YtddpcjgekfmhkaaDoorCo
namespace Go.Proofs.YtddpcjgekfmhkaaDoor
open Go.RowKit Go.Maps
set_option linter.unusedSimpArgs false
set_option linter.unusedVariables false

theorem Convolve_size (a0 a1 : Option Addr) (la cap0 lb cap1 : Nat) (w : World) (hm0 : la ≤ 17592186044416) (hm1 : lb ≤ 17592186044416) (h : la = 0 ∨ lb = 0 ∨ 1025 < la + lb) :
    Calls Tryd.prog 16 #[.slice a0 la cap0, .slice a1 lb cap1] w fun e w' => e = .returned (.tuple #[.slice none 0 0, .int .i64 1]) ∧ w' = w := by
  by_cases h0 : la = 0
  · subst h0
    clear h
    go_enter Tryd.func16, Tryd.ntmps16
    go_wp2
    go_ret2
    exact ⟨rfl, rfl⟩
  · by_cases h1 : lb = 0
    · subst h1
      clear h
      go_enter Tryd.func16, Tryd.ntmps16
      go_wp2
      go_ret2
      exact ⟨rfl, rfl⟩
    · have h2 : 1025 < la + lb := by omega
      clear h
      go_enter Tryd.func16, Tryd.ntmps16
      go_wp2
      go_ret2
      exact ⟨rfl, rfl⟩

abbrev Facs (len : Nat) (z : Nat → Int) : Prop := ∀ i, i < len → -32768 ≤ z i ∧ z i ≤ 32767

theorem Convolve_value (la b0 off0 cap0 lb b1 off1 cap1 : Nat) (za zb : Nat → Int) (w : World) (hla : 1 ≤ la) (hlb : 1 ≤ lb) (hsum : la + lb ≤ 1025) (ha : IArr w b0 off0 la za) (hb : IArr w b1 off1 lb zb) (h : ¬ (Facs la za ∧ Facs lb zb)) :
    Calls Tryd.prog 16 #[.slice (some ⟨b0, off0, none⟩) la cap0, .slice (some ⟨b1, off1, none⟩) lb cap1] w fun e w' => e = .returned (.tuple #[.slice none 0 0, .int .i64 2]) ∧ w' = w := by
  have q0 : ((la : Int) == 0) = false := beq_eq_false_iff_ne.mpr (by omega)
  have q1 : ((lb : Int) == 0) = false := beq_eq_false_iff_ne.mpr (by omega)
  have q2 : decide (1025 < (la : Int) + (lb : Int)) = false := decide_eq_false (by omega)
  have c0 := allFactors_any (some ⟨b0, off0, none⟩) b0 off0 la cap0 za w (by omega) (fun _ => rfl) ha
  have c1 := allFactors_any (some ⟨b1, off1, none⟩) b1 off1 lb cap1 zb w (by omega) (fun _ => rfl) hb
  by_cases h0 : Facs la za
  · have h1 : ¬ Facs lb zb := fun x => h ⟨h0, x⟩
    rw [decide_eq_true h0] at c0
    rw [decide_eq_false h1] at c1
    clear h h0 h1 ha hb
    have tk : True := trivial
    go_enter Tryd.func16, Tryd.ntmps16
    go_wp2_with (first
      | (go_at_call 41; have _t := tk; refine c0.mono ?_; rintro e w' ⟨rfl, hw⟩; subst w'; clear tk)
      | (go_at_call 41; refine c1.mono ?_; rintro e w' ⟨rfl, hw⟩; subst w'))
    go_ret2
    exact ⟨rfl, rfl⟩
  · rw [decide_eq_false h0] at c0
    clear h h0 ha hb c1
    go_enter Tryd.func16, Tryd.ntmps16
    go_wp2_with (go_at_call 41; refine c0.mono ?_; rintro e w' ⟨rfl, hw⟩; subst w')
    go_ret2
    exact ⟨rfl, rfl⟩

/-- What Convolve gives. -/
def ConvOut (c la lb : Nat) (za zb : Nat → Int) (w w' : World) (e : Ending) : Prop :=
  ∃ K ob, K ≤ 10 ∧ c ≤ 2 ^ K ∧ e = .returned (.tuple #[.slice (some ⟨ob, 0, none⟩) c c, .int .i64 0]) ∧ JArr w' ob c (fun i => liftv (trans K true (prod K la lb za zb) i)) ∧ w.heap.size ≤ ob ∧ Gw w w'

set_option maxHeartbeats 1000000 in
theorem Convolve_ok (la b0 off0 cap0 lb b1 off1 cap1 : Nat) (za zb : Nat → Int) (w : World) (ht : Tab w) (hla : 1 ≤ la) (hlb : 1 ≤ lb) (hsum : la + lb ≤ 1025) (ha : IArr w b0 off0 la za) (hb : IArr w b1 off1 lb zb) (h0 : Facs la za) (h1 : Facs lb zb) (ht1 : 1 < w.heap.size) :
    Calls Tryd.prog 16 #[.slice (some ⟨b0, off0, none⟩) la cap0, .slice (some ⟨b1, off1, none⟩) lb cap1] w fun e w' => ConvOut (la + lb - 1) la lb za zb w w' e := by
  have q0 : ((la : Int) == 0) = false := beq_eq_false_iff_ne.mpr (by omega)
  have q1 : ((lb : Int) == 0) = false := beq_eq_false_iff_ne.mpr (by omega)
  have q2 : decide (1025 < (la : Int) + (lb : Int)) = false := decide_eq_false (by omega)
  have c0 := allFactors_any (some ⟨b0, off0, none⟩) b0 off0 la cap0 za w (by omega) (fun _ => rfl) ha
  have c1 := allFactors_any (some ⟨b1, off1, none⟩) b1 off1 lb cap1 zb w (by omega) (fun _ => rfl) hb
  rw [decide_eq_true h0] at c0
  rw [decide_eq_true h1] at c1
  have cn := newShelf_any w
  have hl0 := ha.lt hla
  have hl1 := hb.lt hlb
  have ct := fun w1 (g : Gw w w1) (hz : w1.heap.size = w.heap.size + 2) (hs : Shelf w1 (w.heap.size + 1) w.heap.size 0 (.map [])) => convolve_core (w.heap.size + 1) w.heap.size la lb b0 off0 cap0 b1 off1 cap1 za zb w1 hla hlb hsum (ht.gw g) hs (ha.gw g) (hb.gw g) (by omega) (by omega) (by omega)
  clear h0 h1 ha hb ht
  have tk : True := trivial
  go_enter Tryd.func16, Tryd.ntmps16
  go_wp2_with (first
    | (go_at_call 41; have _t := tk; refine c0.mono ?_; rintro e w' ⟨rfl, hw⟩; subst w'; clear tk)
    | (go_at_call 41; refine c1.mono ?_; rintro e w' ⟨rfl, hw⟩; subst w')
    | (go_at_call 38; refine cn.mono ?_; rintro e w1 ⟨rfl, hS1, hG1, hZ1⟩; clear cn)
    | (go_at_call 42; refine (ct _ hG1 hZ1 hS1).mono ?_; rintro e w2 ⟨K, ob, hK, hKc, rfl, hJ, hob, hB⟩; clear ct))
  go_ret2
  exact ⟨K, ob, hK, hKc, rfl, hJ, by omega, But.gw hG1 hB (Nat.le_refl _)⟩

end Go.Proofs.YtddpcjgekfmhkaaDoor
