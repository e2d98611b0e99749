/- The document's own transform, walked: what is refused. -/
import Derived.Test.YtddpcjgekfmhkaaDoorRn
import Derived.Test.YtddpcjgekfmhkaaDoorRl
import Derived.Test.YtddpcjgekfmhkaaDoorRh
import Derived.Test.YtddpcjgekfmhkaaDoorXp
import Derived.Test.YtddpcjgekfmhkaaDoorAp
namespace Go.Proofs.YtddpcjgekfmhkaaDoor
open Go.RowKit
set_option linter.unusedSimpArgs false
set_option linter.unusedVariables false

/-- n numbers in halves lie in block b. -/
def NArr (w : World) (b n : Nat) (X : Nat → Int) : Prop := ∀ i, i < n → w.cell? ⟨b, i * 2, none⟩ = some (.int .i64 (X i / 4294967296)) ∧ w.cell? ⟨b, i * 2 + 1, none⟩ = some (.int .i64 (X i % 4294967296))
theorem NArr.gw {w w' : World} {b n : Nat} {X : Nat → Int} (h : NArr w b n X) (g : Gw w w') : NArr w' b n X := fun i hi => ⟨g.at (h i hi).1, g.at (h i hi).2⟩
theorem NArr.bt {w w' : World} {b n : Nat} {X : Nat → Int} {S : Nat → Prop} (h : NArr w b n X) (g : Bt S w w') (hs : ¬ S b) : NArr w' b n X := fun i hi => ⟨g.cell hs (h i hi).1, g.cell hs (h i hi).2⟩
theorem Bt.of_gw {w w' : World} (S : Nat → Prop) (h : Gw w w') : Bt S w w' := ⟨h.1.os, h.1.tape, h.1.output, h.1.size, fun k hk _ => h.1.block k hk⟩

theorem tref_size (a : Option Addr) (n cap : Nat) (inv : Bool) (w : World) (hn : ¬ ∃ k, k ≤ 10 ∧ n = 2 ^ k) :
    Calls Tryd.prog 9 #[.slice a n cap, .bool inv] w fun e w' => e = .returned (.tuple #[.slice none 0 0, .int .i64 1]) ∧ w' = w := by
  have c := power_no n hn w
  clear hn
  go_enter Tryd.func9, Tryd.ntmps9
  go_wp2_with (go_at_call 29; refine c.mono ?_; rintro e w' ⟨rfl, hw⟩; subst w')
  go_ret2
  exact ⟨rfl, rfl⟩

set_option maxHeartbeats 2000000 in
theorem tref_value (K lb cap : Nat) (inv : Bool) (X : Nat → Int) (w : World) (hK : K ≤ 10) (hl : NArr w lb (2 ^ K) X) (hX : Fits (2 ^ K) X) (hbad : ¬ ∀ i, i < 2 ^ K → X i ≤ 18446744069414584320) :
    Calls Tryd.prog 9 #[.slice (some ⟨lb, 0, none⟩) (2 ^ K) cap, .bool inv] w fun e w' => e = .returned (.tuple #[.slice none 0 0, .int .i64 2]) ∧ Gw w w' := by
  have c := power_yes K hK w
  have hn : 2 ^ K ≤ 1024 := Nat.pow_le_pow_right (n := 2) (by decide) hK
  obtain ⟨n, hnn⟩ : ∃ n, 2 ^ K = n := ⟨_, rfl⟩
  rw [hnn] at c hn hl hX hbad ⊢
  have HL : Hid (NArr w lb n X ∧ Fits n X ∧ ¬ ∀ i, i < n → X i ≤ 18446744069414584320) := ⟨hl, hX, hbad⟩
  clear hl hX hbad hnn
  go_enter Tryd.func9, Tryd.ntmps9
  go_wp2_with (go_at_call 29; refine c.mono ?_; rintro e w' ⟨rfl, hw⟩; subst w')
  go_loopw [8] (fun ti wr => ∃ i : Nat, i ≤ n ∧ ti = .int .i64 i ∧ Hid (Gw w wr ∧ ∀ j, j < i → X j ≤ 18446744069414584320)) (fun ti _ => n - (intOf ti).toNat)
  case atStart => exact ⟨0, Nat.zero_le _, rfl, Gw.refl _, fun j hj => by omega⟩
  case round =>
    obtain ⟨i, hi, rfl, HR⟩ := hrel
    by_cases hlt : i < n
    · obtain ⟨g, hs⟩ := HR.out
      obtain ⟨c0, c1⟩ := (HL.out.1.gw g) i hlt
      obtain ⟨x0, x1⟩ := HL.out.2.1 i hlt
      obtain ⟨v, hv⟩ : ∃ v, X i = v := ⟨_, rfl⟩
      rw [hv] at c0 c1 x0 x1
      have i1 : (i : Int) < (n : Int) := by omega
      by_cases hb : v ≤ 18446744069414584320
      · have HV : Hid (∀ j, j < i + 1 → X j ≤ 18446744069414584320) := by
          intro j hj
          rcases Nat.lt_succ_iff_lt_or_eq.1 hj with h | rfl
          · exact hs j h
          · rw [hv]; exact hb
        have ca := atLeast_f (v / 4294967296) (v % 4294967296) 4294967295 1 (by omega)
        clear hs hv x0 x1 hb
        go_wp2
        go_region_held3 (fun W => W.cell? ⟨lb, i * 2, none⟩ = some (.int .i64 (v / 4294967296)) ∧ W.cell? ⟨lb, i * 2 + 1, none⟩ = some (.int .i64 (v % 4294967296)) ∧ Gw w W)
          (first
            | (go_split_ands; exact ⟨hg.at ‹_›, hg.at ‹_›, Gw.trans ‹_› hg⟩)
            | (exact ⟨by simp [go_sem, *], by simp [go_sem, *], (by repeat (first | assumption | exact Gw.refl _ | apply Gw.drew | apply Gw.alloc | refine Gw.setCell ?_ (by first | (simp; done) | (simp; omega)) _))⟩))
          (first
            | (go_at_call 31; refine (prime_ref _).mono ?_; rintro e w' ⟨rfl, hg⟩)
            | (go_at_call 30; refine (ca _).mono ?_; rintro e w' ⟨rfl, hg⟩))
        go_split_ands
        go_wp2
        go_roundw
        case rel => exact ⟨i + 1, by omega, by go_num, ‹_›, HV.out⟩
        case measure => simp [intOf]; omega
      · have ca := atLeast_t (v / 4294967296) (v % 4294967296) 4294967295 1 (by omega)
        clear hs hv x0 x1 hb
        go_wp2
        go_region_held3 (fun W => W.cell? ⟨lb, i * 2, none⟩ = some (.int .i64 (v / 4294967296)) ∧ W.cell? ⟨lb, i * 2 + 1, none⟩ = some (.int .i64 (v % 4294967296)) ∧ Gw w W)
          (first
            | (go_split_ands; exact ⟨hg.at ‹_›, hg.at ‹_›, Gw.trans ‹_› hg⟩)
            | (exact ⟨by simp [go_sem, *], by simp [go_sem, *], (by repeat (first | assumption | exact Gw.refl _ | apply Gw.drew | apply Gw.alloc | refine Gw.setCell ?_ (by first | (simp; done) | (simp; omega)) _))⟩))
          (first
            | (go_at_call 31; refine (prime_ref _).mono ?_; rintro e w' ⟨rfl, hg⟩)
            | (go_at_call 30; refine (ca _).mono ?_; rintro e w' ⟨rfl, hg⟩))
        go_split_ands
        go_wp2
        go_ret2
        exact ⟨rfl, ‹_›⟩
    · obtain rfl : i = n := by omega
      exact absurd HR.out.2 HL.out.2.2

end Go.Proofs.YtddpcjgekfmhkaaDoor
