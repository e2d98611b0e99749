/- Convolve and the reference's, in one form; lists as they are lent. -/
import Derived.Test.YtddpcjgekfmhkaaDoorRc
import Derived.Test.YtddpcjgekfmhkaaDoorLx
namespace Go.Proofs.YtddpcjgekfmhkaaDoor
open Go.RowKit Go.Maps
set_option linter.unusedSimpArgs false
set_option linter.unusedVariables false

def code (la lb : Nat) (za zb : Nat → Int) : Int := if la = 0 ∨ lb = 0 ∨ 1025 < la + lb then 1 else if Facs la za ∧ Facs lb zb then 0 else 2
def cnt (la lb : Nat) (za zb : Nat → Int) : Nat := if la = 0 ∨ lb = 0 ∨ 1025 < la + lb then 0 else if Facs la za ∧ Facs lb zb then la + lb - 1 else 0
theorem cnt_le (la lb : Nat) (za zb : Nat → Int) : cnt la lb za zb ≤ 1024 := by
  unfold cnt
  split
  · omega
  · split <;> omega

def Res (la lb : Nat) (za zb : Nat → Int) (w w' : World) (e : Ending) : Prop :=
  ∃ oa ob, e = .returned (.tuple #[.slice oa (cnt la lb za zb) (cnt la lb za zb), .int .i64 (code la lb za zb)]) ∧ (cnt la lb za zb = 0 → oa = none) ∧ (0 < cnt la lb za zb → oa = some ⟨ob, 0, none⟩) ∧ JArr w' ob (cnt la lb za zb) (cv la lb za zb) ∧ w.heap.size ≤ ob ∧ Gw w w'

theorem Res.none_ {la lb : Nat} {za zb : Nat → Int} {w w' : World} {e : Ending} {q : Int} (h : e = .returned (.tuple #[.slice none 0 0, .int .i64 q])) (hc : cnt la lb za zb = 0) (hq : code la lb za zb = q) (hg : Gw w w') : Res la lb za zb w w' e :=
  ⟨none, w.heap.size, by rw [hc, hq]; exact h, fun _ => rfl, fun h => by omega, by rw [hc]; exact fun i hi => absurd hi (Nat.not_lt_zero _), Nat.le_refl _, hg⟩

theorem conv_res (a0 a1 : Option Addr) (la b0 off0 cap0 lb b1 off1 cap1 : Nat) (za zb : Nat → Int) (w : World) (ht : Tab w) (ht1 : 1 < w.heap.size) (hm0 : la ≤ 17592186044416) (hm1 : lb ≤ 17592186044416) (e0 : 0 < la → a0 = some ⟨b0, off0, none⟩) (e1 : 0 < lb → a1 = some ⟨b1, off1, none⟩) (ha : IArr w b0 off0 la za) (hb : IArr w b1 off1 lb zb) :
    Calls Tryd.prog 16 #[.slice a0 la cap0, .slice a1 lb cap1] w fun e w' => Res la lb za zb w w' e := by
  by_cases h : la = 0 ∨ lb = 0 ∨ 1025 < la + lb
  · refine (Convolve_size a0 a1 la cap0 lb cap1 w hm0 hm1 h).mono ?_
    rintro e w' ⟨he, rfl⟩
    exact Res.none_ he (by unfold cnt; rw [if_pos h]) (by unfold code; rw [if_pos h]) (Gw.refl _)
  · rw [e0 (by omega), e1 (by omega)]
    by_cases hF : Facs la za ∧ Facs lb zb
    · refine (Convolve_ok la b0 off0 cap0 lb b1 off1 cap1 za zb w ht (by omega) (by omega) (by omega) ha hb hF.1 hF.2 ht1).mono ?_
      rintro e w' ⟨K, ob, hK, hKc, he, hJ, hob, hg⟩
      have hc : cnt la lb za zb = la + lb - 1 := by unfold cnt; rw [if_neg h, if_pos hF]
      have hq : code la lb za zb = 0 := by unfold code; rw [if_neg h, if_pos hF]
      refine ⟨_, ob, by rw [hc, hq]; exact he, fun h0 => by omega, fun _ => rfl, ?_, hob, hg⟩
      rw [hc]
      exact hJ.congr fun i hi => conv_lift (by omega) (by omega) (by omega) (by omega) hKc hF.1 hF.2 i hi
    · refine (Convolve_value la b0 off0 cap0 lb b1 off1 cap1 za zb w (by omega) (by omega) (by omega) ha hb hF).mono ?_
      rintro e w' ⟨he, rfl⟩
      exact Res.none_ he (by unfold cnt; rw [if_neg h, if_neg hF]) (by unfold code; rw [if_neg h, if_neg hF]) (Gw.refl _)

theorem ref_res (a0 a1 : Option Addr) (la b0 off0 cap0 lb b1 off1 cap1 : Nat) (za zb : Nat → Int) (w : World) (hm0 : la ≤ 17592186044416) (hm1 : lb ≤ 17592186044416) (e0 : 0 < la → a0 = some ⟨b0, off0, none⟩) (e1 : 0 < lb → a1 = some ⟨b1, off1, none⟩) (ha : IArr w b0 off0 la za) (hb : IArr w b1 off1 lb zb) :
    Calls Tryd.prog 18 #[.slice a0 la cap0, .slice a1 lb cap1] w fun e w' => Res la lb za zb w w' e := by
  by_cases h : la = 0 ∨ lb = 0 ∨ 1025 < la + lb
  · refine (ref_size a0 a1 la cap0 lb cap1 w hm0 hm1 h).mono ?_
    rintro e w' ⟨he, rfl⟩
    exact Res.none_ he (by unfold cnt; rw [if_pos h]) (by unfold code; rw [if_pos h]) (Gw.refl _)
  · rw [e0 (by omega), e1 (by omega)]
    refine (ref_any la b0 off0 cap0 lb b1 off1 cap1 za zb w (by omega) (by omega) (by omega) ha hb).mono ?_
    rintro e w' ⟨h1, hg, hz⟩
    rcases h1 with ⟨hF, he, hJ⟩ | ⟨hF, he⟩
    · have hc : cnt la lb za zb = la + lb - 1 := by unfold cnt; rw [if_neg h, if_pos hF]
      have hq : code la lb za zb = 0 := by unfold code; rw [if_neg h, if_pos hF]
      exact ⟨_, w.heap.size, by rw [hc, hq]; exact he, fun h0 => by omega, fun _ => rfl, by rw [hc]; exact hJ, Nat.le_refl _, hg⟩
    · exact Res.none_ he (by unfold cnt; rw [if_neg h, if_neg hF]) (by unfold code; rw [if_neg h, if_neg hF]) hg

/-- Lent: where it lies. -/
def Lent (len : Nat) (z : Nat → Int) (w w' : World) (e : Ending) : Prop :=
  ∃ a b cap, e = .returned (.slice a len cap) ∧ (0 < len → a = some ⟨b, 0, none⟩ ∧ cap = len + 8 ∧ JArr w' b (len + 8) (lentI len z)) ∧ w.heap.size ≤ b ∧ IArr w' b 0 len z ∧ Gw w w'

theorem lent_res (a : Option Addr) (b off len cap : Nat) (z : Nat → Int) (w : World) (hmax : len ≤ 17592186044416) (hadr : 0 < len → a = some ⟨b, off, none⟩) (ha : IArr w b off len z) :
    Calls Tryd.prog 19 #[.slice a len cap] w fun e w' => Lent len z w w' e := by
  by_cases h : 0 < len
  · rw [hadr h]
    refine (lentInts_pos b off len cap z w h hmax ha).mono ?_
    rintro e w' ⟨he, hJ, hg, hz⟩
    refine ⟨_, w.heap.size, _, he, fun _ => ⟨rfl, rfl, hJ⟩, Nat.le_refl _, fun i hi => ⟨?_, (ha i hi).2⟩, hg⟩
    have := (hJ i (by omega)).1
    unfold lentI at this
    rw [if_pos hi] at this
    rw [Nat.zero_add]; exact this
  · obtain rfl : len = 0 := by omega
    refine (lentInts_zero a cap w).mono ?_
    rintro e w' ⟨he, rfl⟩
    exact ⟨none, w'.heap.size, 0, he, fun h => by omega, Nat.le_refl _, fun i hi => by omega, Gw.refl _⟩

/-- Still: as it was, and then written over. -/
theorem still_res (a ha : Option Addr) (hb b off len cap hcap : Nat) (z : Nat → Int) (w : World) (hmax : len ≤ 17592186044416) (hadr : 0 < len → a = some ⟨b, off, none⟩) (hi : IArr w b off len z) (hh : 0 < len → ha = some ⟨hb, 0, none⟩ ∧ hcap = len + 8 ∧ JArr w hb (len + 8) (lentI len z)) (hne : 0 < len → b ≠ hb) :
    Calls Tryd.prog 20 #[.slice ha len hcap, .slice a len cap] w fun e w' => e = .returned (.bool true) ∧ Only hb w w' ∧ (len = 0 → w' = w) := by
  by_cases h : 0 < len
  · obtain ⟨rfl, rfl, hJ⟩ := hh h
    rw [hadr h]
    exact (stillInts_pos hb b off len cap z w h hmax hi hJ (hne h)).mono fun e w' h' => ⟨h'.1, h'.2, fun h0 => by omega⟩
  · obtain rfl : len = 0 := by omega
    refine (stillInts_zero _ a cap w).mono ?_
    rintro e w' ⟨he, rfl⟩
    exact ⟨he, Only.refl _ _, fun _ => rfl⟩

end Go.Proofs.YtddpcjgekfmhkaaDoor
