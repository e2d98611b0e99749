/- The reference's Convolve, walked. -/
import Derived.Test.YtddpcjgekfmhkaaDoorCm
import Derived.Test.YtddpcjgekfmhkaaDoorCw
namespace Go.Proofs.YtddpcjgekfmhkaaDoor
open Go.RowKit Go.Maps
set_option linter.unusedSimpArgs false
set_option linter.unusedVariables false

theorem ref_size (a0 a1 : Option Addr) (la cap0 lb cap1 : Nat) (w : World) (hm0 : la ≤ 17592186044416) (hm1 : lb ≤ 17592186044416) (h : la = 0 ∨ lb = 0 ∨ 1025 < la + lb) :
    Calls Tryd.prog 18 #[.slice a0 la cap0, .slice a1 lb cap1] w fun e w' => e = .returned (.tuple #[.slice none 0 0, .int .i64 1]) ∧ w' = w := by
  by_cases h0 : la = 0
  · subst h0
    clear h
    go_enter Tryd.func18, Tryd.ntmps18
    go_wp2
    go_ret2
    exact ⟨rfl, rfl⟩
  · by_cases h1 : lb = 0
    · subst h1
      clear h
      go_enter Tryd.func18, Tryd.ntmps18
      go_wp2
      go_ret2
      exact ⟨rfl, rfl⟩
    · have h2 : 1025 < la + lb := by omega
      clear h
      go_enter Tryd.func18, Tryd.ntmps18
      go_wp2
      go_ret2
      exact ⟨rfl, rfl⟩

abbrev Fac (v : Int) : Prop := -32768 ≤ v ∧ v ≤ 32767

theorem part_abs {i k lb : Nat} {za zb : Nat → Int} (ha : ∀ l, l < i + 1 → Fac (za l)) (hb : ∀ l, l < k → Fac (zb l)) (hl : 0 < i → ∀ l, l < lb → Fac (zb l)) (hi : i < 1024) (hk : k ≤ 1024) (hlb : lb ≤ 1024) (x : Nat) :
    -1200000000000000 ≤ cv i lb za zb x + sm (tm za zb x i) k ∧ cv i lb za zb x + sm (tm za zb x i) k ≤ 1200000000000000 := by
  have h1 := row_abs (la := i + 1) (lb := k) ha hb x i k (by omega) (Nat.le_refl _) hk
  have h2 : -1125899906842624 ≤ cv i lb za zb x ∧ cv i lb za zb x ≤ 1125899906842624 := by
    by_cases h0 : 0 < i
    · exact cv_abs (la := i + 1) ha (hl h0) x i (by omega) (by omega) hlb
    · obtain rfl : i = 0 := by omega
      show -1125899906842624 ≤ (0 : Int) ∧ (0 : Int) ≤ 1125899906842624
      omega
  omega

theorem mul_abs {x y : Int} (hx : Fac x) (hy : Fac y) : -1073741824 ≤ x * y ∧ x * y ≤ 1073741824 := by
  have h := tm_abs (la := 1) (lb := 1) (za := fun _ => x) (zb := fun _ => y) (fun _ _ => hx) (fun _ _ => hy) 0 0 0 (by omega) (by omega)
  unfold tm at h
  rwa [if_pos rfl] at h

/-- What the reference's Convolve gives. -/
def RefOut (c la lb : Nat) (za zb : Nat → Int) (w w' : World) (e : Ending) : Prop :=
  ((Facs la za ∧ Facs lb zb) ∧ e = .returned (.tuple #[.slice (some ⟨w.heap.size, 0, none⟩) c c, .int .i64 0]) ∧ JArr w' w.heap.size c (cv la lb za zb) ∨ ¬ (Facs la za ∧ Facs lb zb) ∧ e = .returned (.tuple #[.slice none 0 0, .int .i64 2])) ∧ Gw w w' ∧ w'.heap.size = w.heap.size + 1

set_option maxHeartbeats 4000000 in
theorem ref_any (la b0 off0 cap0 lb b1 off1 cap1 : Nat) (za zb : Nat → Int) (w : World) (hla : 1 ≤ la) (hlb : 1 ≤ lb) (hsum : la + lb ≤ 1025) (ha : IArr w b0 off0 la za) (hb : IArr w b1 off1 lb zb) :
    Calls Tryd.prog 18 #[.slice (some ⟨b0, off0, none⟩) la cap0, .slice (some ⟨b1, off1, none⟩) lb cap1] w fun e w' => RefOut (la + lb - 1) la lb za zb w w' e := by
  have q0 : ((la : Int) == 0) = false := beq_eq_false_iff_ne.mpr (by omega)
  have q1 : ((lb : Int) == 0) = false := beq_eq_false_iff_ne.mpr (by omega)
  have q2 : decide (1025 < (la : Int) + (lb : Int)) = false := decide_eq_false (by omega)
  obtain ⟨c, hc⟩ : ∃ c, la + lb - 1 = c := ⟨_, rfl⟩
  have hci : (la : Int) + (lb : Int) - 1 = (c : Int) := by omega
  have hc1 : 1 ≤ c := by omega
  have hc2 : c ≤ 1024 := by omega
  rw [hc]
  have HC : Hid (la + lb - 1 = c) := hc
  have HA : Hid (IArr w b0 off0 la za) := ha
  have HB : Hid (IArr w b1 off1 lb zb) := hb
  have hl0 := ha.lt hla
  have hl1 := hb.lt hlb
  clear hc ha hb
  go_enter Tryd.func18, Tryd.ntmps18
  go_wp2_with (at_make; refine wpList_make_i64 _ rfl _ _ 22 3 rfl Tryd.underlying22 info_int c _ rfl rfl rfl (by omega) ?_; intro w1 hA hG hZ)
  have HR0 : Hid (JArr w1 w.heap.size c (cv 0 lb za zb) ∧ (∀ l, l < 0 → Fac (za l)) ∧ (0 < 0 → ∀ l, l < lb → Fac (zb l)) ∧ Gw w w1 ∧ w1.heap.size = w.heap.size + 1) := ⟨hA, fun i hi => by omega, fun h => by omega, hG, hZ⟩
  clear hA hG hZ q0 q1 q2
  go_loopw [7] (fun ti wr => ∃ i : Nat, i ≤ la ∧ ti = .int .i64 i ∧ Hid (JArr wr w.heap.size c (cv i lb za zb) ∧ (∀ l, l < i → Fac (za l)) ∧ (0 < i → ∀ l, l < lb → Fac (zb l)) ∧ Gw w wr ∧ wr.heap.size = w.heap.size + 1)) (fun ti _ => la - (intOf ti).toNat)
  case atStart => exact ⟨0, Nat.zero_le _, rfl, HR0⟩
  case round =>
    obtain ⟨i, hi, rfl, HR⟩ := hrel
    clear HR0
    by_cases hlt : i < la
    · have HQ : Hid ((∀ l, l < i → Fac (za l)) ∧ (0 < i → ∀ l, l < lb → Fac (zb l))) := ⟨HR.out.2.1, HR.out.2.2.1⟩
      go_wp2
      obtain ⟨wo, rfl⟩ : ∃ wo : World, wo = wr := ⟨_, rfl⟩
      go_loopw [8] (fun tj wr => ∃ j : Nat, j ≤ lb ∧ tj = .int .i64 j ∧ Hid (JArr wr w.heap.size c (fun x => cv i lb za zb x + sm (tm za zb x i) j) ∧ (∀ l, l < j → Fac (zb l)) ∧ (0 < j → Fac (za i)) ∧ Gw w wr ∧ wr.heap.size = w.heap.size + 1)) (fun tj _ => lb - (intOf tj).toNat)
      case atStart => exact ⟨0, Nat.zero_le _, rfl, HR.out.1.congr (fun x _ => (Int.add_zero _).symm), fun l hl => by omega, fun h => by omega, HR.out.2.2.2.1, HR.out.2.2.2.2⟩
      case round =>
        obtain ⟨j, hj, rfl, HS⟩ := hrel
        clear HR
        by_cases hjl : j < lb
        · have hij : i + j < c := by have := HC.out; omega
          obtain ⟨hJ, hF, hP, hG, hZ⟩ := HS.out
          have cx := ((HA.out.gw hG) i hlt).1
          have cy := ((HB.out.gw hG) j hjl).1
          have cs := (hJ (i + j) hij).1
          have fs := (hJ (i + j) hij).2
          have n0 : ¬ b0 = w.heap.size := by omega
          have n1 : ¬ b1 = w.heap.size := by omega
          have n2 : ¬ w.heap.size = b0 := by omega
          have n3 : ¬ w.heap.size = b1 := by omega
          obtain ⟨x, hx⟩ : ∃ x, za i = x := ⟨_, rfl⟩
          obtain ⟨y, hy⟩ : ∃ y, zb j = y := ⟨_, rfl⟩
          have HX : Hid (za i = x) := hx
          have HY : Hid (zb j = y) := hy
          rw [hx] at cx
          rw [hy] at cy
          by_cases bad : ¬ (Fac x ∧ Fac y)
          · have HN : Hid (¬ (Facs la za ∧ Facs lb zb)) := fun h => bad ⟨hx ▸ h.1 i hlt, hy ▸ h.2 j hjl⟩
            have HG : Hid (Gw w wr ∧ wr.heap.size = w.heap.size + 1) := ⟨hG, hZ⟩
            clear hJ hF hP hG hZ hx hy
            by_cases e1 : x < -32768
            · go_wp2
              go_ret2
              exact ⟨.inr ⟨HN.out, rfl⟩, HG.out⟩
            · have p1 : decide (x < -32768) = false := decide_eq_false e1
              by_cases e2 : 32767 < x
              · go_wp2
                go_ret2
                exact ⟨.inr ⟨HN.out, rfl⟩, HG.out⟩
              · have p2 : decide (32767 < x) = false := decide_eq_false e2
                by_cases e3 : y < -32768
                · go_wp2
                  go_ret2
                  exact ⟨.inr ⟨HN.out, rfl⟩, HG.out⟩
                · have p3 : decide (y < -32768) = false := decide_eq_false e3
                  by_cases e4 : 32767 < y
                  · go_wp2
                    go_ret2
                    exact ⟨.inr ⟨HN.out, rfl⟩, HG.out⟩
                  · exact absurd ⟨⟨by omega, by omega⟩, by omega, by omega⟩ bad
          · have good : Fac x ∧ Fac y := Classical.not_not.mp bad
            have p1 : decide (x < -32768) = false := decide_eq_false (by omega)
            have p2 : decide (32767 < x) = false := decide_eq_false (by omega)
            have p3 : decide (y < -32768) = false := decide_eq_false (by omega)
            have p4 : decide (32767 < y) = false := decide_eq_false (by omega)
            have bs := part_abs (i := i) (k := j) (lb := lb) (za := za) (zb := zb) (fun l hl => by by_cases e : l = i; (· rw [e, hx]; exact good.1); exact HQ.out.1 l (by omega)) hF HQ.out.2 (by omega) (by omega) (by omega) (i + j)
            have bm := mul_abs good.1 good.2
            obtain ⟨s, hs⟩ : ∃ s, cv i lb za zb (i + j) + sm (tm za zb (i + j) i) j = s := ⟨_, rfl⟩
            obtain ⟨p, hp⟩ : ∃ p, x * y = p := ⟨_, rfl⟩
            rw [hs] at bs
            have cs' : wr.cell? ⟨w.heap.size, i + j, none⟩ = some (.int .i64 s) := by rw [← hs]; exact cs
            rw [hp] at bm
            have wm : IntKind.i64.wrap (x * y) = p := by rw [hp, IntKind.wrap_i64]; omega
            have wa : IntKind.i64.wrap (s + p) = s + p := by rw [IntKind.wrap_i64]; omega
            have i0 : (0 : Int) ≤ (i : Int) + (j : Int) := by omega
            have i1 : (i : Int) + (j : Int) < (c : Int) := by omega
            have HV : Hid (cv i lb za zb (i + j) + sm (tm za zb (i + j) i) j = s ∧ za i * zb j = p ∧ Fac x ∧ Fac y) := ⟨hs, by rw [hx, hy, hp], good.1, good.2⟩
            clear hJ hF hP hG hZ hx hy bad good hs hp cs
            go_wp2
            go_region
            go_wp2
            go_roundw
            case rel =>
              refine ⟨j + 1, by omega, by go_num, ?_⟩
              obtain ⟨hJ, hF, hP, hG, hZ⟩ := HS.out
              obtain ⟨v1, v2, v3, v4⟩ := HV.out
              refine ⟨(hJ.set hij (s + p)).congr (fun z hz => ?_), fun l hl => ?_, fun _ => HX.out ▸ v3, (hG.setCell (Nat.le_refl _) _).drew, by simpa [World.setCell, World.drew] using hZ⟩
              · by_cases e : z = i + j
                · subst e; rw [upd_same]
                  show s + p = cv i lb za zb (i + j) + (sm (tm za zb (i + j) i) j + tm za zb (i + j) i j)
                  unfold tm at v1 ⊢
                  rw [if_pos rfl, v2]; omega
                · rw [upd_other e]
                  show _ = cv i lb za zb z + (sm (tm za zb z i) j + tm za zb z i j)
                  rw [show tm za zb z i j = 0 by unfold tm; rw [if_neg (by omega)]]; omega
              · by_cases e : l = j
                · subst e; rw [HY.out]; exact v4
                · exact hF l (by omega)
            case measure => simp [intOf]; omega
        · obtain rfl : j = lb := by omega
          go_wp2
          go_roundw
          case rel =>
            refine ⟨i + 1, by omega, by go_num, ?_⟩
            obtain ⟨hJ, hF, hP, hG, hZ⟩ := HS.out
            refine ⟨hJ, fun l hl => ?_, fun _ => hF, hG, hZ⟩
            by_cases e : l = i
            · subst e; exact hP (by omega)
            · exact HQ.out.1 l (by omega)
          case measure => simp [intOf]; omega
    · obtain rfl : i = la := by omega
      go_wp2
      go_ret2
      obtain ⟨hJ, hF, hP, hG, hZ⟩ := HR.out
      exact ⟨.inl ⟨⟨hF, hP (by omega)⟩, rfl, hJ⟩, hG, hZ⟩

end Go.Proofs.YtddpcjgekfmhkaaDoor
