/- The book behind a keep. -/
import Derived.Test.YtddpcjgekfmhkaaDoorSt
namespace Go.Proofs.YtddpcjgekfmhkaaDoor
open Go Go.RowKit
set_option linter.unusedVariables false
set_option linter.unusedSimpArgs false

theorem St.keep {B bb lb c r : Nat} {ao : Option Addr} {IV : Value} {xs : List Value} {w w' : World} {e : Ending} (h : St B w bb r IV xs) (hp : KeepPost B bb lb c (4 * r) ao IV xs w w' e)
    (hB : B ≤ lb) (hlb : lb ≠ bb) (hIl : IV.ownBlock ≠ some lb) (hf : ∀ (i : Nat) (a : Option Addr) (len cap : Nat), xs[i]? = some (.slice a len cap) → 0 < len → (Value.slice a len cap).ownBlock ≠ some lb) (hc : c ≤ 1024) (hao : 0 < c → ao = some ⟨lb, 0, none⟩) (hBw : B ≤ w.heap.size) :
    e = .returned (.tuple #[]) ∧ Below B w w' ∧ ∃ ia icap xs', St B w' bb (r + 1) (.slice ia (4 * (r + 1)) icap) xs' := by
  obtain ⟨he, wl, w1, v, hJ, hO, hg, ⟨g, cap, v1, v2, v3, rfl, hown, hF, hat, s1, s2, s3⟩, rfl⟩ := hp
  have hbb : bb < wl.heap.size := by rw [hO.size]; exact World.block_lt_of_cell? w _ h.cell0
  have hgb : g ≠ bb := by
    intro e
    subst e
    rcases hat with h1 | h1
    · exact h.apart h1
    · omega
  have c0 : w1.cell? ⟨bb, 0, none⟩ = some IV := hg.cell ((hO.cell (Ne.symm hlb)).trans h.cell0) (fun e => h.apart e.symm)
  have c1 : w1.cell? ⟨bb, 1, none⟩ = some (.slice none 0 0) := hg.cell ((hO.cell (Ne.symm hlb)).trans h.cell1) (fun e => h.apart e.symm)
  have f0 : w1.frozen? ⟨bb, 0, none⟩ = false := (hg.frozen_far _ hbb (fun e => h.apart e.symm)).trans ((hO.frozen _).trans h.unf)
  have far : ∀ q j u, q ≠ bb → w1.cell? ⟨q, j, none⟩ = some u → (w1.setCell ⟨bb, 0, none⟩ (.slice (some ⟨g, 0, none⟩) (4 * r + 4) cap)).cell? ⟨q, j, none⟩ = some u := by
    intro q j u hq hu
    rw [World.cell?_setCell_other _ _ _ _ (by intro he; exact hq (by injection he with e2 _ _; exact e2.symm)), hu]
  have hgB : B ≤ g := by
    rcases hat with h1 | h1
    · exact (own_lt h.own h1).1
    · have := hO.size; omega
  refine ⟨he, ⟨by rw [show (w1.setCell _ _).os = w1.os from rfl, hg.os, hO.os], by rw [show (w1.setCell _ _).tape = w1.tape from rfl, hg.tape, hO.tape], by rw [show (w1.setCell _ _).output = w1.output from rfl, hg.output, hO.output], ?_, ?_⟩, some ⟨g, 0, none⟩, cap, xs ++ [.slice ao c c, v1, v2, v3], ?_⟩
  · have := hg.size; have := hO.size; simp [World.setCell]; omega
  · intro k hk
    have hbge := h.bge
    rw [Below.heap_setCell _ _ _ _ (by show k ≠ bb; omega), hg.block k (by rw [hO.size]; omega) (fun e => by have := (own_lt h.own e.symm).1; omega), hO.block k (by omega)]
  · have mk : ∀ k, k < 4 → (-1000 - ((4 * r : Nat) : Int)) = (-1000 - (((4 * r + k) / 4 * 4 : Nat) : Int)) := by
      intro k hk
      have : (4 * r + k) / 4 * 4 = 4 * r := by omega
      rw [this]
    have marks : ∀ k n u, k < 4 → n ≤ 2048 → Marks wl.heap.size (.int .i64 (-1000 - ((4 * r : Nat) : Int))) n u w1 → u.ownBlock ≠ some g → RowAt B (w1.setCell ⟨bb, 0, none⟩ (.slice (some ⟨g, 0, none⟩) (4 * r + 4) cap)) bb (.slice (some ⟨g, 0, none⟩) (4 * r + 4) cap) (4 * r + k) u := by
      intro k n u hk hn hm hs
      obtain ⟨q, cp, rfl, hq, hcq⟩ := hm
      refine ⟨_, _, _, rfl, hn, fun h0 => ⟨q, rfl, by have := hO.size; omega, by omega, fun e => hs (by show some q = some g; exact e.symm ▸ rfl), fun j hj => ?_⟩⟩
      rw [← mk k hk]
      exact far q j _ (by omega) (hcq j hj)
    refine ⟨World.cell?_setCell_same _ _ _ c0, ?_, (World.frozen?_setCell _ _ _ _).trans f0, ?_, fun e => hgb (Option.some.inj e), h.bge, ?_⟩
    · rw [World.cell?_setCell_other _ _ _ _ (by intro he; injection he with _ e2 _; cases e2), c1]
    · rw [show 4 * (r + 1) = 4 * r + 4 by omega]
      exact own_block hown (fun q hq => Below.heap_setCell _ _ _ _ (by show q ≠ bb; have : g = q := Option.some.inj hq; omega))
    · rw [show 4 * (r + 1) = 4 * r + 4 by omega]
      have hl : xs.length = 4 * r := by have := h.own.1; omega
      intro i u hu
      by_cases hi : i < 4 * r
      · rw [List.getElem?_append_left (by omega)] at hu
        obtain ⟨a, len, cp, rfl, hlen, hr⟩ := h.rows i u hu
        refine ⟨a, len, cp, rfl, hlen, fun h0 => ?_⟩
        obtain ⟨q, rfl, q1, q2, q3, hcq⟩ := hr h0
        have hql : q ≠ lb := fun e => hf i _ _ _ hu h0 (by rw [← e]; rfl)
        have hqw : q < wl.heap.size := by rw [hO.size]; exact World.block_lt_of_cell? w _ (hcq 0 h0)
        refine ⟨q, rfl, q1, q2, ?_, fun j hj => far q j _ q2 (hg.cell ((hO.cell hql).trans (hcq j hj)) (fun e => q3 e.symm))⟩
        intro e
        have hgq : g = q := Option.some.inj e
        rcases hat with h1 | h1
        · exact q3 (hgq ▸ h1)
        · omega
      · rw [List.getElem?_append_right (by omega), hl] at hu
        obtain ⟨k, rfl⟩ : ∃ k, i = 4 * r + k := ⟨i - 4 * r, by omega⟩
        rw [show 4 * r + k - 4 * r = k by omega] at hu
        match k, hu with
        | 0, hu =>
          obtain rfl : Value.slice ao c c = u := by simpa using hu
          refine ⟨ao, c, c, rfl, by omega, fun h0 => ⟨lb, hao h0, hB, hlb, ?_, fun j hj => ?_⟩⟩
          · intro e
            have hgl : g = lb := Option.some.inj e
            rcases hat with h1 | h1
            · exact hIl (hgl ▸ h1)
            · have := World.block_lt_of_cell? wl _ (hJ 0 h0).1
              have : lb < wl.heap.size := this
              omega
          · rw [← mk 0 (by omega)]
            exact far lb j _ hlb (hg.cell (hJ j hj).1 (fun e => hIl e.symm))
        | 1, hu =>
          obtain rfl : v1 = u := by simpa using hu
          exact marks 1 _ _ (by omega) (by omega) hF.r1 s1
        | 2, hu =>
          obtain rfl : v2 = u := by simpa using hu
          exact marks 2 _ _ (by omega) (by omega) hF.r2 s2
        | 3, hu =>
          obtain rfl : v3 = u := by simpa using hu
          exact marks 3 _ _ (by omega) (by omega) hF.r3 s3
        | k + 4, hu => simp at hu

end Go.Proofs.YtddpcjgekfmhkaaDoor
