/- Texts joined: Nw Nb Np. -/
import Derived.Test.YtddpcjgekfmhkabDoorM15

/- The book as something that is owned (whole, and the book between rounds: made out of Wh, St and Su by program). -/
namespace Go.Proofs.YtddpcjgekfmhkabDoor
open Go Go.RowKit Go.Maps
set_option linter.unusedSimpArgs false
set_option linter.unusedVariables false


/-- A book's rows, each with its mark. -/
structure Rowed (w : World) (gI n : Nat) (Ra : Nat → Option Addr) (Rg Rl Rc : Nat → Nat) : Prop where
  cell : ∀ i, i < n → w.cell? ⟨gI, i, none⟩ = some (.slice (Ra i) (Rl i) (Rc i))
  at_ : ∀ i, i < n → 0 < Rl i → Ra i = some ⟨Rg i, 0, none⟩
  small : ∀ i, i < n → Rl i ≤ 131072
  mark : ∀ i j, i < n → j < Rl i → w.cell? ⟨Rg i, j, none⟩ = some (.int .i64 (-1000 - ((i / 4 * 4 : Nat) : Int)))

set_option maxHeartbeats 2000000 in
theorem whole_any (bb gI n icap : Nat) (ia : Option Addr) (Ra : Nat → Option Addr) (Rg Rl Rc : Nat → Nat) (w : World) (hn : n ≤ 8388608) (hia : 0 < n → ia = some ⟨gI, 0, none⟩)
    (hb0 : w.cell? ⟨bb, 0, none⟩ = some (.slice ia n icap)) (hb1 : w.cell? ⟨bb, 1, none⟩ = some (.slice none 0 0)) (hr : Rowed w gI n Ra Rg Rl Rc) :
    Calls Tryd.prog 37 #[.pointer (some ⟨bb, 0, none⟩)] w fun e w' => e = .returned (.bool true) ∧ w' = w := by
  have HR : Hid (Rowed w gI n Ra Rg Rl Rc ∧ (0 < n → ia = some ⟨gI, 0, none⟩)) := ⟨hr, hia⟩
  clear hr hia
  go_enter Tryd.func37, Tryd.ntmps37
  go_wp2
  go_loop [3] (fun ti => ∃ i : Nat, i ≤ n ∧ ti = .int .i64 i) (fun ti => n - (intOf ti).toNat)
  case atStart => exact ⟨0, Nat.zero_le _, rfl⟩
  case round =>
    obtain ⟨i, hi, rfl⟩ := hrel
    by_cases hlt : i < n
    · obtain rfl : ia = some ⟨gI, 0, none⟩ := HR.out.2 (by omega)
      have hi1 : (i : Int) < (n : Int) := by omega
      have cr := HR.out.1.cell i hlt
      obtain ⟨ra, hra⟩ : ∃ x, Ra i = x := ⟨_, rfl⟩
      obtain ⟨rg, hrg⟩ : ∃ x, Rg i = x := ⟨_, rfl⟩
      obtain ⟨rl, hrl⟩ : ∃ x, Rl i = x := ⟨_, rfl⟩
      obtain ⟨rc, hrc⟩ : ∃ x, Rc i = x := ⟨_, rfl⟩
      obtain ⟨q, hq⟩ : ∃ q, i / 4 = q := ⟨_, rfl⟩
      have HM : Hid ((0 < rl → ra = some ⟨rg, 0, none⟩) ∧ ∀ j, j < rl → w.cell? ⟨rg, j, none⟩ = some (.int .i64 (-1000 - (q : Int) * 4))) := by
        refine ⟨fun h => ?_, fun j hj => ?_⟩
        · rw [← hra, ← hrg]; exact HR.out.1.at_ i hlt (by omega)
        · have := HR.out.1.mark i j hlt (by omega)
          rw [hrg, hq] at this
          rw [this]; simp
      have hsm : rl ≤ 131072 := by rw [← hrl]; exact HR.out.1.small i hlt
      rw [hra, hrl, hrc] at cr
      have d1 : (i : Int).tdiv 4 = (q : Int) := by rw [Int.tdiv_eq_ediv_of_nonneg (by omega)]; omega
      have d2 : (i : Int) / 4 = (q : Int) := by omega
      have hqb : q ≤ 8388608 := by omega
      clear hra hrg hrl hrc hq
      go_wp2
      go_loop [4] (fun tj => ∃ j : Nat, j ≤ rl ∧ tj = .int .i64 j) (fun tj => rl - (intOf tj).toNat)
      case atStart => exact ⟨0, Nat.zero_le _, rfl⟩
      case round =>
        obtain ⟨j, hj, rfl⟩ := hrel
        by_cases hjl : j < rl
        · obtain rfl : ra = some ⟨rg, 0, none⟩ := HM.out.1 (by omega)
          have hj1 : (j : Int) < (rl : Int) := by omega
          have cm := HM.out.2 j hjl
          go_wp2
          go_round
          case rel => exact ⟨j + 1, by omega, by go_num⟩
          case measure => simp [intOf]; omega
        · obtain rfl : j = rl := by omega
          go_wp2
          go_round
          case rel => exact ⟨i + 1, by omega, by go_num⟩
          case measure => simp [intOf]; omega
    · obtain rfl : i = n := by omega
      go_wp2
      go_loop [5] (fun ti => ti = .int .i64 0) (fun _ => 0)
      case atStart => rfl
      case round =>
        subst hrel
        go_wp2
        go_ret
        exact ⟨rfl, rfl⟩



theorem own_block {w w' : World} {base : Nat} {e : TypeId} {v : Value} {n : Nat} {xs : List Value} (h : w.ownsRow base e 1 v n xs) (hg : ∀ g, v.ownBlock = some g → w'.heap[g]? = w.heap[g]?) : w'.ownsRow base e 1 v n xs := by
  refine ⟨h.1, ?_⟩
  rcases h.2 with h0 | ⟨g, cap, cur, hv, hb, hc, h1, h2, h3, h4⟩
  · exact .inl h0
  · exact .inr ⟨g, cap, cur, hv, hb, (hg g (by rw [hv]; rfl)).trans hc, h1, h2, h3, h4⟩

theorem own_cell {w : World} {base : Nat} {e : TypeId} {v : Value} {n : Nat} {xs : List Value} (h : w.ownsRow base e 1 v n xs) {g : Nat} (hg : v.ownBlock = some g) (i : Nat) (hi : i < n) : w.cell? ⟨g, i, none⟩ = xs[i]? := by
  rcases h.2 with ⟨rfl, _⟩ | ⟨g', cap, cur, rfl, hb, hc, h1, h2, h3, h4⟩
  · cases hg
  · obtain rfl : g' = g := Option.some.inj hg
    rw [← h4, List.getElem?_take, if_pos (by omega)]
    simp [World.cell?, hc]

theorem own_lt {w : World} {base : Nat} {e : TypeId} {v : Value} {n : Nat} {xs : List Value} (h : w.ownsRow base e 1 v n xs) {g : Nat} (hg : v.ownBlock = some g) : base ≤ g ∧ g < w.heap.size := by
  rcases h.2 with ⟨rfl, _⟩ | ⟨g', cap, cur, rfl, hb, hc, _⟩
  · cases hg
  · obtain rfl : g' = g := Option.some.inj hg
    refine ⟨hb, ?_⟩
    rcases Nat.lt_or_ge g' w.heap.size with h | h
    · exact h
    · rw [Array.getElem?_eq_none h] at hc; cases hc

/-- A row that the book holds: its own mark, in a block of its own. -/
def RowAt (B : Nat) (w : World) (bb : Nat) (IV : Value) (i : Nat) (v : Value) : Prop :=
  ∃ a len cap, v = .slice a len cap ∧ len ≤ 131072 ∧ (0 < len → ∃ g, a = some ⟨g, 0, none⟩ ∧ B ≤ g ∧ g ≠ bb ∧ IV.ownBlock ≠ some g ∧ ∀ j, j < len → w.cell? ⟨g, j, none⟩ = some (.int .i64 (-1000 - ((i / 4 * 4 : Nat) : Int))))

structure St (B : Nat) (w : World) (bb r : Nat) (IV : Value) (xs : List Value) : Prop where
  cell0 : w.cell? ⟨bb, 0, none⟩ = some IV
  cell1 : w.cell? ⟨bb, 1, none⟩ = some (.slice none 0 0)
  unf : w.frozen? ⟨bb, 0, none⟩ = false
  own : w.ownsRow B 24 1 IV (4 * r) xs
  apart : IV.ownBlock ≠ some bb
  bge : B ≤ bb
  rows : ∀ i v, xs[i]? = some v → RowAt B w bb IV i v

theorem RowAt.mono {B : Nat} {w w' : World} {bb : Nat} {IV : Value} {i : Nat} {v : Value} (h : RowAt B w bb IV i v) (hb : Below w.heap.size w w') : RowAt B w' bb IV i v := by
  obtain ⟨a, len, cap, rfl, hl, hr⟩ := h
  refine ⟨a, len, cap, rfl, hl, fun h0 => ?_⟩
  obtain ⟨g, ha, h1, h2, h3, hc⟩ := hr h0
  exact ⟨g, ha, h1, h2, h3, fun j hj => (hb.cell (p := ⟨g, j, none⟩) (World.block_lt_of_cell? w _ (hc j hj))).trans (hc j hj)⟩

theorem St.mono {B : Nat} {w w' : World} {bb r : Nat} {IV : Value} {xs : List Value} (h : St B w bb r IV xs) (hb : Below w.heap.size w w') : St B w' bb r IV xs := by
  have hlt := World.block_lt_of_cell? w _ h.cell0
  exact ⟨(hb.cell (p := ⟨bb, 0, none⟩) hlt).trans h.cell0, (hb.cell (p := ⟨bb, 1, none⟩) hlt).trans h.cell1, (World.frozen?_of_block (a := ⟨bb, 0, none⟩) (hb.block bb hlt)).trans h.unf, own_block h.own (fun g hg => hb.block g (own_lt h.own hg).2), h.apart, h.bge, fun i v hv => (h.rows i v hv).mono hb⟩

/-- What whole wants. -/
theorem St.rowed {B : Nat} {w : World} {bb r : Nat} {ia : Option Addr} {icap : Nat} {xs : List Value} (h : St B w bb r (.slice ia (4 * r) icap) xs) :
    ∃ gI Ra Rg Rl Rc, (0 < 4 * r → ia = some ⟨gI, 0, none⟩) ∧ Rowed w gI (4 * r) Ra Rg Rl Rc := by
  have hx : ∀ i, i < 4 * r → ∃ v, xs[i]? = some v := fun i hi => by
    have hl := h.own.1
    exact ⟨xs[i]'(by omega), List.getElem?_eq_getElem (by omega)⟩
  have hrow : ∀ i, ∃ a g len cap, i < 4 * r → xs[i]? = some (.slice a len cap) ∧ len ≤ 131072 ∧ (0 < len → a = some ⟨g, 0, none⟩) ∧ ∀ j, j < len → w.cell? ⟨g, j, none⟩ = some (.int .i64 (-1000 - ((i / 4 * 4 : Nat) : Int))) := by
    intro i
    by_cases hi : i < 4 * r
    · obtain ⟨v, hv⟩ := hx i hi
      obtain ⟨a, len, cap, rfl, hl, hr⟩ := h.rows i v hv
      by_cases h0 : 0 < len
      · obtain ⟨g, ha, _, _, _, hc⟩ := hr h0
        exact ⟨a, g, len, cap, fun _ => ⟨hv, hl, fun _ => ha, hc⟩⟩
      · exact ⟨a, 0, len, cap, fun _ => ⟨hv, hl, fun h => absurd h h0, fun j hj => by omega⟩⟩
    · exact ⟨none, 0, 0, 0, fun h => absurd h hi⟩
  obtain ⟨Ra, hRa⟩ := Classical.axiomOfChoice hrow
  obtain ⟨Rg, hRg⟩ := Classical.axiomOfChoice hRa
  obtain ⟨Rl, hRl⟩ := Classical.axiomOfChoice hRg
  obtain ⟨Rc, hR⟩ := Classical.axiomOfChoice hRl
  have hI : ∃ gI, 0 < 4 * r → ia = some ⟨gI, 0, none⟩ := by
    rcases h.own.2 with ⟨h0, h1⟩ | ⟨g, cap, cur, hv, _⟩
    · exact ⟨0, fun h => by omega⟩
    · exact ⟨g, fun _ => by cases hv; rfl⟩
  obtain ⟨gI, hgI⟩ := hI
  refine ⟨gI, Ra, Rg, Rl, Rc, hgI, ⟨fun i hi => ?_, fun i hi => (hR i hi).2.2.1, fun i hi => (hR i hi).2.1, fun i j hi hj => (hR i hi).2.2.2 j hj⟩⟩
  rw [own_cell h.own (g := gI) (by rw [hgI (by omega)]; rfl) i hi]
  exact (hR i hi).1


/-- The blocks of a book. -/
def bfoot (bb : Nat) (IV : Value) (xs : List Value) (k : Nat) : Prop := k = bb ∨ IV.ownBlock = some k ∨ ∃ (i len cap : Nat), xs[i]? = some (.slice (some ⟨k, 0, none⟩) len cap) ∧ 0 < len


theorem St.keep {B bb lb c r : Nat} {ao : Option Addr} {IV : Value} {xs : List Value} {w w' : World} {e : Ending} (h : St B w bb r IV xs) (hp : KeepPost B bb lb c (4 * r) ao IV xs w w' e)
    (hB : B ≤ lb) (hlb : lb ≠ bb) (hIl : IV.ownBlock ≠ some lb) (hf : ∀ (i : Nat) (a : Option Addr) (len cap : Nat), xs[i]? = some (.slice a len cap) → 0 < len → (Value.slice a len cap).ownBlock ≠ some lb) (hc : c ≤ 65536) (hao : 0 < c → ao = some ⟨lb, 0, none⟩) (hBw : B ≤ w.heap.size) :
    e = .returned (.tuple #[]) ∧ Below B w w' ∧ ∃ ia icap xs', St B w' bb (r + 1) (.slice ia (4 * (r + 1)) icap) xs' ∧ (∀ k, bfoot bb (.slice ia (4 * (r + 1)) icap) xs' k → bfoot bb IV xs k ∨ (0 < c ∧ k = lb) ∨ w.heap.size ≤ k) ∧ Bt (fun k => bfoot bb IV xs k ∨ k = lb) w w' := by
  obtain ⟨he, wl, w1, v, hJ, hO, hg, ⟨g, cap, v1, v2, v3, rfl, hown, hF, hat, s1, s2, s3⟩, rfl⟩ := hp
  have hbb : bb < wl.heap.size := by rw [hO.size]; exact World.block_lt_of_cell? w _ h.cell0
  have hgb : g ≠ bb := by
    intro e
    subst e
    rcases hat with h1 | h1
    · exact h.apart h1
    · omega
  have c0 : w1.cell? ⟨bb, 0, none⟩ = some IV := hg.cell ((hO.cell (Ne.symm hlb)).trans h.cell0) (fun e => h.apart e.symm)
  have c1 : w1.cell? ⟨bb, 1, none⟩ = some (.slice none 0 0) := hg.cell ((hO.cell (Ne.symm hlb)).trans h.cell1) (fun e => h.apart e.symm)
  have f0 : w1.frozen? ⟨bb, 0, none⟩ = false := (hg.frozen_far _ hbb (fun e => h.apart e.symm)).trans ((hO.frozen _).trans h.unf)
  have far : ∀ q j u, q ≠ bb → w1.cell? ⟨q, j, none⟩ = some u → (w1.setCell ⟨bb, 0, none⟩ (.slice (some ⟨g, 0, none⟩) (4 * r + 4) cap)).cell? ⟨q, j, none⟩ = some u := by
    intro q j u hq hu
    rw [World.cell?_setCell_other _ _ _ _ (by intro he; exact hq (by injection he with e2 _ _; exact e2.symm)), hu]
  have hgB : B ≤ g := by
    rcases hat with h1 | h1
    · exact (own_lt h.own h1).1
    · have := hO.size; omega
  refine ⟨he, ⟨by rw [show (w1.setCell _ _).os = w1.os from rfl, hg.os, hO.os], by rw [show (w1.setCell _ _).tape = w1.tape from rfl, hg.tape, hO.tape], by rw [show (w1.setCell _ _).output = w1.output from rfl, hg.output, hO.output], ?_, ?_⟩, some ⟨g, 0, none⟩, cap, xs ++ [.slice ao c c, v1, v2, v3], ?_, ?_, ?_⟩
  · have := hg.size; have := hO.size; simp [World.setCell]; omega
  · intro k hk
    have hbge := h.bge
    rw [Below.heap_setCell _ _ _ _ (by show k ≠ bb; omega), hg.block k (by rw [hO.size]; omega) (fun e => by have := (own_lt h.own e.symm).1; omega), hO.block k (by omega)]
  · have mk : ∀ k, k < 4 → (-1000 - ((4 * r : Nat) : Int)) = (-1000 - (((4 * r + k) / 4 * 4 : Nat) : Int)) := by
      intro k hk
      have : (4 * r + k) / 4 * 4 = 4 * r := by omega
      rw [this]
    have marks : ∀ k n u, k < 4 → n ≤ 131072 → Marks wl.heap.size (.int .i64 (-1000 - ((4 * r : Nat) : Int))) n u w1 → u.ownBlock ≠ some g → RowAt B (w1.setCell ⟨bb, 0, none⟩ (.slice (some ⟨g, 0, none⟩) (4 * r + 4) cap)) bb (.slice (some ⟨g, 0, none⟩) (4 * r + 4) cap) (4 * r + k) u := by
      intro k n u hk hn hm hs
      obtain ⟨q, cp, rfl, hq, hcq⟩ := hm
      refine ⟨_, _, _, rfl, hn, fun h0 => ⟨q, rfl, by have := hO.size; omega, by omega, fun e => hs (by show some q = some g; exact e.symm ▸ rfl), fun j hj => ?_⟩⟩
      rw [← mk k hk]
      exact far q j _ (by omega) (hcq j hj)
    refine ⟨World.cell?_setCell_same _ _ _ c0, ?_, (World.frozen?_setCell _ _ _ _).trans f0, ?_, fun e => hgb (Option.some.inj e), h.bge, ?_⟩
    · rw [World.cell?_setCell_other _ _ _ _ (by intro he; injection he with _ e2 _; cases e2), c1]
    · rw [show 4 * (r + 1) = 4 * r + 4 by omega]
      exact own_block hown (fun q hq => Below.heap_setCell _ _ _ _ (by show q ≠ bb; have : g = q := Option.some.inj hq; omega))
    · rw [show 4 * (r + 1) = 4 * r + 4 by omega]
      have hl : xs.length = 4 * r := by have := h.own.1; omega
      intro i u hu
      by_cases hi : i < 4 * r
      · rw [List.getElem?_append_left (by omega)] at hu
        obtain ⟨a, len, cp, rfl, hlen, hr⟩ := h.rows i u hu
        refine ⟨a, len, cp, rfl, hlen, fun h0 => ?_⟩
        obtain ⟨q, rfl, q1, q2, q3, hcq⟩ := hr h0
        have hql : q ≠ lb := fun e => hf i _ _ _ hu h0 (by rw [← e]; rfl)
        have hqw : q < wl.heap.size := by rw [hO.size]; exact World.block_lt_of_cell? w _ (hcq 0 h0)
        refine ⟨q, rfl, q1, q2, ?_, fun j hj => far q j _ q2 (hg.cell ((hO.cell hql).trans (hcq j hj)) (fun e => q3 e.symm))⟩
        intro e
        have hgq : g = q := Option.some.inj e
        rcases hat with h1 | h1
        · exact q3 (hgq ▸ h1)
        · omega
      · rw [List.getElem?_append_right (by omega), hl] at hu
        obtain ⟨k, rfl⟩ : ∃ k, i = 4 * r + k := ⟨i - 4 * r, by omega⟩
        rw [show 4 * r + k - 4 * r = k by omega] at hu
        match k, hu with
        | 0, hu =>
          obtain rfl : Value.slice ao c c = u := by simpa using hu
          refine ⟨ao, c, c, rfl, by omega, fun h0 => ⟨lb, hao h0, hB, hlb, ?_, fun j hj => ?_⟩⟩
          · intro e
            have hgl : g = lb := Option.some.inj e
            rcases hat with h1 | h1
            · exact hIl (hgl ▸ h1)
            · have := World.block_lt_of_cell? wl _ (hJ 0 h0).1
              have : lb < wl.heap.size := this
              omega
          · rw [← mk 0 (by omega)]
            exact far lb j _ hlb (hg.cell (hJ j hj).1 (fun e => hIl e.symm))
        | 1, hu =>
          obtain rfl : v1 = u := by simpa using hu
          exact marks 1 _ _ (by omega) (by omega) hF.r1 s1
        | 2, hu =>
          obtain rfl : v2 = u := by simpa using hu
          exact marks 2 _ _ (by omega) (by omega) hF.r2 s2
        | 3, hu =>
          obtain rfl : v3 = u := by simpa using hu
          exact marks 3 _ _ (by omega) (by omega) hF.r3 s3
        | k + 4, hu => simp at hu
  · have hl : xs.length = 4 * r := by have := h.own.1; omega
    have hwz := hO.size
    have mlt : ∀ n u q len cp, Marks wl.heap.size (.int .i64 (-1000 - ((4 * r : Nat) : Int))) n u w1 → u = .slice (some ⟨q, 0, none⟩) len cp → w.heap.size ≤ q := by
      intro n u q len cp hm hu
      obtain ⟨q', cp', rfl, hq, _⟩ := hm
      simp at hu
      omega
    rintro k (rfl | hk | ⟨i, len, cp, hi, h0⟩)
    · exact .inl (.inl rfl)
    · have hgk : g = k := Option.some.inj hk
      subst hgk
      rcases hat with h1 | h1
      · exact .inl (.inr (.inl h1))
      · exact .inr (.inr (by omega))
    · by_cases hi4 : i < 4 * r
      · rw [List.getElem?_append_left (by omega)] at hi
        exact .inl (.inr (.inr ⟨i, len, cp, hi, h0⟩))
      · rw [List.getElem?_append_right (by omega), hl] at hi
        obtain ⟨j, rfl⟩ : ∃ j, i = 4 * r + j := ⟨i - 4 * r, by omega⟩
        rw [show 4 * r + j - 4 * r = j by omega] at hi
        match j, hi with
        | 0, hi =>
          simp at hi
          obtain ⟨h1, h2, _⟩ := hi
          subst h2
          have := hao h0
          rw [h1] at this
          simp at this
          exact .inr (.inl ⟨h0, this⟩)
        | 1, hi =>
          have hi' : v1 = .slice (some ⟨k, 0, none⟩) len cp := by simpa using hi
          exact .inr (.inr (mlt _ _ _ _ _ hF.r1 hi'))
        | 2, hi =>
          have hi' : v2 = .slice (some ⟨k, 0, none⟩) len cp := by simpa using hi
          exact .inr (.inr (mlt _ _ _ _ _ hF.r2 hi'))
        | 3, hi =>
          have hi' : v3 = .slice (some ⟨k, 0, none⟩) len cp := by simpa using hi
          exact .inr (.inr (mlt _ _ _ _ _ hF.r3 hi'))
        | j + 4, hi => simp at hi
  · refine ⟨by rw [show (w1.setCell _ _).os = w1.os from rfl, hg.os, hO.os], by rw [show (w1.setCell _ _).tape = w1.tape from rfl, hg.tape, hO.tape], by rw [show (w1.setCell _ _).output = w1.output from rfl, hg.output, hO.output], ?_, fun k hk hs => ?_⟩
    · have := hg.size; have := hO.size; simp [World.setCell]; omega
    · rw [Below.heap_setCell _ _ _ _ (by show k ≠ bb; intro e; exact hs (.inl (.inl e))), hg.block k (by rw [hO.size]; omega) (fun e => hs (.inl (.inr (.inl e.symm)))), hO.block k (fun e => hs (.inr e))]

/-- The book at bb behind r keeps: an owner. -/
def BK (base bb r : Nat) : Res := fun w F => ∃ IV xs, St base w bb r IV xs ∧ ∀ k, F k ↔ bfoot bb IV xs k
theorem BK.fr (base bb r : Nat) : Fr base (BK base bb r) := by
  refine ⟨fun h b hs _ => ?_, fun h hk => ?_⟩
  · obtain ⟨IV, xs, h, hF⟩ := h
    have hbb := hs bb ((hF bb).2 (.inl rfl))
    have hlt := World.block_lt_of_cell? _ _ h.cell0
    refine ⟨IV, xs, ⟨b.cell hbb h.cell0, b.cell hbb h.cell1, (World.frozen?_of_block (a := ⟨bb, 0, none⟩) (b.block bb hlt hbb)).trans h.unf, own_block h.own (fun g hg => b.block g (own_lt h.own hg).2 (hs g ((hF g).2 (.inr (.inl hg))))), h.apart, h.bge, fun i v hv => ?_⟩, hF⟩
    obtain ⟨a, len, cap, rfl, hl, hr⟩ := h.rows i v hv
    refine ⟨a, len, cap, rfl, hl, fun h0 => ?_⟩
    obtain ⟨g, rfl, h1, h2, h3, hc⟩ := hr h0
    exact ⟨g, rfl, h1, h2, h3, fun j hj => b.cell (hs g ((hF g).2 (.inr (.inr ⟨i, len, cap, hv, h0⟩)))) (hc j hj)⟩
  · obtain ⟨IV, xs, h, hF⟩ := h
    rcases (hF _).1 hk with rfl | e | ⟨i, len, cap, hi, h0⟩
    · exact ⟨h.bge, World.block_lt_of_cell? _ _ h.cell0⟩
    · exact own_lt h.own e
    · obtain ⟨a, len', cap', e, hl, hr⟩ := h.rows i _ hi
      simp at e
      obtain ⟨rfl, rfl, rfl⟩ := e
      obtain ⟨g, e, h1, h2, h3, hc⟩ := hr h0
      simp at e
      subst e
      exact ⟨h1, World.block_lt_of_cell? _ _ (hc 0 h0)⟩

/-- keep: the list l at lb (a row of its own) goes into the book. -/
theorem keep_law {base bb r c lb : Nat} {ao : Option Addr} {f : Nat → Int} {w : World} {F : Nat → Prop} (h : BK base bb r w F) (hr : r ≤ 2097151) (hc : c ≤ 65536) (hao : 0 < c → ao = some ⟨lb, 0, none⟩) (hnil : ao = none → c = 0) (hl : Jr w lb c f) (hlb : 0 < c → base ≤ lb ∧ ¬ F lb) :
    Calls Tryd.prog 66 #[.pointer (some ⟨bb, 0, none⟩), .slice ao c c] w fun e w' => e = .returned (.tuple #[]) ∧ Steps w (fun k => F k ∨ (0 < c ∧ k = lb)) (BK base bb (r + 1)) w' := by
  obtain ⟨IV, xs, h, hF⟩ := h
  have hbb : bb < w.heap.size := World.block_lt_of_cell? _ _ h.cell0
  have hbw : base ≤ w.heap.size := by have := h.bge; omega
  -- the row, or one that isn't there
  obtain ⟨lb', h1, h2, h3, h4, h5, h6, h7⟩ : ∃ lb', (0 < c → ao = some ⟨lb', 0, none⟩) ∧ Jr w lb' c f ∧ base ≤ lb' ∧ lb' ≠ bb ∧ IV.ownBlock ≠ some lb' ∧ (∀ (i : Nat) (a : Option Addr) (len cap : Nat), xs[i]? = some (.slice a len cap) → 0 < len → (Value.slice a len cap).ownBlock ≠ some lb') ∧ ((0 < c ∧ lb' = lb) ∨ (c = 0 ∧ lb' = w.heap.size)) := by
    by_cases h0 : 0 < c
    · obtain ⟨q1, q2⟩ := hlb h0
      refine ⟨lb, hao, hl, q1, fun e => q2 ((hF lb).2 (.inl e)), fun e => q2 ((hF lb).2 (.inr (.inl e))), fun i a len cap hi hlen e => ?_, .inl ⟨h0, rfl⟩⟩
      obtain ⟨a', len', cap', e', hl', hr'⟩ := h.rows i _ hi
      simp at e'
      obtain ⟨rfl, rfl, rfl⟩ := e'
      obtain ⟨g, rfl, _⟩ := hr' hlen
      have hg : g = lb := Option.some.inj e
      subst hg
      exact q2 ((hF g).2 (.inr (.inr ⟨i, len, cap, hi, hlen⟩)))
    · refine ⟨w.heap.size, fun e => absurd e h0, fun i hi => by omega, hbw, by omega, fun e => by have := own_lt h.own e; omega, fun i a len cap hi hlen e => ?_, .inr ⟨by omega, rfl⟩⟩
      obtain ⟨a', len', cap', e', hl', hr'⟩ := h.rows i _ hi
      simp at e'
      obtain ⟨rfl, rfl, rfl⟩ := e'
      obtain ⟨g, rfl, _, _, _, hc'⟩ := hr' hlen
      have hg : g = w.heap.size := Option.some.inj e
      have := World.block_lt_of_cell? _ _ (hc' 0 hlen)
      have : g < w.heap.size := this
      omega
  obtain ⟨ia, icap, rfl⟩ : ∃ ia icap, IV = .slice ia (4 * r) icap := by
    rcases h.own.2 with ⟨e, e2⟩ | ⟨g, cap, cur, e, _⟩
    · exact ⟨none, 0, by rw [e, e2]⟩
    · exact ⟨_, _, e⟩
  refine (keep_any bb lb' c (4 * r) icap base ao ia f xs w hc (by omega) h1 h.cell0 h.unf h.own h2 h4 h5 h.apart hnil hbw).mono ?_
  intro e w' hp
  obtain ⟨he, _, ia', icap', xs', hst, hft, hbt⟩ := h.keep hp h3 h4 h5 h6 hc h1 hbw
  refine ⟨he, bfoot bb (.slice ia' (4 * (r + 1)) icap') xs', ⟨_, xs', hst, fun _ => Iff.rfl⟩, ?_, fun k hk => ?_⟩
  · refine hbt.mono fun k hk e => ?_
    rcases e with e | e
    · exact .inl ((hF k).2 e)
    · rcases h7 with ⟨q1, q2⟩ | ⟨q1, q2⟩
      · exact .inr ⟨q1, by omega⟩
      · omega
  · rcases hft k hk with e | ⟨q, e⟩ | e
    · exact .inl (.inl ((hF k).2 e))
    · rcases h7 with ⟨q1, q2⟩ | ⟨q1, q2⟩
      · exact .inl (.inr ⟨q1, by omega⟩)
      · omega
    · exact .inr e
theorem whole_law {base bb r : Nat} {w : World} {F : Nat → Prop} (h : BK base bb r w F) (hr : r ≤ 2097151) :
    Calls Tryd.prog 37 #[.pointer (some ⟨bb, 0, none⟩)] w fun e w' => e = .returned (.bool true) ∧ w' = w := by
  obtain ⟨IV, xs, h, hF⟩ := h
  obtain ⟨ia, icap, rfl⟩ : ∃ ia icap, IV = .slice ia (4 * r) icap := by
    rcases h.own.2 with ⟨e, e2⟩ | ⟨g, cap, cur, e, _⟩
    · exact ⟨none, 0, by rw [e, e2]⟩
    · exact ⟨_, _, e⟩
  obtain ⟨gI, Ra, Rg, Rl, Rc, h1, h2⟩ := h.rowed
  exact whole_any bb gI (4 * r) icap ia Ra Rg Rl Rc w (by omega) h1 h.cell0 h.cell1 h2
/-- A new book. -/
theorem BK.start (w : World) (base : Nat) (hb : base ≤ w.heap.size) (t : TypeId) : BK base w.heap.size 0 (w.alloc (.cells #[.slice none 0 0, .slice none 0 0] t)) (fun k => k = w.heap.size) := by
  refine ⟨.slice none 0 0, [], ⟨by rw [World.cell?_alloc_at _ _ _ _ rfl]; rfl, by rw [World.cell?_alloc_at _ _ _ _ rfl]; rfl, by simp [go_sem], ⟨rfl, .inl ⟨rfl, rfl⟩⟩, by simp [Value.ownBlock], hb, fun i v hv => by simp at hv⟩, fun k => ?_⟩
  constructor
  · intro e; exact .inl e
  · rintro (e | e | ⟨i, len, cap, hi, _⟩)
    · exact e
    · cases e
    · simp at hi
end Go.Proofs.YtddpcjgekfmhkabDoor

/- pick and made. -/
namespace Go.Proofs.YtddpcjgekfmhkabDoor
open Go.RowKit
set_option linter.unusedSimpArgs false
set_option linter.unusedVariables false

theorem pick_at (c n : Int) (w : World) (h1 : -9223372036854775808 ≤ c) (h2 : c ≤ 9223372036854775807) (h3 : 0 < n) (h4 : n ≤ 4294967296) :
    Calls Tryd.prog 62 #[.int .i64 c, .int .i64 n] w fun e w' => e = .returned (.int .i64 (pickv c n)) ∧ w' = w := by
  have hr := pickv_range c n h3
  have hn0 : ¬ n = 0 := by omega
  by_cases hc : c < 0
  · have e1 : Hid (pickv c n = Int.tmod (-(c + 1)) n) := by show pickv c n = _; unfold pickv; rw [if_pos hc, Int.tmod_eq_emod_of_nonneg (by omega)]
    have e2 : Hid (pickv c n = (-(c + 1)) % n) := by show pickv c n = _; unfold pickv; rw [if_pos hc]
    rw [e1.out] at hr
    go_enter Tryd.func62, Tryd.ntmps62
    go_wp2
    go_ret
    exact ⟨by first | (rw [e1.out]; rfl) | (rw [e1.out, Int.neg_tmod]; rfl) | (rw [e2.out]; rfl), rfl⟩
  · have e1 : Hid (pickv c n = Int.tmod c n) := by show pickv c n = _; unfold pickv; rw [if_neg hc, Int.tmod_eq_emod_of_nonneg (by omega)]
    have e2 : Hid (pickv c n = c % n) := by show pickv c n = _; unfold pickv; rw [if_neg hc]
    rw [e1.out] at hr
    go_enter Tryd.func62, Tryd.ntmps62
    go_wp2
    go_ret
    exact ⟨by first | (rw [e1.out]; rfl) | (rw [e2.out]; rfl), rfl⟩

/-- What made gives. -/
def MadeQ (w : World) (n : Nat) (e : Ending) (w' : World) : Prop := ∃ v l, e = .returned v ∧ Lst w' w.heap.size 3 1 v (ints l) ∧ l.length = n ∧ Rng l ∧ Bt (fun _ => False) w w'

set_option maxHeartbeats 2000000 in
set_option maxRecDepth 20000 in
theorem made_law (n : Nat) (raw large : Int) (w : World) (hn : n ≤ 4000) (h1 : -9223372036854775808 ≤ raw) (h2 : raw ≤ 9223372036854775807) (h3 : 0 ≤ large) (h4 : large ≤ 2147483647) :
    Calls Tryd.prog 61 #[.int .i64 n, .int .i64 raw, .int .i64 large] w fun e w' => MadeQ w n e w' := by
  have CK := pick_at raw 1073741824 w h1 h2 (by omega) (by omega)
  have hr := pickv_range raw 1073741824 (by omega)
  generalize pickv raw 1073741824 = x0 at *
  have HE : Hid (∀ v l w', Lst w' w.heap.size 3 1 v (ints l) → l.length = n → Rng l → Bt (fun _ => False) w w' → MadeQ w n (.returned v) w') := fun v l w' q1 q2 q3 q4 => ⟨v, l, rfl, q1, q2, q3, q4⟩
  have HAP : Hid (∀ (vo : Value) (wr : World) (y : Int) (l : List Int), Lst wr w.heap.size 3 1 vo (ints l) → Bt (fun _ => False) w wr → l.length < n →
      ∃ v9 w9, (Builtin.append_ #[24, 24] 24 #[vo, .slice (some ⟨wr.heap.size, 0, none⟩) 1 1]).run Tryd.prog (wr.alloc (.cells #[.int .i64 y] 3)) = .ok v9 w9 ∧ Lst w9 w.heap.size 3 1 v9 (ints (l ++ [y])) ∧ Bt (fun _ => False) w w9) := by
    intro vo wr y l q b hlt
    have b1 : Bt (fun _ => False) wr (wr.alloc (.cells #[.int .i64 y] 3)) := (Bt.refl _ _).alloc _
    obtain ⟨v9, w9, hr, h9, b9, _⟩ := append_nums (w := wr.alloc (.cells #[.int .i64 y] 3)) 24 w.heap.size vo l (q.bt b1 (fun _ _ x => x)) (some ⟨wr.heap.size, 0, none⟩) 1 1 [y] rfl (Src.of_int (fun j x hj => by
      have hj0 : j = 0 := by
        rcases Nat.eq_zero_or_pos j with e | e
        · exact e
        · rw [List.getElem?_eq_none (by simp; omega)] at hj; cases hj
      subst hj0
      simp at hj
      subst hj
      exact World.cell?_alloc_at _ _ _ _ rfl)) (by omega) (Nat.le_trans b.size b1.size)
    exact ⟨v9, w9, hr, h9, (b.trans b1 (fun _ _ x => x)).trans b9 (fun k hk e => by have := (q.ge e).1; omega)⟩
  go_enter Tryd.func61, Tryd.ntmps61
  go_wp2_with (go_at_call 62; refine CK.mono ?_; rintro e w' ⟨rfl, hw⟩; subst w')
  go_loopw [7, 8, 9] (fun to tx ti wr => ∃ (i : Nat) (vo : Value) (X : Int) (l : List Int), vo = to ∧ tx = .int .i64 X ∧ ti = .int .i64 i ∧ i ≤ n ∧ 0 ≤ X ∧ X ≤ 2147483648 ∧ Hid (Lst wr w.heap.size 3 1 vo (ints l) ∧ l.length = i ∧ Rng l ∧ Bt (fun _ => False) w wr)) (fun _ _ ti _ => n - (intOf ti).toNat)
  case atStart => exact ⟨0, _, x0 + 1, [], rfl, by go_num, rfl, Nat.zero_le _, by omega, by omega, Lst.nil _ _ _ _, rfl, fun x hx => by simp at hx, Bt.refl _ _⟩
  case round =>
    obtain ⟨i, vo, X, l, hvo, rfl, rfl, hi, hX0, hX1, HI⟩ := hrel
    subst hvo
    by_cases hlt : i < n
    · have hlt1 : (i : Int) < (n : Int) := by omega
      obtain ⟨Y, hY⟩ : ∃ Y, (X * 1103515245 + 12345).tmod 2147483648 = Y := ⟨_, rfl⟩
      have hY2 : (X * 1103515245 + 12345) % 2147483648 = Y := by rw [← hY, Int.tmod_eq_emod_of_nonneg (by omega)]
      have hYr : 0 ≤ Y ∧ Y ≤ 2147483647 := by omega
      by_cases e0 : Y / 1048576 % 16 = 0
      · have e1 : ¬ Y / 1048576 % 16 = 1 := by omega
        obtain ⟨v9, w9, hr9, h9, b9⟩ := HAP.out vo wr (large) l HI.out.1 HI.out.2.2.2 (by rw [HI.out.2.1]; exact hlt)
        have H9 : Hid (Lst w9 w.heap.size 3 1 v9 (ints (l ++ [large])) ∧ Bt (fun _ => False) w w9) := ⟨h9, b9⟩
        clear h9 b9
        go_wp2_with (at_builtin; refine wpList_append_run rfl _ _ 24 24 rfl _ _ _ _ rfl rfl hr9 ?_)
        go_roundw
        case rel =>
          refine ⟨i + 1, v9, Y, l ++ [large], rfl, rfl, by go_num, by omega, hYr.1, by omega, H9.out.1, by rw [List.length_append, HI.out.2.1]; rfl, ?_, H9.out.2⟩
          intro x hx
          rcases List.mem_append.1 hx with hx | hx
          · exact HI.out.2.2.1 x hx
          · simp at hx; omega
        case measure => simp [intOf]; omega
      · by_cases e1 : Y / 1048576 % 16 = 1
        · obtain ⟨v9, w9, hr9, h9, b9⟩ := HAP.out vo wr (-large) l HI.out.1 HI.out.2.2.2 (by rw [HI.out.2.1]; exact hlt)
          have H9 : Hid (Lst w9 w.heap.size 3 1 v9 (ints (l ++ [-large])) ∧ Bt (fun _ => False) w w9) := ⟨h9, b9⟩
          clear h9 b9
          go_wp2_with (at_builtin; refine wpList_append_run rfl _ _ 24 24 rfl _ _ _ _ rfl rfl hr9 ?_)
          go_roundw
          case rel =>
            refine ⟨i + 1, v9, Y, l ++ [-large], rfl, rfl, by go_num, by omega, hYr.1, by omega, H9.out.1, by rw [List.length_append, HI.out.2.1]; rfl, ?_, H9.out.2⟩
            intro x hx
            rcases List.mem_append.1 hx with hx | hx
            · exact HI.out.2.2.1 x hx
            · simp at hx; omega
          case measure => simp [intOf]; omega
        · have hm : 0 ≤ Y / 256 % 201 ∧ Y / 256 % 201 ≤ 200 := by omega
          obtain ⟨v9, w9, hr9, h9, b9⟩ := HAP.out vo wr (Y / 256 % 201 - 100) l HI.out.1 HI.out.2.2.2 (by rw [HI.out.2.1]; exact hlt)
          have H9 : Hid (Lst w9 w.heap.size 3 1 v9 (ints (l ++ [Y / 256 % 201 - 100])) ∧ Bt (fun _ => False) w w9) := ⟨h9, b9⟩
          clear h9 b9
          go_wp2_with (at_builtin; refine wpList_append_run rfl _ _ 24 24 rfl _ _ _ _ rfl rfl hr9 ?_)
          go_roundw
          case rel =>
            refine ⟨i + 1, v9, Y, l ++ [Y / 256 % 201 - 100], rfl, rfl, by go_num, by omega, hYr.1, by omega, H9.out.1, by rw [List.length_append, HI.out.2.1]; rfl, ?_, H9.out.2⟩
            intro x hx
            rcases List.mem_append.1 hx with hx | hx
            · exact HI.out.2.2.1 x hx
            · simp at hx; omega
          case measure => simp [intOf]; omega
    · obtain rfl : i = n := by omega
      go_wp2
      go_ret
      exact HE.out vo l _ HI.out.1 HI.out.2.1 HI.out.2.2.1 HI.out.2.2.2
end Go.Proofs.YtddpcjgekfmhkabDoor

/- What holds of a filter's states goes on to hold. -/
namespace Go.Proofs.YtddpcjgekfmhkabDoor
set_option linter.unusedVariables false

theorem FlS.Ok.B0 {s : FlS} (h : s.Ok) : 0 < s.B := by have := h.pow; omega
theorem FlS.Ok.B1 {s : FlS} (h : s.Ok) : s.B ≤ 256 := by have := h.pow; omega
theorem FlS.whole_le (s : FlS) : s.whole ≤ s.X.length := Nat.div_mul_le_self _ _
theorem FlS.Ok.pX {s : FlS} (h : s.Ok) : s.pulled ≤ s.X.length := Nat.le_trans h.pl s.whole_le
theorem FlS.Ok.p0 {s : FlS} (h : s.Ok) : 0 < s.parts.length := by obtain ⟨l, ps, e⟩ := h.first; rw [e]; simp
theorem FlS.Ok.froms {s : FlS} (h : s.Ok) {p : Nat × List Int} (hp : p ∈ s.parts) : p.1 ≤ s.X.length + 16384 := by
  have h1 := h.last p hp
  have h2 := Nat.div_mul_le_self s.X.length s.B
  have h3 := h.B1
  omega
theorem FlS.Ok.from_mem {s : FlS} (h : s.Ok) : ∃ l, (s.from, l) ∈ s.parts := by
  obtain ⟨l, e⟩ := FlS.from_eq h.p0
  exact ⟨l, List.mem_of_getElem? e⟩
theorem FlS.Ok.from_le {s : FlS} (h : s.Ok) : s.from ≤ s.X.length + 16384 := by
  obtain ⟨l, e⟩ := h.from_mem
  exact h.froms e
/-- The last part begins last. -/
theorem FlS.Ok.le_from {s : FlS} (h : s.Ok) {p : Nat × List Int} (hp : p ∈ s.parts) : p.1 ≤ s.from := by
  obtain ⟨l, e⟩ := FlS.from_eq h.p0
  obtain ⟨i, hi⟩ := List.getElem?_of_mem hp
  have hlt : i < s.parts.length := by
    rcases Nat.lt_or_ge i s.parts.length with q | q
    · exact q
    · rw [List.getElem?_eq_none q] at hi; cases hi
  by_cases hl : i = s.parts.length - 1
  · rw [hl, e] at hi
    rw [← Option.some.inj hi]; exact Nat.le_refl _
  · have := List.pairwise_iff_getElem.1 h.up i (s.parts.length - 1) hlt (by omega) (by omega)
    rw [List.getElem?_eq_getElem hlt] at hi
    rw [List.getElem?_eq_getElem (by omega)] at e
    rw [Option.some.inj hi, Option.some.inj e] at this
    exact Nat.le_of_lt this

theorem whole_mono {B a b : Nat} (h : a ≤ b) : a / B * B ≤ b / B * B := Nat.mul_le_mul_right _ (Nat.div_le_div_right h)
theorem FlS.Ok.more {s : FlS} (h : s.Ok) {l : List Int} (hl : ∀ v ∈ l, okSample v) (hr : l.length ≤ s.room) : (s.more l).Ok := by
  have hx : (s.X ++ l).length = s.X.length + l.length := List.length_append
  have hm : s.X.length / s.B * s.B ≤ (s.X ++ l).length / s.B * s.B := whole_mono (by omega)
  refine ⟨h.pow, h.r0, h.r1, h.w0, h.w1, h.first, h.taps, h.mult, h.up, fun p hp => ?_, fun v hv => ?_, ?_, ?_⟩
  · have := h.last p hp
    show p.1 ≤ (s.X ++ l).length / s.B * s.B + 64 * s.B
    omega
  · rcases List.mem_append.1 hv with hv | hv
    · exact h.smp v hv
    · exact hl v hv
  · have := h.pl
    show s.pulled ≤ (s.X ++ l).length / s.B * s.B
    unfold FlS.whole at this
    omega
  · show (s.X ++ l).length ≤ s.pulled + s.R
    have := h.rm
    have := h.pX
    unfold FlS.room at hr
    omega
theorem FlS.Ok.push {s : FlS} (h : s.Ok) (l : List Int) : (pushS s l).Ok ∧ (pushS s l).X.length ≤ s.X.length + 65536 ∧ (pushS s l).parts = s.parts := by
  unfold pushS
  split
  · rename_i hall
    have hk : pushN s l ≤ s.room := Nat.min_le_right _ _
    have hr := h.r1
    have hl : (l.take (pushN s l)).length ≤ pushN s l := by rw [List.length_take]; exact Nat.min_le_left _ _
    refine ⟨h.more (fun v hv => hall v (List.mem_of_mem_take hv)) (Nat.le_trans hl hk), ?_, rfl⟩
    show (s.X ++ l.take (pushN s l)).length ≤ _
    rw [List.length_append]
    unfold FlS.room at hk
    omega
  · exact ⟨h, by omega, rfl⟩
theorem FlS.Ok.flush {s : FlS} (h : s.Ok) : (flushS s).Ok ∧ (flushS s).X.length ≤ s.X.length + 65536 ∧ (flushS s).parts = s.parts := by
  unfold flushS
  split
  · exact ⟨h, by omega, rfl⟩
  · rename_i hr
    refine ⟨h.more (fun v hv => by rw [List.eq_of_mem_replicate hv]; exact ⟨by omega, by omega⟩) (by rw [List.length_replicate]; omega), ?_, rfl⟩
    show (s.X ++ List.replicate s.missing 0).length ≤ _
    rw [List.length_append, List.length_replicate]
    have : s.missing < s.B := Nat.mod_lt _ h.B0
    have := h.B1
    omega
theorem FlS.Ok.place_lt {s : FlS} (h : s.Ok) : s.X.length < s.place := by
  have h1 := Nat.div_add_mod s.X.length s.B
  have h2 := Nat.mod_lt s.X.length h.B0
  have h3 := h.w0
  unfold FlS.place
  rw [Nat.add_mul]
  have h4 : s.B ≤ s.W * s.B := Nat.le_mul_of_pos_left _ h3
  rw [Nat.mul_comm] at h1
  omega
theorem FlS.Ok.swap {s : FlS} (h : s.Ok) (l : List Int) : (swapS s l).Ok ∧ (swapS s l).X = s.X ∧ (swapS s l).parts.length ≤ s.parts.length + 1 := by
  unfold swapS
  split
  · exact ⟨h, rfl, by omega⟩
  · rename_i hpe
    split
    · rename_i hok
      have hfx : s.from ≤ s.X.length := by
        unfold FlS.pending at hpe
        split at hpe
        · omega
        · omega
      refine ⟨⟨h.pow, h.r0, h.r1, h.w0, h.w1, ?_, fun p hp => ?_, fun p hp => ?_, ?_, fun p hp => ?_, h.smp, h.pl, h.rm⟩, rfl, ?_⟩
      · obtain ⟨l0, ps, e⟩ := h.first
        exact ⟨l0, ps ++ [(s.place, l)], by show s.parts ++ [(s.place, l)] = _; rw [e]; rfl⟩
      · rcases List.mem_append.1 hp with hp | hp
        · exact h.taps p hp
        · simp at hp; subst hp; exact hok
      · rcases List.mem_append.1 hp with hp | hp
        · exact h.mult p hp
        · simp at hp; subst hp; exact ⟨_, rfl⟩
      · show (s.parts ++ [(s.place, l)]).Pairwise _
        rw [List.pairwise_append]
        refine ⟨h.up, List.pairwise_singleton _ _, fun p hp q hq => ?_⟩
        simp at hq
        subst hq
        have := h.le_from hp
        have := h.place_lt
        show p.1 < s.place
        omega
      · rcases List.mem_append.1 hp with hp | hp
        · exact h.last p hp
        · simp at hp
          subst hp
          show s.place ≤ s.X.length / s.B * s.B + 64 * s.B
          unfold FlS.place
          rw [Nat.add_mul]
          have : s.W * s.B ≤ 64 * s.B := Nat.mul_le_mul_right _ h.w1
          omega
      · show (s.parts ++ [(s.place, l)]).length ≤ _
        simp
    · exact ⟨h, rfl, by omega⟩
theorem FlS.Ok.took {s : FlS} (h : s.Ok) (n : Int) : (s.took (s.can n)).Ok := by
  have hc : s.can n ≤ s.whole - s.pulled := Nat.min_le_right _ _
  have := h.pl
  refine ⟨h.pow, h.r0, h.r1, h.w0, h.w1, h.first, h.taps, h.mult, h.up, h.last, h.smp, ?_, ?_⟩
  · show s.pulled + s.can n ≤ s.whole
    omega
  · show s.X.length ≤ s.pulled + s.can n + s.R
    have := h.rm
    omega
theorem FlS.Ok.fresh {B R W : Int} {l : List Int} (h : okConf B R W) (hl : okTaps l) : (FlS.fresh B.toNat R.toNat W.toNat l).Ok := by
  obtain ⟨h1, h2, h3, h4, h5⟩ := h
  unfold okBlock at h1
  refine ⟨by show B.toNat = 16 ∨ _; unfold FlS.fresh; simp only; omega, by show 2 * B.toNat ≤ R.toNat; omega, by show R.toNat ≤ 65536; omega, by show 1 ≤ W.toNat; omega, by show W.toNat ≤ 64; omega, ⟨l, [], rfl⟩, fun p hp => ?_, fun p hp => ?_, List.pairwise_singleton _ _, fun p hp => ?_, fun v hv => (by cases hv), Nat.zero_le _, Nat.zero_le _⟩
  · have e : p = (0, l) := by simpa [FlS.fresh] using hp
    subst e; exact hl
  · have e : p = (0, l) := by simpa [FlS.fresh] using hp
    subst e; exact ⟨0, by simp⟩
  · have e : p = (0, l) := by simpa [FlS.fresh] using hp
    subst e; exact Nat.zero_le _
theorem FlS.Ok.can_le {s : FlS} (h : s.Ok) (n : Int) : s.can n ≤ 65536 := by
  have : s.can n ≤ s.whole - s.pulled := Nat.min_le_right _ _
  have := s.whole_le
  have := h.rm
  have := h.r1
  omega
end Go.Proofs.YtddpcjgekfmhkabDoor
