/- book.whole, walked. -/
import Derived.Test.YtddpcjgekfmhkaaDoorLx
namespace Go.Proofs.YtddpcjgekfmhkaaDoor
open Go.RowKit Go.Maps
set_option linter.unusedSimpArgs false
set_option linter.unusedVariables false

/-- A book's rows, each with its mark. -/
structure Rowed (w : World) (gI n : Nat) (Ra : Nat → Option Addr) (Rg Rl Rc : Nat → Nat) : Prop where
  cell : ∀ i, i < n → w.cell? ⟨gI, i, none⟩ = some (.slice (Ra i) (Rl i) (Rc i))
  at_ : ∀ i, i < n → 0 < Rl i → Ra i = some ⟨Rg i, 0, none⟩
  small : ∀ i, i < n → Rl i ≤ 2048
  mark : ∀ i j, i < n → j < Rl i → w.cell? ⟨Rg i, j, none⟩ = some (.int .i64 (-1000 - ((i / 4 * 4 : Nat) : Int)))

set_option maxHeartbeats 2000000 in
theorem whole_any (bb gI n icap : Nat) (ia : Option Addr) (Ra : Nat → Option Addr) (Rg Rl Rc : Nat → Nat) (w : World) (hn : n ≤ 1000) (hia : 0 < n → ia = some ⟨gI, 0, none⟩)
    (hb0 : w.cell? ⟨bb, 0, none⟩ = some (.slice ia n icap)) (hb1 : w.cell? ⟨bb, 1, none⟩ = some (.slice none 0 0)) (hr : Rowed w gI n Ra Rg Rl Rc) :
    Calls Tryd.prog 15 #[.pointer (some ⟨bb, 0, none⟩)] w fun e w' => e = .returned (.bool true) ∧ w' = w := by
  have HR : Hid (Rowed w gI n Ra Rg Rl Rc ∧ (0 < n → ia = some ⟨gI, 0, none⟩)) := ⟨hr, hia⟩
  clear hr hia
  go_enter Tryd.func15, Tryd.ntmps15
  go_wp2
  go_loop [3] (fun ti => ∃ i : Nat, i ≤ n ∧ ti = .int .i64 i) (fun ti => n - (intOf ti).toNat)
  case atStart => exact ⟨0, Nat.zero_le _, rfl⟩
  case round =>
    obtain ⟨i, hi, rfl⟩ := hrel
    by_cases hlt : i < n
    · obtain rfl : ia = some ⟨gI, 0, none⟩ := HR.out.2 (by omega)
      have hi1 : (i : Int) < (n : Int) := by omega
      have cr := HR.out.1.cell i hlt
      obtain ⟨ra, hra⟩ : ∃ x, Ra i = x := ⟨_, rfl⟩
      obtain ⟨rg, hrg⟩ : ∃ x, Rg i = x := ⟨_, rfl⟩
      obtain ⟨rl, hrl⟩ : ∃ x, Rl i = x := ⟨_, rfl⟩
      obtain ⟨rc, hrc⟩ : ∃ x, Rc i = x := ⟨_, rfl⟩
      obtain ⟨q, hq⟩ : ∃ q, i / 4 = q := ⟨_, rfl⟩
      have HM : Hid ((0 < rl → ra = some ⟨rg, 0, none⟩) ∧ ∀ j, j < rl → w.cell? ⟨rg, j, none⟩ = some (.int .i64 (-1000 - (q : Int) * 4))) := by
        refine ⟨fun h => ?_, fun j hj => ?_⟩
        · rw [← hra, ← hrg]; exact HR.out.1.at_ i hlt (by omega)
        · have := HR.out.1.mark i j hlt (by omega)
          rw [hrg, hq] at this
          rw [this]; simp
      have hsm : rl ≤ 2048 := by rw [← hrl]; exact HR.out.1.small i hlt
      rw [hra, hrl, hrc] at cr
      have d1 : (i : Int).tdiv 4 = (q : Int) := by rw [Int.tdiv_eq_ediv_of_nonneg (by omega)]; omega
      have d2 : (i : Int) / 4 = (q : Int) := by omega
      have hqb : q ≤ 1000 := by omega
      clear hra hrg hrl hrc hq
      go_wp2
      go_loop [4] (fun tj => ∃ j : Nat, j ≤ rl ∧ tj = .int .i64 j) (fun tj => rl - (intOf tj).toNat)
      case atStart => exact ⟨0, Nat.zero_le _, rfl⟩
      case round =>
        obtain ⟨j, hj, rfl⟩ := hrel
        by_cases hjl : j < rl
        · obtain rfl : ra = some ⟨rg, 0, none⟩ := HM.out.1 (by omega)
          have hj1 : (j : Int) < (rl : Int) := by omega
          have cm := HM.out.2 j hjl
          go_wp2
          go_round
          case rel => exact ⟨j + 1, by omega, by go_num⟩
          case measure => simp [intOf]; omega
        · obtain rfl : j = rl := by omega
          go_wp2
          go_round
          case rel => exact ⟨i + 1, by omega, by go_num⟩
          case measure => simp [intOf]; omega
    · obtain rfl : i = n := by omega
      go_wp2
      go_loop [5] (fun ti => ti = .int .i64 0) (fun _ => 0)
      case atStart => rfl
      case round =>
        subst hrel
        go_wp2
        go_ret
        exact ⟨rfl, rfl⟩

end Go.Proofs.YtddpcjgekfmhkaaDoor
