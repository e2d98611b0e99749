/- A ring of string: grow, walked. -/
import Derived.Test.YtddpcjgekfmhkaaRingAS
namespace Go.Proofs.Ytddpcjgekfmhkaa
open Go.RowKit
set_option linter.unusedSimpArgs false
set_option linter.unusedVariables false

theorem piecesS (rb gb : Nat) (t : TypeId) (room : Int) (n f c skip k s st : Nat) (w : World) (h : RB w rb t room (if n = 0 then none else some ⟨gb, 0, none⟩) n f c) (hn : n ≤ 281474976710656) (hf : f < n ∨ (n = 0 ∧ f = 0)) (hs : skip ≤ n) (hk : k ≤ n) (hp : pos f n skip = s) (hst : st = Nat.min k (n - s)) :
    Calls Try.prog 58 #[.pointer (some ⟨rb, 0, none⟩), .int .i64 skip, .int .i64 k] w fun e w' => ∃ hp tp c0 c1, e = .returned (.tuple #[.slice hp st c0, .slice tp (k - st) c1]) ∧ (0 < n → hp = some ⟨gb, s * 1, none⟩ ∧ tp = some ⟨gb, 0, none⟩) ∧ (n = 0 → hp = none ∧ tp = none) ∧ ∃ m : Nat, w' = w.drewN m := by
  by_cases h0 : n = 0
  · subst h0
    obtain rfl : f = 0 := by omega
    obtain rfl : skip = 0 := by omega
    obtain rfl : k = 0 := by omega
    obtain rfl : st = 0 := by rw [hst]; exact Nat.min_eq_left (Nat.zero_le _)
    refine (pieces_nilS rb t room c w h).mono ?_
    rintro e w' ⟨rfl, hm⟩
    exact ⟨none, none, 0, 0, rfl, fun h => by omega, fun _ => ⟨rfl, rfl⟩, hm⟩
  · rw [if_neg h0] at h
    have hs1 : s < n := by rw [← hp]; unfold pos; split <;> omega
    refine (pieces_someS rb gb t room n f c skip k s st w h hn (by omega) hs hk hp hs1 hst).mono ?_
    rintro e w' ⟨rfl, hm⟩
    exact ⟨_, _, _, _, rfl, fun _ => ⟨rfl, rfl⟩, fun h => absurd h h0, hm⟩

/-- What the first k things are in the row's two pieces. -/
theorem pieces_srcS {RT : TypeId} {M : Nat} {w : World} {rb gb : Nat} {room : Int} {C : List (List Value)} {f : Nat} {L : List (List Value)} (h : RingAt RT 9 1 M w rb gb room C f L) {k s st : Nat} (hs : pos f C.length 0 = s) (hst : st = Nat.min k (C.length - s)) (hk : k ≤ L.length) {hp tp : Option Addr}
    (h1 : 0 < C.length → hp = some ⟨gb, s * 1, none⟩ ∧ tp = some ⟨gb, 0, none⟩) :
    ∃ A B, A ++ B = L.take k ∧ A.length = st ∧ B.length = k - st ∧ El 1 A ∧ El 1 B ∧ Src w hp A ∧ Src w tp B := by
  have hle := h.circ.le
  have hst' : st = min k (C.length - s) := hst
  have hf := h.circ.first
  have hs' : s = if 0 < C.length - f then f + 0 else 0 - (C.length - f) := hs.symm
  have hpc := h.circ.pieces hk
  rw [hs, ← hst] at hpc
  refine ⟨_, _, hpc, ?_, ?_, (h.elC.drop _).take _, h.elC.take _, ?_, ?_⟩
  · simp; split at hs' <;> omega
  · simp; omega
  · by_cases h0 : 0 < C.length
    · exact (h.row h0).1.src h.elC s st hp (fun _ => (h1 h0).1)
    · intro hx; simp at hx; omega
  · by_cases h0 : 0 < C.length
    · have := (h.row h0).1.src h.elC 0 (k - st) tp (fun _ => by rw [(h1 h0).2]; try simp)
      simpa using this
    · intro hx; simp at hx; omega

/-- Ways of a min and a max. -/
theorem ways (old : Nat) (cnt : Nat) (room : Int) (h1 : old < cnt) (h2 : (cnt : Int) ≤ room) : ∃ (tw N : Nat), ((old : Int) + min (old : Int) (room - old) = (tw : Int)) ∧ (max (cnt : Int) (tw : Int) = (N : Int)) ∧ cnt ≤ N ∧ (N = cnt ∨ N ≤ 2 * old) ∧ (N : Int) ≤ room :=
  ⟨old + min old (room.toNat - old), max cnt (old + min old (room.toNat - old)), by omega, by omega, by omega, by omega, by omega⟩

def MkQS (w w1 : World) (N : Nat) : Prop := Rw w1 w.heap.size 9 (List.replicate N [.string .empty]) ∧ Bt (fun _ => False) w w1 ∧ w1.heap.size = w.heap.size + 1
def GrowQS (M : Nat) (w w' : World) (rb gb : Nat) (room : Int) (L : List (List Value)) (cnt : Nat) : Prop :=
  ∃ gb' C f, RingAt 78 9 1 M w' rb gb' room C f L ∧ (C.length = 0 → gb' = rb) ∧ cnt ≤ C.length ∧ (gb' = gb ∨ w.heap.size ≤ gb') ∧ Bt (fun k => k = rb) w w'

set_option maxHeartbeats 1000000 in
set_option maxRecDepth 20000 in
theorem growS (rb gb M : Nat) (room : Int) (L : List (List Value)) (cnt : Nat) (w : World) (h : Ring 78 9 1 M w rb gb room L) (hM : M ≤ 8796093022208) (hc : L.length ≤ cnt) (hcM : cnt ≤ M) (hcr : (cnt : Int) ≤ room) :
    Calls Try.prog 57 #[.pointer (some ⟨rb, 0, none⟩), .int .i64 cnt] w fun e w' => e = .returned (.tuple #[]) ∧ GrowQS M w w' rb gb room L cnt := by
  obtain ⟨C, f, h, hgb⟩ := h
  obtain ⟨n, hn⟩ : ∃ n, n = C.length := ⟨_, rfl⟩
  have hblk := h.blk
  rw [← hn] at hblk
  have c0 := hblk.c0
  have c1 := hblk.c1
  have c3 := hblk.c3
  have hroom := h.roomM
  have hn2 : n ≤ 2 * M := by rw [hn]; exact h.small
  by_cases hle : cnt ≤ n
  · have HX : Hid (GrowQS M w w rb gb room L cnt) := ⟨gb, C, f, h, hgb, by omega, .inl rfl, Bt.refl _ _⟩
    generalize (if n = 0 then none else some (⟨gb, 0, none⟩ : Addr)) = sp at *
    clear h hblk hgb hn
    have i1 : (cnt : Int) ≤ (n : Int) := by omega
    go_enter Try.func57, Try.ntmps57
    go_wp2
    (try simp only [Exit.inBlock, Exit.then])
    refine bodyPost_ret (results_none rfl _ _ _) rfl ?_
    exact ⟨rfl, HX.out⟩
  · obtain ⟨tw, N, e1, e2, n1, n2, n3⟩ := ways n cnt room (by omega) hcr
    obtain ⟨s, hs⟩ : ∃ s, pos f n 0 = s := ⟨_, rfl⟩
    obtain ⟨st, hst⟩ : ∃ st, st = Nat.min L.length (n - s) := ⟨_, rfl⟩
    have hCf := h.circ.first
    have hCl := h.circ.le
    rw [← hn] at hCf hCl
    have hrb : rb < w.heap.size := h.blk.lt
    have hgl : gb < w.heap.size := (Ring.lt ⟨C, f, h, hgb⟩).2
    have CP : ∀ w1, Hid (MkQS w w1 N) → Calls Try.prog 58 #[.pointer (some ⟨rb, 0, none⟩), .int .i64 0, .int .i64 L.length] w1 fun e w' => ∃ hp tp d0 d1 m, e = .returned (.tuple #[.slice hp st d0, .slice tp (L.length - st) d1]) ∧ w' = w1.drewN m ∧ Hid (PcQ gb 1 n s hp tp) := by
      intro w1 H1
      obtain ⟨k1, b1, z1⟩ := H1.out
      have hblk1 := (h.bt b1 (fun x => x) (fun x => x)).blk
      rw [← hn] at hblk1
      refine (piecesS rb gb _ room n f L.length 0 L.length s st w1 hblk1 (by omega) hCf (by omega) hCl hs hst).mono ?_
      rintro e w' ⟨hp, tp, d0, d1, rfl, hq1, hq0, m, hw⟩
      exact ⟨hp, tp, d0, d1, m, rfl, hw, hq1, hq0⟩
    have CJ : ∀ w1, Hid (MkQS w w1 N) → ∀ hp tp d0 d1 m, Hid (PcQ gb 1 n s hp tp) → Calls Try.prog 59 #[.slice (some ⟨w.heap.size, 0, none⟩) N N, .slice hp st d0, .slice tp (L.length - st) d1] (w1.drewN m)
        fun e w3 => e = .returned (.tuple #[]) ∧ (∃ v, w3.cell? ⟨rb, 1, none⟩ = some v) ∧ w3.frozen? ⟨rb, 1, none⟩ = false ∧ (∃ v, w3.cell? ⟨rb, 2, none⟩ = some v) ∧ w3.frozen? ⟨rb, 2, none⟩ = false ∧ Hid (GrowQS M w ((w3.setCell ⟨rb, 1, none⟩ (.slice (some ⟨w.heap.size, 0, none⟩) N N)).setCell ⟨rb, 2, none⟩ (.int .i64 0)) rb gb room L cnt) := by
      intro w1 H1 hp tp d0 d1 m H2
      obtain ⟨k1, b1, z1⟩ := H1.out
      obtain ⟨q1, q0⟩ := H2.out
      have h1 := h.bt b1 (fun x => x) (fun x => x)
      obtain ⟨A, B, hAB, lA, lB, eA, eB, sA, sB⟩ := pieces_srcS (k := L.length) (s := s) (st := st) (hp := hp) (tp := tp) h1 (by rw [← hn]; exact hs) (by rw [← hn]; exact hst) (Nat.le_refl _) (by rw [← hn]; exact q1)
      have hst' : st = min L.length (n - s) := hst
      refine (joinS w.heap.size N 9 hp tp st d0 (L.length - st) d1 (List.replicate N [.string .empty]) A B (w1.drewN m) k1 (zelS.replicate N) (by simp) sA eA lA sB eB lB (by omega) (by omega) ?_).mono ?_
      · intro b o e
        by_cases h0 : 0 < n
        · rw [(q1 h0).2] at e; simp at e; omega
        · rw [(q0 (by omega)).2] at e; cases e
      · rintro e w3 ⟨rfl, k3, b3, z3⟩
        have b03 : Bt (fun k => k = w.heap.size) w w3 := (b1.drewN m |>.mono (fun _ _ h => h.elim)).trans b3 (fun _ _ h => h)
        have r3 : RB w3 rb 78 room (if n = 0 then none else some ⟨gb, 0, none⟩) n f L.length := hblk.bt b03 (by omega)
        refine ⟨rfl, ⟨_, r3.c1⟩, r3.fr 1, ⟨_, r3.c2⟩, r3.fr 2, ?_⟩
        have rr := (r3.set1 (some ⟨w.heap.size, 0, none⟩) N).set2 0
        have hL : A ++ B = L := by rw [hAB]; exact List.take_of_length_le (Nat.le_refl _)
        have hci := Circ.fresh (N := N) ([.string .empty] : List Value) hL (by omega) (by omega)
        rw [lA] at hci
        have l1 : (splice (List.replicate N ([.string .empty] : List Value)) 0 A).length = N := (length_splice _ _ _ (by simp; omega)).trans (by simp)
        have l2 : (splice (splice (List.replicate N ([.string .empty] : List Value)) 0 A) st B).length = N := (length_splice _ _ _ (by omega)).trans l1
        refine ⟨w.heap.size, _, 0, ⟨hci, ((zelS.replicate N).spl eA 0).spl eB st, h.elL, by rw [l2]; omega, ?_, fun _ => ⟨?_, by omega⟩, h.le, h.roomM⟩, fun e => by omega, by omega, .inr (Nat.le_refl _), ?_⟩
        · rw [l2, if_neg (by omega)]; exact rr
        · exact (Rw.bt k3 (((Bt.refl (fun k => k = rb) w3).setCell (fun _ => rfl) _).setCell (fun _ => rfl) _) (by omega))
        · exact ((b03.mono (T := fun k => k = rb) (fun i hi h => by omega)).setCell (fun _ => rfl) _).setCell (fun _ => rfl) _
    have hN2 : N * 16 ≤ 281474976710656 := by omega
    have hbt : ∀ w1, Hid (MkQS w w1 N) → w1.cell? ⟨rb, 0, none⟩ = some (.int .i64 room) ∧ w1.cell? ⟨rb, 3, none⟩ = some (.int .i64 L.length) := by
      intro w1 H1
      obtain ⟨k1, b1, z1⟩ := H1.out
      have r := hblk.bt b1 (fun x => x)
      exact ⟨r.c0, r.c3⟩
    generalize (if n = 0 then none else some (⟨gb, 0, none⟩ : Addr)) = sp at *
    clear h hn hs hst hblk hgb hCf n2
    have i1 : ¬ (cnt : Int) ≤ (n : Int) := by omega
    go_enter Try.func57, Try.ntmps57
    go_wp2_with (first
      | (at_make; refine wpList_make_el rfl _ _ 56 9 rfl Try.underlying56 (.string .empty) [.string .empty] 1 16 infoS zcellsS rfl N _ rfl rfl (by omega) hN2 (by omega) ?_; intro w1 H1; obtain ⟨d0, d3⟩ := hbt w1 H1)
      | (go_at_call 58; refine (CP w1 H1).mono ?_; rintro e w' ⟨hp, tp, d0, d1, m, rfl, hw, H2⟩; subst w')
      | (go_at_call 59; refine (CJ w1 H1 hp tp d0 d1 m H2).mono ?_; rintro e w3 ⟨rfl, ⟨v1, g1⟩, f1, ⟨v2, g2⟩, f2, HX⟩))
    all_goals go_end0
    all_goals exact ⟨rfl, HX.out⟩

end Go.Proofs.Ytddpcjgekfmhkaa
