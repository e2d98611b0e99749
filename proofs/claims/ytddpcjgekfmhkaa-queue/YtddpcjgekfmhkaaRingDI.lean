/- A ring of int: Take, walked. -/
import Derived.Test.YtddpcjgekfmhkaaRingCI
namespace Go.Proofs.Ytddpcjgekfmhkaa
open Go.RowKit
set_option linter.unusedSimpArgs false
set_option linter.unusedVariables false

def TakeQI (M : Nat) (w w' : World) (rb gb : Nat) (room : Int) (L : List (List Value)) (k : Nat) : Prop :=
  Ring 80 3 1 M w' rb gb room (L.drop k) ∧ Rw w' w.heap.size 3 (L.take k) ∧ Bt (fun i => i = rb ∨ i = gb) w w'

/-- Where the pieces lie, in Take. -/
def TpQI (gb k s st : Nat) (C : List (List Value)) (f : Nat) (hp tp : Option Addr) : Prop := pos f C.length 0 = s ∧ st = Nat.min k (C.length - s) ∧ PcQ gb 1 C.length s hp tp

/-- What lies behind join, in Take. -/
def TjQI (M : Nat) (w w3 : World) (rb gb : Nat) (room : Int) (L : List (List Value)) (k st f n d0 d1 : Nat) (hp tp : Option Addr) : Prop :=
  ∃ w4 w5, (Builtin.clear_ #[57] 0 #[.slice hp st d0]).run Try.prog w3 = .ok (.tuple #[]) w4 ∧ (Builtin.clear_ #[57] 0 #[.slice tp (k - st) d1]).run Try.prog w4 = .ok (.tuple #[]) w5 ∧
    (∀ x : Int, x = k → Calls Try.prog 62 #[.pointer (some ⟨rb, 0, none⟩), .int .i64 x] w5 (fun e w' => e = .returned (.int .i64 (pos f n k : Nat)) ∧ ∃ m : Nat, w' = w5.drewN m)) ∧
    (∃ v, w5.cell? ⟨rb, 2, none⟩ = some v) ∧ (∀ o, w5.frozen? ⟨rb, o, none⟩ = false) ∧ w5.cell? ⟨rb, 3, none⟩ = some (.int .i64 L.length) ∧
    Hid (∀ (m : Nat) (y : Int), y = (L.length : Int) - k → TakeQI M w (((w5.drewN m).setCell ⟨rb, 2, none⟩ (.int .i64 (pos f n k : Nat))).setCell ⟨rb, 3, none⟩ (.int .i64 y)) rb gb room L k)

theorem run_clear_zeroI (w : World) (dp : Option Addr) (c : Nat) : (Builtin.clear_ #[57] 0 #[.slice dp 0 c]).run Try.prog w = .ok (.tuple #[]) w := by
  cases dp <;> simp [Builtin.clear_, run_underlying Try.underlying57]

theorem take_joinI {M : Nat} {w : World} {rb gb : Nat} {room : Int} {C : List (List Value)} {f : Nat} {L : List (List Value)} (h : RingAt 80 3 1 M w rb gb room C f L) (hgb : C.length = 0 → gb = rb) (hM : M ≤ 8796093022208) {k s st : Nat} (hk : k ≤ L.length) {hp tp : Option Addr} (H2 : TpQI gb k s st C f hp tp) (d0 d1 m : Nat) (w1 : World) (H1 : MkQI (w.drewN m) w1 k) :
    Calls Try.prog 61 #[.slice (some ⟨w.heap.size, 0, none⟩) k k, .slice hp st d0, .slice tp (k - st) d1] w1 fun e w3 => e = .returned (.tuple #[]) ∧ TjQI M w w3 rb gb room L k st f C.length d0 d1 hp tp := by
  obtain ⟨hs, hst, q⟩ := H2
  obtain ⟨k1, b1, z1⟩ := H1
  have hst' : st = min k (C.length - s) := hst
  have hCf := h.circ.first
  have hCl := h.circ.le
  have hsm := h.small
  have hrb := h.blk.lt
  have hgl : gb < w.heap.size := (Ring.lt ⟨C, f, h, hgb⟩).2
  have b01 : Bt (fun _ => False) w w1 := ((Bt.refl _ w).drewN m).trans b1 (fun _ _ x => x)
  have h1 := h.bt b01 (fun x => x) (fun x => x)
  obtain ⟨A, B, hAB, lA, lB, eA, eB, sA, sB⟩ := pieces_srcI (k := k) (s := s) (st := st) (hp := hp) (tp := tp) h1 hs hst hk q.1
  refine (joinI w.heap.size k 3 hp tp st d0 (k - st) d1 (List.replicate k [.int .i64 0]) A B w1 k1 (zelI.replicate k) (by simp) sA eA lA sB eB lB (by omega) (by omega) ?_).mono ?_
  · intro b o e
    by_cases h0 : 0 < C.length
    · rw [(q.1 h0).2] at e; simp at e; omega
    · rw [(q.2 (by omega)).2] at e; cases e
  · rintro e w3 ⟨rfl, k3, b3, z3⟩
    have b03 : Bt (fun i => i = w.heap.size) w w3 := (b01.mono (fun _ _ x => x.elim)).trans b3 (fun _ _ x => x)
    have h3 := h.bt b03 (by omega) (by omega)
    have k3' : Rw w3 w.heap.size 3 (L.take k) := by
      have e : splice (splice (List.replicate k ([.int .i64 0] : List Value)) 0 A) st B = L.take k := by
        rw [← hAB, ← lA]
        have lk : (List.replicate k ([.int .i64 0] : List Value)).length = A.length + B.length := by simp; omega
        have e1 : splice (List.replicate k ([.int .i64 0] : List Value)) 0 A = A ++ (List.replicate k ([.int .i64 0] : List Value)).drop A.length := by simp [splice]
        rw [e1]
        unfold splice
        rw [List.take_left', List.drop_eq_nil_of_le, List.append_nil]
        · simp; omega
        · rfl
      rw [← e]; exact k3
    refine ⟨rfl, ?_⟩
    by_cases h0 : C.length = 0
    · obtain rfl : k = 0 := by omega
      obtain rfl : st = 0 := by omega
      have cp := placeI rb 80 room _ C.length f L.length 0 w3 h3.blk (by omega) (by omega) (by omega)
      have hL : L.length = 0 := by omega
      refine ⟨w3, w3, run_clear_zeroI _ _ _, run_clear_zeroI _ _ _, fun x hx => hx ▸ cp, ⟨_, h3.blk.c2⟩, h3.blk.fr, h3.blk.c3, fun m y hy => hy ▸ ⟨⟨C, pos f C.length 0, ⟨?_, h.elC, by simpa using h.elL, h.small, ?_, fun hc => by omega, by simpa using h.le, h.roomM⟩, hgb⟩, ?_, ?_⟩⟩
      · have := h.circ.gone ([.int .i64 0] : List Value) (k := 0) (by omega)
        simpa [splice] using this
      · have e : ((L.length : Int) - ((0 : Nat) : Int)) = (((L.drop 0).length : Nat) : Int) := by simp
        rw [e]
        exact ((h3.blk.drewN m).set2 _).set3 _
      · exact (Rw.bt k3' ((((Bt.refl (fun i => i = rb) w3).drewN m).setCell (fun _ => rfl) _).setCell (fun _ => rfl) _) (by omega))
      · exact ((((b03.mono (T := fun i => i = rb ∨ i = gb) (fun i hi x => by omega)).drewN m).setCell (fun _ => .inl rfl) _).setCell (fun _ => .inl rfl) _)
    · have h01 : 0 < C.length := by omega
      obtain ⟨rfl, rfl⟩ := q.1 h01
      obtain ⟨row, hne⟩ := h3.row h01
      have hsl : s < C.length := by rw [← hs]; exact h.circ.pos_lt (Nat.zero_le _) h01
      obtain ⟨w4, r4, k4, b4, z4⟩ := clear_ex (P := Try.prog) (w := w3) 57 0 3 1 (.int .i64 0) [.int .i64 0] Try.underlying57 zeroI zcellsI zelI (some ⟨gb, s * 1, none⟩) st d0 gb s C 3 row h.elC (fun _ => rfl) (by omega)
      have lc : (splice C s (List.replicate st ([.int .i64 0] : List Value))).length = C.length := length_splice _ _ _ (by simp; omega)
      obtain ⟨w5, r5, k5, b5, z5⟩ := clear_ex (P := Try.prog) (w := w4) 57 0 3 1 (.int .i64 0) [.int .i64 0] Try.underlying57 zeroI zcellsI zelI (some ⟨gb, 0, none⟩) (k - st) d1 gb 0 _ 3 k4 (h.elC.spl (zelI.replicate st) s) (fun _ => by simp) (by omega)
      have b35 : Bt (fun i => i = gb) w3 w5 := b4.trans b5 (fun _ _ x => x)
      have r5b := h3.blk.bt b35 (fun e => hne e.symm)
      have cp := placeI rb 80 room _ C.length f L.length k w5 r5b (by omega) (by omega) (by omega)
      have hci := h.circ.gone ([.int .i64 0] : List Value) hk
      rw [hs, ← hst] at hci
      have lcc : (splice (splice C s (List.replicate st ([.int .i64 0] : List Value))) 0 (List.replicate (k - st) ([.int .i64 0] : List Value))).length = C.length := (length_splice _ _ _ (by simp; omega)).trans lc
      refine ⟨w4, w5, r4, r5, fun x hx => hx ▸ cp, ⟨_, r5b.c2⟩, r5b.fr, r5b.c3, fun m y hy => hy ▸ ⟨⟨_, pos f C.length k, ⟨hci, (h.elC.spl (zelI.replicate st) s).spl (zelI.replicate _) 0, h.elL.drop k, by rw [lcc]; exact h.small, ?_, fun _ => ⟨?_, hne⟩, ?_, h.roomM⟩, fun e => by omega⟩, ?_, ?_⟩⟩
      · have e : ((L.length : Int) - (k : Int)) = (((L.drop k).length : Nat) : Int) := by simp; omega
        rw [e, lcc]
        exact ((r5b.drewN m).set2 _).set3 _
      · exact Rw.bt k5 ((((Bt.refl (fun i => i = rb) w5).drewN m).setCell (fun _ => rfl) _).setCell (fun _ => rfl) _) hne
      · have := h.le; simp; omega
      · exact Rw.bt k3' (((((b35.mono (T := fun i => i = rb ∨ i = gb) (fun _ _ x => .inr x))).drewN m).setCell (fun _ => .inl rfl) _).setCell (fun _ => .inl rfl) _) (by omega)
      · exact (((((b03.mono (T := fun i => i = rb ∨ i = gb) (fun i hi x => by omega)).trans (b35.mono (T := fun i => i = rb ∨ i = gb) (fun _ _ x => .inr x)) (fun _ _ x => x)).drewN m).setCell (fun _ => .inl rfl) _).setCell (fun _ => .inl rfl) _)

set_option maxHeartbeats 1000000 in
set_option maxRecDepth 20000 in
theorem takeI (rb gb M : Nat) (room : Int) (L : List (List Value)) (v : Int) (k : Nat) (w : World) (h : Ring 80 3 1 M w rb gb room L) (hM : M ≤ 8796093022208) (hk : (k : Int) = max 0 (min v L.length)) :
    Calls Try.prog 41 #[.pointer (some ⟨rb, 0, none⟩), .int .i64 v] w fun e w' => e = .returned (.slice (some ⟨w.heap.size, 0, none⟩) k k) ∧ TakeQI M w w' rb gb room L k := by
  obtain ⟨C, f, h0, hgb⟩ := id h
  have hkl : k ≤ L.length := by omega
  have c3 := h0.blk.c3
  have hCl := h0.circ.le
  have hsm := h0.small
  have CP : ∀ x : Int, x = k → Calls Try.prog 56 #[.pointer (some ⟨rb, 0, none⟩), .int .i64 0, .int .i64 x] w fun e w' => ∃ hp tp d0 d1 m s st, e = .returned (.tuple #[.slice hp st d0, .slice tp (k - st) d1]) ∧ w' = w.drewN m ∧ Hid (TpQI gb k s st C f hp tp) := by
    intro x hx
    subst hx
    refine (piecesI rb gb _ room C.length f L.length 0 k _ _ w h0.blk (by omega) h0.circ.first (by omega) (by omega) rfl rfl).mono ?_
    rintro e w' ⟨hp, tp, d0, d1, rfl, hq1, hq0, m, hw⟩
    exact ⟨hp, tp, d0, d1, m, _, _, rfl, hw, rfl, rfl, hq1, hq0⟩
  have CJ : ∀ (s st : Nat) (hp tp : Option Addr), Hid (TpQI gb k s st C f hp tp) → ∀ (d0 d1 m : Nat) (w1 : World), Hid (MkQI (w.drewN m) w1 k) →
      Calls Try.prog 61 #[.slice (some ⟨w.heap.size, 0, none⟩) k k, .slice hp st d0, .slice tp (k - st) d1] w1 fun e w3 => e = .returned (.tuple #[]) ∧ TjQI M w w3 rb gb room L k st f C.length d0 d1 hp tp :=
    fun s st hp tp H2 d0 d1 m w1 H1 => take_joinI h0 hgb hM hkl H2.out d0 d1 m w1 H1.out
  have hN2 : k * 8 ≤ 281474976710656 := by omega
  have hLM : L.length ≤ 281474976710656 := by omega
  clear h h0 hgb
  go_enter Try.func41, Try.ntmps41
  go_wp2_with (first
    | (go_at_call 56; refine (CP _ (by omega)).mono ?_; rintro e w' ⟨hp, tp, d0, d1, m, s, st, rfl, hw, H2⟩; subst w')
    | (at_make; refine wpList_make_el rfl _ _ 57 3 rfl Try.underlying57 (.int .i64 0) [.int .i64 0] 1 8 infoI zcellsI rfl k _ rfl rfl (by omega) hN2 (by omega) ?_; intro w1 H1)
    | (go_at_call 61; refine (CJ s st hp tp H2 d0 d1 m w1 H1).mono ?_; rintro e w3 ⟨rfl, w4, w5, r4, r5, cp, ⟨v2, g2⟩, fr, g3, HX⟩; have f2 := fr 2; have f3 := fr 3; clear fr)
    | (go_at_call 62; refine (cp _ (by omega)).mono ?_; rintro e w' ⟨rfl, m', hw⟩; subst w'))
  all_goals go_ret
  all_goals exact ⟨rfl, HX.out _ _ (by omega)⟩

end Go.Proofs.Ytddpcjgekfmhkaa
