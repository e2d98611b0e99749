/- Texts joined: RingCU RingDU Xa Xc. -/
import Derived.Test.YtddpcjgekfmhkabDoorM10
import Derived.Test.YtddpcjgekfmhkabDoorM06
import Derived.Test.YtddpcjgekfmhkabDoorM09
import Derived.Test.YtddpcjgekfmhkabDoorM08

/- A ring of []uint64: New, Len, Put, walked. -/
namespace Go.Proofs.YtddpcjgekfmhkabDoor
open Go.RowKit
set_option linter.unusedSimpArgs false
set_option linter.unusedVariables false

theorem newU (M : Nat) (room : Int) (w : World) (h2 : room ≤ 9223372036854775807) :
    Calls Tryd.prog 25 #[.int .i64 room] w fun e w' => e = .returned (.pointer (some ⟨w.heap.size, 0, none⟩)) ∧ Ring 90 59 1 M w' w.heap.size w.heap.size (max room 0) [] ∧ Bt (fun _ => False) w w' ∧ w'.heap.size = w.heap.size + 1 := by
  have HR : ∀ r : Int, 0 ≤ r → r ≤ 9223372036854775807 → Hid (Ring 90 59 1 M (w.alloc (.cells #[.int .i64 r, .slice none 0 0, .int .i64 0, .int .i64 0] 90)) w.heap.size w.heap.size r []) := by
    intro r h0 h1
    refine ⟨[], 0, ⟨⟨Nat.le_refl _, .inr ⟨rfl, rfl⟩, fun i hi => by simp at hi⟩, fun e he => by simp at he, fun e he => by simp at he, Nat.zero_le _, ?_, fun h => by simp at h, h0, h1⟩, fun _ => rfl⟩
    show (w.heap.push _)[w.heap.size]? = _
    simp
  by_cases h0 : 0 ≤ room
  · have e : max room 0 = room := by omega
    rw [e]
    have HX := HR room h0 h2
    clear HR e
    go_enter Tryd.func25, Tryd.ntmps25
    go_wp2
    go_ret
    exact ⟨rfl, HX.out, (Bt.refl _ _).alloc _, by simp⟩
  · have e : max room 0 = 0 := by omega
    rw [e]
    have HX := HR 0 (Int.le_refl _) (by omega)
    clear HR e
    go_enter Tryd.func25, Tryd.ntmps25
    go_wp2
    go_ret
    exact ⟨rfl, HX.out, (Bt.refl _ _).alloc _, by simp⟩

theorem lenU (M rb gb : Nat) (room : Int) (L : List (List Value)) (w : World) (h : Ring 90 59 1 M w rb gb room L) :
    Calls Tryd.prog 100 #[.pointer (some ⟨rb, 0, none⟩)] w fun e w' => e = .returned (.int .i64 L.length) ∧ w' = w := by
  obtain ⟨C, f, h, hgb⟩ := h
  have c3 := h.blk.c3
  clear h hgb
  go_enter Tryd.func100, Tryd.ntmps100
  go_wp2
  go_ret
  exact ⟨rfl, rfl⟩

theorem run_copy_zeroU (w : World) (dp sp : Option Addr) (dLen dCap sLen sCap : Nat) (h0 : Nat.min sLen dLen = 0) :
    (Builtin.copy_ #[60, 60] 3 #[.slice dp dLen dCap, .slice sp sLen sCap]).run Tryd.prog w = .ok (goInt ((0 : Nat))) w := by
  obtain ⟨i, hq, hi⟩ : ∃ i, Tryd.prog.info? 59 = some i ∧ i.size = 1 := by
    have hsz := sizeU
    cases hq : Tryd.prog.info? 59 with
    | none => simp [hq] at hsz
    | some i => exact ⟨i, rfl, by simpa [hq] using hsz⟩
  cases dp <;> cases sp <;> simp [Builtin.copy_, run_underlying Tryd.underlying60, Builtin.lenOf, Builtin.firstCells, sizeOf, typeInfo, hq, h0, loadCells, loadCellsFrom, storeCells]

def PutQU (M : Nat) (w w' : World) (rb gb : Nat) (room : Int) (L : List (List Value)) : Prop :=
  ∃ gb', Ring 90 59 1 M w' rb gb' room L ∧ (gb' = gb ∨ w.heap.size ≤ gb') ∧ Bt (fun k => k = rb ∨ k = gb) w w'

/-- What lies behind grow, in Put. -/
def PgQU (M k : Nat) (w w2 : World) (rb gb gb' : Nat) (room : Int) (C : List (List Value)) (f : Nat) (L : List (List Value)) : Prop :=
  RingAt 90 59 1 M w2 rb gb' room C f L ∧ (C.length = 0 → gb' = rb) ∧ L.length + k ≤ C.length ∧ (gb' = gb ∨ w.heap.size ≤ gb') ∧ Bt (fun k => k = rb) w w2
/-- The list that is put in. -/
def SrQU (w : World) (rb gb b o len : Nat) (X : List (List Value)) : Prop := Src w (some ⟨b, o, none⟩) X ∧ El 1 X ∧ X.length = len ∧ b ≠ rb ∧ b ≠ gb ∧ b < w.heap.size

theorem put_copiesU {M k : Nat} {w w2 : World} {rb gb gb' : Nat} {room : Int} {C : List (List Value)} {f : Nat} {L X : List (List Value)} (H : PgQU M k w w2 rb gb gb' room C f L) {b o len : Nat} (HS : SrQU w rb gb b o len X) (hkl : k ≤ len) (hkr : (L.length : Int) + k ≤ room)
    {s st : Nat} (hs : pos f C.length L.length = s) (hst : st = Nat.min k (C.length - s)) {hp tp : Option Addr} (q : PcQ gb' 1 C.length s hp tp) (m d0 d1 cap cap' : Nat) (lp' : Option Addr) (hlp : st < len → lp' = some ⟨b, o + st * 1, none⟩) :
    ∃ w4 w5, (Builtin.copy_ #[60, 60] 3 #[.slice hp st d0, .slice (some ⟨b, o, none⟩) len cap]).run Tryd.prog (w2.drewN m) = .ok (goInt st) w4 ∧
      (Builtin.copy_ #[60, 60] 3 #[.slice tp (k - st) d1, .slice lp' (len - st) cap']).run Tryd.prog w4 = .ok (goInt ((k - st : Nat))) w5 ∧
      w5.cell? ⟨rb, 3, none⟩ = some (.int .i64 L.length) ∧ w5.frozen? ⟨rb, 3, none⟩ = false ∧ Hid (PutQU M w (w5.setCell ⟨rb, 3, none⟩ (.int .i64 ((L.length : Int) + k))) rb gb room (L ++ X.take k)) := by
  rw [← Int.natCast_add]
  obtain ⟨h, hgb', hfit, hg, bt⟩ := H
  obtain ⟨hX, eX, lX, b1, b2, b3⟩ := HS
  have hst' : st = min k (C.length - s) := hst
  have sX : Src (w2.drewN m) (some ⟨b, o, none⟩) X := hX.bt (bt.drewN m) (by intro b' o' e; simp at e; omega)
  have hCf := h.circ.first
  have hCl := h.circ.le
  have bg : gb' ≠ b := by rcases hg with rfl | hg <;> omega
  have hlen : (X.take k).length = k := by simp; omega
  have e1 : (X.take k).take st = X.take st := by rw [List.take_take]; congr 1; omega
  have l1 : (X.take st).length = st := by simp; omega
  have l2 : ((X.take k).drop st).length = k - st := by simp; omega
  by_cases h0 : C.length = 0
  · obtain rfl : k = 0 := by omega
    obtain rfl : st = 0 := by omega
    obtain ⟨rfl, rfl⟩ := q.2 h0
    have rr := h.blk
    refine ⟨w2.drewN m, w2.drewN m, ?_, ?_, rr.c3, rr.fr 3, gb', ⟨C, f, ?_, hgb'⟩, hg, ?_⟩
    · exact run_copy_zeroU _ _ _ _ _ _ _ (Nat.min_zero _)
    · exact run_copy_zeroU _ _ _ _ _ _ _ (Nat.min_zero _)
    · refine ⟨by simpa using h.circ, h.elC, by simpa using h.elL, h.small, by simpa using (rr.drewN m).set3 (L.length + 0), fun hc => by omega, by simpa using h.le, h.roomM⟩
    · exact ((bt.mono (T := fun k => k = rb ∨ k = gb) (fun _ _ x => .inl x)).drewN m).setCell (fun _ => .inl rfl) _
  · have h1 : 0 < C.length := by omega
    obtain ⟨rfl, rfl⟩ := q.1 h1
    obtain ⟨row, hne⟩ := h.row h1
    have hsl : s < C.length := by rw [← hs]; exact h.circ.pos_lt hCl h1
    obtain ⟨w4, r4, k4, b4, z4⟩ := copy_ex (P := Tryd.prog) (w := w2.drewN m) 60 60 3 59 1 Tryd.underlying60 sizeU (some ⟨gb', s * 1, none⟩) (some ⟨b, o, none⟩) st d0 len cap gb' s C 59 row h.elC (X.take st) (eX.take st) (by rw [l1]; exact (Nat.min_eq_right (by omega)).symm) (fun _ => rfl) (sX.take eX st) (by omega)
    have s4 : Src w4 lp' ((X.take k).drop st) := by
      have t1 : Src w4 (some ⟨b, o, none⟩) X := sX.bt b4 (by intro b' o' e; simp at e; omega)
      exact (t1.take eX k).drop (eX.take k) st (by
        intro hk b' o' e
        simp at e
        obtain ⟨rfl, rfl⟩ := e
        exact hlp (by omega))
    have lc : (splice C s (X.take st)).length = C.length := length_splice _ _ _ (by omega)
    obtain ⟨w5, r5, k5, b5, z5⟩ := copy_ex (P := Tryd.prog) (w := w4) 60 60 3 59 1 Tryd.underlying60 sizeU (some ⟨gb', 0, none⟩) lp' (k - st) d1 (len - st) cap' gb' 0 _ 59 k4 (h.elC.spl (eX.take st) s) ((X.take k).drop st) ((eX.take k).drop st) (by rw [l2]; exact (Nat.min_eq_right (by omega)).symm) (fun _ => by simp) s4 (by omega)
    rw [l1] at r4
    rw [l2] at r5
    have b25 : Bt (fun k => k = gb') w2 w5 := (((Bt.refl _ w2).drewN m).trans b4 (fun _ _ x => x)).trans b5 (fun _ _ x => x)
    have rr := h.blk.bt b25 (fun e => hne e.symm)
    have hci := h.circ.put (X := X.take k) (by omega)
    rw [hs, hlen, ← hst, e1] at hci
    have lcc : (splice (splice C s (X.take st)) 0 ((X.take k).drop st)).length = C.length := (length_splice _ _ _ (by omega)).trans lc
    have bfin : Bt (fun k => k = rb ∨ k = gb') w2 (w5.setCell ⟨rb, 3, none⟩ (.int .i64 ((L.length + k : Nat)))) := (b25.mono (T := fun k => k = rb ∨ k = gb') (fun _ _ x => .inr x)).setCell (fun _ => .inl rfl) _
    refine ⟨w4, w5, r4, r5, rr.c3, rr.fr 3, gb', ⟨_, f, ⟨hci, (h.elC.spl (eX.take st) s).spl ((eX.take k).drop st) 0, h.elL.append (eX.take k), by rw [lcc]; exact h.small, ?_, fun _ => ⟨?_, hne⟩, by simp; omega, h.roomM⟩, fun e => by omega⟩, hg, ?_⟩
    · rw [lcc, List.length_append, hlen]; exact rr.set3 (L.length + k)
    · exact Rw.bt k5 ((Bt.refl (fun k => k = rb) w5).setCell (fun _ => rfl) _) hne
    · exact (bt.mono (T := fun k => k = rb ∨ k = gb) (fun _ _ x => .inl x)).trans bfin (by intro i hi hx; rcases hg with rfl | hg; exact hx; omega)

set_option maxHeartbeats 1000000 in
set_option maxRecDepth 20000 in
theorem putCU (rb gb M : Nat) (room : Int) (L X : List (List Value)) (b o len cap k : Nat) (w : World) (h : Ring 90 59 1 M w rb gb room L) (hM : M ≤ 4398046511104) (hX : Src w (some ⟨b, o, none⟩) X) (eX : El 1 X) (lX : X.length = len) (hlen : len ≤ 281474976710656) (hcap : len ≤ cap)
    (hnb : b ≠ rb ∧ b ≠ gb ∧ b < w.heap.size) (hk : k = min len (room.toNat - L.length)) (hkM : L.length + k ≤ M) :
    Calls Tryd.prog 98 #[.pointer (some ⟨rb, 0, none⟩), .slice (some ⟨b, o, none⟩) len cap] w fun e w' => e = .returned (.int .i64 k) ∧ PutQU M w w' rb gb room (L ++ X.take k) := by
  have hle := h.le
  have hlt := h.lt
  obtain ⟨C, f, h0, hgb⟩ := id h
  have hroom := h0.roomM
  have c0 := h0.blk.c0
  have c3 := h0.blk.c3
  have hkr : (L.length : Int) + k ≤ room := by omega
  have CG : Calls Tryd.prog 107 #[.pointer (some ⟨rb, 0, none⟩), .int .i64 ((L.length : Int) + k)] w.drew fun e w' => e = .returned (.tuple #[]) ∧ ∃ gb' C f, w'.cell? ⟨rb, 3, none⟩ = some (.int .i64 L.length) ∧ Hid (PgQU M k w w' rb gb gb' room C f L) := by
    have hb : Bt (fun _ => False) w w.drew := (Bt.refl _ w).drew
    refine (growU rb gb M room L (L.length + k) w.drew (h.bt hb (fun x => x) (fun x => x)) hM (by omega) hkM (by omega)).mono ?_
    rintro e w' ⟨rfl, gb', C, f, hq, hg, hc, hg2, hbt⟩
    exact ⟨rfl, gb', C, f, hq.blk.c3, hq, hg, hc, hg2, hb.mono (T := fun k => k = rb) (fun _ _ x => x.elim) |>.trans hbt (fun _ _ x => x)⟩
  have CP : ∀ w2 gb' C f, Hid (PgQU M k w w2 rb gb gb' room C f L) → Calls Tryd.prog 108 #[.pointer (some ⟨rb, 0, none⟩), .int .i64 L.length, .int .i64 k] w2 fun e w' => ∃ hp tp d0 d1 m s st, e = .returned (.tuple #[.slice hp st d0, .slice tp (k - st) d1]) ∧ w' = w2.drewN m ∧ st ≤ k ∧ Hid (pos f C.length L.length = s ∧ st = Nat.min k (C.length - s) ∧ PcQ gb' 1 C.length s hp tp) := by
    intro w2 gb' C f H
    obtain ⟨h, hgb', hfit, hg, bt⟩ := H.out
    have hsm := h.small
    refine (piecesU rb gb' _ room C.length f L.length L.length k _ _ w2 h.blk (by omega) h.circ.first h.circ.le (by omega) rfl rfl).mono ?_
    rintro e w' ⟨hp, tp, d0, d1, rfl, hq1, hq0, m, hw⟩
    exact ⟨hp, tp, d0, d1, m, _, _, rfl, hw, Nat.min_le_left _ _, rfl, rfl, hq1, hq0⟩
  have HS : Hid (SrQU w rb gb b o len X) := ⟨hX, eX, lX, hnb⟩
  have hite : (if room - (L.length : Int) < (len : Int) then room - (L.length : Int) else (len : Int)) = (k : Int) := by split <;> omega
  have hkl : k ≤ len := by omega
  clear h h0 hX eX lX hnb hk hgb
  go_enter Tryd.func98, Tryd.ntmps98
  go_wp2
  go_region
  try simp only [hite]
  clear hite c0
  go_wp2_with (first
    | (go_at_call 107; refine CG.mono ?_; rintro e w2 ⟨rfl, gb', C', f', d3, HG⟩)
    | (go_at_call 108; refine (CP w2 gb' C' f' HG).mono ?_; rintro e w' ⟨hp, tp, d0, d1, m, s, st, rfl, hw, hsk, HP⟩; subst w'; obtain ⟨hs, hst, hq⟩ := HP.out; by_cases hsc : st < cap; (obtain ⟨w4, w5, r4, r5, g3, f3, HX⟩ := put_copiesU HG.out HS.out hkl hkr hs hst hq m d0 d1 cap (cap - st) (some ⟨b, o + st * 1, none⟩) (fun _ => rfl); clear hs hst hq HP HG HS CG CP; try simp only [Nat.mul_one] at r5); rotate_left; (obtain rfl : st = cap := by omega); (obtain rfl : len = st := by omega); (obtain rfl : k = len := by omega); (obtain ⟨w4, w5, r4, r5, g3, f3, HX⟩ := put_copiesU HG.out HS.out hkl hkr hs hst hq m d0 d1 k 0 (some ⟨b, o, none⟩) (fun h => by omega)); clear hs hst hq HP HG HS CG CP; simp only [Nat.sub_self] at r5))
  all_goals go_ret
  all_goals exact ⟨rfl, HX.out⟩
theorem putU (rb gb M : Nat) (room : Int) (L X : List (List Value)) (b o len cap k : Nat) (w : World) (h : Ring 90 59 1 M w rb gb room L) (hM : M ≤ 4398046511104) (hX : Src w (some ⟨b, o, none⟩) X) (eX : El 1 X) (lX : X.length = len) (hlen : len ≤ 281474976710656) (hcap : len ≤ cap) (hcap2 : cap ≤ 9223372036854775807)
    (hnb : b ≠ rb ∧ b ≠ gb ∧ b < w.heap.size) (hk : k = min len (room.toNat - L.length)) (hkM : L.length + k ≤ M) :
    Calls Tryd.prog 98 #[.pointer (some ⟨rb, 0, none⟩), .slice (some ⟨b, o, none⟩) len cap] w fun e w' => e = .returned (.int .i64 k) ∧ PutQU M w w' rb gb room (L ++ X.take k) :=
  putCU rb gb M room L X b o len cap k w h hM hX eX lX hlen hcap hnb hk hkM
end Go.Proofs.YtddpcjgekfmhkabDoor

/- A ring of []uint64: Take, walked. -/
namespace Go.Proofs.YtddpcjgekfmhkabDoor
open Go.RowKit
set_option linter.unusedSimpArgs false
set_option linter.unusedVariables false

def TakeQU (M : Nat) (w w' : World) (rb gb : Nat) (room : Int) (L : List (List Value)) (k : Nat) : Prop :=
  Ring 90 59 1 M w' rb gb room (L.drop k) ∧ Rw w' w.heap.size 59 (L.take k) ∧ Bt (fun i => i = rb ∨ i = gb) w w'

/-- Where the pieces lie, in Take. -/
def TpQU (gb k s st : Nat) (C : List (List Value)) (f : Nat) (hp tp : Option Addr) : Prop := pos f C.length 0 = s ∧ st = Nat.min k (C.length - s) ∧ PcQ gb 1 C.length s hp tp

/-- What lies behind join, in Take. -/
def TjQU (M : Nat) (w w3 : World) (rb gb : Nat) (room : Int) (L : List (List Value)) (k st f n d0 d1 : Nat) (hp tp : Option Addr) : Prop :=
  ∃ w4 w5, (Builtin.clear_ #[60] 0 #[.slice hp st d0]).run Tryd.prog w3 = .ok (.tuple #[]) w4 ∧ (Builtin.clear_ #[60] 0 #[.slice tp (k - st) d1]).run Tryd.prog w4 = .ok (.tuple #[]) w5 ∧
    (∀ x : Int, x = k → Calls Tryd.prog 110 #[.pointer (some ⟨rb, 0, none⟩), .int .i64 x] w5 (fun e w' => e = .returned (.int .i64 (pos f n k : Nat)) ∧ ∃ m : Nat, w' = w5.drewN m)) ∧
    (∃ v, w5.cell? ⟨rb, 2, none⟩ = some v) ∧ (∀ o, w5.frozen? ⟨rb, o, none⟩ = false) ∧ w5.cell? ⟨rb, 3, none⟩ = some (.int .i64 L.length) ∧
    Hid (∀ (m : Nat) (y : Int), y = (L.length : Int) - k → TakeQU M w (((w5.drewN m).setCell ⟨rb, 2, none⟩ (.int .i64 (pos f n k : Nat))).setCell ⟨rb, 3, none⟩ (.int .i64 y)) rb gb room L k)

theorem run_clear_zeroU (w : World) (dp : Option Addr) (c : Nat) : (Builtin.clear_ #[60] 0 #[.slice dp 0 c]).run Tryd.prog w = .ok (.tuple #[]) w := by
  cases dp <;> simp [Builtin.clear_, run_underlying Tryd.underlying60]

theorem take_joinU {M : Nat} {w : World} {rb gb : Nat} {room : Int} {C : List (List Value)} {f : Nat} {L : List (List Value)} (h : RingAt 90 59 1 M w rb gb room C f L) (hgb : C.length = 0 → gb = rb) (hM : M ≤ 4398046511104) {k s st : Nat} (hk : k ≤ L.length) {hp tp : Option Addr} (H2 : TpQU gb k s st C f hp tp) (d0 d1 m : Nat) (w1 : World) (H1 : MkQU (w.drewN m) w1 k) :
    Calls Tryd.prog 109 #[.slice (some ⟨w.heap.size, 0, none⟩) k k, .slice hp st d0, .slice tp (k - st) d1] w1 fun e w3 => e = .returned (.tuple #[]) ∧ TjQU M w w3 rb gb room L k st f C.length d0 d1 hp tp := by
  obtain ⟨hs, hst, q⟩ := H2
  obtain ⟨k1, b1, z1⟩ := H1
  have hst' : st = min k (C.length - s) := hst
  have hCf := h.circ.first
  have hCl := h.circ.le
  have hsm := h.small
  have hrb := h.blk.lt
  have hgl : gb < w.heap.size := (Ring.lt ⟨C, f, h, hgb⟩).2
  have b01 : Bt (fun _ => False) w w1 := ((Bt.refl _ w).drewN m).trans b1 (fun _ _ x => x)
  have h1 := h.bt b01 (fun x => x) (fun x => x)
  obtain ⟨A, B, hAB, lA, lB, eA, eB, sA, sB⟩ := pieces_srcU (k := k) (s := s) (st := st) (hp := hp) (tp := tp) h1 hs hst hk q.1
  refine (joinU w.heap.size k 59 hp tp st d0 (k - st) d1 (List.replicate k [.slice none 0 0]) A B w1 k1 (zelU.replicate k) (by simp) sA eA lA sB eB lB (by omega) (by omega) ?_).mono ?_
  · intro b o e
    by_cases h0 : 0 < C.length
    · rw [(q.1 h0).2] at e; simp at e; omega
    · rw [(q.2 (by omega)).2] at e; cases e
  · rintro e w3 ⟨rfl, k3, b3, z3⟩
    have b03 : Bt (fun i => i = w.heap.size) w w3 := (b01.mono (fun _ _ x => x.elim)).trans b3 (fun _ _ x => x)
    have h3 := h.bt b03 (by omega) (by omega)
    have k3' : Rw w3 w.heap.size 59 (L.take k) := by
      have e : splice (splice (List.replicate k ([.slice none 0 0] : List Value)) 0 A) st B = L.take k := by
        rw [← hAB, ← lA]
        have lk : (List.replicate k ([.slice none 0 0] : List Value)).length = A.length + B.length := by simp; omega
        have e1 : splice (List.replicate k ([.slice none 0 0] : List Value)) 0 A = A ++ (List.replicate k ([.slice none 0 0] : List Value)).drop A.length := by simp [splice]
        rw [e1]
        unfold splice
        rw [List.take_left', List.drop_eq_nil_of_le, List.append_nil]
        · simp; omega
        · rfl
      rw [← e]; exact k3
    refine ⟨rfl, ?_⟩
    by_cases h0 : C.length = 0
    · obtain rfl : k = 0 := by omega
      obtain rfl : st = 0 := by omega
      have cp := placeU rb 90 room _ C.length f L.length 0 w3 h3.blk (by omega) (by omega) (by omega)
      have hL : L.length = 0 := by omega
      refine ⟨w3, w3, run_clear_zeroU _ _ _, run_clear_zeroU _ _ _, fun x hx => hx ▸ cp, ⟨_, h3.blk.c2⟩, h3.blk.fr, h3.blk.c3, fun m y hy => hy ▸ ⟨⟨C, pos f C.length 0, ⟨?_, h.elC, by simpa using h.elL, h.small, ?_, fun hc => by omega, by simpa using h.le, h.roomM⟩, hgb⟩, ?_, ?_⟩⟩
      · have := h.circ.gone ([.slice none 0 0] : List Value) (k := 0) (by omega)
        simpa [splice] using this
      · have e : ((L.length : Int) - ((0 : Nat) : Int)) = (((L.drop 0).length : Nat) : Int) := by simp
        rw [e]
        exact ((h3.blk.drewN m).set2 _).set3 _
      · exact (Rw.bt k3' ((((Bt.refl (fun i => i = rb) w3).drewN m).setCell (fun _ => rfl) _).setCell (fun _ => rfl) _) (by omega))
      · exact ((((b03.mono (T := fun i => i = rb ∨ i = gb) (fun i hi x => by omega)).drewN m).setCell (fun _ => .inl rfl) _).setCell (fun _ => .inl rfl) _)
    · have h01 : 0 < C.length := by omega
      obtain ⟨rfl, rfl⟩ := q.1 h01
      obtain ⟨row, hne⟩ := h3.row h01
      have hsl : s < C.length := by rw [← hs]; exact h.circ.pos_lt (Nat.zero_le _) h01
      obtain ⟨w4, r4, k4, b4, z4⟩ := clear_ex (P := Tryd.prog) (w := w3) 60 0 59 1 (.slice none 0 0) [.slice none 0 0] Tryd.underlying60 zeroU zcellsU zelU (some ⟨gb, s * 1, none⟩) st d0 gb s C 59 row h.elC (fun _ => rfl) (by omega)
      have lc : (splice C s (List.replicate st ([.slice none 0 0] : List Value))).length = C.length := length_splice _ _ _ (by simp; omega)
      obtain ⟨w5, r5, k5, b5, z5⟩ := clear_ex (P := Tryd.prog) (w := w4) 60 0 59 1 (.slice none 0 0) [.slice none 0 0] Tryd.underlying60 zeroU zcellsU zelU (some ⟨gb, 0, none⟩) (k - st) d1 gb 0 _ 59 k4 (h.elC.spl (zelU.replicate st) s) (fun _ => by simp) (by omega)
      have b35 : Bt (fun i => i = gb) w3 w5 := b4.trans b5 (fun _ _ x => x)
      have r5b := h3.blk.bt b35 (fun e => hne e.symm)
      have cp := placeU rb 90 room _ C.length f L.length k w5 r5b (by omega) (by omega) (by omega)
      have hci := h.circ.gone ([.slice none 0 0] : List Value) hk
      rw [hs, ← hst] at hci
      have lcc : (splice (splice C s (List.replicate st ([.slice none 0 0] : List Value))) 0 (List.replicate (k - st) ([.slice none 0 0] : List Value))).length = C.length := (length_splice _ _ _ (by simp; omega)).trans lc
      refine ⟨w4, w5, r4, r5, fun x hx => hx ▸ cp, ⟨_, r5b.c2⟩, r5b.fr, r5b.c3, fun m y hy => hy ▸ ⟨⟨_, pos f C.length k, ⟨hci, (h.elC.spl (zelU.replicate st) s).spl (zelU.replicate _) 0, h.elL.drop k, by rw [lcc]; exact h.small, ?_, fun _ => ⟨?_, hne⟩, ?_, h.roomM⟩, fun e => by omega⟩, ?_, ?_⟩⟩
      · have e : ((L.length : Int) - (k : Int)) = (((L.drop k).length : Nat) : Int) := by simp; omega
        rw [e, lcc]
        exact ((r5b.drewN m).set2 _).set3 _
      · exact Rw.bt k5 ((((Bt.refl (fun i => i = rb) w5).drewN m).setCell (fun _ => rfl) _).setCell (fun _ => rfl) _) hne
      · have := h.le; simp; omega
      · exact Rw.bt k3' (((((b35.mono (T := fun i => i = rb ∨ i = gb) (fun _ _ x => .inr x))).drewN m).setCell (fun _ => .inl rfl) _).setCell (fun _ => .inl rfl) _) (by omega)
      · exact (((((b03.mono (T := fun i => i = rb ∨ i = gb) (fun i hi x => by omega)).trans (b35.mono (T := fun i => i = rb ∨ i = gb) (fun _ _ x => .inr x)) (fun _ _ x => x)).drewN m).setCell (fun _ => .inl rfl) _).setCell (fun _ => .inl rfl) _)

set_option maxHeartbeats 1000000 in
set_option maxRecDepth 20000 in
theorem takeU (rb gb M : Nat) (room : Int) (L : List (List Value)) (v : Int) (k : Nat) (w : World) (h : Ring 90 59 1 M w rb gb room L) (hM : M ≤ 4398046511104) (hk : (k : Int) = max 0 (min v L.length)) :
    Calls Tryd.prog 99 #[.pointer (some ⟨rb, 0, none⟩), .int .i64 v] w fun e w' => e = .returned (.slice (some ⟨w.heap.size, 0, none⟩) k k) ∧ TakeQU M w w' rb gb room L k := by
  obtain ⟨C, f, h0, hgb⟩ := id h
  have hkl : k ≤ L.length := by omega
  have c3 := h0.blk.c3
  have hCl := h0.circ.le
  have hsm := h0.small
  have CP : ∀ x : Int, x = k → Calls Tryd.prog 108 #[.pointer (some ⟨rb, 0, none⟩), .int .i64 0, .int .i64 x] w fun e w' => ∃ hp tp d0 d1 m s st, e = .returned (.tuple #[.slice hp st d0, .slice tp (k - st) d1]) ∧ w' = w.drewN m ∧ Hid (TpQU gb k s st C f hp tp) := by
    intro x hx
    subst hx
    refine (piecesU rb gb _ room C.length f L.length 0 k _ _ w h0.blk (by omega) h0.circ.first (by omega) (by omega) rfl rfl).mono ?_
    rintro e w' ⟨hp, tp, d0, d1, rfl, hq1, hq0, m, hw⟩
    exact ⟨hp, tp, d0, d1, m, _, _, rfl, hw, rfl, rfl, hq1, hq0⟩
  have CJ : ∀ (s st : Nat) (hp tp : Option Addr), Hid (TpQU gb k s st C f hp tp) → ∀ (d0 d1 m : Nat) (w1 : World), Hid (MkQU (w.drewN m) w1 k) →
      Calls Tryd.prog 109 #[.slice (some ⟨w.heap.size, 0, none⟩) k k, .slice hp st d0, .slice tp (k - st) d1] w1 fun e w3 => e = .returned (.tuple #[]) ∧ TjQU M w w3 rb gb room L k st f C.length d0 d1 hp tp :=
    fun s st hp tp H2 d0 d1 m w1 H1 => take_joinU h0 hgb hM hkl H2.out d0 d1 m w1 H1.out
  have hN2 : k * 24 ≤ 281474976710656 := by omega
  have hLM : L.length ≤ 281474976710656 := by omega
  clear h h0 hgb
  go_enter Tryd.func99, Tryd.ntmps99
  go_wp2_with (first
    | (go_at_call 108; refine (CP _ (by omega)).mono ?_; rintro e w' ⟨hp, tp, d0, d1, m, s, st, rfl, hw, H2⟩; subst w')
    | (at_make; refine wpList_make_el rfl _ _ 60 59 rfl Tryd.underlying60 (.slice none 0 0) [.slice none 0 0] 1 24 infoU zcellsU rfl k _ rfl rfl (by omega) hN2 (by omega) ?_; intro w1 H1)
    | (go_at_call 109; refine (CJ s st hp tp H2 d0 d1 m w1 H1).mono ?_; rintro e w3 ⟨rfl, w4, w5, r4, r5, cp, ⟨v2, g2⟩, fr, g3, HX⟩; have f2 := fr 2; have f3 := fr 3; clear fr)
    | (go_at_call 110; refine (cp _ (by omega)).mono ?_; rintro e w' ⟨rfl, m', hw⟩; subst w'))
  all_goals go_ret
  all_goals exact ⟨rfl, HX.out _ _ (by omega)⟩

end Go.Proofs.YtddpcjgekfmhkabDoor

/- Many owners beside one another; the filter's parts. -/
namespace Go.Proofs.YtddpcjgekfmhkabDoor
open Go.RowKit
set_option linter.unusedSimpArgs false
set_option linter.unusedVariables false

theorem Gw.bt {w w' : World} (h : Gw w w') (S : Nat → Prop) : Bt S w w' := ⟨h.1.os, h.1.tape, h.1.output, h.1.size, fun k hk _ => h.1.block k hk⟩
theorem But.bt {c : Nat} {w w' : World} (h : But c w w') : Bt (fun k => k = c) w w' := ⟨h.os, h.tape, h.output, h.size, fun k hk hs => h.block k hk hs⟩
theorem Only.bt {c : Nat} {w w' : World} (h : Only c w w') : Bt (fun k => k = c) w w' := ⟨h.os, h.tape, h.output, by rw [h.size]; exact Nat.le_refl _, fun k hk hs => h.block k hs⟩
theorem Arr.bt {w w' : World} {b n : Nat} {f : Nat → Int} {S : Nat → Prop} (h : Arr w b n f) (k : Bt S w w') (hs : ¬ S b) : Arr w' b n f := by
  intro i hi
  have hlt := h.lt (Nat.lt_of_le_of_lt (Nat.zero_le i) hi)
  exact ⟨k.cell hs (h i hi).1, (World.frozen?_of_block (a := ⟨b, i, none⟩) (k.block b hlt hs)).trans (h i hi).2⟩

/-- m owners beside one another. -/
def Many (m : Nat) (R : Nat → Res) : Res := fun w F => ∃ Fs : Nat → Nat → Prop, (∀ i, i < m → R i w (Fs i)) ∧ (∀ i j k, i < m → j < m → Fs i k → Fs j k → i = j) ∧ ∀ k, F k ↔ ∃ i, i < m ∧ Fs i k
section
variable {base m : Nat} {R : Nat → Res} {w : World} {F : Nat → Prop}
theorem Many.fr (f : ∀ i, i < m → Fr base (R i)) : Fr base (Many m R) := by
  refine ⟨fun h b hs hb => ?_, fun h hk => ?_⟩
  · obtain ⟨Fs, h1, h2, h3⟩ := h
    exact ⟨Fs, fun i hi => (f i hi).btw (h1 i hi) b (fun k hk => hs k ((h3 k).2 ⟨i, hi, hk⟩)) hb, h2, h3⟩
  · obtain ⟨Fs, h1, h2, h3⟩ := h
    obtain ⟨i, hi, hk⟩ := (h3 _).1 hk
    exact (f i hi).lt (h1 i hi) hk
/-- One of them steps; it may take over what nobody had. -/
theorem Many.steps (f : ∀ i, i < m → Fr base (R i)) {Fs : Nat → Nat → Prop} (h1 : ∀ i, i < m → R i w (Fs i)) (h2 : ∀ i j k, i < m → j < m → Fs i k → Fs j k → i = j) (h3 : ∀ k, F k ↔ ∃ i, i < m ∧ Fs i k)
    (n : Nat) (hn : n < m) (R' : Nat → Res) (hR : ∀ i, i < m → i ≠ n → R' i = R i) {w' : World} {G : Nat → Prop} (hG : R' n w' G) (st : Bt (Fs n) w w') (hnew : ∀ k, G k → Fs n k ∨ ¬ F k) : ∃ F', Many m R' w' F' ∧ Bt F w w' ∧ ∀ k, F' k → G k ∨ F k := by
  refine ⟨fun k => G k ∨ ∃ i, i < m ∧ i ≠ n ∧ Fs i k, ⟨fun i k => if i = n then G k else Fs i k, fun i hi => ?_, fun i j k hi hj a b => ?_, fun k => ?_⟩, st.mono (fun k _ hk => (h3 k).2 ⟨n, hn, hk⟩), fun k hk => hk.imp id (fun ⟨i, hi, _, a⟩ => (h3 k).2 ⟨i, hi, a⟩)⟩
  · by_cases e : i = n
    · subst e; simpa using hG
    · simp only [if_neg e]
      rw [hR i hi e]
      exact (f i hi).btw (h1 i hi) st (fun k hk q => e (h2 i n k hi hn hk q)) (fun k hk => ((f n hn).lt (h1 n hn) hk).1)
  · by_cases e : i = n <;> by_cases e' : j = n
    · omega
    · simp only [if_pos e, if_neg e'] at a b
      rcases hnew k a with q | q
      · exact absurd (h2 n j k hn hj q b) (fun e2 => e' e2.symm)
      · exact absurd ((h3 k).2 ⟨j, hj, b⟩) q
    · simp only [if_neg e, if_pos e'] at a b
      rcases hnew k b with q | q
      · exact absurd (h2 n i k hn hi q a) (fun e2 => e e2.symm)
      · exact absurd ((h3 k).2 ⟨i, hi, a⟩) q
    · simp only [if_neg e, if_neg e'] at a b
      exact h2 i j k hi hj a b
  · constructor
    · rintro (a | ⟨i, hi, e, a⟩)
      · exact ⟨n, hn, by simpa using a⟩
      · exact ⟨i, hi, by simpa [if_neg e] using a⟩
    · rintro ⟨i, hi, a⟩
      by_cases e : i = n
      · subst e; exact .inl (by simpa using a)
      · exact .inr ⟨i, hi, e, by simpa [if_neg e] using a⟩
/-- One of them steps. -/
theorem Many.step (f : ∀ i, i < m → Fr base (R i)) {Fs : Nat → Nat → Prop} (h1 : ∀ i, i < m → R i w (Fs i)) (h2 : ∀ i j k, i < m → j < m → Fs i k → Fs j k → i = j) (h3 : ∀ k, F k ↔ ∃ i, i < m ∧ Fs i k)
    (n : Nat) (hn : n < m) (R' : Nat → Res) (hR : ∀ i, i < m → i ≠ n → R' i = R i) {w' : World} {G : Nat → Prop} (hG : R' n w' G) (st : Stp w (Fs n) w' G) : ∃ F', Many m R' w' F' ∧ Stp w F w' F' ∧ ∀ k, F' k → G k ∨ F k := by
  obtain ⟨F', q1, q2, q3⟩ := Many.steps f h1 h2 h3 n hn R' hR hG st.bt (fun k hk => (st.new k hk).imp id (fun q e => by
    obtain ⟨i, hi, a⟩ := (h3 k).1 e
    have := ((f i hi).lt (h1 i hi) a).2; omega))
  refine ⟨F', q1, ⟨q2, fun k hk => ?_⟩, q3⟩
  rcases q3 k hk with e | e
  · exact (st.new k e).imp (fun q => (h3 k).2 ⟨n, hn, q⟩) id
  · exact .inl e
end

/-- The filter's block. -/
def XB (w : World) (xb B R W acc sb ab kb : Nat) (tv nv : Value) (pend : Int) : Prop :=
  w.heap[xb]? = some (.cells #[.int .i64 B, .int .i64 R, .int .i64 W, .int .i64 acc, .pointer (some ⟨sb, 0, none⟩), .pointer (some ⟨ab, 0, none⟩), .pointer (some ⟨kb, 0, none⟩), tv, nv, .int .i64 pend] 63 (0, 0))
section
variable {w : World} {xb B R W acc sb ab kb : Nat} {tv nv : Value} {pend : Int}
theorem XB.c0 (h : XB w xb B R W acc sb ab kb tv nv pend) : w.cell? ⟨xb, 0, none⟩ = some (.int .i64 B) := by unfold XB at h; simp [World.cell?, h]
theorem XB.c1 (h : XB w xb B R W acc sb ab kb tv nv pend) : w.cell? ⟨xb, 1, none⟩ = some (.int .i64 R) := by unfold XB at h; simp [World.cell?, h]
theorem XB.c2 (h : XB w xb B R W acc sb ab kb tv nv pend) : w.cell? ⟨xb, 2, none⟩ = some (.int .i64 W) := by unfold XB at h; simp [World.cell?, h]
theorem XB.c3 (h : XB w xb B R W acc sb ab kb tv nv pend) : w.cell? ⟨xb, 3, none⟩ = some (.int .i64 acc) := by unfold XB at h; simp [World.cell?, h]
theorem XB.c4 (h : XB w xb B R W acc sb ab kb tv nv pend) : w.cell? ⟨xb, 4, none⟩ = some (.pointer (some ⟨sb, 0, none⟩)) := by unfold XB at h; simp [World.cell?, h]
theorem XB.c5 (h : XB w xb B R W acc sb ab kb tv nv pend) : w.cell? ⟨xb, 5, none⟩ = some (.pointer (some ⟨ab, 0, none⟩)) := by unfold XB at h; simp [World.cell?, h]
theorem XB.c6 (h : XB w xb B R W acc sb ab kb tv nv pend) : w.cell? ⟨xb, 6, none⟩ = some (.pointer (some ⟨kb, 0, none⟩)) := by unfold XB at h; simp [World.cell?, h]
theorem XB.c7 (h : XB w xb B R W acc sb ab kb tv nv pend) : w.cell? ⟨xb, 7, none⟩ = some tv := by unfold XB at h; simp [World.cell?, h]
theorem XB.c8 (h : XB w xb B R W acc sb ab kb tv nv pend) : w.cell? ⟨xb, 8, none⟩ = some nv := by unfold XB at h; simp [World.cell?, h]
theorem XB.c9 (h : XB w xb B R W acc sb ab kb tv nv pend) : w.cell? ⟨xb, 9, none⟩ = some (.int .i64 pend) := by unfold XB at h; simp [World.cell?, h]
theorem XB.fz (h : XB w xb B R W acc sb ab kb tv nv pend) (o : Nat) : w.frozen? ⟨xb, o, none⟩ = false := by unfold XB at h; simp [World.frozen?, h]
theorem XB.lt (h : XB w xb B R W acc sb ab kb tv nv pend) : xb < w.heap.size := lt_of_some h
theorem XB.bt {w' : World} {S : Nat → Prop} (h : XB w xb B R W acc sb ab kb tv nv pend) (k : Bt S w w') (hs : ¬ S xb) : XB w' xb B R W acc sb ab kb tv nv pend := k.heap hs h
theorem XB.set3 (h : XB w xb B R W acc sb ab kb tv nv pend) (a : Nat) : XB (w.setCell ⟨xb, 3, none⟩ (.int .i64 a)) xb B R W a sb ab kb tv nv pend := by
  unfold XB at h ⊢; rw [setCell_eq_setRow w xb 3 _ 63 (0, 0) _ h]; exact setRow_heap w xb _ _ 63 _ h
theorem XB.set7 (h : XB w xb B R W acc sb ab kb tv nv pend) (v : Value) : XB (w.setCell ⟨xb, 7, none⟩ v) xb B R W acc sb ab kb v nv pend := by
  unfold XB at h ⊢; rw [setCell_eq_setRow w xb 7 _ 63 (0, 0) _ h]; exact setRow_heap w xb _ _ 63 _ h
theorem XB.set8 (h : XB w xb B R W acc sb ab kb tv nv pend) (v : Value) : XB (w.setCell ⟨xb, 8, none⟩ v) xb B R W acc sb ab kb tv v pend := by
  unfold XB at h ⊢; rw [setCell_eq_setRow w xb 8 _ 63 (0, 0) _ h]; exact setRow_heap w xb _ _ 63 _ h
theorem XB.set9 (h : XB w xb B R W acc sb ab kb tv nv pend) (p : Int) : XB (w.setCell ⟨xb, 9, none⟩ (.int .i64 p)) xb B R W acc sb ab kb tv nv p := by
  unfold XB at h ⊢; rw [setCell_eq_setRow w xb 9 _ 63 (0, 0) _ h]; exact setRow_heap w xb _ _ 63 _ h
end

/-- Spectra: where they lie. -/
def sl (n b : Nat) : Value := .slice (some ⟨b, 0, none⟩) n n
def sls (n : Nat) (bs : List Nat) : List (List Value) := bs.map fun b => [sl n b]
theorem sls_len (n : Nat) (bs : List Nat) : (sls n bs).length = bs.length := by simp [sls]
theorem sls_el (n : Nat) (bs : List Nat) : El 1 (sls n bs) := by
  intro e he
  simp only [sls, List.mem_map] at he
  obtain ⟨x, _, rfl⟩ := he
  exact ⟨rfl, fun v hv => by simp at hv; subst hv; rfl⟩
theorem sls_app (n : Nat) (a b : List Nat) : sls n (a ++ b) = sls n a ++ sls n b := by simp [sls]
theorem sls_flat (n : Nat) (bs : List Nat) : (sls n bs).flatten = bs.map (sl n) := by
  induction bs with
  | nil => rfl
  | cons a l ih => show [sl n a] ++ (sls n l).flatten = _; rw [ih]; rfl
def Sps (w : World) (n : Nat) (bs : List Nat) (f : Nat → Nat → Int) : Prop := ∀ i b, bs[i]? = some b → Arr w b n (f i)
theorem Sps.bt {w w' : World} {n : Nat} {bs : List Nat} {f : Nat → Nat → Int} {S : Nat → Prop} (h : Sps w n bs f) (k : Bt S w w') (hs : ∀ b, b ∈ bs → ¬ S b) : Sps w' n bs f := fun i b hb => (h i b hb).bt k (hs b (List.mem_of_getElem? hb))
theorem Sps.lt {w : World} {n : Nat} {bs : List Nat} {f : Nat → Nat → Int} (h : Sps w n bs f) (hn : 0 < n) {b : Nat} (hb : b ∈ bs) : b < w.heap.size := by
  obtain ⟨i, hi⟩ := List.getElem?_of_mem hb
  exact (h i b hi).lt hn

/-- A ring of numbers: an owner. -/
def RI (base rb : Nat) (room : Nat) (L : List Int) : Res := fun w F => ∃ gb, Ring 88 3 1 131072 w rb gb room (ints L) ∧ base ≤ rb ∧ base ≤ gb ∧ ∀ k, F k ↔ k = rb ∨ k = gb
theorem RI.fr (base rb room : Nat) (L : List Int) : Fr base (RI base rb room L) := by
  refine ⟨fun h b hs _ => ?_, fun h hk => ?_⟩
  · obtain ⟨gb, h1, h2, h3, h4⟩ := h
    exact ⟨gb, h1.bt b (hs rb ((h4 rb).2 (.inl rfl))) (hs gb ((h4 gb).2 (.inr rfl))), h2, h3, h4⟩
  · obtain ⟨gb, h1, h2, h3, h4⟩ := h
    have := h1.lt
    rcases (h4 _).1 hk with rfl | rfl
    · exact ⟨h2, this.1⟩
    · exact ⟨h3, this.2⟩
/-- The last blocks, as spectra: an owner. n = 2^K is twice a block, room how many the ring takes, nb how many there were. -/
def KR (base kb B K room nb : Nat) (z : Nat → Int) : Res := fun w F => ∃ gb bs, Ring 90 59 1 131072 w kb gb room (sls (2 ^ K) bs) ∧ bs.length = min nb room ∧ Sps w (2 ^ K) bs (fun i => dft K (blk B z (nb - bs.length + i))) ∧ base ≤ kb ∧ base ≤ gb ∧ (∀ b ∈ bs, base ≤ b ∧ b ≠ kb ∧ b ≠ gb) ∧ ∀ k, F k ↔ k = kb ∨ k = gb ∨ k ∈ bs
theorem KR.fr (base kb B K room nb : Nat) (z : Nat → Int) : Fr base (KR base kb B K room nb z) := by
  refine ⟨fun h b hs _ => ?_, fun h hk => ?_⟩
  · obtain ⟨gb, bs, h1, h2, h3, h4, h5, h6, h7⟩ := h
    exact ⟨gb, bs, h1.bt b (hs kb ((h7 kb).2 (.inl rfl))) (hs gb ((h7 gb).2 (.inr (.inl rfl)))), h2, h3.bt b (fun x hx => hs x ((h7 x).2 (.inr (.inr hx)))), h4, h5, h6, h7⟩
  · obtain ⟨gb, bs, h1, h2, h3, h4, h5, h6, h7⟩ := h
    have := h1.lt
    rcases (h7 _).1 hk with rfl | rfl | e
    · exact ⟨h4, this.1⟩
    · exact ⟨h5, this.2⟩
    · exact ⟨(h6 _ e).1, h3.lt (Nat.two_pow_pos K) e⟩
/-- How many windows so many taps have. -/
def wins (L B : Nat) : Nat := (L + B - 2) / B + 1
/-- Taps as windows of spectra, at tv: an owner. -/
def TR (base B K : Nat) (tv : Value) (l : List Int) : Res := fun w F => ∃ tb bs, tv = .slice (some ⟨tb, 0, none⟩) (List.length bs) (List.length bs) ∧ bs.length = wins l.length B ∧ Rw w tb 59 (sls (2 ^ K) bs) ∧ Sps w (2 ^ K) bs (fun j => dft K (win B (at0 l) j)) ∧ base ≤ tb ∧ (∀ b ∈ bs, base ≤ b) ∧ ∀ k, F k ↔ k = tb ∨ k ∈ bs
theorem TR.fr (base B K : Nat) (tv : Value) (l : List Int) : Fr base (TR base B K tv l) := by
  refine ⟨fun h b hs _ => ?_, fun h hk => ?_⟩
  · obtain ⟨tb, bs, h1, h2, h3, h4, h5, h6, h7⟩ := h
    exact ⟨tb, bs, h1, h2, h3.bt b (hs tb ((h7 tb).2 (.inl rfl))), h4.bt b (fun x hx => hs x ((h7 x).2 (.inr hx))), h5, h6, h7⟩
  · obtain ⟨tb, bs, h1, h2, h3, h4, h5, h6, h7⟩ := h
    rcases (h7 _).1 hk with rfl | e
    · exact ⟨h5, h3.lt⟩
    · exact ⟨h6 _ e, h4.lt (Nat.two_pow_pos K) e⟩
/-- The taps of the swap that is pending, if there is one. -/
def NR (base B K : Nat) (nv : Value) : Option (List Int) → Res
  | none => fun w F => nv = .slice none 0 0 ∧ ∀ k, ¬ F k
  | some l => TR base B K nv l
theorem NR.fr (base B K : Nat) (nv : Value) (l : Option (List Int)) : Fr base (NR base B K nv l) := by
  cases l with
  | none => exact ⟨fun h _ _ _ => h, fun h hk => absurd hk (h.2 _)⟩
  | some l => exact TR.fr _ _ _ _ _

end Go.Proofs.YtddpcjgekfmhkabDoor

/- A shelf that is used again and again. -/
namespace Go.Proofs.YtddpcjgekfmhkabDoor
open Go.RowKit Go.Maps
set_option linter.unusedSimpArgs false
set_option linter.unusedVariables false

theorem Shelf.bt {w w' : World} {sb mb k : Nat} {D : DataW Unit} {S : Nat → Prop} (h : Shelf w sb mb k D) (g : Bt S w w') (h1 : ¬ S sb) (h2 : ¬ S mb) : Shelf w' sb mb k D := by
  refine ⟨g.cell h1 h.cell, ?_⟩
  obtain ⟨es, clock, hb, r⟩ := h.own
  exact ⟨es, clock, g.heap h2 hb, r⟩
/-- The shelf and its table, as an owner: its blocks are new ones, behind base. -/
def ShR (base n K shb mb k : Nat) : Res := fun w F => ∃ k' D, k' ≤ k ∧ Shelf w shb mb k' D ∧ base ≤ shb ∧ base ≤ mb ∧ shb ≠ mb ∧ ((D = .map [] ∧ ∀ i, F i ↔ i = shb ∨ i = mb) ∨ ∃ tb, Holds D n tb ∧ Arr w tb n (fun i => pw (rootk K) i) ∧ tb ≠ mb ∧ base ≤ tb ∧ ∀ i, F i ↔ i = shb ∨ i = mb ∨ i = tb)
theorem ShR.fr (base n K shb mb k : Nat) (hn : 0 < n) : Fr base (ShR base n K shb mb k) := by
  refine ⟨fun h b hs _ => ?_, fun h hk => ?_⟩
  · obtain ⟨k', D, h1, h2, h3, h4, h5, ⟨e, h6⟩ | ⟨tb, g1, g2, g3, g4, g5⟩⟩ := h
    · exact ⟨k', D, h1, h2.bt b (hs _ ((h6 _).2 (.inl rfl))) (hs _ ((h6 _).2 (.inr rfl))), h3, h4, h5, .inl ⟨e, h6⟩⟩
    · exact ⟨k', D, h1, h2.bt b (hs _ ((g5 _).2 (.inl rfl))) (hs _ ((g5 _).2 (.inr (.inl rfl)))), h3, h4, h5, .inr ⟨tb, g1, g2.bt b (hs _ ((g5 _).2 (.inr (.inr rfl)))), g3, g4, g5⟩⟩
  · obtain ⟨k', D, h1, h2, h3, h4, h5, ⟨e, h6⟩ | ⟨tb, g1, g2, g3, g4, g5⟩⟩ := h
    · have := h2.lt
      rcases (h6 _).1 hk with rfl | rfl
      · exact ⟨h3, this.1⟩
      · exact ⟨h4, this.2⟩
    · have := h2.lt
      rcases (g5 _).1 hk with rfl | rfl | rfl
      · exact ⟨h3, this.1⟩
      · exact ⟨h4, this.2⟩
      · exact ⟨g4, g2.lt hn⟩
theorem ShR.lts {base n K shb mb k : Nat} {w : World} {F : Nat → Prop} (h : ShR base n K shb mb k w F) : F shb ∧ F mb ∧ base ≤ shb ∧ base ≤ mb ∧ shb < w.heap.size ∧ mb < w.heap.size := by
  obtain ⟨k', D, h1, h2, h3, h4, h5, ⟨e, h6⟩ | ⟨tb, g1, g2, g3, g4, g5⟩⟩ := h
  · exact ⟨(h6 _).2 (.inl rfl), (h6 _).2 (.inr rfl), h3, h4, h2.lt⟩
  · exact ⟨(g5 _).2 (.inl rfl), (g5 _).2 (.inr (.inl rfl)), h3, h4, h2.lt⟩
theorem ShR.mono {base n K shb mb k k' : Nat} {w : World} {F : Nat → Prop} (h : ShR base n K shb mb k w F) (hk : k ≤ k') : ShR base n K shb mb k' w F := by
  obtain ⟨j, D, h1, h2⟩ := h
  exact ⟨j, D, by omega, h2⟩
theorem ShR.new {w w' : World} (n K : Nat) (base : Nat) (hb : base ≤ w.heap.size) (hs : Shelf w' (w.heap.size + 1) w.heap.size 0 (.map [])) : ShR base n K (w.heap.size + 1) w.heap.size 0 w' (fun k => k = w.heap.size + 1 ∨ k = w.heap.size) :=
  ⟨0, .map [], Nat.le_refl _, hs, by omega, hb, by omega, .inl ⟨rfl, fun _ => Iff.rfl⟩⟩

/-- What a transform gives: a new row; the shelf steps. -/
def TraQ (base n K shb mb k : Nat) (inv : Bool) (f : Nat → Int) (w : World) (G : Nat → Prop) (e : Ending) (w' : World) : Prop :=
  ∃ ob G', e = .returned (.slice (some ⟨ob, 0, none⟩) n n) ∧ Arr w' ob n (trans K inv f) ∧ w.heap.size ≤ ob ∧ ShR base n K shb mb (k + 1) w' G' ∧ Bt (fun i => i = mb) w w' ∧ (∀ i, G' i → G i ∨ w.heap.size ≤ i) ∧ ¬ G' ob
theorem tra (base n K shb mb k : Nat) (hK : K ≤ 10) (hn : 2 ^ K = n) (hb1 : 1 < base) {w : World} {G : Nat → Prop} (hs : ShR base n K shb mb k w G) (hk : k ≤ 1000000) (ht : Tab w) (b cap : Nat) (f : Nat → Int) (inv : Bool) (ha : Arr w b n f) (hf : Elems n f) (hbG : ¬ G b) :
    Calls Tryd.prog 41 #[.pointer (some ⟨shb, 0, none⟩), .slice (some ⟨b, 0, none⟩) n cap, .bool inv] w fun e w' => TraQ base n K shb mb k inv f w G e w' := by
  subst hn
  obtain ⟨k', D, h1, h2, h3, h4, h5, ⟨rfl, h6⟩ | ⟨tb, g1, g2, g3, g4, g5⟩⟩ := hs
  · refine (transform_any K shb mb k' b cap f (.map []) inv w hK (by omega) ht ha hf h2 rfl).mono ?_
    rintro e w' ⟨rfl, D1⟩
    have l1 := h2.lt
    have s1 := D1.size
    refine ⟨w.heap.size + 1, fun i => i = shb ∨ i = mb ∨ i = w.heap.size, rfl, D1.out, by omega, ⟨k' + 1, _, by omega, D1.shelf, h3, h4, h5, .inr ⟨w.heap.size, Holds.put isMap_empty _ _, D1.tab, by omega, by omega, fun _ => Iff.rfl⟩⟩, D1.but.bt, fun i hi => ?_, fun hi => ?_⟩
    · rcases hi with rfl | rfl | rfl
      · exact .inl ((h6 _).2 (.inl rfl))
      · exact .inl ((h6 _).2 (.inr rfl))
      · exact .inr (Nat.le_refl _)
    · omega
  · have bm : b ≠ mb := fun e => hbG (by rw [e]; exact (g5 _).2 (.inr (.inl rfl)))
    refine (transform_hit K shb mb k' b cap tb f D inv w hK (by omega) ht ha hf h2 g1 g2 bm (by omega) g3).mono ?_
    rintro e w' ⟨rfl, D1⟩
    have l1 := h2.lt
    have l2 := g2.lt (Nat.two_pow_pos K)
    have s1 := D1.size
    refine ⟨w.heap.size, G, rfl, D1.out, Nat.le_refl _, ⟨k' + 1, _, by omega, D1.shelf, h3, h4, h5, .inr ⟨tb, Holds.put (g1.map.del _) _ _, D1.tab, g3, g4, g5⟩⟩, D1.but.bt, fun i hi => .inl hi, fun hi => ?_⟩
    rcases (g5 _).1 hi with e | e | e <;> omega
theorem TraQ.stp {base n K shb mb k : Nat} {inv : Bool} {f : Nat → Int} {w : World} {G : Nat → Prop} {e : Ending} {w' : World} (h : TraQ base n K shb mb k inv f w G e w') (hs : ShR base n K shb mb k w G) :
    ∃ ob G', e = .returned (.slice (some ⟨ob, 0, none⟩) n n) ∧ Arr w' ob n (trans K inv f) ∧ w.heap.size ≤ ob ∧ ShR base n K shb mb (k + 1) w' G' ∧ Stp w G w' G' ∧ ¬ G' ob := by
  obtain ⟨ob, G', h1, h2, h3, h4, h5, h6, h7⟩ := h
  exact ⟨ob, G', h1, h2, h3, h4, ⟨h5.mono (fun i _ e => by rw [e]; exact hs.lts.2.1), h6⟩, h7⟩
end Go.Proofs.YtddpcjgekfmhkabDoor
