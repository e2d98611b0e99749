/- Texts joined: RingCI RingDI RingAU RingBU. -/
import Derived.Test.YtddpcjgekfmhkabDoorM09
import Derived.Test.YtddpcjgekfmhkabDoorM01
import Derived.Test.YtddpcjgekfmhkabDoorProg

/- A ring of int: New, Len, Put, walked. -/
namespace Go.Proofs.YtddpcjgekfmhkabDoor
open Go.RowKit
set_option linter.unusedSimpArgs false
set_option linter.unusedVariables false

theorem newI (M : Nat) (room : Int) (w : World) (h2 : room ≤ 9223372036854775807) :
    Calls Tryd.prog 24 #[.int .i64 room] w fun e w' => e = .returned (.pointer (some ⟨w.heap.size, 0, none⟩)) ∧ Ring 88 3 1 M w' w.heap.size w.heap.size (max room 0) [] ∧ Bt (fun _ => False) w w' ∧ w'.heap.size = w.heap.size + 1 := by
  have HR : ∀ r : Int, 0 ≤ r → r ≤ 9223372036854775807 → Hid (Ring 88 3 1 M (w.alloc (.cells #[.int .i64 r, .slice none 0 0, .int .i64 0, .int .i64 0] 88)) w.heap.size w.heap.size r []) := by
    intro r h0 h1
    refine ⟨[], 0, ⟨⟨Nat.le_refl _, .inr ⟨rfl, rfl⟩, fun i hi => by simp at hi⟩, fun e he => by simp at he, fun e he => by simp at he, Nat.zero_le _, ?_, fun h => by simp at h, h0, h1⟩, fun _ => rfl⟩
    show (w.heap.push _)[w.heap.size]? = _
    simp
  by_cases h0 : 0 ≤ room
  · have e : max room 0 = room := by omega
    rw [e]
    have HX := HR room h0 h2
    clear HR e
    go_enter Tryd.func24, Tryd.ntmps24
    go_wp2
    go_ret
    exact ⟨rfl, HX.out, (Bt.refl _ _).alloc _, by simp⟩
  · have e : max room 0 = 0 := by omega
    rw [e]
    have HX := HR 0 (Int.le_refl _) (by omega)
    clear HR e
    go_enter Tryd.func24, Tryd.ntmps24
    go_wp2
    go_ret
    exact ⟨rfl, HX.out, (Bt.refl _ _).alloc _, by simp⟩

theorem lenI (M rb gb : Nat) (room : Int) (L : List (List Value)) (w : World) (h : Ring 88 3 1 M w rb gb room L) :
    Calls Tryd.prog 31 #[.pointer (some ⟨rb, 0, none⟩)] w fun e w' => e = .returned (.int .i64 L.length) ∧ w' = w := by
  obtain ⟨C, f, h, hgb⟩ := h
  have c3 := h.blk.c3
  clear h hgb
  go_enter Tryd.func31, Tryd.ntmps31
  go_wp2
  go_ret
  exact ⟨rfl, rfl⟩

theorem run_copy_zeroI (w : World) (dp sp : Option Addr) (dLen dCap sLen sCap : Nat) (h0 : Nat.min sLen dLen = 0) :
    (Builtin.copy_ #[24, 24] 3 #[.slice dp dLen dCap, .slice sp sLen sCap]).run Tryd.prog w = .ok (goInt ((0 : Nat))) w := by
  obtain ⟨i, hq, hi⟩ : ∃ i, Tryd.prog.info? 3 = some i ∧ i.size = 1 := by
    have hsz := sizeI
    cases hq : Tryd.prog.info? 3 with
    | none => simp [hq] at hsz
    | some i => exact ⟨i, rfl, by simpa [hq] using hsz⟩
  cases dp <;> cases sp <;> simp [Builtin.copy_, run_underlying Tryd.underlying24, Builtin.lenOf, Builtin.firstCells, sizeOf, typeInfo, hq, h0, loadCells, loadCellsFrom, storeCells]

def PutQI (M : Nat) (w w' : World) (rb gb : Nat) (room : Int) (L : List (List Value)) : Prop :=
  ∃ gb', Ring 88 3 1 M w' rb gb' room L ∧ (gb' = gb ∨ w.heap.size ≤ gb') ∧ Bt (fun k => k = rb ∨ k = gb) w w'

/-- What lies behind grow, in Put. -/
def PgQI (M k : Nat) (w w2 : World) (rb gb gb' : Nat) (room : Int) (C : List (List Value)) (f : Nat) (L : List (List Value)) : Prop :=
  RingAt 88 3 1 M w2 rb gb' room C f L ∧ (C.length = 0 → gb' = rb) ∧ L.length + k ≤ C.length ∧ (gb' = gb ∨ w.heap.size ≤ gb') ∧ Bt (fun k => k = rb) w w2
/-- The list that is put in. -/
def SrQI (w : World) (rb gb b o len : Nat) (X : List (List Value)) : Prop := Src w (some ⟨b, o, none⟩) X ∧ El 1 X ∧ X.length = len ∧ b ≠ rb ∧ b ≠ gb ∧ b < w.heap.size

theorem put_copiesI {M k : Nat} {w w2 : World} {rb gb gb' : Nat} {room : Int} {C : List (List Value)} {f : Nat} {L X : List (List Value)} (H : PgQI M k w w2 rb gb gb' room C f L) {b o len : Nat} (HS : SrQI w rb gb b o len X) (hkl : k ≤ len) (hkr : (L.length : Int) + k ≤ room)
    {s st : Nat} (hs : pos f C.length L.length = s) (hst : st = Nat.min k (C.length - s)) {hp tp : Option Addr} (q : PcQ gb' 1 C.length s hp tp) (m d0 d1 cap cap' : Nat) (lp' : Option Addr) (hlp : st < len → lp' = some ⟨b, o + st * 1, none⟩) :
    ∃ w4 w5, (Builtin.copy_ #[24, 24] 3 #[.slice hp st d0, .slice (some ⟨b, o, none⟩) len cap]).run Tryd.prog (w2.drewN m) = .ok (goInt st) w4 ∧
      (Builtin.copy_ #[24, 24] 3 #[.slice tp (k - st) d1, .slice lp' (len - st) cap']).run Tryd.prog w4 = .ok (goInt ((k - st : Nat))) w5 ∧
      w5.cell? ⟨rb, 3, none⟩ = some (.int .i64 L.length) ∧ w5.frozen? ⟨rb, 3, none⟩ = false ∧ Hid (PutQI M w (w5.setCell ⟨rb, 3, none⟩ (.int .i64 ((L.length : Int) + k))) rb gb room (L ++ X.take k)) := by
  rw [← Int.natCast_add]
  obtain ⟨h, hgb', hfit, hg, bt⟩ := H
  obtain ⟨hX, eX, lX, b1, b2, b3⟩ := HS
  have hst' : st = min k (C.length - s) := hst
  have sX : Src (w2.drewN m) (some ⟨b, o, none⟩) X := hX.bt (bt.drewN m) (by intro b' o' e; simp at e; omega)
  have hCf := h.circ.first
  have hCl := h.circ.le
  have bg : gb' ≠ b := by rcases hg with rfl | hg <;> omega
  have hlen : (X.take k).length = k := by simp; omega
  have e1 : (X.take k).take st = X.take st := by rw [List.take_take]; congr 1; omega
  have l1 : (X.take st).length = st := by simp; omega
  have l2 : ((X.take k).drop st).length = k - st := by simp; omega
  by_cases h0 : C.length = 0
  · obtain rfl : k = 0 := by omega
    obtain rfl : st = 0 := by omega
    obtain ⟨rfl, rfl⟩ := q.2 h0
    have rr := h.blk
    refine ⟨w2.drewN m, w2.drewN m, ?_, ?_, rr.c3, rr.fr 3, gb', ⟨C, f, ?_, hgb'⟩, hg, ?_⟩
    · exact run_copy_zeroI _ _ _ _ _ _ _ (Nat.min_zero _)
    · exact run_copy_zeroI _ _ _ _ _ _ _ (Nat.min_zero _)
    · refine ⟨by simpa using h.circ, h.elC, by simpa using h.elL, h.small, by simpa using (rr.drewN m).set3 (L.length + 0), fun hc => by omega, by simpa using h.le, h.roomM⟩
    · exact ((bt.mono (T := fun k => k = rb ∨ k = gb) (fun _ _ x => .inl x)).drewN m).setCell (fun _ => .inl rfl) _
  · have h1 : 0 < C.length := by omega
    obtain ⟨rfl, rfl⟩ := q.1 h1
    obtain ⟨row, hne⟩ := h.row h1
    have hsl : s < C.length := by rw [← hs]; exact h.circ.pos_lt hCl h1
    obtain ⟨w4, r4, k4, b4, z4⟩ := copy_ex (P := Tryd.prog) (w := w2.drewN m) 24 24 3 3 1 Tryd.underlying24 sizeI (some ⟨gb', s * 1, none⟩) (some ⟨b, o, none⟩) st d0 len cap gb' s C 3 row h.elC (X.take st) (eX.take st) (by rw [l1]; exact (Nat.min_eq_right (by omega)).symm) (fun _ => rfl) (sX.take eX st) (by omega)
    have s4 : Src w4 lp' ((X.take k).drop st) := by
      have t1 : Src w4 (some ⟨b, o, none⟩) X := sX.bt b4 (by intro b' o' e; simp at e; omega)
      exact (t1.take eX k).drop (eX.take k) st (by
        intro hk b' o' e
        simp at e
        obtain ⟨rfl, rfl⟩ := e
        exact hlp (by omega))
    have lc : (splice C s (X.take st)).length = C.length := length_splice _ _ _ (by omega)
    obtain ⟨w5, r5, k5, b5, z5⟩ := copy_ex (P := Tryd.prog) (w := w4) 24 24 3 3 1 Tryd.underlying24 sizeI (some ⟨gb', 0, none⟩) lp' (k - st) d1 (len - st) cap' gb' 0 _ 3 k4 (h.elC.spl (eX.take st) s) ((X.take k).drop st) ((eX.take k).drop st) (by rw [l2]; exact (Nat.min_eq_right (by omega)).symm) (fun _ => by simp) s4 (by omega)
    rw [l1] at r4
    rw [l2] at r5
    have b25 : Bt (fun k => k = gb') w2 w5 := (((Bt.refl _ w2).drewN m).trans b4 (fun _ _ x => x)).trans b5 (fun _ _ x => x)
    have rr := h.blk.bt b25 (fun e => hne e.symm)
    have hci := h.circ.put (X := X.take k) (by omega)
    rw [hs, hlen, ← hst, e1] at hci
    have lcc : (splice (splice C s (X.take st)) 0 ((X.take k).drop st)).length = C.length := (length_splice _ _ _ (by omega)).trans lc
    have bfin : Bt (fun k => k = rb ∨ k = gb') w2 (w5.setCell ⟨rb, 3, none⟩ (.int .i64 ((L.length + k : Nat)))) := (b25.mono (T := fun k => k = rb ∨ k = gb') (fun _ _ x => .inr x)).setCell (fun _ => .inl rfl) _
    refine ⟨w4, w5, r4, r5, rr.c3, rr.fr 3, gb', ⟨_, f, ⟨hci, (h.elC.spl (eX.take st) s).spl ((eX.take k).drop st) 0, h.elL.append (eX.take k), by rw [lcc]; exact h.small, ?_, fun _ => ⟨?_, hne⟩, by simp; omega, h.roomM⟩, fun e => by omega⟩, hg, ?_⟩
    · rw [lcc, List.length_append, hlen]; exact rr.set3 (L.length + k)
    · exact Rw.bt k5 ((Bt.refl (fun k => k = rb) w5).setCell (fun _ => rfl) _) hne
    · exact (bt.mono (T := fun k => k = rb ∨ k = gb) (fun _ _ x => .inl x)).trans bfin (by intro i hi hx; rcases hg with rfl | hg; exact hx; omega)

set_option maxHeartbeats 1000000 in
set_option maxRecDepth 20000 in
theorem putCI (rb gb M : Nat) (room : Int) (L X : List (List Value)) (b o len cap k : Nat) (w : World) (h : Ring 88 3 1 M w rb gb room L) (hM : M ≤ 8796093022208) (hX : Src w (some ⟨b, o, none⟩) X) (eX : El 1 X) (lX : X.length = len) (hlen : len ≤ 281474976710656) (hcap : len ≤ cap)
    (hnb : b ≠ rb ∧ b ≠ gb ∧ b < w.heap.size) (hk : k = min len (room.toNat - L.length)) (hkM : L.length + k ≤ M) :
    Calls Tryd.prog 47 #[.pointer (some ⟨rb, 0, none⟩), .slice (some ⟨b, o, none⟩) len cap] w fun e w' => e = .returned (.int .i64 k) ∧ PutQI M w w' rb gb room (L ++ X.take k) := by
  have hle := h.le
  have hlt := h.lt
  obtain ⟨C, f, h0, hgb⟩ := id h
  have hroom := h0.roomM
  have c0 := h0.blk.c0
  have c3 := h0.blk.c3
  have hkr : (L.length : Int) + k ≤ room := by omega
  have CG : Calls Tryd.prog 79 #[.pointer (some ⟨rb, 0, none⟩), .int .i64 ((L.length : Int) + k)] w.drew fun e w' => e = .returned (.tuple #[]) ∧ ∃ gb' C f, w'.cell? ⟨rb, 3, none⟩ = some (.int .i64 L.length) ∧ Hid (PgQI M k w w' rb gb gb' room C f L) := by
    have hb : Bt (fun _ => False) w w.drew := (Bt.refl _ w).drew
    refine (growI rb gb M room L (L.length + k) w.drew (h.bt hb (fun x => x) (fun x => x)) hM (by omega) hkM (by omega)).mono ?_
    rintro e w' ⟨rfl, gb', C, f, hq, hg, hc, hg2, hbt⟩
    exact ⟨rfl, gb', C, f, hq.blk.c3, hq, hg, hc, hg2, hb.mono (T := fun k => k = rb) (fun _ _ x => x.elim) |>.trans hbt (fun _ _ x => x)⟩
  have CP : ∀ w2 gb' C f, Hid (PgQI M k w w2 rb gb gb' room C f L) → Calls Tryd.prog 50 #[.pointer (some ⟨rb, 0, none⟩), .int .i64 L.length, .int .i64 k] w2 fun e w' => ∃ hp tp d0 d1 m s st, e = .returned (.tuple #[.slice hp st d0, .slice tp (k - st) d1]) ∧ w' = w2.drewN m ∧ st ≤ k ∧ Hid (pos f C.length L.length = s ∧ st = Nat.min k (C.length - s) ∧ PcQ gb' 1 C.length s hp tp) := by
    intro w2 gb' C f H
    obtain ⟨h, hgb', hfit, hg, bt⟩ := H.out
    have hsm := h.small
    refine (piecesI rb gb' _ room C.length f L.length L.length k _ _ w2 h.blk (by omega) h.circ.first h.circ.le (by omega) rfl rfl).mono ?_
    rintro e w' ⟨hp, tp, d0, d1, rfl, hq1, hq0, m, hw⟩
    exact ⟨hp, tp, d0, d1, m, _, _, rfl, hw, Nat.min_le_left _ _, rfl, rfl, hq1, hq0⟩
  have HS : Hid (SrQI w rb gb b o len X) := ⟨hX, eX, lX, hnb⟩
  have hite : (if room - (L.length : Int) < (len : Int) then room - (L.length : Int) else (len : Int)) = (k : Int) := by split <;> omega
  have hkl : k ≤ len := by omega
  clear h h0 hX eX lX hnb hk hgb
  go_enter Tryd.func47, Tryd.ntmps47
  go_wp2
  go_region
  try simp only [hite]
  clear hite c0
  go_wp2_with (first
    | (go_at_call 79; refine CG.mono ?_; rintro e w2 ⟨rfl, gb', C', f', d3, HG⟩)
    | (go_at_call 50; refine (CP w2 gb' C' f' HG).mono ?_; rintro e w' ⟨hp, tp, d0, d1, m, s, st, rfl, hw, hsk, HP⟩; subst w'; obtain ⟨hs, hst, hq⟩ := HP.out; by_cases hsc : st < cap; (obtain ⟨w4, w5, r4, r5, g3, f3, HX⟩ := put_copiesI HG.out HS.out hkl hkr hs hst hq m d0 d1 cap (cap - st) (some ⟨b, o + st * 1, none⟩) (fun _ => rfl); clear hs hst hq HP HG HS CG CP; try simp only [Nat.mul_one] at r5); rotate_left; (obtain rfl : st = cap := by omega); (obtain rfl : len = st := by omega); (obtain rfl : k = len := by omega); (obtain ⟨w4, w5, r4, r5, g3, f3, HX⟩ := put_copiesI HG.out HS.out hkl hkr hs hst hq m d0 d1 k 0 (some ⟨b, o, none⟩) (fun h => by omega)); clear hs hst hq HP HG HS CG CP; simp only [Nat.sub_self] at r5))
  all_goals go_ret
  all_goals exact ⟨rfl, HX.out⟩
theorem putI (rb gb M : Nat) (room : Int) (L X : List (List Value)) (b o len cap k : Nat) (w : World) (h : Ring 88 3 1 M w rb gb room L) (hM : M ≤ 8796093022208) (hX : Src w (some ⟨b, o, none⟩) X) (eX : El 1 X) (lX : X.length = len) (hlen : len ≤ 281474976710656) (hcap : len ≤ cap) (hcap2 : cap ≤ 9223372036854775807)
    (hnb : b ≠ rb ∧ b ≠ gb ∧ b < w.heap.size) (hk : k = min len (room.toNat - L.length)) (hkM : L.length + k ≤ M) :
    Calls Tryd.prog 47 #[.pointer (some ⟨rb, 0, none⟩), .slice (some ⟨b, o, none⟩) len cap] w fun e w' => e = .returned (.int .i64 k) ∧ PutQI M w w' rb gb room (L ++ X.take k) :=
  putCI rb gb M room L X b o len cap k w h hM hX eX lX hlen hcap hnb hk hkM
end Go.Proofs.YtddpcjgekfmhkabDoor

/- A ring of int: Take, walked. -/
namespace Go.Proofs.YtddpcjgekfmhkabDoor
open Go.RowKit
set_option linter.unusedSimpArgs false
set_option linter.unusedVariables false

def TakeQI (M : Nat) (w w' : World) (rb gb : Nat) (room : Int) (L : List (List Value)) (k : Nat) : Prop :=
  Ring 88 3 1 M w' rb gb room (L.drop k) ∧ Rw w' w.heap.size 3 (L.take k) ∧ Bt (fun i => i = rb ∨ i = gb) w w'

/-- Where the pieces lie, in Take. -/
def TpQI (gb k s st : Nat) (C : List (List Value)) (f : Nat) (hp tp : Option Addr) : Prop := pos f C.length 0 = s ∧ st = Nat.min k (C.length - s) ∧ PcQ gb 1 C.length s hp tp

/-- What lies behind join, in Take. -/
def TjQI (M : Nat) (w w3 : World) (rb gb : Nat) (room : Int) (L : List (List Value)) (k st f n d0 d1 : Nat) (hp tp : Option Addr) : Prop :=
  ∃ w4 w5, (Builtin.clear_ #[24] 0 #[.slice hp st d0]).run Tryd.prog w3 = .ok (.tuple #[]) w4 ∧ (Builtin.clear_ #[24] 0 #[.slice tp (k - st) d1]).run Tryd.prog w4 = .ok (.tuple #[]) w5 ∧
    (∀ x : Int, x = k → Calls Tryd.prog 52 #[.pointer (some ⟨rb, 0, none⟩), .int .i64 x] w5 (fun e w' => e = .returned (.int .i64 (pos f n k : Nat)) ∧ ∃ m : Nat, w' = w5.drewN m)) ∧
    (∃ v, w5.cell? ⟨rb, 2, none⟩ = some v) ∧ (∀ o, w5.frozen? ⟨rb, o, none⟩ = false) ∧ w5.cell? ⟨rb, 3, none⟩ = some (.int .i64 L.length) ∧
    Hid (∀ (m : Nat) (y : Int), y = (L.length : Int) - k → TakeQI M w (((w5.drewN m).setCell ⟨rb, 2, none⟩ (.int .i64 (pos f n k : Nat))).setCell ⟨rb, 3, none⟩ (.int .i64 y)) rb gb room L k)

theorem run_clear_zeroI (w : World) (dp : Option Addr) (c : Nat) : (Builtin.clear_ #[24] 0 #[.slice dp 0 c]).run Tryd.prog w = .ok (.tuple #[]) w := by
  cases dp <;> simp [Builtin.clear_, run_underlying Tryd.underlying24]

theorem take_joinI {M : Nat} {w : World} {rb gb : Nat} {room : Int} {C : List (List Value)} {f : Nat} {L : List (List Value)} (h : RingAt 88 3 1 M w rb gb room C f L) (hgb : C.length = 0 → gb = rb) (hM : M ≤ 8796093022208) {k s st : Nat} (hk : k ≤ L.length) {hp tp : Option Addr} (H2 : TpQI gb k s st C f hp tp) (d0 d1 m : Nat) (w1 : World) (H1 : MkQI (w.drewN m) w1 k) :
    Calls Tryd.prog 51 #[.slice (some ⟨w.heap.size, 0, none⟩) k k, .slice hp st d0, .slice tp (k - st) d1] w1 fun e w3 => e = .returned (.tuple #[]) ∧ TjQI M w w3 rb gb room L k st f C.length d0 d1 hp tp := by
  obtain ⟨hs, hst, q⟩ := H2
  obtain ⟨k1, b1, z1⟩ := H1
  have hst' : st = min k (C.length - s) := hst
  have hCf := h.circ.first
  have hCl := h.circ.le
  have hsm := h.small
  have hrb := h.blk.lt
  have hgl : gb < w.heap.size := (Ring.lt ⟨C, f, h, hgb⟩).2
  have b01 : Bt (fun _ => False) w w1 := ((Bt.refl _ w).drewN m).trans b1 (fun _ _ x => x)
  have h1 := h.bt b01 (fun x => x) (fun x => x)
  obtain ⟨A, B, hAB, lA, lB, eA, eB, sA, sB⟩ := pieces_srcI (k := k) (s := s) (st := st) (hp := hp) (tp := tp) h1 hs hst hk q.1
  refine (joinI w.heap.size k 3 hp tp st d0 (k - st) d1 (List.replicate k [.int .i64 0]) A B w1 k1 (zelI.replicate k) (by simp) sA eA lA sB eB lB (by omega) (by omega) ?_).mono ?_
  · intro b o e
    by_cases h0 : 0 < C.length
    · rw [(q.1 h0).2] at e; simp at e; omega
    · rw [(q.2 (by omega)).2] at e; cases e
  · rintro e w3 ⟨rfl, k3, b3, z3⟩
    have b03 : Bt (fun i => i = w.heap.size) w w3 := (b01.mono (fun _ _ x => x.elim)).trans b3 (fun _ _ x => x)
    have h3 := h.bt b03 (by omega) (by omega)
    have k3' : Rw w3 w.heap.size 3 (L.take k) := by
      have e : splice (splice (List.replicate k ([.int .i64 0] : List Value)) 0 A) st B = L.take k := by
        rw [← hAB, ← lA]
        have lk : (List.replicate k ([.int .i64 0] : List Value)).length = A.length + B.length := by simp; omega
        have e1 : splice (List.replicate k ([.int .i64 0] : List Value)) 0 A = A ++ (List.replicate k ([.int .i64 0] : List Value)).drop A.length := by simp [splice]
        rw [e1]
        unfold splice
        rw [List.take_left', List.drop_eq_nil_of_le, List.append_nil]
        · simp; omega
        · rfl
      rw [← e]; exact k3
    refine ⟨rfl, ?_⟩
    by_cases h0 : C.length = 0
    · obtain rfl : k = 0 := by omega
      obtain rfl : st = 0 := by omega
      have cp := placeI rb 88 room _ C.length f L.length 0 w3 h3.blk (by omega) (by omega) (by omega)
      have hL : L.length = 0 := by omega
      refine ⟨w3, w3, run_clear_zeroI _ _ _, run_clear_zeroI _ _ _, fun x hx => hx ▸ cp, ⟨_, h3.blk.c2⟩, h3.blk.fr, h3.blk.c3, fun m y hy => hy ▸ ⟨⟨C, pos f C.length 0, ⟨?_, h.elC, by simpa using h.elL, h.small, ?_, fun hc => by omega, by simpa using h.le, h.roomM⟩, hgb⟩, ?_, ?_⟩⟩
      · have := h.circ.gone ([.int .i64 0] : List Value) (k := 0) (by omega)
        simpa [splice] using this
      · have e : ((L.length : Int) - ((0 : Nat) : Int)) = (((L.drop 0).length : Nat) : Int) := by simp
        rw [e]
        exact ((h3.blk.drewN m).set2 _).set3 _
      · exact (Rw.bt k3' ((((Bt.refl (fun i => i = rb) w3).drewN m).setCell (fun _ => rfl) _).setCell (fun _ => rfl) _) (by omega))
      · exact ((((b03.mono (T := fun i => i = rb ∨ i = gb) (fun i hi x => by omega)).drewN m).setCell (fun _ => .inl rfl) _).setCell (fun _ => .inl rfl) _)
    · have h01 : 0 < C.length := by omega
      obtain ⟨rfl, rfl⟩ := q.1 h01
      obtain ⟨row, hne⟩ := h3.row h01
      have hsl : s < C.length := by rw [← hs]; exact h.circ.pos_lt (Nat.zero_le _) h01
      obtain ⟨w4, r4, k4, b4, z4⟩ := clear_ex (P := Tryd.prog) (w := w3) 24 0 3 1 (.int .i64 0) [.int .i64 0] Tryd.underlying24 zeroI zcellsI zelI (some ⟨gb, s * 1, none⟩) st d0 gb s C 3 row h.elC (fun _ => rfl) (by omega)
      have lc : (splice C s (List.replicate st ([.int .i64 0] : List Value))).length = C.length := length_splice _ _ _ (by simp; omega)
      obtain ⟨w5, r5, k5, b5, z5⟩ := clear_ex (P := Tryd.prog) (w := w4) 24 0 3 1 (.int .i64 0) [.int .i64 0] Tryd.underlying24 zeroI zcellsI zelI (some ⟨gb, 0, none⟩) (k - st) d1 gb 0 _ 3 k4 (h.elC.spl (zelI.replicate st) s) (fun _ => by simp) (by omega)
      have b35 : Bt (fun i => i = gb) w3 w5 := b4.trans b5 (fun _ _ x => x)
      have r5b := h3.blk.bt b35 (fun e => hne e.symm)
      have cp := placeI rb 88 room _ C.length f L.length k w5 r5b (by omega) (by omega) (by omega)
      have hci := h.circ.gone ([.int .i64 0] : List Value) hk
      rw [hs, ← hst] at hci
      have lcc : (splice (splice C s (List.replicate st ([.int .i64 0] : List Value))) 0 (List.replicate (k - st) ([.int .i64 0] : List Value))).length = C.length := (length_splice _ _ _ (by simp; omega)).trans lc
      refine ⟨w4, w5, r4, r5, fun x hx => hx ▸ cp, ⟨_, r5b.c2⟩, r5b.fr, r5b.c3, fun m y hy => hy ▸ ⟨⟨_, pos f C.length k, ⟨hci, (h.elC.spl (zelI.replicate st) s).spl (zelI.replicate _) 0, h.elL.drop k, by rw [lcc]; exact h.small, ?_, fun _ => ⟨?_, hne⟩, ?_, h.roomM⟩, fun e => by omega⟩, ?_, ?_⟩⟩
      · have e : ((L.length : Int) - (k : Int)) = (((L.drop k).length : Nat) : Int) := by simp; omega
        rw [e, lcc]
        exact ((r5b.drewN m).set2 _).set3 _
      · exact Rw.bt k5 ((((Bt.refl (fun i => i = rb) w5).drewN m).setCell (fun _ => rfl) _).setCell (fun _ => rfl) _) hne
      · have := h.le; simp; omega
      · exact Rw.bt k3' (((((b35.mono (T := fun i => i = rb ∨ i = gb) (fun _ _ x => .inr x))).drewN m).setCell (fun _ => .inl rfl) _).setCell (fun _ => .inl rfl) _) (by omega)
      · exact (((((b03.mono (T := fun i => i = rb ∨ i = gb) (fun i hi x => by omega)).trans (b35.mono (T := fun i => i = rb ∨ i = gb) (fun _ _ x => .inr x)) (fun _ _ x => x)).drewN m).setCell (fun _ => .inl rfl) _).setCell (fun _ => .inl rfl) _)

set_option maxHeartbeats 1000000 in
set_option maxRecDepth 20000 in
theorem takeI (rb gb M : Nat) (room : Int) (L : List (List Value)) (v : Int) (k : Nat) (w : World) (h : Ring 88 3 1 M w rb gb room L) (hM : M ≤ 8796093022208) (hk : (k : Int) = max 0 (min v L.length)) :
    Calls Tryd.prog 32 #[.pointer (some ⟨rb, 0, none⟩), .int .i64 v] w fun e w' => e = .returned (.slice (some ⟨w.heap.size, 0, none⟩) k k) ∧ TakeQI M w w' rb gb room L k := by
  obtain ⟨C, f, h0, hgb⟩ := id h
  have hkl : k ≤ L.length := by omega
  have c3 := h0.blk.c3
  have hCl := h0.circ.le
  have hsm := h0.small
  have CP : ∀ x : Int, x = k → Calls Tryd.prog 50 #[.pointer (some ⟨rb, 0, none⟩), .int .i64 0, .int .i64 x] w fun e w' => ∃ hp tp d0 d1 m s st, e = .returned (.tuple #[.slice hp st d0, .slice tp (k - st) d1]) ∧ w' = w.drewN m ∧ Hid (TpQI gb k s st C f hp tp) := by
    intro x hx
    subst hx
    refine (piecesI rb gb _ room C.length f L.length 0 k _ _ w h0.blk (by omega) h0.circ.first (by omega) (by omega) rfl rfl).mono ?_
    rintro e w' ⟨hp, tp, d0, d1, rfl, hq1, hq0, m, hw⟩
    exact ⟨hp, tp, d0, d1, m, _, _, rfl, hw, rfl, rfl, hq1, hq0⟩
  have CJ : ∀ (s st : Nat) (hp tp : Option Addr), Hid (TpQI gb k s st C f hp tp) → ∀ (d0 d1 m : Nat) (w1 : World), Hid (MkQI (w.drewN m) w1 k) →
      Calls Tryd.prog 51 #[.slice (some ⟨w.heap.size, 0, none⟩) k k, .slice hp st d0, .slice tp (k - st) d1] w1 fun e w3 => e = .returned (.tuple #[]) ∧ TjQI M w w3 rb gb room L k st f C.length d0 d1 hp tp :=
    fun s st hp tp H2 d0 d1 m w1 H1 => take_joinI h0 hgb hM hkl H2.out d0 d1 m w1 H1.out
  have hN2 : k * 8 ≤ 281474976710656 := by omega
  have hLM : L.length ≤ 281474976710656 := by omega
  clear h h0 hgb
  go_enter Tryd.func32, Tryd.ntmps32
  go_wp2_with (first
    | (go_at_call 50; refine (CP _ (by omega)).mono ?_; rintro e w' ⟨hp, tp, d0, d1, m, s, st, rfl, hw, H2⟩; subst w')
    | (at_make; refine wpList_make_el rfl _ _ 24 3 rfl Tryd.underlying24 (.int .i64 0) [.int .i64 0] 1 8 infoI zcellsI rfl k _ rfl rfl (by omega) hN2 (by omega) ?_; intro w1 H1)
    | (go_at_call 51; refine (CJ s st hp tp H2 d0 d1 m w1 H1).mono ?_; rintro e w3 ⟨rfl, w4, w5, r4, r5, cp, ⟨v2, g2⟩, fr, g3, HX⟩; have f2 := fr 2; have f3 := fr 3; clear fr)
    | (go_at_call 52; refine (cp _ (by omega)).mono ?_; rintro e w' ⟨rfl, m', hw⟩; subst w'))
  all_goals go_ret
  all_goals exact ⟨rfl, HX.out _ _ (by omega)⟩

end Go.Proofs.YtddpcjgekfmhkabDoor

/- A ring of []uint64: place, pieces, join, walked. -/
namespace Go.Proofs.YtddpcjgekfmhkabDoor
open Go.RowKit
set_option linter.unusedSimpArgs false
set_option linter.unusedVariables false

theorem placeU (rb : Nat) (t : TypeId) (room : Int) (sp : Option Addr) (n f c skip : Nat) (w : World) (h : RB w rb t room sp n f c) (hn : n ≤ 281474976710656) (hf : f ≤ n) (hs : skip ≤ n) :
    Calls Tryd.prog 110 #[.pointer (some ⟨rb, 0, none⟩), .int .i64 skip] w fun e w' => e = .returned (.int .i64 (pos f n skip : Nat)) ∧ ∃ m : Nat, w' = w.drewN m := by
  have c1 := h.c1
  have c2 := h.c2
  clear h
  by_cases hlt : (skip : Int) < (n : Int) - f
  · have e : ((pos f n skip : Nat) : Int) = (f : Int) + skip := by unfold pos; rw [if_pos (by omega)]; omega
    rw [e]; clear e
    go_enter Tryd.func110, Tryd.ntmps110
    go_wp2
    go_quiet (fail)
    go_wp2
    go_ret
    exact ⟨by go_num, _, rfl⟩
  · have e : ((pos f n skip : Nat) : Int) = (skip : Int) - ((n : Int) - f) := by unfold pos; rw [if_neg (by omega)]; omega
    rw [e]; clear e
    go_enter Tryd.func110, Tryd.ntmps110
    go_wp2
    go_quiet (fail)
    go_wp2
    go_ret
    exact ⟨by go_num, _, rfl⟩

theorem pieces_nilU (rb : Nat) (t : TypeId) (room : Int) (c : Nat) (w : World) (h : RB w rb t room none 0 0 c) :
    Calls Tryd.prog 108 #[.pointer (some ⟨rb, 0, none⟩), .int .i64 0, .int .i64 0] w fun e w' => e = .returned (.tuple #[.slice none 0 0, .slice none 0 0]) ∧ ∃ m : Nat, w' = w.drewN m := by
  have cp := placeU rb t room none 0 0 c 0 w h (by omega) (by omega) (by omega)
  have ez : pos 0 0 0 = 0 := rfl
  rw [ez] at cp
  have c1 := h.c1
  have c2 := h.c2
  clear h
  go_enter Tryd.func108, Tryd.ntmps108
  go_wp2_with (go_at_call 110; refine cp.mono ?_; rintro e w' ⟨rfl, m, hw⟩; subst w')
  go_wp2
  go_quiet (fail)
  go_wp2
  go_ret2
  exact ⟨rfl, _, drewN_add _ _ _⟩

set_option maxRecDepth 20000 in
theorem pieces_someU (rb gb : Nat) (t : TypeId) (room : Int) (n f c skip k s st : Nat) (w : World) (h : RB w rb t room (some ⟨gb, 0, none⟩) n f c) (hn : n ≤ 281474976710656) (hf : f ≤ n) (hs : skip ≤ n) (hk : k ≤ n) (hp : pos f n skip = s) (hs1 : s < n) (hst : st = Nat.min k (n - s)) :
    Calls Tryd.prog 108 #[.pointer (some ⟨rb, 0, none⟩), .int .i64 skip, .int .i64 k] w fun e w' => e = .returned (.tuple #[.slice (some ⟨gb, s * 1, none⟩) st (n - s), .slice (some ⟨gb, 0, none⟩) (k - st) n]) ∧ ∃ m : Nat, w' = w.drewN m := by
  have cp := placeU rb t room (some ⟨gb, 0, none⟩) n f c skip w h hn hf hs
  rw [hp] at cp
  have c1 := h.c1
  have c2 := h.c2
  have hst' : st = min k (n - s) := hst
  clear h hp hst
  by_cases hlt : k ≤ n - s
  · obtain rfl : st = k := by omega
    have i1 : (st : Int) ≤ (n : Int) - s := by omega
    clear hst'
    go_enter Tryd.func108, Tryd.ntmps108
    go_wp2_with (go_at_call 110; refine cp.mono ?_; rintro e w' ⟨rfl, m, hw⟩; subst w')
    go_wp2
    go_quiet (fail)
    go_wp2
    go_ret2
    refine ⟨?_, _, drewN_add _ _ _⟩
    first | rfl | (simp; done) | (simp; omega)
  · obtain rfl : st = n - s := by omega
    have i1 : ¬ (k : Int) ≤ (n : Int) - s := by omega
    clear hst'
    go_enter Tryd.func108, Tryd.ntmps108
    go_wp2_with (go_at_call 110; refine cp.mono ?_; rintro e w' ⟨rfl, m, hw⟩; subst w')
    go_wp2
    go_quiet (fail)
    go_wp2
    go_ret2
    refine ⟨?_, _, drewN_add _ _ _⟩
    first | rfl | (simp; done) | (simp; omega)

theorem infoU : (Tryd.prog.info? 59).map (fun i => (i.zero, i.size, i.bytes)) = some (some (.slice none 0 0), 1, 24) := by kernel_rfl
theorem sizeU : (Tryd.prog.info? 59).map (·.size) = some 1 := by kernel_rfl
theorem zeroU (w : World) : (zeroValue 59).run Tryd.prog w = .ok (.slice none 0 0) w := by kernel_rfl
theorem zcellsU : (.slice none 0 0 : Value).cells = ([.slice none 0 0] : List Value).toArray := rfl
theorem zelU : El 1 [([.slice none 0 0] : List Value)] := by
  intro e he
  obtain rfl : e = [.slice none 0 0] := by simpa using he
  exact ⟨rfl, by intro v hv; simp at hv; rcases hv with rfl | rfl <;> rfl⟩

theorem joinU (ob N : Nat) (t : TypeId) (hp tp : Option Addr) (st c0 tl c1 : Nat) (O A B : List (List Value)) (w : World) (hO : Rw w ob t O) (eO : El 1 O) (lO : O.length = N) (hA : Src w hp A) (eA : El 1 A) (lA : A.length = st)
    (hB : Src w tp B) (eB : El 1 B) (lB : B.length = tl) (hfit : st + tl ≤ N) (hN : N ≤ 281474976710656) (hnb : ∀ b o, tp = some ⟨b, o, none⟩ → b ≠ ob) :
    Calls Tryd.prog 109 #[.slice (some ⟨ob, 0, none⟩) N N, .slice hp st c0, .slice tp tl c1] w
      fun e w' => e = .returned (.tuple #[]) ∧ Rw w' ob t (splice (splice O 0 A) st B) ∧ Bt (fun k => k = ob) w w' ∧ w'.heap.size = w.heap.size := by
  obtain ⟨w1, r1, k1, b1, z1⟩ := copy_ex (P := Tryd.prog) 60 60 3 59 1 Tryd.underlying60 sizeU (some ⟨ob, 0, none⟩) hp N N st c0 ob 0 O t hO eO A eA (by rw [lA]; exact (Nat.min_eq_left (by omega)).symm) (fun _ => by simp) hA (by omega)
  have l1 : (splice O 0 A).length = N := (length_splice _ _ _ (by omega)).trans lO
  have s1 : Src w1 tp B := hB.bt b1 hnb
  have e1 := eO.spl eA 0
  rw [lA] at r1
  by_cases hlt : st < N
  · obtain ⟨w2, r2, k2, b2, z2⟩ := copy_ex (P := Tryd.prog) 60 60 3 59 1 Tryd.underlying60 sizeU (some ⟨ob, st * 1, none⟩) tp (N - st) (N - st) tl c1 ob st _ t k1 e1 B eB (by rw [lB]; exact (Nat.min_eq_left (by omega)).symm) (fun _ => rfl) s1 (by omega)
    rw [lB] at r2
    have HX : Hid (Rw w2 ob t (splice (splice O 0 A) st B) ∧ Bt (fun k => k = ob) w w2 ∧ w2.heap.size = w.heap.size) := ⟨k2, b1.trans b2 (fun _ _ h => h), z2.trans z1⟩
    clear hO eO hA eA hB eB hnb lO lA lB k1 b1 z1 l1 s1 e1 k2 b2 z2
    try simp only [Nat.mul_one] at r2
    go_enter Tryd.func109, Tryd.ntmps109
    go_wp2
    go_end0
    exact ⟨rfl, HX.out⟩
  · obtain rfl : st = N := by omega
    obtain rfl : tl = 0 := by omega
    obtain ⟨w2, r2, k2, b2, z2⟩ := copy_ex (P := Tryd.prog) 60 60 3 59 1 Tryd.underlying60 sizeU (some ⟨ob, 0, none⟩) tp 0 0 0 c1 ob st _ t k1 e1 B eB (by rw [lB]; rfl) (fun h => by omega) s1 (by omega)
    rw [lB] at r2
    have HX : Hid (Rw w2 ob t (splice (splice O 0 A) st B) ∧ Bt (fun k => k = ob) w w2 ∧ w2.heap.size = w.heap.size) := ⟨k2, b1.trans b2 (fun _ _ h => h), z2.trans z1⟩
    clear hO eO hA eA hB eB hnb lO lA lB k1 b1 z1 l1 s1 e1 k2 b2 z2
    go_enter Tryd.func109, Tryd.ntmps109
    go_wp2
    go_end0
    exact ⟨rfl, HX.out⟩

end Go.Proofs.YtddpcjgekfmhkabDoor

/- A ring of []uint64: grow, walked. -/
namespace Go.Proofs.YtddpcjgekfmhkabDoor
open Go.RowKit
set_option linter.unusedSimpArgs false
set_option linter.unusedVariables false

theorem piecesU (rb gb : Nat) (t : TypeId) (room : Int) (n f c skip k s st : Nat) (w : World) (h : RB w rb t room (if n = 0 then none else some ⟨gb, 0, none⟩) n f c) (hn : n ≤ 281474976710656) (hf : f < n ∨ (n = 0 ∧ f = 0)) (hs : skip ≤ n) (hk : k ≤ n) (hp : pos f n skip = s) (hst : st = Nat.min k (n - s)) :
    Calls Tryd.prog 108 #[.pointer (some ⟨rb, 0, none⟩), .int .i64 skip, .int .i64 k] w fun e w' => ∃ hp tp c0 c1, e = .returned (.tuple #[.slice hp st c0, .slice tp (k - st) c1]) ∧ (0 < n → hp = some ⟨gb, s * 1, none⟩ ∧ tp = some ⟨gb, 0, none⟩) ∧ (n = 0 → hp = none ∧ tp = none) ∧ ∃ m : Nat, w' = w.drewN m := by
  by_cases h0 : n = 0
  · subst h0
    obtain rfl : f = 0 := by omega
    obtain rfl : skip = 0 := by omega
    obtain rfl : k = 0 := by omega
    obtain rfl : st = 0 := by rw [hst]; exact Nat.min_eq_left (Nat.zero_le _)
    refine (pieces_nilU rb t room c w h).mono ?_
    rintro e w' ⟨rfl, hm⟩
    exact ⟨none, none, 0, 0, rfl, fun h => by omega, fun _ => ⟨rfl, rfl⟩, hm⟩
  · rw [if_neg h0] at h
    have hs1 : s < n := by rw [← hp]; unfold pos; split <;> omega
    refine (pieces_someU rb gb t room n f c skip k s st w h hn (by omega) hs hk hp hs1 hst).mono ?_
    rintro e w' ⟨rfl, hm⟩
    exact ⟨_, _, _, _, rfl, fun _ => ⟨rfl, rfl⟩, fun h => absurd h h0, hm⟩

/-- What the first k things are in the row's two pieces. -/
theorem pieces_srcU {RT : TypeId} {M : Nat} {w : World} {rb gb : Nat} {room : Int} {C : List (List Value)} {f : Nat} {L : List (List Value)} (h : RingAt RT 59 1 M w rb gb room C f L) {k s st : Nat} (hs : pos f C.length 0 = s) (hst : st = Nat.min k (C.length - s)) (hk : k ≤ L.length) {hp tp : Option Addr}
    (h1 : 0 < C.length → hp = some ⟨gb, s * 1, none⟩ ∧ tp = some ⟨gb, 0, none⟩) :
    ∃ A B, A ++ B = L.take k ∧ A.length = st ∧ B.length = k - st ∧ El 1 A ∧ El 1 B ∧ Src w hp A ∧ Src w tp B := by
  have hle := h.circ.le
  have hst' : st = min k (C.length - s) := hst
  have hf := h.circ.first
  have hs' : s = if 0 < C.length - f then f + 0 else 0 - (C.length - f) := hs.symm
  have hpc := h.circ.pieces hk
  rw [hs, ← hst] at hpc
  refine ⟨_, _, hpc, ?_, ?_, (h.elC.drop _).take _, h.elC.take _, ?_, ?_⟩
  · simp; split at hs' <;> omega
  · simp; omega
  · by_cases h0 : 0 < C.length
    · exact (h.row h0).1.src h.elC s st hp (fun _ => (h1 h0).1)
    · intro hx; simp at hx; omega
  · by_cases h0 : 0 < C.length
    · have := (h.row h0).1.src h.elC 0 (k - st) tp (fun _ => by rw [(h1 h0).2]; try simp)
      simpa using this
    · intro hx; simp at hx; omega

/-- Ways of a min and a max. -/
theorem waysRingBU (old : Nat) (cnt : Nat) (room : Int) (h1 : old < cnt) (h2 : (cnt : Int) ≤ room) : ∃ (tw N : Nat), ((old : Int) + min (old : Int) (room - old) = (tw : Int)) ∧ (max (cnt : Int) (tw : Int) = (N : Int)) ∧ cnt ≤ N ∧ (N = cnt ∨ N ≤ 2 * old) ∧ (N : Int) ≤ room :=
  ⟨old + min old (room.toNat - old), max cnt (old + min old (room.toNat - old)), by omega, by omega, by omega, by omega, by omega⟩

def MkQU (w w1 : World) (N : Nat) : Prop := Rw w1 w.heap.size 59 (List.replicate N [.slice none 0 0]) ∧ Bt (fun _ => False) w w1 ∧ w1.heap.size = w.heap.size + 1
def GrowQU (M : Nat) (w w' : World) (rb gb : Nat) (room : Int) (L : List (List Value)) (cnt : Nat) : Prop :=
  ∃ gb' C f, RingAt 90 59 1 M w' rb gb' room C f L ∧ (C.length = 0 → gb' = rb) ∧ cnt ≤ C.length ∧ (gb' = gb ∨ w.heap.size ≤ gb') ∧ Bt (fun k => k = rb) w w'

set_option maxHeartbeats 1000000 in
set_option maxRecDepth 20000 in
theorem growU (rb gb M : Nat) (room : Int) (L : List (List Value)) (cnt : Nat) (w : World) (h : Ring 90 59 1 M w rb gb room L) (hM : M ≤ 4398046511104) (hc : L.length ≤ cnt) (hcM : cnt ≤ M) (hcr : (cnt : Int) ≤ room) :
    Calls Tryd.prog 107 #[.pointer (some ⟨rb, 0, none⟩), .int .i64 cnt] w fun e w' => e = .returned (.tuple #[]) ∧ GrowQU M w w' rb gb room L cnt := by
  obtain ⟨C, f, h, hgb⟩ := h
  obtain ⟨n, hn⟩ : ∃ n, n = C.length := ⟨_, rfl⟩
  have hblk := h.blk
  rw [← hn] at hblk
  have c0 := hblk.c0
  have c1 := hblk.c1
  have c3 := hblk.c3
  have hroom := h.roomM
  have hn2 : n ≤ 2 * M := by rw [hn]; exact h.small
  by_cases hle : cnt ≤ n
  · have HX : Hid (GrowQU M w w rb gb room L cnt) := ⟨gb, C, f, h, hgb, by omega, .inl rfl, Bt.refl _ _⟩
    generalize (if n = 0 then none else some (⟨gb, 0, none⟩ : Addr)) = sp at *
    clear h hblk hgb hn
    have i1 : (cnt : Int) ≤ (n : Int) := by omega
    go_enter Tryd.func107, Tryd.ntmps107
    go_wp2
    (try simp only [Exit.inBlock, Exit.then])
    refine bodyPost_ret (results_none rfl _ _ _) rfl ?_
    exact ⟨rfl, HX.out⟩
  · obtain ⟨tw, N, e1, e2, n1, n2, n3⟩ := waysRingBU n cnt room (by omega) hcr
    obtain ⟨s, hs⟩ : ∃ s, pos f n 0 = s := ⟨_, rfl⟩
    obtain ⟨st, hst⟩ : ∃ st, st = Nat.min L.length (n - s) := ⟨_, rfl⟩
    have hCf := h.circ.first
    have hCl := h.circ.le
    rw [← hn] at hCf hCl
    have hrb : rb < w.heap.size := h.blk.lt
    have hgl : gb < w.heap.size := (Ring.lt ⟨C, f, h, hgb⟩).2
    have CP : ∀ w1, Hid (MkQU w w1 N) → Calls Tryd.prog 108 #[.pointer (some ⟨rb, 0, none⟩), .int .i64 0, .int .i64 L.length] w1 fun e w' => ∃ hp tp d0 d1 m, e = .returned (.tuple #[.slice hp st d0, .slice tp (L.length - st) d1]) ∧ w' = w1.drewN m ∧ Hid (PcQ gb 1 n s hp tp) := by
      intro w1 H1
      obtain ⟨k1, b1, z1⟩ := H1.out
      have hblk1 := (h.bt b1 (fun x => x) (fun x => x)).blk
      rw [← hn] at hblk1
      refine (piecesU rb gb _ room n f L.length 0 L.length s st w1 hblk1 (by omega) hCf (by omega) hCl hs hst).mono ?_
      rintro e w' ⟨hp, tp, d0, d1, rfl, hq1, hq0, m, hw⟩
      exact ⟨hp, tp, d0, d1, m, rfl, hw, hq1, hq0⟩
    have CJ : ∀ w1, Hid (MkQU w w1 N) → ∀ hp tp d0 d1 m, Hid (PcQ gb 1 n s hp tp) → Calls Tryd.prog 109 #[.slice (some ⟨w.heap.size, 0, none⟩) N N, .slice hp st d0, .slice tp (L.length - st) d1] (w1.drewN m)
        fun e w3 => e = .returned (.tuple #[]) ∧ (∃ v, w3.cell? ⟨rb, 1, none⟩ = some v) ∧ w3.frozen? ⟨rb, 1, none⟩ = false ∧ (∃ v, w3.cell? ⟨rb, 2, none⟩ = some v) ∧ w3.frozen? ⟨rb, 2, none⟩ = false ∧ Hid (GrowQU M w ((w3.setCell ⟨rb, 1, none⟩ (.slice (some ⟨w.heap.size, 0, none⟩) N N)).setCell ⟨rb, 2, none⟩ (.int .i64 0)) rb gb room L cnt) := by
      intro w1 H1 hp tp d0 d1 m H2
      obtain ⟨k1, b1, z1⟩ := H1.out
      obtain ⟨q1, q0⟩ := H2.out
      have h1 := h.bt b1 (fun x => x) (fun x => x)
      obtain ⟨A, B, hAB, lA, lB, eA, eB, sA, sB⟩ := pieces_srcU (k := L.length) (s := s) (st := st) (hp := hp) (tp := tp) h1 (by rw [← hn]; exact hs) (by rw [← hn]; exact hst) (Nat.le_refl _) (by rw [← hn]; exact q1)
      have hst' : st = min L.length (n - s) := hst
      refine (joinU w.heap.size N 59 hp tp st d0 (L.length - st) d1 (List.replicate N [.slice none 0 0]) A B (w1.drewN m) k1 (zelU.replicate N) (by simp) sA eA lA sB eB lB (by omega) (by omega) ?_).mono ?_
      · intro b o e
        by_cases h0 : 0 < n
        · rw [(q1 h0).2] at e; simp at e; omega
        · rw [(q0 (by omega)).2] at e; cases e
      · rintro e w3 ⟨rfl, k3, b3, z3⟩
        have b03 : Bt (fun k => k = w.heap.size) w w3 := (b1.drewN m |>.mono (fun _ _ h => h.elim)).trans b3 (fun _ _ h => h)
        have r3 : RB w3 rb 90 room (if n = 0 then none else some ⟨gb, 0, none⟩) n f L.length := hblk.bt b03 (by omega)
        refine ⟨rfl, ⟨_, r3.c1⟩, r3.fr 1, ⟨_, r3.c2⟩, r3.fr 2, ?_⟩
        have rr := (r3.set1 (some ⟨w.heap.size, 0, none⟩) N).set2 0
        have hL : A ++ B = L := by rw [hAB]; exact List.take_of_length_le (Nat.le_refl _)
        have hci := Circ.fresh (N := N) ([.slice none 0 0] : List Value) hL (by omega) (by omega)
        rw [lA] at hci
        have l1 : (splice (List.replicate N ([.slice none 0 0] : List Value)) 0 A).length = N := (length_splice _ _ _ (by simp; omega)).trans (by simp)
        have l2 : (splice (splice (List.replicate N ([.slice none 0 0] : List Value)) 0 A) st B).length = N := (length_splice _ _ _ (by omega)).trans l1
        refine ⟨w.heap.size, _, 0, ⟨hci, ((zelU.replicate N).spl eA 0).spl eB st, h.elL, by rw [l2]; omega, ?_, fun _ => ⟨?_, by omega⟩, h.le, h.roomM⟩, fun e => by omega, by omega, .inr (Nat.le_refl _), ?_⟩
        · rw [l2, if_neg (by omega)]; exact rr
        · exact (Rw.bt k3 (((Bt.refl (fun k => k = rb) w3).setCell (fun _ => rfl) _).setCell (fun _ => rfl) _) (by omega))
        · exact ((b03.mono (T := fun k => k = rb) (fun i hi h => by omega)).setCell (fun _ => rfl) _).setCell (fun _ => rfl) _
    have hN2 : N * 24 ≤ 281474976710656 := by omega
    have hbt : ∀ w1, Hid (MkQU w w1 N) → w1.cell? ⟨rb, 0, none⟩ = some (.int .i64 room) ∧ w1.cell? ⟨rb, 3, none⟩ = some (.int .i64 L.length) := by
      intro w1 H1
      obtain ⟨k1, b1, z1⟩ := H1.out
      have r := hblk.bt b1 (fun x => x)
      exact ⟨r.c0, r.c3⟩
    generalize (if n = 0 then none else some (⟨gb, 0, none⟩ : Addr)) = sp at *
    clear h hn hs hst hblk hgb hCf n2
    have i1 : ¬ (cnt : Int) ≤ (n : Int) := by omega
    go_enter Tryd.func107, Tryd.ntmps107
    go_wp2_with (first
      | (at_make; refine wpList_make_el rfl _ _ 60 59 rfl Tryd.underlying60 (.slice none 0 0) [.slice none 0 0] 1 24 infoU zcellsU rfl N _ rfl rfl (by omega) hN2 (by omega) ?_; intro w1 H1; obtain ⟨d0, d3⟩ := hbt w1 H1)
      | (go_at_call 108; refine (CP w1 H1).mono ?_; rintro e w' ⟨hp, tp, d0, d1, m, rfl, hw, H2⟩; subst w')
      | (go_at_call 109; refine (CJ w1 H1 hp tp d0 d1 m H2).mono ?_; rintro e w3 ⟨rfl, ⟨v1, g1⟩, f1, ⟨v2, g2⟩, f2, HX⟩))
    all_goals go_end0
    all_goals exact ⟨rfl, HX.out⟩

end Go.Proofs.YtddpcjgekfmhkabDoor
