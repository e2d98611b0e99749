/- A ring of int: New, Len, Put, walked. -/
import Derived.Test.YtddpcjgekfmhkaaRingBI
namespace Go.Proofs.Ytddpcjgekfmhkaa
open Go.RowKit
set_option linter.unusedSimpArgs false
set_option linter.unusedVariables false

theorem newI (M : Nat) (room : Int) (w : World) (h2 : room ≤ 9223372036854775807) :
    Calls Try.prog 35 #[.int .i64 room] w fun e w' => e = .returned (.pointer (some ⟨w.heap.size, 0, none⟩)) ∧ Ring 80 3 1 M w' w.heap.size w.heap.size (max room 0) [] ∧ Bt (fun _ => False) w w' ∧ w'.heap.size = w.heap.size + 1 := by
  have HR : ∀ r : Int, 0 ≤ r → r ≤ 9223372036854775807 → Hid (Ring 80 3 1 M (w.alloc (.cells #[.int .i64 r, .slice none 0 0, .int .i64 0, .int .i64 0] 80)) w.heap.size w.heap.size r []) := by
    intro r h0 h1
    refine ⟨[], 0, ⟨⟨Nat.le_refl _, .inr ⟨rfl, rfl⟩, fun i hi => by simp at hi⟩, fun e he => by simp at he, fun e he => by simp at he, Nat.zero_le _, ?_, fun h => by simp at h, h0, h1⟩, fun _ => rfl⟩
    show (w.heap.push _)[w.heap.size]? = _
    simp
  by_cases h0 : 0 ≤ room
  · have e : max room 0 = room := by omega
    rw [e]
    have HX := HR room h0 h2
    clear HR e
    go_enter Try.func35, Try.ntmps35
    go_wp2
    go_ret
    exact ⟨rfl, HX.out, (Bt.refl _ _).alloc _, by simp⟩
  · have e : max room 0 = 0 := by omega
    rw [e]
    have HX := HR 0 (Int.le_refl _) (by omega)
    clear HR e
    go_enter Try.func35, Try.ntmps35
    go_wp2
    go_ret
    exact ⟨rfl, HX.out, (Bt.refl _ _).alloc _, by simp⟩

theorem lenI (M rb gb : Nat) (room : Int) (L : List (List Value)) (w : World) (h : Ring 80 3 1 M w rb gb room L) :
    Calls Try.prog 40 #[.pointer (some ⟨rb, 0, none⟩)] w fun e w' => e = .returned (.int .i64 L.length) ∧ w' = w := by
  obtain ⟨C, f, h, hgb⟩ := h
  have c3 := h.blk.c3
  clear h hgb
  go_enter Try.func40, Try.ntmps40
  go_wp2
  go_ret
  exact ⟨rfl, rfl⟩

theorem run_copy_zeroI (w : World) (dp sp : Option Addr) (dLen dCap sLen sCap : Nat) (h0 : Nat.min sLen dLen = 0) :
    (Builtin.copy_ #[57, 57] 3 #[.slice dp dLen dCap, .slice sp sLen sCap]).run Try.prog w = .ok (goInt ((0 : Nat))) w := by
  obtain ⟨i, hq, hi⟩ : ∃ i, Try.prog.info? 3 = some i ∧ i.size = 1 := by
    have hsz := sizeI
    cases hq : Try.prog.info? 3 with
    | none => simp [hq] at hsz
    | some i => exact ⟨i, rfl, by simpa [hq] using hsz⟩
  cases dp <;> cases sp <;> simp [Builtin.copy_, run_underlying Try.underlying57, Builtin.lenOf, Builtin.firstCells, sizeOf, typeInfo, hq, h0, loadCells, loadCellsFrom, storeCells]

def PutQI (M : Nat) (w w' : World) (rb gb : Nat) (room : Int) (L : List (List Value)) : Prop :=
  ∃ gb', Ring 80 3 1 M w' rb gb' room L ∧ (gb' = gb ∨ w.heap.size ≤ gb') ∧ Bt (fun k => k = rb ∨ k = gb) w w'

/-- What lies behind grow, in Put. -/
def PgQI (M k : Nat) (w w2 : World) (rb gb gb' : Nat) (room : Int) (C : List (List Value)) (f : Nat) (L : List (List Value)) : Prop :=
  RingAt 80 3 1 M w2 rb gb' room C f L ∧ (C.length = 0 → gb' = rb) ∧ L.length + k ≤ C.length ∧ (gb' = gb ∨ w.heap.size ≤ gb') ∧ Bt (fun k => k = rb) w w2
/-- The list that is put in. -/
def SrQI (w : World) (rb gb b o len : Nat) (X : List (List Value)) : Prop := Src w (some ⟨b, o, none⟩) X ∧ El 1 X ∧ X.length = len ∧ b ≠ rb ∧ b ≠ gb ∧ b < w.heap.size

theorem put_copiesI {M k : Nat} {w w2 : World} {rb gb gb' : Nat} {room : Int} {C : List (List Value)} {f : Nat} {L X : List (List Value)} (H : PgQI M k w w2 rb gb gb' room C f L) {b o len : Nat} (HS : SrQI w rb gb b o len X) (hkl : k ≤ len) (hkr : (L.length : Int) + k ≤ room)
    {s st : Nat} (hs : pos f C.length L.length = s) (hst : st = Nat.min k (C.length - s)) {hp tp : Option Addr} (q : PcQ gb' 1 C.length s hp tp) (m d0 d1 cap cap' : Nat) (lp' : Option Addr) (hlp : st < len → lp' = some ⟨b, o + st * 1, none⟩) :
    ∃ w4 w5, (Builtin.copy_ #[57, 57] 3 #[.slice hp st d0, .slice (some ⟨b, o, none⟩) len cap]).run Try.prog (w2.drewN m) = .ok (goInt st) w4 ∧
      (Builtin.copy_ #[57, 57] 3 #[.slice tp (k - st) d1, .slice lp' (len - st) cap']).run Try.prog w4 = .ok (goInt ((k - st : Nat))) w5 ∧
      w5.cell? ⟨rb, 3, none⟩ = some (.int .i64 L.length) ∧ w5.frozen? ⟨rb, 3, none⟩ = false ∧ Hid (PutQI M w (w5.setCell ⟨rb, 3, none⟩ (.int .i64 ((L.length : Int) + k))) rb gb room (L ++ X.take k)) := by
  rw [← Int.natCast_add]
  obtain ⟨h, hgb', hfit, hg, bt⟩ := H
  obtain ⟨hX, eX, lX, b1, b2, b3⟩ := HS
  have hst' : st = min k (C.length - s) := hst
  have sX : Src (w2.drewN m) (some ⟨b, o, none⟩) X := hX.bt (bt.drewN m) (by intro b' o' e; simp at e; omega)
  have hCf := h.circ.first
  have hCl := h.circ.le
  have bg : gb' ≠ b := by rcases hg with rfl | hg <;> omega
  have hlen : (X.take k).length = k := by simp; omega
  have e1 : (X.take k).take st = X.take st := by rw [List.take_take]; congr 1; omega
  have l1 : (X.take st).length = st := by simp; omega
  have l2 : ((X.take k).drop st).length = k - st := by simp; omega
  by_cases h0 : C.length = 0
  · obtain rfl : k = 0 := by omega
    obtain rfl : st = 0 := by omega
    obtain ⟨rfl, rfl⟩ := q.2 h0
    have rr := h.blk
    refine ⟨w2.drewN m, w2.drewN m, ?_, ?_, rr.c3, rr.fr 3, gb', ⟨C, f, ?_, hgb'⟩, hg, ?_⟩
    · exact run_copy_zeroI _ _ _ _ _ _ _ (Nat.min_zero _)
    · exact run_copy_zeroI _ _ _ _ _ _ _ (Nat.min_zero _)
    · refine ⟨by simpa using h.circ, h.elC, by simpa using h.elL, h.small, by simpa using (rr.drewN m).set3 (L.length + 0), fun hc => by omega, by simpa using h.le, h.roomM⟩
    · exact ((bt.mono (T := fun k => k = rb ∨ k = gb) (fun _ _ x => .inl x)).drewN m).setCell (fun _ => .inl rfl) _
  · have h1 : 0 < C.length := by omega
    obtain ⟨rfl, rfl⟩ := q.1 h1
    obtain ⟨row, hne⟩ := h.row h1
    have hsl : s < C.length := by rw [← hs]; exact h.circ.pos_lt hCl h1
    obtain ⟨w4, r4, k4, b4, z4⟩ := copy_ex (P := Try.prog) (w := w2.drewN m) 57 57 3 3 1 Try.underlying57 sizeI (some ⟨gb', s * 1, none⟩) (some ⟨b, o, none⟩) st d0 len cap gb' s C 3 row h.elC (X.take st) (eX.take st) (by rw [l1]; exact (Nat.min_eq_right (by omega)).symm) (fun _ => rfl) (sX.take eX st) (by omega)
    have s4 : Src w4 lp' ((X.take k).drop st) := by
      have t1 : Src w4 (some ⟨b, o, none⟩) X := sX.bt b4 (by intro b' o' e; simp at e; omega)
      exact (t1.take eX k).drop (eX.take k) st (by
        intro hk b' o' e
        simp at e
        obtain ⟨rfl, rfl⟩ := e
        exact hlp (by omega))
    have lc : (splice C s (X.take st)).length = C.length := length_splice _ _ _ (by omega)
    obtain ⟨w5, r5, k5, b5, z5⟩ := copy_ex (P := Try.prog) (w := w4) 57 57 3 3 1 Try.underlying57 sizeI (some ⟨gb', 0, none⟩) lp' (k - st) d1 (len - st) cap' gb' 0 _ 3 k4 (h.elC.spl (eX.take st) s) ((X.take k).drop st) ((eX.take k).drop st) (by rw [l2]; exact (Nat.min_eq_right (by omega)).symm) (fun _ => by simp) s4 (by omega)
    rw [l1] at r4
    rw [l2] at r5
    have b25 : Bt (fun k => k = gb') w2 w5 := (((Bt.refl _ w2).drewN m).trans b4 (fun _ _ x => x)).trans b5 (fun _ _ x => x)
    have rr := h.blk.bt b25 (fun e => hne e.symm)
    have hci := h.circ.put (X := X.take k) (by omega)
    rw [hs, hlen, ← hst, e1] at hci
    have lcc : (splice (splice C s (X.take st)) 0 ((X.take k).drop st)).length = C.length := (length_splice _ _ _ (by omega)).trans lc
    have bfin : Bt (fun k => k = rb ∨ k = gb') w2 (w5.setCell ⟨rb, 3, none⟩ (.int .i64 ((L.length + k : Nat)))) := (b25.mono (T := fun k => k = rb ∨ k = gb') (fun _ _ x => .inr x)).setCell (fun _ => .inl rfl) _
    refine ⟨w4, w5, r4, r5, rr.c3, rr.fr 3, gb', ⟨_, f, ⟨hci, (h.elC.spl (eX.take st) s).spl ((eX.take k).drop st) 0, h.elL.append (eX.take k), by rw [lcc]; exact h.small, ?_, fun _ => ⟨?_, hne⟩, by simp; omega, h.roomM⟩, fun e => by omega⟩, hg, ?_⟩
    · rw [lcc, List.length_append, hlen]; exact rr.set3 (L.length + k)
    · exact Rw.bt k5 ((Bt.refl (fun k => k = rb) w5).setCell (fun _ => rfl) _) hne
    · exact (bt.mono (T := fun k => k = rb ∨ k = gb) (fun _ _ x => .inl x)).trans bfin (by intro i hi hx; rcases hg with rfl | hg; exact hx; omega)

set_option maxHeartbeats 1000000 in
set_option maxRecDepth 20000 in
theorem putCI (rb gb M : Nat) (room : Int) (L X : List (List Value)) (b o len cap k : Nat) (w : World) (h : Ring 80 3 1 M w rb gb room L) (hM : M ≤ 8796093022208) (hX : Src w (some ⟨b, o, none⟩) X) (eX : El 1 X) (lX : X.length = len) (hlen : len ≤ 281474976710656) (hcap : len ≤ cap)
    (hnb : b ≠ rb ∧ b ≠ gb ∧ b < w.heap.size) (hk : k = min len (room.toNat - L.length)) (hkM : L.length + k ≤ M) :
    Calls Try.prog 36 #[.pointer (some ⟨rb, 0, none⟩), .slice (some ⟨b, o, none⟩) len cap] w fun e w' => e = .returned (.int .i64 k) ∧ PutQI M w w' rb gb room (L ++ X.take k) := by
  have hle := h.le
  have hlt := h.lt
  obtain ⟨C, f, h0, hgb⟩ := id h
  have hroom := h0.roomM
  have c0 := h0.blk.c0
  have c3 := h0.blk.c3
  have hkr : (L.length : Int) + k ≤ room := by omega
  have CG : Calls Try.prog 55 #[.pointer (some ⟨rb, 0, none⟩), .int .i64 ((L.length : Int) + k)] w.drew fun e w' => e = .returned (.tuple #[]) ∧ ∃ gb' C f, w'.cell? ⟨rb, 3, none⟩ = some (.int .i64 L.length) ∧ Hid (PgQI M k w w' rb gb gb' room C f L) := by
    have hb : Bt (fun _ => False) w w.drew := (Bt.refl _ w).drew
    refine (growI rb gb M room L (L.length + k) w.drew (h.bt hb (fun x => x) (fun x => x)) hM (by omega) hkM (by omega)).mono ?_
    rintro e w' ⟨rfl, gb', C, f, hq, hg, hc, hg2, hbt⟩
    exact ⟨rfl, gb', C, f, hq.blk.c3, hq, hg, hc, hg2, hb.mono (T := fun k => k = rb) (fun _ _ x => x.elim) |>.trans hbt (fun _ _ x => x)⟩
  have CP : ∀ w2 gb' C f, Hid (PgQI M k w w2 rb gb gb' room C f L) → Calls Try.prog 56 #[.pointer (some ⟨rb, 0, none⟩), .int .i64 L.length, .int .i64 k] w2 fun e w' => ∃ hp tp d0 d1 m s st, e = .returned (.tuple #[.slice hp st d0, .slice tp (k - st) d1]) ∧ w' = w2.drewN m ∧ st ≤ k ∧ Hid (pos f C.length L.length = s ∧ st = Nat.min k (C.length - s) ∧ PcQ gb' 1 C.length s hp tp) := by
    intro w2 gb' C f H
    obtain ⟨h, hgb', hfit, hg, bt⟩ := H.out
    have hsm := h.small
    refine (piecesI rb gb' _ room C.length f L.length L.length k _ _ w2 h.blk (by omega) h.circ.first h.circ.le (by omega) rfl rfl).mono ?_
    rintro e w' ⟨hp, tp, d0, d1, rfl, hq1, hq0, m, hw⟩
    exact ⟨hp, tp, d0, d1, m, _, _, rfl, hw, Nat.min_le_left _ _, rfl, rfl, hq1, hq0⟩
  have HS : Hid (SrQI w rb gb b o len X) := ⟨hX, eX, lX, hnb⟩
  have hite : (if room - (L.length : Int) < (len : Int) then room - (L.length : Int) else (len : Int)) = (k : Int) := by split <;> omega
  have hkl : k ≤ len := by omega
  clear h h0 hX eX lX hnb hk hgb
  go_enter Try.func36, Try.ntmps36
  go_wp2
  go_region
  try simp only [hite]
  clear hite c0
  go_wp2_with (first
    | (go_at_call 55; refine CG.mono ?_; rintro e w2 ⟨rfl, gb', C', f', d3, HG⟩)
    | (go_at_call 56; refine (CP w2 gb' C' f' HG).mono ?_; rintro e w' ⟨hp, tp, d0, d1, m, s, st, rfl, hw, hsk, HP⟩; subst w'; obtain ⟨hs, hst, hq⟩ := HP.out; by_cases hsc : st < cap; (obtain ⟨w4, w5, r4, r5, g3, f3, HX⟩ := put_copiesI HG.out HS.out hkl hkr hs hst hq m d0 d1 cap (cap - st) (some ⟨b, o + st * 1, none⟩) (fun _ => rfl); clear hs hst hq HP HG HS CG CP; try simp only [Nat.mul_one] at r5); rotate_left; (obtain rfl : st = cap := by omega); (obtain rfl : len = st := by omega); (obtain rfl : k = len := by omega); (obtain ⟨w4, w5, r4, r5, g3, f3, HX⟩ := put_copiesI HG.out HS.out hkl hkr hs hst hq m d0 d1 k 0 (some ⟨b, o, none⟩) (fun h => by omega)); clear hs hst hq HP HG HS CG CP; simp only [Nat.sub_self] at r5))
  all_goals go_ret
  all_goals exact ⟨rfl, HX.out⟩
theorem putI (rb gb M : Nat) (room : Int) (L X : List (List Value)) (b o len cap k : Nat) (w : World) (h : Ring 80 3 1 M w rb gb room L) (hM : M ≤ 8796093022208) (hX : Src w (some ⟨b, o, none⟩) X) (eX : El 1 X) (lX : X.length = len) (hlen : len ≤ 281474976710656) (hcap : len ≤ cap) (hcap2 : cap ≤ 9223372036854775807)
    (hnb : b ≠ rb ∧ b ≠ gb ∧ b < w.heap.size) (hk : k = min len (room.toNat - L.length)) (hkM : L.length + k ≤ M) :
    Calls Try.prog 36 #[.pointer (some ⟨rb, 0, none⟩), .slice (some ⟨b, o, none⟩) len cap] w fun e w' => e = .returned (.int .i64 k) ∧ PutQI M w w' rb gb room (L ++ X.take k) :=
  putCI rb gb M room L X b o len cap k w h hM hX eX lX hlen hcap hnb hk hkM
end Go.Proofs.Ytddpcjgekfmhkaa
