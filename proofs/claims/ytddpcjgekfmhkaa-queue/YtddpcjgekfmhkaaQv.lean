/- Queue, walked. -/
import Derived.Test.YtddpcjgekfmhkaaQu
import Derived.Test.YtddpcjgekfmhkaaAq
namespace Go.Proofs.Ytddpcjgekfmhkaa
open Go.RowKit
set_option linter.unusedSimpArgs false
set_option linter.unusedVariables false

theorem tdiv5 {c : Int} (h1 : -9223372036854775808 ≤ c) (h2 : c ≤ 9223372036854775807) : -9223372036854775808 ≤ Int.tdiv c 5 ∧ Int.tdiv c 5 ≤ 9223372036854775807 := by
  by_cases h : 0 ≤ c
  · rw [Int.tdiv_eq_ediv_of_nonneg h]; omega
  · have e : c = -(-c) := by omega
    rw [e, Int.neg_tdiv, Int.tdiv_eq_ediv_of_nonneg (by omega)]; omega

theorem k2_ex (a : Int) (b : Nat) : ∃ k : Nat, Hid ((k : Int) = max 0 (min a b)) := ⟨(max 0 (min a b)).toNat, by show ((max 0 (min a b)).toNat : Int) = _; omega⟩
theorem k2_len {k : Nat} {a : Int} {L : List (List Value)} (h : (k : Int) = max 0 (min a L.length)) : (L.take k).length = k := by simp; omega
section
variable {w0 w w' : World} {rb qb gq : Nat} {room : Int} {M : Nat} {L In Out : List (List Value)} {vi vo : Value}
theorem q_app1 (h : ∃ gb, QW w0 w rb gb qb gq room M L In Out vi vo) {v' : Value} {xs : List (List Value)} {n : Nat} (p : ApQ w0 w w' vi v' n xs) (hn : xs.length = n) : Hid (∃ gb, QW w0 w' rb gb qb gq room M L xs Out v' vo) := by
  obtain ⟨gb, h⟩ := h; exact ⟨gb, h.app1 p hn.symm⟩
theorem q_app2 (h : ∃ gb, QW w0 w rb gb qb gq room M L In Out vi vo) {v' : Value} {xs : List (List Value)} {n : Nat} (p : ApQ w0 w w' vo v' n xs) (hn : xs.length = n) : Hid (∃ gb, QW w0 w' rb gb qb gq room M L In xs vi v') := by
  obtain ⟨gb, h⟩ := h; exact ⟨gb, h.app2 p hn.symm⟩
theorem q_cell (h : ∃ gb, QW w0 w rb gb qb gq room M L In Out vi vo) {b o : Nat} {v : Value} (hc : w0.cell? ⟨b, o, none⟩ = some v) : w.cell? ⟨b, o, none⟩ = some v := by
  obtain ⟨gb, h⟩ := h; exact h.bel.cell (fun x => x) hc
theorem q_el (h : ∃ gb, QW w0 w rb gb qb gq room M L In Out vi vo) (k : Nat) : El 1 (L.take k) := by
  obtain ⟨gb, h⟩ := h; exact h.ring.el.take k
end

/-- The end: what came in and what came out. -/
theorem q_end {w0 w : World} {rb qb gq : Nat} {room : Int} {M : Nat} {L In Out : List (List Value)} {vi vo : Value} (h0 : ∃ gb, QW w0 w rb gb qb gq room M L In Out vi vo) (w6 w7 : World) (v7 : Value) (h : ∃ gb, QW w0 w6 rb gb qb gq room M (L.drop L.length) In Out vi vo)
    (p : ApQ w0 w6 w7 vo v7 (Out.length + L.length) (Out ++ L.take L.length)) (hio : In = Out ++ L ∧ Str In ∧ In.length = Out.length + L.length) :
    ∃ a1 c1 a2 c2, Value.slice a1 In.length c1 = vi ∧ Value.slice a2 In.length c2 = v7 ∧ Hid (∃ gb, QW w0 w7 rb gb qb gq room M [] In In (.slice a1 In.length c1) (.slice a2 In.length c2)) ∧
      Hid (∀ i, i < In.length → ∃ (g1 g2 : Nat) (s : ByteArray), a1 = some ⟨g1, 0, none⟩ ∧ a2 = some ⟨g2, 0, none⟩ ∧ w7.cell? ⟨g1, i, none⟩ = some (.string s) ∧ w7.cell? ⟨g2, i, none⟩ = some (.string s)) := by
  obtain ⟨h1, h2, h3⟩ := hio
  obtain ⟨gb, h⟩ := h
  have e1 : Out ++ L.take L.length = In := by rw [List.take_of_length_le (Nat.le_refl _), h1]
  rw [e1, ← h3] at p
  have hq := h.app2 p rfl
  rw [List.drop_of_length_le (Nat.le_refl _)] at hq
  obtain ⟨a1, c1, f1, _, k1⟩ := own_form hq.own1
  obtain ⟨a2, c2, f2, _, k2⟩ := own_form hq.own2
  subst f1 f2
  refine ⟨a1, c1, a2, c2, rfl, rfl, ⟨gb, hq⟩, fun i hi => ?_⟩
  obtain ⟨g1, x1, y1⟩ := k1 (by omega)
  obtain ⟨g2, x2, y2⟩ := k2 (by omega)
  obtain ⟨s, hs⟩ := h2.flat hi
  exact ⟨g1, g2, s, x1, x2, y1 i _ hs, y2 i _ hs⟩

theorem q_last {w0 w : World} {rb qb gq : Nat} {room : Int} {M : Nat} {L In Out : List (List Value)} {vi vo : Value} (h : ∃ gb, QW w0 w rb gb qb gq room M L In Out vi vo) (m : Nat) :
    Calls Try.prog 41 #[.pointer (some ⟨qb, 0, none⟩), .int .i64 2] (w.drewN m) fun e w' => e = .returned (.slice (some ⟨w.heap.size, 0, none⟩) 2 2) ∧ w'.cell? ⟨w.heap.size, 0, none⟩ = some (.int .i64 5) ∧ w'.cell? ⟨w.heap.size, 1, none⟩ = some (.int .i64 6) ∧ Hid (Below w0.heap.size w0 w') := by
  obtain ⟨gb, h⟩ := h
  have hb : Bt (fun _ => False) w (w.drewN m) := (Bt.refl _ w).drewN m
  obtain ⟨a1, a2, a3, a4⟩ := h.ge
  refine (takeI qb gq 2 2 _ 2 2 (w.drewN m) (h.qring.bt hb (fun x => x) (fun x => x)) (by omega) (by decide)).mono ?_
  rintro e w' ⟨rfl, hr, hrow, hbt⟩
  have hrow' : w'.heap[w.heap.size]? = some (.cells #[.int .i64 5, .int .i64 6] 3 (0, 0)) := hrow
  refine ⟨rfl, by simp [World.cell?, hrow'], by simp [World.cell?, hrow'], ?_⟩
  exact ((h.bel.trans hb (fun _ _ x => x)).trans hbt (by intro i hi hx; omega)).below (Nat.le_refl _) (fun _ _ x => x)

/-- The second ring's first list, put in. -/
theorem q_first (w w1 w2 : World) (room : Int) (M : Nat) (R1 : Ring 78 9 1 M w1 w.heap.size w.heap.size room []) (B1 : Bt (fun _ => False) w w1) (Z1 : w1.heap.size = w.heap.size + 1) (R2 : Ring 80 3 1 2 w2 w1.heap.size w1.heap.size 2 []) (B2 : Bt (fun _ => False) w1 w2) (Z2 : w2.heap.size = w1.heap.size + 1) (S : List (List Value)) (t : TypeId) :
    Calls Try.prog 36 #[.pointer (some ⟨w1.heap.size, 0, none⟩), .slice (some ⟨w2.heap.size, 0, none⟩) 3 3] (w2.alloc (.cells #[.int .i64 5, .int .i64 6, .int .i64 7] t))
      fun e w' => e = .returned (.int .i64 2) ∧ ∃ gq, Hid (QR w w' w.heap.size w1.heap.size gq room M 0 S (.slice none 0 0) (.slice none 0 0) [] [] []) := by
  have B3 : Bt (fun _ => False) w2 (w2.alloc (.cells #[.int .i64 5, .int .i64 6, .int .i64 7] t)) := (Bt.refl _ _).alloc _
  have r3 := R2.bt B3 (fun x => x) (fun x => x)
  have hrow : Rw (w2.alloc (.cells #[.int .i64 5, .int .i64 6, .int .i64 7] t)) w2.heap.size t [[.int .i64 5], [.int .i64 6], [.int .i64 7]] := by
    show (w2.heap.push _)[w2.heap.size]? = _
    simp
  have hel : El 1 [[.int .i64 5], [.int .i64 6], [.int .i64 7]] := by
    intro e he
    simp at he
    rcases he with rfl | rfl | rfl <;> exact ⟨rfl, by intro v hv; simp at hv; subst hv; rfl⟩
  have hsrc := hrow.src hel 0 3 (some ⟨w2.heap.size, 0, none⟩) (fun _ => by simp)
  refine (putI w1.heap.size w1.heap.size 2 2 [] _ w2.heap.size 0 3 3 2 _ r3 (by omega) hsrc (by simpa using hel) rfl (by omega) (by omega) (by omega) ⟨by omega, by omega, by simp⟩ (by simp) (by simp)).mono ?_
  rintro e w' ⟨rfl, gq, hr, hg, hb⟩
  have hz : (w2.alloc (.cells #[.int .i64 5, .int .i64 6, .int .i64 7] t)).heap.size = w2.heap.size + 1 := by simp
  have B23 := B2.trans B3 (fun _ _ x => x)
  have b1 : Bt (fun i => i = w1.heap.size) w1 w' := (B23.mono (T := fun i => i = w1.heap.size) (fun _ _ x => x.elim)).trans hb (fun _ _ x => x.elim (fun y => y) (fun y => y))
  refine ⟨rfl, gq, ⟨w.heap.size, ⟨R1.bt b1 (by omega) (by omega), by simpa using hr, ⟨rfl, .inl ⟨rfl, rfl⟩⟩, ⟨rfl, .inl ⟨rfl, rfl⟩⟩, B1.trans b1 (by intro i hi hx; omega), ⟨by omega, by omega, by omega, by omega⟩, ⟨by omega, by omega, by omega, by omega⟩, fun g h => (by cases h), fun g h => (by cases h), fun g h => (by cases h)⟩⟩, rfl, Nat.le_refl _, fun e he => by simp at he⟩

set_option maxHeartbeats 2000000 in
set_option maxRecDepth 20000 in
theorem queue_core (room : Int) (lp : Option Addr) (lb lo len lcap : Nat) (S : List (List Value)) (cp : Option Addr) (cb co clen ccap : Nat) (z : Nat → Int) (w : World) (hr1 : -9223372036854775808 ≤ room) (hr2 : room ≤ 9223372036854775807)
    (hlen : len ≤ 8796093021952) (hl : 0 < len → lp = some ⟨lb, lo, none⟩ ∧ QL w lb lo len lcap S) (hclen : clen ≤ 17592186044416) (hc : 0 < clen → cp = some ⟨cb, co, none⟩) (hz : ∀ i, i < clen → w.cell? ⟨cb, co + i, none⟩ = some (.int .i64 (z i)) ∧ -9223372036854775808 ≤ z i ∧ z i ≤ 9223372036854775807) :
    Calls Try.prog 8 #[.int .i64 room, .slice lp len lcap, .slice cp clen ccap] w fun e w' => e = .returned (.bool true) ∧ Below w.heap.size w w' := by
  have C1 := newS len room w hr2
  have HL : Hid ((0 < len → lp = some ⟨lb, lo, none⟩ ∧ QL w lb lo len lcap S) ∧ (0 < clen → cp = some ⟨cb, co, none⟩) ∧ (∀ i, i < clen → w.cell? ⟨cb, co + i, none⟩ = some (.int .i64 (z i)) ∧ -9223372036854775808 ≤ z i ∧ z i ≤ 9223372036854775807)) := ⟨hl, hc, hz⟩
  obtain ⟨rm, hrm⟩ : ∃ rm, rm = max room 0 := ⟨_, rfl⟩
  rw [← hrm] at C1
  clear hl hc hz
  go_enter Try.func8, Try.ntmps8
  go_wp2_with (first
    | (go_at_call 34; refine C1.mono ?_; rintro e w1 ⟨rfl, R1, B1, Z1⟩; have H1 : Hid (Ring 78 9 1 len w1 w.heap.size w.heap.size rm [] ∧ Bt (fun _ => False) w w1 ∧ w1.heap.size = w.heap.size + 1) := ⟨R1, B1, Z1⟩; clear R1 B1 Z1 C1)
    | (go_at_call 35; refine (newI 2 2 w1 (by omega)).mono ?_; rintro e w2 ⟨rfl, R2, B2, Z2⟩; have H2 : Hid (Ring 80 3 1 2 w2 w1.heap.size w1.heap.size 2 [] ∧ Bt (fun _ => False) w1 w2 ∧ w2.heap.size = w1.heap.size + 1) := ⟨R2, B2, Z2⟩; clear R2 B2 Z2)
    | (go_at_call 36; refine (q_first w w1 w2 rm len H1.out.1 H1.out.2.1 H1.out.2.2 H2.out.1 H2.out.2.1 H2.out.2.2 S _).mono ?_; rintro e w3 ⟨rfl, gq, H3⟩))
  have H30 : Hid (∃ L In Out, QR w w3 w.heap.size w1.heap.size gq rm len 0 S (.slice none 0 0) (.slice none 0 0) L In Out) := ⟨_, _, _, H3.out⟩
  clear H1 H2 H3
  go_loopw [10, 11, 12, 13] (fun ti10 ti11 ta ti wr => ∃ (i at_ : Nat) (vi vo : Value), vi = ti10 ∧ vo = ti11 ∧ i ≤ clen ∧ at_ ≤ len ∧ ta = .int .i64 at_ ∧ ti = .int .i64 i ∧ Hid (∃ L In Out, QR w wr w.heap.size w1.heap.size gq rm len at_ S vi vo L In Out)) (fun _ _ _ ti _ => clen - (intOf ti).toNat)
  case atStart => exact ⟨0, 0, _, _, rfl, rfl, Nat.zero_le _, Nat.zero_le _, rfl, rfl, H30⟩
  case round =>
    obtain ⟨i, at_, vi, vo, e10, e11, hi, ha, rfl, rfl, HR⟩ := hrel
    subst e10 e11
    by_cases hin : i < clen ∧ at_ < len
    · obtain ⟨hi1, ha1⟩ := hin
      obtain ⟨h1, h2, h3⟩ := HL.out
      obtain ⟨rfl, hQL⟩ := h1 (by omega)
      obtain rfl := h2 (by omega)
      obtain ⟨L, In, Out, hR⟩ := HR.out
      obtain ⟨⟨gb0, q0⟩, hio, hle, hstr⟩ := id hR
      obtain ⟨cz0, cz1, cz2⟩ := h3 i hi1
      obtain ⟨c, hcv⟩ : ∃ c, z i = c := ⟨_, rfl⟩
      rw [hcv] at cz0 cz1 cz2
      have cz := q0.bel.cell (fun x => x) cz0
      have HC : Hid (w.cell? ⟨cb, co + i, none⟩ = some (.int .i64 c)) := cz0
      have HQL : Hid (QL w lb lo len lcap S) := hQL
      have hcap := hQL.cap
      have hcap2 := hQL.cap2
      obtain ⟨p, hp⟩ : ∃ p : Nat, pickv c 5 = p := ⟨(pickv c 5).toNat, by have := (pickv_range c 5 (by omega)).1; omega⟩
      have hp5 : p < 5 := by have := (pickv_range c 5 (by omega)).2; omega
      have CK := pick_keep c 5 wr cz1 cz2 (by omega) (by omega)
      rw [hp] at CK
      have hL1 : L.length ≤ at_ := by rw [hio] at hle; simp at hle; omega
      have hi2 : (i : Int) < (clen : Int) := by omega
      have ha2 : (at_ : Int) < (len : Int) := by omega
      have HRR : Hid (QR w wr w.heap.size w1.heap.size gq rm len at_ S vi vo L In Out) := hR
      have HIO : Hid (In = Out ++ L ∧ In.length ≤ at_ ∧ Str In) := ⟨hio, hle, hstr⟩
      obtain ⟨hd1, hd2⟩ := tdiv5 cz1 cz2
      have hsz := q0.bel.size
      have HB : Hid (In.length ≤ at_ ∧ Out.length ≤ at_ ∧ L.length + Out.length ≤ at_) := by
        have e : In.length = Out.length + L.length := by rw [hio]; simp
        exact ⟨by omega, by omega, by omega⟩
      clear h1 h2 h3 hcv hR q0 hio hle hstr cz0 HR HL hQL hp H30
      obtain ⟨n, hn1, hn2, hn3⟩ : ∃ n : Nat, at_ + n ≤ len ∧ ((n : Int) = p ∨ ((n : Int) = (len : Int) - at_)) ∧ n = min p (len - at_) := ⟨min p (len - at_), by omega, by omega, rfl⟩
      by_cases hpl : (p : Int) > (len : Int) - at_
      · obtain rfl : n = len - at_ := by omega
        clear hn2 hn3
        go_wp2_with (first | (go_at_call 27; refine CK.mono ?_; rintro e w' ⟨rfl, hw⟩; subst w'; clear CK) | (go_at_call 37; refine (q_put HQL.out HRR.out ha1 hn1 _ (by omega)).mono ?_; rintro e w4 ⟨k, X, rfl, hk, H4⟩) | (at_builtin; refine wpList_append_wide rfl _ _ 56 rfl w.heap.size 9 (.string .empty) 1 16 Try.underlying56 infoS rfl (by decide) vi In.length In rfl H4.out.1.choose_spec.own1 lb (lo + at_) _ _ X rfl (H4.out.2.2.2.trans (by omega)) H4.out.2.2.1.el H4.out.2.1 (by have := HB.out; omega) (by decide) H4.out.1.choose_spec.bel.size ?_; intro v5 w5 H5; have H6 := q_app1 H4.out.1 H5.out (by rw [List.length_append, H4.out.2.2.2]; omega); have cz5 := q_cell H6.out HC.out; obtain ⟨k2, hk2⟩ := k2_ex (pickv (Int.tdiv c 5) 4) (L ++ X).length) | (go_at_call 27; refine (pick_keep _ 4 w5 hd1 hd2 (by decide) (by decide)).mono ?_; rintro e w' ⟨rfl, hw⟩; subst w') | (go_at_call 38; refine (q_take H6.out hlen _ k2 hk2.out).mono ?_; rintro e w6 ⟨rfl, H7⟩) | (at_builtin; refine wpList_append_wide rfl _ _ 56 rfl w.heap.size 9 (.string .empty) 1 16 Try.underlying56 infoS rfl (by decide) vo Out.length Out rfl H7.out.1.choose_spec.own2 w5.heap.size 0 k2 k2 ((L ++ X).take k2) rfl (k2_len hk2.out) (q_el H6.out k2) H7.out.2 (by have := HB.out; have := hk2.out; have := H4.out.2.2.2; have := hk; simp at *; omega) (by decide) H7.out.1.choose_spec.bel.size ?_; intro v7 w7 H8; have H9 := q_app2 H7.out.1 H8.out (by rw [List.length_append, k2_len hk2.out])))
        go_roundw
        case rel => exact ⟨i + 1, at_ + (len - at_), v5, v7, rfl, rfl, by omega, by omega, by go_num, by go_num, _, _, _, q_round H9.out HIO.out H4.out.2.2.1 (by rw [H4.out.2.2.2]; exact hk)⟩
        case measure => simp [intOf]; omega
      · obtain rfl : n = p := by omega
        clear hn2 hn3
        go_wp2_with (first | (go_at_call 27; refine CK.mono ?_; rintro e w' ⟨rfl, hw⟩; subst w'; clear CK) | (go_at_call 37; refine (q_put HQL.out HRR.out ha1 hn1 _ (by omega)).mono ?_; rintro e w4 ⟨k, X, rfl, hk, H4⟩) | (at_builtin; refine wpList_append_wide rfl _ _ 56 rfl w.heap.size 9 (.string .empty) 1 16 Try.underlying56 infoS rfl (by decide) vi In.length In rfl H4.out.1.choose_spec.own1 lb (lo + at_) _ _ X rfl (H4.out.2.2.2.trans (by omega)) H4.out.2.2.1.el H4.out.2.1 (by have := HB.out; omega) (by decide) H4.out.1.choose_spec.bel.size ?_; intro v5 w5 H5; have H6 := q_app1 H4.out.1 H5.out (by rw [List.length_append, H4.out.2.2.2]; omega); have cz5 := q_cell H6.out HC.out; obtain ⟨k2, hk2⟩ := k2_ex (pickv (Int.tdiv c 5) 4) (L ++ X).length) | (go_at_call 27; refine (pick_keep _ 4 w5 hd1 hd2 (by decide) (by decide)).mono ?_; rintro e w' ⟨rfl, hw⟩; subst w') | (go_at_call 38; refine (q_take H6.out hlen _ k2 hk2.out).mono ?_; rintro e w6 ⟨rfl, H7⟩) | (at_builtin; refine wpList_append_wide rfl _ _ 56 rfl w.heap.size 9 (.string .empty) 1 16 Try.underlying56 infoS rfl (by decide) vo Out.length Out rfl H7.out.1.choose_spec.own2 w5.heap.size 0 k2 k2 ((L ++ X).take k2) rfl (k2_len hk2.out) (q_el H6.out k2) H7.out.2 (by have := HB.out; have := hk2.out; have := H4.out.2.2.2; have := hk; simp at *; omega) (by decide) H7.out.1.choose_spec.bel.size ?_; intro v7 w7 H8; have H9 := q_app2 H7.out.1 H8.out (by rw [List.length_append, k2_len hk2.out])))
        go_roundw
        case rel => exact ⟨i + 1, at_ + n, v5, v7, rfl, rfl, by omega, by omega, by go_num, by go_num, _, _, _, q_round H9.out HIO.out H4.out.2.2.1 (by rw [H4.out.2.2.2]; exact hk)⟩
        case measure => simp [intOf]; omega
    · obtain ⟨L, In, Out, hR⟩ := HR.out
      obtain ⟨hq0, hio, hle, hstr⟩ := hR
      have HW : Hid (∃ gb, QW w wr w.heap.size gb w1.heap.size gq rm len L In Out vi vo) := hq0
      have hLl : In.length = Out.length + L.length := by rw [hio]; simp
      have hIn : In.length ≤ 8796093021952 := by omega
      have HIO : Hid (In = Out ++ L ∧ Str In ∧ In.length = Out.length + L.length) := ⟨hio, hstr, hLl⟩
      have CL := q_len HW.out
      have CQ := q_end HW.out
      clear hq0 hio hle hstr hLl HR HL H30
      have hcond : ¬ (i : Int) < (clen : Int) ∨ ((i : Int) < (clen : Int) ∧ ¬ (at_ : Int) < (len : Int)) := by omega
      rcases hcond with hcond | ⟨hc1, hc2⟩
      · go_wp2_with (first | (go_at_call 39; refine CL.mono ?_; rintro e w' ⟨rfl, hw⟩; subst w'; clear CL) | (go_at_call 38; refine (q_take HW.out hlen _ L.length (by omega)).mono ?_; rintro e w6 ⟨rfl, H7⟩) | (at_builtin; refine wpList_append_wide rfl _ _ 56 rfl w.heap.size 9 (.string .empty) 1 16 Try.underlying56 infoS rfl (by decide) vo Out.length Out rfl H7.out.1.choose_spec.own2 wr.heap.size 0 L.length L.length (L.take L.length) rfl (by simp) (q_el HW.out _) H7.out.2 (by have := HIO.out; omega) (by decide) H7.out.1.choose_spec.bel.size ?_; intro v7 w7 H8; obtain ⟨a1, c1, a2, c2, e1, e2, H9, H10⟩ := CQ w6 w7 v7 H7.out.1 H8.out HIO.out; subst e1 e2) | (go_at_call 39; refine (q_len H9.out).mono ?_; rintro e w' ⟨rfl, hw⟩; subst w') | (go_at_call 40; refine (q_qlen H9.out).mono ?_; rintro e w' ⟨rfl, hw⟩; subst w'))
        have CT := q_last H9.out
        go_loopw [17] (fun ti wr => ∃ k m : Nat, k ≤ In.length ∧ ti = .int .i64 k ∧ wr = w7.drewN m) (fun ti _ => In.length - (intOf ti).toNat)
        case atStart => exact ⟨0, 0, Nat.zero_le _, rfl, rfl⟩
        case round =>
          obtain ⟨k, m, hk, rfl, rfl⟩ := hrel
          by_cases hlt : k < In.length
          · obtain ⟨g1, g2, s, rfl, rfl, x1, x2⟩ := H10.out k hlt
            have i1 : (k : Int) < (In.length : Int) := by omega
            clear H9 H10 CT
            go_wp2
            go_quiet (fail)
            go_wp2
            go_roundw
            case rel => exact ⟨k + 1, _, by omega, by go_num, rfl⟩
            case measure => simp [intOf]; omega
          · have i1 : ¬ (k : Int) < (In.length : Int) := by omega
            have CT1 := CT m
            clear CT
            go_wp2_with (first | (go_at_call 41; refine CT1.mono ?_; rintro e w8 ⟨rfl, y1, y2, HB⟩))
            go_ret
            exact ⟨rfl, HB.out⟩
      · go_wp2_with (first | (go_at_call 39; refine CL.mono ?_; rintro e w' ⟨rfl, hw⟩; subst w'; clear CL) | (go_at_call 38; refine (q_take HW.out hlen _ L.length (by omega)).mono ?_; rintro e w6 ⟨rfl, H7⟩) | (at_builtin; refine wpList_append_wide rfl _ _ 56 rfl w.heap.size 9 (.string .empty) 1 16 Try.underlying56 infoS rfl (by decide) vo Out.length Out rfl H7.out.1.choose_spec.own2 wr.heap.size 0 L.length L.length (L.take L.length) rfl (by simp) (q_el HW.out _) H7.out.2 (by have := HIO.out; omega) (by decide) H7.out.1.choose_spec.bel.size ?_; intro v7 w7 H8; obtain ⟨a1, c1, a2, c2, e1, e2, H9, H10⟩ := CQ w6 w7 v7 H7.out.1 H8.out HIO.out; subst e1 e2) | (go_at_call 39; refine (q_len H9.out).mono ?_; rintro e w' ⟨rfl, hw⟩; subst w') | (go_at_call 40; refine (q_qlen H9.out).mono ?_; rintro e w' ⟨rfl, hw⟩; subst w'))
        have CT := q_last H9.out
        go_loopw [17] (fun ti wr => ∃ k m : Nat, k ≤ In.length ∧ ti = .int .i64 k ∧ wr = w7.drewN m) (fun ti _ => In.length - (intOf ti).toNat)
        case atStart => exact ⟨0, 0, Nat.zero_le _, rfl, rfl⟩
        case round =>
          obtain ⟨k, m, hk, rfl, rfl⟩ := hrel
          by_cases hlt : k < In.length
          · obtain ⟨g1, g2, s, rfl, rfl, x1, x2⟩ := H10.out k hlt
            have i1 : (k : Int) < (In.length : Int) := by omega
            clear H9 H10 CT
            go_wp2
            go_quiet (fail)
            go_wp2
            go_roundw
            case rel => exact ⟨k + 1, _, by omega, by go_num, rfl⟩
            case measure => simp [intOf]; omega
          · have i1 : ¬ (k : Int) < (In.length : Int) := by omega
            have CT1 := CT m
            clear CT
            go_wp2_with (first | (go_at_call 41; refine CT1.mono ?_; rintro e w8 ⟨rfl, y1, y2, HB⟩))
            go_ret
            exact ⟨rfl, HB.out⟩

end Go.Proofs.Ytddpcjgekfmhkaa
