/- Texts joined: RingEU Xh Xi Kj. -/
import Derived.Test.YtddpcjgekfmhkabDoorM10
import Derived.Defers
import Derived.Test.YtddpcjgekfmhkabDoorM12
import Derived.Deep.RegionHeld3
import Derived.Deep.RegionLawGrows
import Derived.Deep.AppendLies
import Derived.Maps.RangeWalk

/- A ring of []uint64: New, Len, Put, walked. -/
namespace Go.Proofs.YtddpcjgekfmhkabDoor
open Go.RowKit
set_option linter.unusedSimpArgs false
set_option linter.unusedVariables false

set_option maxHeartbeats 1000000 in
set_option maxRecDepth 20000 in
theorem putDU (u : FrameMode) (rb gb M : Nat) (room : Int) (L X : List (List Value)) (b o len cap k : Nat) (w : World) (h : Ring 90 59 1 M w rb gb room L) (hM : M ≤ 4398046511104) (hX : Src w (some ⟨b, o, none⟩) X) (eX : El 1 X) (lX : X.length = len) (hlen : len ≤ 281474976710656) (hcap : len ≤ cap) (hcap2 : cap ≤ 9223372036854775807)
    (hnb : b ≠ rb ∧ b ≠ gb ∧ b < w.heap.size) (hk : k = min len (room.toNat - L.length)) (hkM : L.length + k ≤ M) :
    CallsD Tryd.prog 98 #[.pointer (some ⟨rb, 0, none⟩), .slice (some ⟨b, o, none⟩) len cap] u w fun e u' w' => u' = u ∧ (e = .returned (.int .i64 k) ∧ PutQU M w w' rb gb room (L ++ X.take k)) := by
  have hle := h.le
  have hlt := h.lt
  obtain ⟨C, f, h0, hgb⟩ := id h
  have hroom := h0.roomM
  have c0 := h0.blk.c0
  have c3 := h0.blk.c3
  have hkr : (L.length : Int) + k ≤ room := by omega
  have CG : Calls Tryd.prog 107 #[.pointer (some ⟨rb, 0, none⟩), .int .i64 ((L.length : Int) + k)] w.drew fun e w' => e = .returned (.tuple #[]) ∧ ∃ gb' C f, w'.cell? ⟨rb, 3, none⟩ = some (.int .i64 L.length) ∧ Hid (PgQU M k w w' rb gb gb' room C f L) := by
    have hb : Bt (fun _ => False) w w.drew := (Bt.refl _ w).drew
    refine (growU rb gb M room L (L.length + k) w.drew (h.bt hb (fun x => x) (fun x => x)) hM (by omega) hkM (by omega)).mono ?_
    rintro e w' ⟨rfl, gb', C, f, hq, hg, hc, hg2, hbt⟩
    exact ⟨rfl, gb', C, f, hq.blk.c3, hq, hg, hc, hg2, hb.mono (T := fun k => k = rb) (fun _ _ x => x.elim) |>.trans hbt (fun _ _ x => x)⟩
  have CP : ∀ w2 gb' C f, Hid (PgQU M k w w2 rb gb gb' room C f L) → Calls Tryd.prog 108 #[.pointer (some ⟨rb, 0, none⟩), .int .i64 L.length, .int .i64 k] w2 fun e w' => ∃ hp tp d0 d1 m s st, e = .returned (.tuple #[.slice hp st d0, .slice tp (k - st) d1]) ∧ w' = w2.drewN m ∧ st ≤ k ∧ Hid (pos f C.length L.length = s ∧ st = Nat.min k (C.length - s) ∧ PcQ gb' 1 C.length s hp tp) := by
    intro w2 gb' C f H
    obtain ⟨h, hgb', hfit, hg, bt⟩ := H.out
    have hsm := h.small
    refine (piecesU rb gb' _ room C.length f L.length L.length k _ _ w2 h.blk (by omega) h.circ.first h.circ.le (by omega) rfl rfl).mono ?_
    rintro e w' ⟨hp, tp, d0, d1, rfl, hq1, hq0, m, hw⟩
    exact ⟨hp, tp, d0, d1, m, _, _, rfl, hw, Nat.min_le_left _ _, rfl, rfl, hq1, hq0⟩
  have HS : Hid (SrQU w rb gb b o len X) := ⟨hX, eX, lX, hnb⟩
  have hite : (if room - (L.length : Int) < (len : Int) then room - (L.length : Int) else (len : Int)) = (k : Int) := by split <;> omega
  have hkl : k ≤ len := by omega
  clear h h0 hX eX lX hnb hk hgb
  go_enter_d Tryd.func98, Tryd.ntmps98
  go_wp2
  go_region
  try simp only [hite]
  clear hite c0
  go_wp2_with (first
    | (go_at_call 107; refine CG.mono ?_; rintro e w2 ⟨rfl, gb', C', f', d3, HG⟩)
    | (go_at_call 108; refine (CP w2 gb' C' f' HG).mono ?_; rintro e w' ⟨hp, tp, d0, d1, m, s, st, rfl, hw, hsk, HP⟩; subst w'; obtain ⟨hs, hst, hq⟩ := HP.out; by_cases hsc : st < cap; (obtain ⟨w4, w5, r4, r5, g3, f3, HX⟩ := put_copiesU HG.out HS.out hkl hkr hs hst hq m d0 d1 cap (cap - st) (some ⟨b, o + st * 1, none⟩) (fun _ => rfl); clear hs hst hq HP HG HS CG CP; try simp only [Nat.mul_one] at r5); rotate_left; (obtain rfl : st = cap := by omega); (obtain rfl : len = st := by omega); (obtain rfl : k = len := by omega); (obtain ⟨w4, w5, r4, r5, g3, f3, HX⟩ := put_copiesU HG.out HS.out hkl hkr hs hst hq m d0 d1 k 0 (some ⟨b, o, none⟩) (fun h => by omega)); clear hs hst hq HP HG HS CG CP; simp only [Nat.sub_self] at r5))
  all_goals go_ret
  all_goals exact ⟨rfl, HX.out⟩

end Go.Proofs.YtddpcjgekfmhkabDoor

/- What the last blocks and the windows give. -/
namespace Go.Proofs.YtddpcjgekfmhkabDoor
open Go.RowKit
set_option linter.unusedSimpArgs false
set_option linter.unusedVariables false

theorem Rw.at_sl {w : World} {g n : Nat} {bs : List Nat} (h : Rw w g 59 (sls n bs)) {i b : Nat} (hi : bs[i]? = some b) : w.cell? ⟨g, i, none⟩ = some (.slice (some ⟨b, 0, none⟩) n n) := by
  unfold Rw at h
  rw [sls_flat] at h
  simp [World.cell?, h, hi, sl]
/-- What meet gives. -/
def MeetQ (base xb : Nat) (p : Par) (ob : Nat) (w : World) (F : Nat → Prop) (w' : World) : Prop :=
  ∃ F', FP base xb p w' F' ∧ Stp w F w' F' ∧ Arr w' ob (2 ^ p.K) (spec p.K (fun j => blk p.B p.z (p.nb - 1 - j)) (win p.B (at0 p.h)) (min (wins p.h.length p.B) p.nb)) ∧ w.heap.size ≤ ob ∧ ¬ F' ob
theorem wins_mono {a b B : Nat} (h : a ≤ b) : wins a B ≤ wins b B := by
  unfold wins
  have := Nat.div_le_div_right (c := B) (show a + B - 2 ≤ b + B - 2 by omega)
  omega
theorem spec_elems (K n : Nat) (X H : Nat → Nat → Int) (J : Nat) : Elems n (spec K X H J) := fun _ _ => md_bd _
theorem dft_elems (K n : Nat) (X : Nat → Int) : Elems n (dft K X) := fun _ _ => md_bd _

set_option maxHeartbeats 4000000 in
set_option maxRecDepth 20000 in
theorem meet_any {base xb : Nat} {p : Par} {w : World} {F : Nat → Prop} (h : FP base xb p w F) (hB : okBlock (p.B : Int)) (n : Nat) (hn : 2 ^ p.K = n) (hn2 : n = 2 * p.B) (hh : p.h.length ≤ 1024) (hnb : 1 ≤ p.nb) :
    Calls Tryd.prog 81 #[.pointer (some ⟨xb, 0, none⟩)] w fun e w' => ∃ ob, e = .returned (.slice (some ⟨ob, 0, none⟩) n n) ∧ MeetQ base xb p ob w F w' := by
  have hbase := h.base_le
  have hFlt : ∀ k, F k → k < w.heap.size := fun k hk => ((FP.fr base xb p).lt h hk).2
  have hB' := hB
  unfold okBlock at hB'
  obtain ⟨G, hG, hGF, oth, step⟩ := h.steps 3 (by omega)
  obtain ⟨G0, hx, hx0, _⟩ := oth 0 (by omega) (by omega)
  obtain ⟨G4, ht4, hx4, _⟩ := oth 4 (by omega) (by omega)
  have nxG : ¬ G xb := hx0 xb ((hx.2.2 xb).2 rfl)
  obtain ⟨gb, bs, g1, g2, g3, g4, g5, g6, g7⟩ := hG
  obtain ⟨tb, tbs, t1, t2, t3, t4, t5, t6, t7⟩ := ht4
  have hw := wins_le hB
  have hwp := wins_pos 1024 p.B
  have hwm : wins p.h.length p.B ≤ wins 1024 p.B := wins_mono hh
  have hx' := hx.1
  have ntb : ¬ G tb := hx4 tb ((t7 tb).2 (.inl rfl))
  have ntbs : ∀ b, b ∈ tbs → ¬ G b := fun b hb => hx4 b ((t7 b).2 (.inr hb))
  obtain ⟨room, hroom⟩ : ∃ room, wins 1024 p.B = room := ⟨_, rfl⟩
  obtain ⟨kb, hkb⟩ : ∃ kb, p.kb = kb := ⟨_, rfl⟩
  obtain ⟨B, hBB⟩ : ∃ B, p.B = B := ⟨_, rfl⟩
  obtain ⟨L, hL⟩ : ∃ L, bs.length = L := ⟨_, rfl⟩
  obtain ⟨T, hT⟩ : ∃ T, tbs.length = T := ⟨_, rfl⟩
  rw [hn, hroom] at g1
  rw [hroom] at g2 hw hwp hwm
  rw [hkb] at g1
  have g1' : KRing w kb gb room n bs := g1
  have hl := g1'.lt
  have htb := t3.lt
  have nk : ∀ k, ¬ G k → ¬ (k = kb ∨ k = gb) := fun k hk e => hk ((g7 k).2 (by rw [hkb]; omega))
  have c6 := hx'.c6
  have c7 := hx'.c7
  have c0 := hx'.c0
  rw [hkb] at c6
  rw [t1, hT] at c7
  rw [hBB] at c0 hB' hn2
  rw [hL] at g2
  rw [hT] at t2
  -- what it ends in
  have FN : Hid (∀ (w' : World) (gb' ob : Nat), KRing w' kb gb' room n bs → (gb' = gb ∨ w.heap.size ≤ gb') → Bt (fun i => i = kb ∨ i = gb) w w' → Arr w' ob n (spec p.K (fun j => blk p.B p.z (p.nb - 1 - j)) (win p.B (at0 p.h)) (min T L)) → w.heap.size ≤ ob → ob ≠ gb' → MeetQ base xb p ob w F w') := by
    intro w' gb' ob k1 k2 k3 k4 k5 k6
    have hc : comp base xb p 3 w' (fun k => k = kb ∨ k = gb' ∨ k ∈ bs) := by
      refine ⟨gb', bs, ?_, by rw [hroom, hL]; exact g2, g3.bt k3 (fun b hb => by have := g6 b hb; rw [hkb] at this; omega), g4, by rcases k2 with rfl | k2; exact g5; omega, fun c hc => ?_, fun k => by rw [hkb]⟩
      · show Ring _ _ _ _ _ p.kb _ _ _
        rw [hkb, hn, hroom]; exact k1
      · have := g3.lt (Nat.two_pow_pos p.K) hc
        rcases k2 with rfl | k2
        · exact g6 c hc
        · exact ⟨(g6 c hc).1, (g6 c hc).2.1, by omega⟩
    have hnw : ∀ k, (k = kb ∨ k = gb' ∨ k ∈ bs) → G k ∨ w.heap.size ≤ k := by
      intro k hk
      rcases hk with rfl | rfl | e
      · exact .inl ((g7 _).2 (.inl hkb.symm))
      · rcases k2 with rfl | k2
        · exact .inl ((g7 _).2 (.inr (.inl rfl)))
        · exact .inr k2
      · exact .inl ((g7 _).2 (.inr (.inr e)))
    obtain ⟨F', q1, q2, q3⟩ := step p w' (fun k => k = kb ∨ k = gb' ∨ k ∈ bs) (fun i hi hne => rfl) hc (k3.mono (fun i _ e => (g7 i).2 (by rw [hkb]; omega))) (fun k hk => (hnw k hk).imp id (fun e q => by have := hFlt k q; omega))
    have hmin : min T L = min (wins p.h.length p.B) p.nb := by omega
    rw [hmin] at k4
    refine ⟨F', q1, ⟨q2, fun k hk => ?_⟩, by rw [hn]; exact k4, k5, fun e => ?_⟩
    · rcases q3 k hk with e | e
      · exact (hnw k e).imp (hGF k) id
      · exact .inl e
    · rcases q3 ob e with e | e
      · rcases e with e | e | e
        · omega
        · exact k6 e
        · have := g3.lt (Nat.two_pow_pos p.K) e; omega
      · have := hFlt ob e; omega
  -- what is there while it goes on
  have OLD : Hid (∀ wr, Bt (fun i => i = kb ∨ i = gb) w wr → wr.cell? ⟨xb, 6, none⟩ = some (.pointer (some ⟨kb, 0, none⟩)) ∧ wr.cell? ⟨xb, 7, none⟩ = some (.slice (some ⟨tb, 0, none⟩) T T) ∧ wr.cell? ⟨xb, 0, none⟩ = some (.int .i64 B) ∧
      (∀ j, j < T → ∃ c, wr.cell? ⟨tb, j, none⟩ = some (.slice (some ⟨c, 0, none⟩) n n) ∧ Arr wr c n (dft p.K (win p.B (at0 p.h) j)) ∧ c < w.heap.size) ∧ (∀ i b, bs[i]? = some b → Arr wr b n (dft p.K (blk p.B p.z (p.nb - L + i))) ∧ b < w.heap.size)) := by
    intro wr b
    refine ⟨b.cell (nk _ nxG) c6, b.cell (nk _ nxG) c7, b.cell (nk _ nxG) c0, fun j hj => ?_, fun i c hc => ?_⟩
    · have e : tbs[j]? = some tbs[j] := List.getElem?_eq_getElem (by omega)
      have hm : tbs[j] ∈ tbs := List.getElem_mem _
      have e3 : Rw w tb 59 (sls n tbs) := by rw [← hn]; exact t3
      refine ⟨tbs[j], (e3.bt b (nk _ ntb)).at_sl e, ?_, t4.lt (Nat.two_pow_pos p.K) hm⟩
      rw [← hn]
      exact (t4 j _ e).bt b (nk _ (ntbs _ hm))
    · have hm := List.mem_of_getElem? hc
      refine ⟨?_, g3.lt (Nat.two_pow_pos p.K) hm⟩
      have := g3 i c hc
      rw [hn, hL] at this
      exact this.bt b (by have := g6 c hm; rw [hkb] at this; omega)
  have CL : ∀ m, Calls Tryd.prog 100 #[.pointer (some ⟨kb, 0, none⟩)] (w.drewN m) fun e w' => e = .returned (.int .i64 L) ∧ w' = w.drewN m := fun m => by
    have := kr_len (g1'.bt ((Bt.refl (fun _ => False) w).drewN m) (fun x => x) (fun x => x))
    rwa [hL] at this
  have CT : ∀ m, Calls Tryd.prog 99 #[.pointer (some ⟨kb, 0, none⟩), .int .i64 L] (w.drewN m) fun e w' => e = .returned (.slice (some ⟨w.heap.size, 0, none⟩) L L) ∧ Hid (Rw w' w.heap.size 59 (sls n bs) ∧ KRing w' kb gb room n [] ∧ Bt (fun i => i = kb ∨ i = gb) w w') := fun m => by
    refine (kr_take (g1'.bt ((Bt.refl (fun _ => False) w).drewN m) (fun x => x) (fun x => x)) L L rfl (by omega)).mono ?_
    rintro e w' ⟨rfl, q1, q2, q3⟩
    rw [List.take_of_length_le (by omega)] at q1
    rw [List.drop_of_length_le (by omega)] at q2
    exact ⟨rfl, q1, q2, ((Bt.refl (fun i => i = kb ∨ i = gb) w).drewN m).trans q3 (fun _ _ x => x)⟩
  have CA : ∀ (wr : World) (ob j q c : Nat), Arr wr ob n (spec p.K (fun j => blk p.B p.z (p.nb - 1 - j)) (win p.B (at0 p.h)) j) → Bt (fun i => i = kb ∨ i = gb) w wr → (∃ b, bs[q]? = some b ∧ b = c) → q + j + 1 = L → j < T → w.heap.size ≤ ob → ∀ t, Arr wr t n (dft p.K (win p.B (at0 p.h) j)) → t < w.heap.size → Calls Tryd.prog 101 #[.slice (some ⟨ob, 0, none⟩) n n, .slice (some ⟨c, 0, none⟩) n n, .slice (some ⟨t, 0, none⟩) n n] wr fun e w' => e = .returned (.tuple #[]) ∧ Hid (Arr w' ob n (spec p.K (fun j => blk p.B p.z (p.nb - 1 - j)) (win p.B (at0 p.h)) (j + 1)) ∧ Only ob wr w') := by
    rintro wr ob j q c ha hb ⟨b, hq, rfl⟩ hqj hj hob t hta htl
    have ho := (OLD.out wr hb).2.2.2.2 q b hq
    have e : p.nb - L + q = p.nb - 1 - j := by omega
    rw [e] at ho
    refine (addProducts_any ob b t n _ _ _ wr (by omega) ha ho.1 hta (spec_elems _ _ _ _ _) (dft_elems _ _ _) (dft_elems _ _ _) (by omega) (by omega)).mono ?_
    rintro e w' ⟨rfl, q1, q2⟩
    exact ⟨rfl, q1.congr (fun i _ => (spec_succ _ _ _ _).symm), q2⟩
  have HBS : Hid (∀ q, q < L → ∃ b, bs[q]? = some b) := fun q hq => ⟨bs[q], List.getElem?_eq_getElem (by omega)⟩
  have CD : ∀ (wr : World), Rw wr w.heap.size 59 (sls n bs) → KRing wr kb gb room n [] → Bt (fun i => i = kb ∨ i = gb) w wr → CallsD Tryd.prog 98 #[.pointer (some ⟨kb, 0, none⟩), .slice (some ⟨w.heap.size, 0, none⟩) L L] .returning wr fun e u' w' => u' = .returning ∧ (e = .returned (.int .i64 L) ∧ Hid (KPutQ wr w' kb gb room n bs)) := by
    intro wr r1 r2 r3
    have hr := r1.src (sls_el n bs) 0 L (some ⟨w.heap.size, 0, none⟩) (fun _ => by simp)
    rw [List.drop_zero, List.take_of_length_le (by rw [sls_len]; omega)] at hr
    refine (putDU .returning kb gb 131072 room (sls n []) (sls n bs) w.heap.size 0 L L L wr r2 (by decide) hr (sls_el n bs) (by rw [sls_len]; exact hL) (by omega) (by omega) (by omega) ⟨by omega, by omega, r1.lt⟩ (by simp [sls]; omega) (by simp [sls]; omega)).mono ?_
    rintro e u' w' ⟨rfl, rfl, gb', q1, q2, q3⟩
    refine ⟨rfl, rfl, gb', ?_, q2, q3⟩
    rw [List.take_of_length_le (by rw [sls_len]; omega)] at q1
    exact q1
  have hT1 : T ≤ 65 := by omega
  have hL1 : L ≤ 65 := by omega
  have hx6 := c6
  have hn3 : (2 : Int) * (B : Int) = (n : Int) := by omega
  have hnb2 : n ≤ 512 := by omega
  clear step oth hGF hx0 hx hx' h hx4 t1 t3 t4 t5 t6 t7 g1 g1' g3 g6 g7 c7 c0 nk ntb ntbs hFlt g2 t2 hL hT hn2 hroom hkb hBB hn hw hwp hwm nxG hbase hB hh hnb g4 g5 hB'
  obtain ⟨J, hJ, hcase⟩ : ∃ J, J = min T L ∧ ((J = L ∧ L < T) ∨ (J = T ∧ T ≤ L)) := ⟨_, rfl, by omega⟩
  rw [← hJ] at FN
  have hJT : J ≤ T := by omega
  have hJL : J ≤ L := by omega
  clear hJ
  obtain ⟨ZS, hZS⟩ : ∃ ZS, ZS = spec p.K (fun j => blk p.B p.z (p.nb - 1 - j)) (win p.B (at0 p.h)) := ⟨_, rfl⟩
  have HZ0 : Hid (∀ i, ZS 0 i = 0) := fun i => by rw [hZS]; rfl
  rw [← hZS] at CA FN
  have HQQ : Hid (∀ j, j < J → ∃ q : Nat, (L : Int) - 1 - (j : Int) = (q : Int) ∧ q + j + 1 = L ∧ (q : Int) < (L : Int) ∧ (j : Int) < (T : Int) ∧ IntKind.i64.wrap (IntKind.i64.wrap ((L : Int) - 1) - (j : Int)) = (q : Int)) := fun j hj => ⟨L - 1 - j, by omega, by omega, by omega, by omega, by rw [IntWalk.i64_in ((L : Int) - 1) (by omega), IntWalk.i64_in _ (by omega)]; omega⟩
  clear hZS
  have hlb : kb < w.heap.size := hl.1
  have hlg : gb < w.heap.size := hl.2
  clear hl
  rcases hcase with ⟨e, c⟩ | ⟨e, c⟩
  all_goals
    have c1 : (J : Int) ≤ (T : Int) := by omega
    have c2 : (J : Int) ≤ (L : Int) := by omega
    subst e
    go_enter_defers Tryd.func81, Tryd.ntmps81
    go_wp2
    refine wp_region_quiet_seq 9 1 (by kernel_rfl) (by kernel_rfl) (by kernel_rfl) ?_
    repeat (quiet_step ((first
      | (go_at_call 100; exact Calls.quiet_of_same (CL _)))))
    refine wpQuiet_nil ?_
    rintro _ ⟨nq, rfl⟩
    go_wp2_with (first
      | (go_at_call 99; refine (CT _).mono ?_; rintro e w1 ⟨rfl, H1⟩; obtain ⟨d6, d7, d0, _⟩ := OLD.out w1 H1.out.2.2)
      | (at_make; refine wpList_make_u64 _ rfl _ _ 59 84 rfl Tryd.underlying59 info_u64 n _ rfl rfl rfl (by omega) ?_; intro w2 hA hG hZ; have HW2 : Hid (Bt (fun i => i = kb ∨ i = gb) w w2) := H1.out.2.2.trans (hG.bt _) (fun _ _ x => x); obtain ⟨e6, e7, e0, _⟩ := OLD.out w2 HW2.out))
    have hz1 : w.heap.size < w1.heap.size := H1.out.1.lt
    have HS : Hid (Arr w2 w1.heap.size n (ZS 0) ∧ Rw w2 w.heap.size 59 (sls n bs) ∧ KRing w2 kb gb room n [] ∧ w2.heap.size = w1.heap.size + 1) := ⟨hA.congr (fun i _ => (HZ0.out i).symm), H1.out.1.bt (hG.bt (fun _ => False)) (fun x => x), H1.out.2.1.bt (hG.bt (fun _ => False)) (fun x => x) (fun x => x), hZ⟩
    clear hA hG hZ H1
    go_loopw [36] (fun ti wr => ∃ j : Nat, j ≤ J ∧ ti = .int .i64 j ∧ Hid (Arr wr w1.heap.size n (ZS j) ∧ Only w1.heap.size w2 wr)) (fun ti _ => J - (intOf ti).toNat)
    case atStart => exact ⟨0, Nat.zero_le _, rfl, HS.out.1, Only.refl _ _⟩
    case round =>
      obtain ⟨j, hj, rfl, HR⟩ := hrel
      have HWR : Hid (Bt (fun i => i = kb ∨ i = gb) w wr) := HW2.out.trans HR.out.2.bt (fun i hi e => by omega)
      obtain ⟨f6, f7, f0, ft, fb⟩ := OLD.out wr HWR.out
      by_cases hlt : j < J
      · obtain ⟨q, hq1, hq2, i2, i3, i4⟩ := HQQ.out j hlt
        obtain ⟨b, hb⟩ := HBS.out q (by omega)
        obtain ⟨t, ht1, ht2, ht3⟩ := ft j (by omega)
        have hcb : wr.cell? ⟨w.heap.size, q, none⟩ = some (.slice (some ⟨b, 0, none⟩) n n) := (HS.out.2.1.bt HR.out.2.bt (by omega)).at_sl hb
        have cadd := fun m => CA (wr.drewN m) w1.heap.size j q b (HR.out.1.drewN m) (HWR.out.drewN m) ⟨b, hb, rfl⟩ hq2 (by omega) (by omega) t (ht2.drewN m) ht3
        have i1 : (j : Int) < (J : Int) := by omega
        clear hq1 hq2 hb ht2 ht3 fb ft CA CT CL CD FN
        go_wp2
        refine wp_region_quiet_seq 16 0 (by kernel_rfl) (by kernel_rfl) (by kernel_rfl) ?_
        repeat (quiet_step (fail))
        refine wpQuiet_nil ?_
        rintro _ ⟨mq, rfl⟩
        go_wp2_with (go_at_call 101; refine (cadd _).mono ?_; rintro e w3 ⟨rfl, H3⟩)
        go_roundw
        case rel => exact ⟨j + 1, by omega, by go_num, H3.out.1, (HR.out.2.drewN _).trans H3.out.2⟩
        case measure => simp [intOf]; omega
      · obtain rfl : j = J := by omega
        have hr2 := HS.out.2.1.bt HR.out.2.bt (by omega)
        have hk2 := HS.out.2.2.1.bt HR.out.2.bt (by omega) (by omega)
        have cd := CD wr hr2 hk2 HWR.out
        have HK : Hid (wr.heap.size = w1.heap.size + 1) := by rw [← HS.out.2.2.2]; exact HR.out.2.size
        clear fb ft CA CT CL CD hr2 hk2
        go_wp2
        refine leaves_cons (by simp) ?_ (cd.mono ?_)
        · simp [go_sem]
        · rintro e u' w'' ⟨rfl, rfl, HP⟩
          refine ⟨_, results_tmp rfl _ _ _, w1.heap.size, rfl, ?_⟩
          obtain ⟨gb', k1, k2, k3⟩ := HP.out
          refine FN.out w'' gb' w1.heap.size k1 ?_ (HWR.out.trans k3 (fun _ _ x => x)) (HR.out.1.bt k3 (by omega)) (by omega) ?_
          · have := HK.out; omega
          · have := HK.out; omega
end Go.Proofs.YtddpcjgekfmhkabDoor

/- A block that is whole: its answers. -/
namespace Go.Proofs.YtddpcjgekfmhkabDoor
open Go.RowKit
set_option linter.unusedSimpArgs false
set_option linter.unusedVariables false

set_option maxHeartbeats 1000000 in
theorem liftAll_off (b off c cap : Nat) (f : Nat → Int) (w : World) (hmax : c ≤ 1024) (hf : Fits c f) (ha : ∀ i, i < c → w.cell? ⟨b, off + i, none⟩ = some (.int .u64 (f i))) :
    Calls Tryd.prog 44 #[.slice (some ⟨b, off, none⟩) c cap] w
      fun e w' => e = .returned (.slice (some ⟨w.heap.size, 0, none⟩) c c) ∧ JArr w' w.heap.size c (fun i => liftv (f i)) ∧ Gw w w' ∧ w'.heap.size = w.heap.size + 1 := by
  have HA : Hid ((∀ i, i < c → w.cell? ⟨b, off + i, none⟩ = some (.int .u64 (f i))) ∧ Fits c f) := ⟨ha, hf⟩
  clear ha hf
  go_enter Tryd.func44, Tryd.ntmps44
  go_wp2_with (at_make; refine wpList_make_i64 _ rfl _ _ 24 3 rfl Tryd.underlying24 info_int c _ rfl rfl rfl (by omega) ?_; intro w1 hA hG hZ)
  have HR0 : Hid (JArr w1 w.heap.size c (fun _ => 0) ∧ (∀ i, i < 0 → (0 : Int) = liftv (f i)) ∧ Gw w w1 ∧ w1.heap.size = w.heap.size + 1) := ⟨hA, fun i hi => by omega, hG, hZ⟩
  clear hA hG hZ
  go_loopw [11] (fun ti wr => ∃ (k : Nat) (g : Nat → Int), k ≤ c ∧ ti = .int .i64 k ∧ Hid (JArr wr w.heap.size c g ∧ (∀ i, i < k → g i = liftv (f i)) ∧ Gw w wr ∧ wr.heap.size = w.heap.size + 1)) (fun ti _ => c - (intOf ti).toNat)
  case atStart => exact ⟨0, fun _ => 0, Nat.zero_le _, rfl, HR0⟩
  case round =>
    obtain ⟨k, g, hk, rfl, HR⟩ := hrel
    by_cases hlt : k < c
    · obtain ⟨hA, hU, hG, hZ⟩ := HR.out
      have c1 := hG.at (HA.out.1 k hlt)
      have bf := HA.out.2 k hlt
      have cl := lift_any (f k) bf.1 bf.2
      have c2 := (hA k hlt).1
      have f2 := (hA k hlt).2
      obtain ⟨v, hv⟩ : ∃ v, f k = v := ⟨_, rfl⟩
      obtain ⟨u, hu⟩ : ∃ u, liftv v = u := ⟨_, rfl⟩
      rw [hv, hu] at cl
      rw [hv] at c1
      have HU : Hid (liftv (f k) = u) := by rw [hv, hu]; rfl
      clear bf hA hU hG hZ hv hu
      go_wp2_with (go_at_call 76; refine (cl _).mono ?_; rintro e w' ⟨rfl, hw⟩; subst w')
      go_roundw
      case rel =>
        refine ⟨k + 1, upd g k u, by omega, by go_num, ?_⟩
        obtain ⟨hA, hU, hG, hZ⟩ := HR.out
        refine ⟨hA.set hlt u, fun i hi => ?_, hG.setCell (Nat.le_refl _) _, by simpa [World.setCell] using hZ⟩
        by_cases e : i = k
        · subst e; rw [upd_same]; exact HU.out.symm
        · rw [upd_other e]; exact hU i (by omega)
      case measure => simp [intOf]; omega
    · obtain rfl : k = c := by omega
      go_wp2
      go_ret
      obtain ⟨hA, hU, hG, hZ⟩ := HR.out
      exact ⟨rfl, hA.congr hU, hG, hZ⟩

section
variable {base xb : Nat} {p : Par} {w : World} {F : Nat → Prop}
/-- Samples are taken. -/
theorem fp_take (h : FP base xb p w F) (n : Nat) (hn : p.S.length = n) :
    Calls Tryd.prog 32 #[.pointer (some ⟨p.sb, 0, none⟩), .int .i64 n] w fun e w' => e = .returned (.slice (some ⟨w.heap.size, 0, none⟩) n n) ∧ Hid (Rw w' w.heap.size 3 (ints p.S) ∧ ∃ F', FP base xb { p with S := [] } w' F' ∧ Stp w F w' F' ∧ ∀ k, F' k → F k) := by
  obtain ⟨G, hG, hGF, step⟩ := h.step 1 (by omega)
  refine (ri_take (hG : RI base p.sb p.B p.S w G) n n (by omega)).mono ?_
  rintro e w' ⟨rfl, q1, q2, q3⟩
  rw [List.take_of_length_le (by omega)] at q1
  rw [List.drop_of_length_le (by omega)] at q2
  obtain ⟨F', k1, k2, k3⟩ := step { p with S := [] } w' G (fun i hi hne => by
    match i, hi, hne with
    | 0, _, _ => rfl
    | 1, _, q => exact absurd rfl q
    | 2, _, _ => rfl
    | 3, _, _ => rfl
    | 4, _, _ => rfl
    | 5, _, _ => rfl
    | 6, _, _ => rfl) q2 ⟨q3, fun k hk => .inl hk⟩
  exact ⟨rfl, q1, F', k1, k2, fun k hk => (k3 k hk).elim (hGF k) id⟩
/-- A transform, with the filter's shelf. -/
theorem fp_tra (h : FP base xb p w F) (shb mb k : Nat) (hsh : p.sh = some (shb, mb, k)) (hk : k ≤ 1000000) (hK : p.K ≤ 10) (n : Nat) (hn : 2 ^ p.K = n) (b cap : Nat) (f : Nat → Int) (inv : Bool) (ha : Arr w b n f) (hf : Elems n f) (hb : ¬ F b) :
    Calls Tryd.prog 41 #[.pointer (some ⟨shb, 0, none⟩), .slice (some ⟨b, 0, none⟩) n cap, .bool inv] w fun e w' => ∃ ob, e = .returned (.slice (some ⟨ob, 0, none⟩) n n) ∧ Hid (Arr w' ob n (trans p.K inv f) ∧ w.heap.size ≤ ob ∧ ∃ F', FP base xb { p with sh := some (shb, mb, k + 1) } w' F' ∧ Stp w F w' F' ∧ ¬ F' ob) := by
  have ht := h.1
  have hb1 := h.2.1
  obtain ⟨G, hG, hGF, step⟩ := h.step 6 (by omega)
  have hG' : ShR base n p.K shb mb k w G := by
    have q : ShO base p.K p.sh w G := hG
    rw [hsh, ShO, hn] at q
    exact q
  have hFlt : ∀ k, F k → k < w.heap.size := fun k hk => ((FP.fr base xb p).lt h hk).2
  refine (tra base n p.K shb mb k hK hn hb1 hG' hk ht b cap f inv ha hf (fun e => hb (hGF b e))).mono ?_
  intro e w' hq
  obtain ⟨ob, G', he, q1, q2, q3, q4, q5⟩ := hq.stp hG'
  obtain ⟨F', k1, k2, k3⟩ := step { p with sh := some (shb, mb, k + 1) } w' G' (fun i hi hne => by
    match i, hi, hne with
    | 0, _, _ => rfl
    | 1, _, _ => rfl
    | 2, _, _ => rfl
    | 3, _, _ => rfl
    | 4, _, _ => rfl
    | 5, _, _ => rfl
    | 6, _, q => exact absurd rfl q) (by show ShR base (2 ^ p.K) p.K shb mb (k + 1) w' G'; rw [hn]; exact q3) q4
  exact ⟨ob, he, q1, q2, F', k1, k2, fun e => (k3 ob e).elim q5 (fun q => by have := hFlt ob q; omega)⟩
/-- Answers are put. -/
theorem fp_put (h : FP base xb p w F) (b n cap : Nat) (X : List Int) (hX : Src w (some ⟨b, 0, none⟩) (ints X)) (lX : X.length = n) (hcap : n ≤ cap) (hcap2 : cap ≤ 1048576) (hb : ¬ F b) (hbl : b < w.heap.size) (hr : p.Y.length + n ≤ p.R) (hR : p.R ≤ 65536) :
    Calls Tryd.prog 47 #[.pointer (some ⟨p.ab, 0, none⟩), .slice (some ⟨b, 0, none⟩) n cap] w fun e w' => ∃ i : Int, e = .returned (.int .i64 i) ∧ Hid (∃ F', FP base xb { p with Y := p.Y ++ X } w' F' ∧ Stp w F w' F') := by
  have hbase := h.base_le
  obtain ⟨G, hG, hGF, step⟩ := h.step 2 (by omega)
  refine (ri_put (hG : RI base p.ab p.R p.Y w G) b 0 n cap n X hX lX (by omega) hcap (fun e => hb (hGF b e)) hbl hbase (by omega) (by omega)).mono ?_
  rintro e w' ⟨rfl, G', q1, q2⟩
  rw [List.take_of_length_le (by omega)] at q1
  obtain ⟨F', k1, k2, k3⟩ := step { p with Y := p.Y ++ X } w' G' (fun i hi hne => by
    match i, hi, hne with
    | 0, _, _ => rfl
    | 1, _, _ => rfl
    | 2, _, q => exact absurd rfl q
    | 3, _, _ => rfl
    | 4, _, _ => rfl
    | 5, _, _ => rfl
    | 6, _, _ => rfl) q1 q2
  exact ⟨_, rfl, F', k1, k2⟩
end
end Go.Proofs.YtddpcjgekfmhkabDoor

/- The invariant of book.keep's last statement: what the slots hold, whatever has come up. -/
namespace Go.Proofs.YtddpcjgekfmhkabDoor
open Go
set_option linter.unusedVariables false

theorem wpOp_of {P : Program} {ops : Array Oper} {Q : Exit → Act → World → Prop} {i : Nat} {o : Oper} {K : Act → World → Prop} {a : Act} {w : World} (ho : ops[i]? = some o) (hg : o.guard = none) (h : o.wp P a w K Q) : wpOp P ops Q i K a w := by
  unfold wpOp
  rw [ho]
  simp only [Region.wanted, hg, if_true]
  exact .inl h

theorem dep {md : Region.Mode} {ops : Array Oper} {listed : Array Bool} {i : Nat} (d : Nat) (hi : i ∈ Region.ready md ops listed) (hd : ((ops[i]?).map fun o => o.after.any fun e => e.on == d && Region.binds md e) = some true) : listed.getD d false = true := by
  obtain ⟨_, o, ho, h⟩ := mem_ready.mp hi
  rw [ho] at hd
  simp only [Option.map_some, Option.some.injEq, Array.any_eq_true', Bool.and_eq_true, beq_iff_eq] at hd
  obtain ⟨e, he, rfl, hb⟩ := hd
  exact h e he hb

/-- Where every edge goes to a lesser number, all have come up when nothing is ready. -/
theorem all_listed {md : Region.Mode} {ops : Array Oper} {listed : Array Bool} (hn : listed.size = ops.size) (hr : Region.ready md ops listed = [])
    (hlow : ∀ i o, ops[i]? = some o → ∀ e ∈ o.after, Region.binds md e = true → e.on < i) : ∀ i, i < ops.size → listed.getD i false = true := by
  intro i
  induction i using Nat.strongRecOn with
  | ind i ih =>
    intro hi
    cases hb : listed.getD i false with
    | true => rfl
    | false =>
      exfalso
      have h1 : listed.getD i true = false := by
        rw [Array.getD_eq_getD_getElem?, Array.getElem?_eq_getElem (by omega)] at hb ⊢
        simpa using hb
      have : i ∈ Region.ready md ops listed := mem_ready.mpr ⟨h1, ops[i], Array.getElem?_eq_getElem hi, fun e he hb => ih e.on (hlow i _ (Array.getElem?_eq_getElem hi) e he hb) (by have := hlow i _ (Array.getElem?_eq_getElem hi) e he hb; omega)⟩
      rw [hr] at this
      exact absurd this (List.not_mem_nil)

/-- A row of n marks, made since. -/
def Marks (H : Nat) (M : Value) (n : Nat) (v : Value) (w : World) : Prop := ∃ g cap, v = .slice (some ⟨g, 0, none⟩) n cap ∧ H ≤ g ∧ ∀ j, j < n → w.cell? ⟨g, j, none⟩ = some M

structure Fours (H c : Nat) (L M v1 v2 v3 : Value) (w : World) : Prop where
  r1 : Marks H M (c + 1) v1 w
  r2 : Marks H M (c + 2) v2 w
  r3 : Marks H M (c + 3) v3 w

def Good (H bb c : Nat) (L IV M : Value) : Nat → Value → World → Prop
  | 0, v, _ | 1, v, _ | 2, v, _ | 3, v, _ | 23, v, _ | 24, v, _ => v = .pointer (some ⟨bb, 0, none⟩)
  | 4, v, _ => v = IV
  | 5, v, _ | 6, v, _ | 10, v, _ | 15, v, _ => v = L
  | 7, v, _ | 11, v, _ | 12, v, _ | 16, v, _ | 17, v, _ | 18, v, _ => v = M
  | 8, v, w => Marks H M 1 v w
  | 13, v, w => Marks H M 2 v w
  | 19, v, w => Marks H M 3 v w
  | 9, v, w => Marks H M (c + 1) v w
  | 14, v, w => Marks H M (c + 2) v w
  | 20, v, w => Marks H M (c + 3) v w
  | 21, v, w => ∃ g v1 v2 v3, v = .slice (some ⟨g, 0, none⟩) 4 4 ∧ H ≤ g ∧ Fours H c L M v1 v2 v3 w ∧ ∀ j u, [L, v1, v2, v3][j]? = some u → w.cell? ⟨g, j, none⟩ = some u
  | _, _, _ => True

theorem Marks.mono {H n : Nat} {M v : Value} {w w' : World} {row : Option Nat} (h : Marks H M n v w) (hg : w.grownBy w' row) (hrow : ∀ k, row = some k → k < H) : Marks H M n v w' := by
  obtain ⟨g, cap, rfl, hH, hc⟩ := h
  exact ⟨g, cap, rfl, hH, fun j hj => hg.cell (hc j hj) (fun e => by have := hrow g e.symm; omega)⟩
theorem Fours.mono {H c : Nat} {L M v1 v2 v3 : Value} {w w' : World} {row : Option Nat} (h : Fours H c L M v1 v2 v3 w) (hg : w.grownBy w' row) (hrow : ∀ k, row = some k → k < H) : Fours H c L M v1 v2 v3 w' :=
  ⟨h.r1.mono hg hrow, h.r2.mono hg hrow, h.r3.mono hg hrow⟩
theorem Good.mono {H bb c : Nat} {L IV M : Value} {k : Nat} {v : Value} {w w' : World} {row : Option Nat} (h : Good H bb c L IV M k v w) (hg : w.grownBy w' row) (hrow : ∀ k, row = some k → k < H) : Good H bb c L IV M k v w' := by
  unfold Good at h ⊢
  split <;> simp_all only
  all_goals first
    | exact Marks.mono h hg hrow
    | (obtain ⟨g, v1, v2, v3, rfl, hH, hF, hc⟩ := h
       exact ⟨g, v1, v2, v3, rfl, hH, hF.mono hg hrow, fun j u hu => hg.cell (hc j u hu) (fun e => by have := hrow g e.symm; omega)⟩)

/-- What is so while the region goes on, up to the append onto the book. -/
structure KJ (w0 : World) (bb c : Nat) (L IV M : Value) (listed : Array Bool) (a : Act) (w : World) : Prop where
  lsize : listed.size = 26
  defers : a.defers = []
  tsize : a.tmps.size = 47
  t0 : a.tmps.getD 0 undef = .pointer (some ⟨bb, 0, none⟩)
  t1 : a.tmps.getD 1 undef = L
  t4 : a.tmps.getD 4 undef = M
  vals : ∀ k, k < 26 → listed.getD k false = true → Good w0.heap.size bb c L IV M k (a.tmps.getD (22 + k) undef) w
  closed : listed.getD 22 false = true → ∀ k, 1 ≤ k → k < 22 → listed.getD k false = true
  c24 : listed.getD 24 false = true → listed.getD 23 false = true
  grown : w0.grownBy w IV.ownBlock
  pure : listed.getD 22 false = false → w0.grownBy w none

theorem KJ.put {w0 : World} {bb c : Nat} {L IV M : Value} {listed : Array Bool} {a : Act} {w : World} (h : KJ w0 bb c L IV M listed a w) (hrow : ∀ k, IV.ownBlock = some k → k < w0.heap.size) (k : Nat) (hk : k < 25) (v : Value) (w' : World)
    (hg : w.grownBy w' IV.ownBlock) (hgn : k ≠ 22 → w.grownBy w' none) (hgood : Good w0.heap.size bb c L IV M k v w') (h22 : k = 22 → ∀ j, 1 ≤ j → j < 22 → listed.getD j false = true) (h24 : k = 24 → listed.getD 23 false = true) : KJ w0 bb c L IV M (listed.setIfInBounds k true) (a.put (some (22 + k)) v) w' := by
  have hs := h.tsize
  have hl := h.lsize
  have far : ∀ j, j < 22 → (a.put (some (22 + k)) v).tmps.getD j undef = a.tmps.getD j undef := by
    intro j hj
    simp only [Act.put, Array.getD_eq_getD_getElem?]
    rw [Array.getElem?_setIfInBounds_ne (by omega)]
  refine ⟨by simp [hl], h.defers, by simp [Act.put, hs], (far 0 (by omega)).trans h.t0, (far 1 (by omega)).trans h.t1, (far 4 (by omega)).trans h.t4, ?_, ?_, ?_, h.grown.trans hg, ?_⟩
  · intro j hj hlj
    by_cases e : k = j
    · subst e
      have : (a.put (some (22 + k)) v).tmps.getD (22 + k) undef = v := by
        simp only [Act.put, Array.getD_eq_getD_getElem?]
        rw [Array.getElem?_setIfInBounds_self_of_lt (by omega)]; rfl
      rw [this]; exact hgood
    · rw [getD_set_ne false e] at hlj
      have : (a.put (some (22 + k)) v).tmps.getD (22 + j) undef = a.tmps.getD (22 + j) undef := by
        simp only [Act.put, Array.getD_eq_getD_getElem?]
        rw [Array.getElem?_setIfInBounds_ne (by omega)]
      rw [this]
      exact (h.vals j hj hlj).mono hg hrow
  · intro h1 j hj1 hj
    by_cases e : k = 22
    · exact getD_set_true (h22 e j hj1 hj)
    · rw [getD_set_ne false (by omega)] at h1
      exact getD_set_true (h.closed h1 j hj1 hj)
  · intro h1
    by_cases e : k = 24
    · exact getD_set_true (h24 e)
    · rw [getD_set_ne false (by omega)] at h1
      exact getD_set_true (h.c24 h1)
  · intro h1
    by_cases e : k = 22
    · subst e
      rw [Array.getD_eq_getD_getElem?, Array.getElem?_setIfInBounds_self_of_lt (by omega)] at h1
      cases h1
    · rw [getD_set_ne false e] at h1
      exact (h.pure h1).trans (hgn e)

/-- The book's longer list. -/
def Own (base : Nat) (T : TypeId) (H c ni : Nat) (L IV M : Value) (xs : List Value) (v : Value) (w : World) : Prop :=
  ∃ g cap v1 v2 v3, v = .slice (some ⟨g, 0, none⟩) (ni + 4) cap ∧ w.ownsRow base T 1 v (ni + 4) (xs ++ [L, v1, v2, v3]) ∧ Fours H c L M v1 v2 v3 w ∧ (IV.ownBlock = some g ∨ H ≤ g) ∧ v1.ownBlock ≠ some g ∧ v2.ownBlock ≠ some g ∧ v3.ownBlock ≠ some g

def KK (base : Nat) (T : TypeId) (ni : Nat) (xs : List Value) (w0 : World) (bb c : Nat) (L IV M : Value) (listed : Array Bool) (a : Act) (w : World) : Prop :=
  (listed.getD 25 false = false ∧ KJ w0 bb c L IV M listed a w ∧ (listed.getD 22 false = true → Own base T w0.heap.size c ni L IV M xs (a.tmps.getD 44 undef) w)) ∨
  ((∀ k, k < 26 → listed.getD k false = true) ∧ a.defers = [] ∧ ∃ w1 v, w0.grownBy w1 IV.ownBlock ∧ Own base T w0.heap.size c ni L IV M xs v w1 ∧ w = w1.setCell ⟨bb, 0, none⟩ v)

section
variable {base : Nat} {T : TypeId} {ni : Nat} {xs : List Value} {w0 : World} {bb c : Nat} {L IV M : Value} {listed : Array Bool} {a : Act} {w : World}

theorem KK.same (h : KJ w0 bb c L IV M listed a w) (hrow : ∀ k, IV.ownBlock = some k → k < w0.heap.size) (h25 : listed.getD 25 false = false) (hown : listed.getD 22 false = true → Own base T w0.heap.size c ni L IV M xs (a.tmps.getD 44 undef) w)
    (i : Nat) (hi : i < 25) (hne : i ≠ 22) (v : Value) (hgood : Good w0.heap.size bb c L IV M i v w) (h24 : i = 24 → listed.getD 23 false = true) : KK base T ni xs w0 bb c L IV M (listed.setIfInBounds i true) (a.put (some (22 + i)) v) w := by
  refine .inl ⟨by rw [getD_set_ne false (by omega)]; exact h25, h.put hrow i hi v w (World.grownBy.refl w _) (fun _ => World.grownBy.refl w _) hgood (fun e => absurd e hne) h24, fun h2 => ?_⟩
  rw [getD_set_ne false hne] at h2
  have : (a.put (some (22 + i)) v).tmps.getD 44 undef = a.tmps.getD 44 undef := by
    simp only [Act.put, Array.getD_eq_getD_getElem?]
    rw [Array.getElem?_setIfInBounds_ne (by omega)]
  rw [this]; exact hown h2

theorem KK.grow (h : KJ w0 bb c L IV M listed a w) (hrow : ∀ k, IV.ownBlock = some k → k < w0.heap.size) (h25 : listed.getD 25 false = false)
    (i : Nat) (hi1 : 1 ≤ i) (hi : i < 22) (hun : listed.getD i true = false) (v : Value) (w' : World) (hg : w.grownBy w' none) (hgood : Good w0.heap.size bb c L IV M i v w') : KK base T ni xs w0 bb c L IV M (listed.setIfInBounds i true) (a.put (some (22 + i)) v) w' := by
  refine .inl ⟨by rw [getD_set_ne false (by omega)]; exact h25, h.put hrow i (by omega) v w' (hg.but _) (fun _ => hg) hgood (fun e => by omega) (fun e => by omega), fun h2 => ?_⟩
  rw [getD_set_ne false (by omega)] at h2
  have := h.closed h2 i hi1 hi
  have hl := h.lsize
  rw [Array.getD_eq_getD_getElem?, Array.getElem?_eq_getElem (by omega)] at this hun
  simp at this hun
  rw [this] at hun; cases hun

theorem KK.own (h : KJ w0 bb c L IV M listed a w) (hrow : ∀ k, IV.ownBlock = some k → k < w0.heap.size) (h25 : listed.getD 25 false = false) (hall : ∀ j, 1 ≤ j → j < 22 → listed.getD j false = true)
    (v : Value) (w' : World) (hg : w.grownBy w' IV.ownBlock) (ho : Own base T w0.heap.size c ni L IV M xs v w') : KK base T ni xs w0 bb c L IV M (listed.setIfInBounds 22 true) (a.put (some 44) v) w' := by
  refine .inl ⟨by rw [getD_set_ne false (by omega)]; exact h25, h.put hrow 22 (by omega) v w' hg (fun e => absurd rfl e) trivial (fun _ => hall) (fun e => by omega), fun h2 => ?_⟩
  have : (a.put (some 44) v).tmps.getD 44 undef = v := by
    have hs := h.tsize
    simp only [Act.put, Array.getD_eq_getD_getElem?]
    rw [Array.getElem?_setIfInBounds_self_of_lt (by omega)]; rfl
  rw [this]; exact ho

theorem KK.stored {v : Value} (h : KJ w0 bb c L IV M listed a w) (hown : Own base T w0.heap.size c ni L IV M xs v w) (hall : ∀ j, j < 25 → listed.getD j false = true) : KK base T ni xs w0 bb c L IV M (listed.setIfInBounds 25 true) a (w.setCell ⟨bb, 0, none⟩ v) := by
  refine .inr ⟨fun k hk => ?_, h.defers, w, v, h.grown, hown, rfl⟩
  have hl := h.lsize
  by_cases e : k = 25
  · subst e
    rw [Array.getD_eq_getD_getElem?, Array.getElem?_setIfInBounds_self_of_lt (by omega)]; rfl
  · exact getD_set_true (hall k (by omega))
end

theorem wpOp_if {P : Program} {ops : Array Oper} {Q : Exit → Act → World → Prop} {i : Nat} {o : Oper} {K : Act → World → Prop} {a : Act} {w : World} (ho : ops[i]? = some o) (h : if Region.wanted o (yielded ops a.tmps) = true then o.wp P a w K Q else K (a.put o.dst undef) w) : wpOp P ops Q i K a w := by
  unfold wpOp
  rw [ho]
  simp only
  split
  · rename_i hw; rw [if_pos hw] at h; exact .inl h
  · rename_i hw; rw [if_neg hw] at h; exact h

end Go.Proofs.YtddpcjgekfmhkabDoor
