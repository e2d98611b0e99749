/- The statement Convolves: the law's own walk. -/
import Derived.Test.YtddpcjgekfmhkaaDoorCl
import Derived.Deep.RegionHeld3
namespace Go.Proofs.YtddpcjgekfmhkaaDoor
open Go.RowKit Go.Maps
set_option linter.unusedSimpArgs false
set_option linter.unusedVariables false

theorem IArr.below {w w' : World} {b off len B : Nat} {z : Nat → Int} (h : IArr w b off len z) (g : Below B w w') (hb : 0 < len → b < B) : IArr w' b off len z := fun i hi => ⟨(g.cell (p := ⟨b, off + i, none⟩) (hb (by omega))).trans (h i hi).1, (h i hi).2⟩
theorem JArr.below {w w' : World} {b n B : Nat} {f : Nat → Int} (h : JArr w b n f) (g : Below B w w') (hb : 0 < n → b < B) : JArr w' b n f := fun i hi => ⟨(g.cell (p := ⟨b, i, none⟩) (hb (by omega))).trans (h i hi).1, (World.frozen?_of_block (a := ⟨b, i, none⟩) (g.block b (hb (by omega)))).trans (h i hi).2⟩
theorem Tab.below {w w' : World} {B : Nat} (h : Tab w) (g : Below B w w') (hb : 1 < B) : Tab w' := fun i hi => (g.cell (p := ⟨1, i, none⟩) hb).trans (h i hi)
theorem JArr.only {w w' : World} {b n c : Nat} {f : Nat → Int} (h : JArr w b n f) (k : Only c w w') (hc : b ≠ c) : JArr w' b n f := fun i hi => ⟨(k.cell hc).trans (h i hi).1, (k.frozen _).trans (h i hi).2⟩

theorem still_I {u4 u5 : World} {hb la b off len : Nat} {z : Nat → Int} (h : Only hb u4 u5 ∧ (la = 0 → u5 = u4)) (hI : IArr u4 b off len z) (hne : 0 < la → 0 < len → b ≠ hb) : IArr u5 b off len z := by
  by_cases h0 : la = 0
  · rw [h.2 h0]; exact hI
  · intro i hi
    exact hI.only h.1 (hne (by omega) (by omega)) i hi
theorem still_J {u4 u5 : World} {hb la b n : Nat} {z : Nat → Int} (h : Only hb u4 u5 ∧ (la = 0 → u5 = u4)) (hI : JArr u4 b n z) (hne : 0 < la → 0 < n → b ≠ hb) : JArr u5 b n z := by
  by_cases h0 : la = 0
  · rw [h.2 h0]; exact hI
  · intro i hi
    exact hI.only h.1 (hne (by omega) (by omega)) i hi
theorem below_only {N c : Nat} {a b b' : World} (h : Below N a b) (k : Only c b b') (hc : N ≤ c) : Below N a b' :=
  ⟨k.os.trans h.os, k.tape.trans h.tape, k.output.trans h.output, by rw [k.size]; exact h.size, fun q hq => (k.block q (by omega)).trans (h.block q hq)⟩

theorem JArr.lt {w : World} {b n : Nat} {f : Nat → Int} (h : JArr w b n f) (hn : 0 < n) : b < w.heap.size := World.block_lt_of_cell? w _ (h 0 hn).1

set_option maxHeartbeats 4000000 in
theorem convolves_core (a0 a1 : Option Addr) (la b0 off0 cap0 lb b1 off1 cap1 : Nat) (za zb : Nat → Int) (w : World) (ht : Tab w) (ht1 : 1 < w.heap.size) (hm0 : la ≤ 17592186044416) (hm1 : lb ≤ 17592186044416) (e0 : 0 < la → a0 = some ⟨b0, off0, none⟩) (e1 : 0 < lb → a1 = some ⟨b1, off1, none⟩) (ha : IArr w b0 off0 la za) (hb : IArr w b1 off1 lb zb) :
    Calls Tryd.prog 4 #[.slice a0 la cap0, .slice a1 lb cap1] w fun e w' => e = .returned (.bool true) ∧ Below w.heap.size w w' := by
  have HW : Hid (Tab w ∧ IArr w b0 off0 la za ∧ IArr w b1 off1 lb zb ∧ (0 < la → a0 = some ⟨b0, off0, none⟩) ∧ (0 < lb → a1 = some ⟨b1, off1, none⟩)) := ⟨ht, ha, hb, e0, e1⟩
  have TE := fun (w1 : World) (g : Gw w w1) (hA : IArr w1 w.heap.size 0 3 ez1) (hB : IArr w1 (w.heap.size + 1) 0 3 ez2) => example_any w.heap.size (w.heap.size + 1) w1 (ht.gw g) (Nat.lt_of_lt_of_le ht1 g.size) hA hB
  have HE : ∀ t : TypeId, IArr ((w.alloc (.cells #[.int .i64 1, .int .i64 2, .int .i64 3] t)).alloc (.cells #[.int .i64 0, .int .i64 1, .int .i64 (-1)] t)) w.heap.size 0 3 ez1 ∧ IArr ((w.alloc (.cells #[.int .i64 1, .int .i64 2, .int .i64 3] t)).alloc (.cells #[.int .i64 0, .int .i64 1, .int .i64 (-1)] t)) (w.heap.size + 1) 0 3 ez2 := by
    intro t
    refine ⟨(iarr_alloc w _ t 3 ez1 ?_).gw ((Gw.refl _).alloc _ _), ?_⟩
    · intro i hi
      rcases (show i = 0 ∨ i = 1 ∨ i = 2 by omega) with rfl | rfl | rfl <;> exact ⟨rfl, by decide, by decide⟩
    · have := iarr_alloc (w.alloc (.cells #[.int .i64 1, .int .i64 2, .int .i64 3] t)) #[.int .i64 0, .int .i64 1, .int .i64 (-1)] t 3 ez2 (by
        intro i hi
        rcases (show i = 0 ∨ i = 1 ∨ i = 2 by omega) with rfl | rfl | rfl <;> exact ⟨rfl, by decide, by decide⟩)
      simpa using this
  clear ht ha hb e0 e1
  have tk : True := trivial
  go_enter Tryd.func4, Tryd.ntmps4
  go_wp2_with (first
    | (go_at_call 16; refine (TE _ (((Gw.refl w).alloc _ _).alloc _ _) (HE _).1 (HE _).2).mono ?_; rintro e w1 ⟨ob, rfl, hJ, hG⟩; clear TE HE; have HG1 : Hid (Gw w w1 ∧ JArr w1 ob 5 ez3) := ⟨(((Gw.refl w).alloc _ _).alloc _ _).trans hG, hJ⟩; clear hG hJ)
    | (go_at_call 17; have _t := tk; refine (same_yes _ _ ob w1.heap.size 5 5 5 ez3 _ (by omega) (fun _ => rfl) (fun _ => rfl) (HG1.out.2.gw ((Gw.refl w1).alloc _ _)) (by
        intro i hi
        refine ⟨alloc_at w1 _ _ i _ ?_, ?_⟩
        · rcases (show i = 0 ∨ i = 1 ∨ i = 2 ∨ i = 3 ∨ i = 4 by omega) with rfl | rfl | rfl | rfl | rfl <;> rfl
        · rw [frozen?_alloc_cells]; simp [World.frozen?])).mono ?_; rintro e w2 ⟨rfl, m2, hw2⟩; clear tk; have HG2 : Hid (Gw w w2) := hw2 ▸ (HG1.out.1.alloc _ _).drewN m2; clear hw2)
    | (go_at_call 18; refine (ref_res a0 a1 la b0 off0 cap0 lb b1 off1 cap1 za zb w2 hm0 hm1 HW.out.2.2.2.1 HW.out.2.2.2.2 (HW.out.2.1.gw HG2.out) (HW.out.2.2.1.gw HG2.out)).mono ?_; rintro e w3 ⟨oa, wb, rfl, hn1, hn2, hJ, hob, hG⟩; have HG3 : Hid (Gw w w3 ∧ JArr w3 wb (cnt la lb za zb) (cv la lb za zb) ∧ (cnt la lb za zb = 0 → oa = none) ∧ (0 < cnt la lb za zb → oa = some ⟨wb, 0, none⟩)) := ⟨HG2.out.trans hG, hJ, hn1, hn2⟩; clear hG hJ hn1 hn2 hob))
  obtain ⟨N, hN⟩ : ∃ N, cnt la lb za zb = N := ⟨_, rfl⟩
  obtain ⟨G, hGc⟩ : ∃ G, code la lb za zb = G := ⟨_, rfl⟩
  have HNG : Hid (cnt la lb za zb = N ∧ code la lb za zb = G ∧ N ≤ 1024) := ⟨hN, hGc, hN ▸ cnt_le _ _ _ _⟩
  rw [hN] at HG3
  rw [hN, hGc]
  clear hN hGc
  obtain ⟨B, hB⟩ : ∃ B, w3.heap.size = B := ⟨_, rfl⟩
  have HB : Hid (w3.heap.size = B) := hB
  obtain ⟨w4, hw4⟩ : ∃ w4, w3.alloc (.cells #[.slice none 0 0, .slice none 0 0] 34) = w4 := ⟨_, rfl⟩
  rw [hw4, hB]
  have H4 : Hid (Below B w3 w4 ∧ St B w4 B 0 (.slice none (4 * 0) 0) []) := by
    subst hB
    subst hw4
    refine ⟨((Gw.refl w3).alloc _ _).1, ⟨alloc_at w3 _ _ 0 _ rfl, alloc_at w3 _ _ 1 _ rfl, ?_, World.ownsRow_nil _ _ _ _, (fun h => by cases h), Nat.le_refl _, (fun i v h => by simp at h)⟩⟩
    rw [frozen?_alloc_cells]; simp [World.frozen?]
  clear hB hw4
  go_loopw [7, 11] (fun tk tn wr => ∃ r : Nat, r ≤ 2 ∧ tk = .bool true ∧ tn = .int .i64 r ∧ Hid (Below B w3 wr ∧ ∃ ia icap xs, St B wr B r (.slice ia (4 * r) icap) xs)) (fun _ tn _ => 2 - (intOf tn).toNat)
  case atStart => exact ⟨0, by omega, rfl, rfl, H4.out.1, none, 0, [], H4.out.2⟩
  case round =>
    obtain ⟨r, hr, rfl, rfl, HR⟩ := hrel
    clear H4
    by_cases hlt : r < 2
    · obtain ⟨ia, icap, xs, hSt0⟩ := HR.out.2
      have HSt : Hid (St B wr B r (.slice ia (4 * r) icap) xs) := hSt0
      clear hSt0
      have hBw : B ≤ wr.heap.size := by rw [← HB.out]; exact HR.out.1.size
      have HX : Hid (IArr wr b0 off0 la za ∧ IArr wr b1 off1 lb zb ∧ Tab wr ∧ JArr wr wb N (cv la lb za zb) ∧ (0 < la → b0 < B) ∧ (0 < lb → b1 < B) ∧ 1 < B) := by
        have hsz := HG3.out.1.size
        have k0 : 0 < la → b0 < B := fun h => by have := HW.out.2.1.lt h; have := HB.out; omega
        have k1 : 0 < lb → b1 < B := fun h => by have := HW.out.2.2.1.lt h; have := HB.out; omega
        have k2 : 1 < B := by have := HB.out; omega
        refine ⟨(HW.out.2.1.gw HG3.out.1).below HR.out.1 k0, (HW.out.2.2.1.gw HG3.out.1).below HR.out.1 k1, (HW.out.1.gw HG3.out.1).below HR.out.1 k2, HG3.out.2.1.below HR.out.1 (fun h => ?_), k0, k1, k2⟩
        have := World.block_lt_of_cell? w3 _ (HG3.out.2.1 0 h).1
        rw [← HB.out]; exact this
      have tl : True := trivial
      have ts : True := trivial
      go_wp2_with (first
        | (go_at_call 19; have _t := tl; refine (lent_res a0 b0 off0 la cap0 za wr hm0 HW.out.2.2.2.1 HX.out.1).mono ?_; rintro e u1 ⟨ha, hb, hcap, rfl, hL, hhb, hI, hG⟩; clear tl; have H1 : Hid ((0 < la → ha = some ⟨hb, 0, none⟩ ∧ hcap = la + 8 ∧ JArr u1 hb (la + 8) (lentI la za)) ∧ wr.heap.size ≤ hb ∧ IArr u1 hb 0 la za ∧ Gw wr u1) := ⟨hL, hhb, hI, hG⟩; clear hL hhb hI hG)
        | (go_at_call 19; refine (lent_res a1 b1 off1 lb cap1 zb u1 hm1 HW.out.2.2.2.2 (HX.out.2.1.gw H1.out.2.2.2)).mono ?_; rintro e u2 ⟨ka, kb, kcap, rfl, hL, hhb, hI, hG⟩; have H2 : Hid ((0 < lb → ka = some ⟨kb, 0, none⟩ ∧ kcap = lb + 8 ∧ JArr u2 kb (lb + 8) (lentI lb zb)) ∧ u1.heap.size ≤ kb ∧ IArr u2 kb 0 lb zb ∧ Gw u1 u2) := ⟨hL, hhb, hI, hG⟩; clear hL hhb hI hG)
        | (go_at_call 16; refine (conv_res ha ka la hb 0 hcap lb kb 0 kcap za zb u2 (HX.out.2.2.1.gw (H1.out.2.2.2.trans H2.out.2.2.2)) (Nat.lt_of_lt_of_le (Nat.lt_of_lt_of_le HX.out.2.2.2.2.2.2 hBw) (H1.out.2.2.2.trans H2.out.2.2.2).size) hm0 hm1 (fun h => (H1.out.1 h).1) (fun h => (H2.out.1 h).1) (H1.out.2.2.1.gw H2.out.2.2.2) H2.out.2.2.1).mono ?_; rw [show Res la lb za zb u2 = Res la lb za zb u2 from rfl]; rintro e u3 ⟨qa, ob2, he, n1, n2, hJ, hob, hG⟩; rw [HNG.out.1] at n1 n2 hJ; rw [HNG.out.1, HNG.out.2.1] at he; subst he; have H3 : Hid ((N = 0 → qa = none) ∧ (0 < N → qa = some ⟨ob2, 0, none⟩) ∧ JArr u3 ob2 N (cv la lb za zb) ∧ u2.heap.size ≤ ob2 ∧ Gw u2 u3) := ⟨n1, n2, hJ, hob, hG⟩; clear n1 n2 hJ hob hG)
        | (go_at_call 17; refine (same_yes qa oa ob2 wb N N N (cv la lb za zb) u3 (by have := HNG.out.2.2; omega) H3.out.2.1 HG3.out.2.2.2 H3.out.2.2.1 (HX.out.2.2.2.1.gw ((H1.out.2.2.2.trans H2.out.2.2.2).trans H3.out.2.2.2.2))).mono ?_; rintro e u4 ⟨rfl, m4, hw4⟩; have H4 : Hid (Gw u3 u4) := hw4 ▸ (Gw.refl u3).drewN m4; clear hw4)
        | (go_at_call 20; have _t := ts; refine (still_res a0 ha hb b0 off0 la cap0 hcap za u4 hm0 HW.out.2.2.2.1 (HX.out.1.gw (((H1.out.2.2.2.trans H2.out.2.2.2).trans H3.out.2.2.2.2).trans H4.out)) (fun h => ⟨(H1.out.1 h).1, (H1.out.1 h).2.1, (H1.out.1 h).2.2.gw ((H2.out.2.2.2.trans H3.out.2.2.2.2).trans H4.out)⟩) (fun h => by have := HX.out.2.2.2.2.1 h; have := H1.out.2.1; omega)).mono ?_; rintro e u5 ⟨rfl, hO5, hz5⟩; clear ts; have H5 : Hid (Only hb u4 u5 ∧ (la = 0 → u5 = u4)) := ⟨hO5, hz5⟩; clear hO5 hz5; have HY5 : Hid (IArr u5 b1 off1 lb zb ∧ (0 < lb → ka = some ⟨kb, 0, none⟩ ∧ kcap = lb + 8 ∧ JArr u5 kb (lb + 8) (lentI lb zb))) := ⟨still_I H5.out (HX.out.2.1.gw (((H1.out.2.2.2.trans H2.out.2.2.2).trans H3.out.2.2.2.2).trans H4.out)) (fun _ h => by have := HX.out.2.2.2.2.2.1 h; have := H1.out.2.1; omega), fun h => ⟨(H2.out.1 h).1, (H2.out.1 h).2.1, still_J H5.out ((H2.out.1 h).2.2.gw (H3.out.2.2.2.2.trans H4.out)) (fun h1 _ => by have := (H1.out.1 h1).2.2.lt (by omega); have := H2.out.2.1; omega)⟩⟩)
        | (go_at_call 20; refine (still_res a1 ka kb b1 off1 lb cap1 kcap zb u5 hm1 HW.out.2.2.2.2 HY5.out.1 HY5.out.2 (fun h => by have := HX.out.2.2.2.2.2.1 h; have := H2.out.2.1; have := H1.out.2.2.2.size; omega)).mono ?_; rintro e u6 ⟨rfl, hO6, hz6⟩; have H6 : Hid (Only kb u5 u6 ∧ (lb = 0 → u6 = u5)) := ⟨hO6, hz6⟩; clear hO6 hz6; have HBel : Hid (Below wr.heap.size wr u6) := below_only (below_only ((((H1.out.2.2.2.trans H2.out.2.2.2).trans H3.out.2.2.2.2).trans H4.out)).1 H5.out.1 H1.out.2.1) H6.out.1 (Nat.le_trans H1.out.2.2.2.size H2.out.2.1);
            have HLb : Hid (∃ q, JArr u6 q N (cv la lb za zb) ∧ (0 < N → qa = some ⟨q, 0, none⟩) ∧ wr.heap.size ≤ q) := (by
              by_cases h0 : N = 0
              · exact ⟨wr.heap.size, fun i hi => by omega, fun h => by omega, Nat.le_refl _⟩
              · refine ⟨ob2, still_J H6.out (still_J H5.out (H3.out.2.2.1.gw H4.out) (fun h1 _ => ?_)) (fun h1 _ => ?_), H3.out.2.1, ?_⟩
                · have := (H1.out.1 h1).2.2.lt (by omega); have := H2.out.2.2.2.size; have := H3.out.2.2.2.1; omega
                · have := (H2.out.1 h1).2.2.lt (by omega); have := H3.out.2.2.2.1; omega
                · have := H1.out.2.2.2.size; have := H2.out.2.2.2.size; have := H3.out.2.2.2.1; omega))
        | (go_at_call 21; obtain ⟨lk, hLJ, hLq, hLw⟩ := HLb.out; have hS6 := HSt.out.mono HBel.out; have hBlt := World.block_lt_of_cell? wr _ HSt.out.cell0; have hBlt' : B < wr.heap.size := hBlt;
            have hIl : (Value.slice ia (4 * r) icap).ownBlock ≠ some lk := fun h => (by have := (own_lt HSt.out.own h).2; omega);
            refine (keep_any B lk N (4 * r) icap B qa ia (cv la lb za zb) xs u6 HNG.out.2.2 (by omega) hLq hS6.cell0 hS6.unf hS6.own hLJ (by omega) hIl hS6.apart (fun h => by by_cases h0 : N = 0; exact h0; have := H3.out.2.1 (by omega); rw [h] at this; cases this) (Nat.le_trans hBw HBel.out.size)).mono ?_;
            intro e u7 hKP;
            obtain ⟨rfl, hB7, ia7, icap7, xs7, hS7⟩ := hS6.keep hKP (by omega) (by omega) hIl (fun i a len cap hx h0 h => by
              obtain ⟨a', len', cap', e', _, hr'⟩ := HSt.out.rows i _ hx
              cases e'
              obtain ⟨g, rfl, _, _, _, hc⟩ := hr' h0
              have := World.block_lt_of_cell? wr _ (hc 0 h0)
              have h2 : g = lk := Option.some.inj h
              have : g < wr.heap.size := this
              omega) HNG.out.2.2 hLq (Nat.le_trans hBw HBel.out.size);
            have H7 : Hid (Below B u6 u7 ∧ St B u7 B (r + 1) (.slice ia7 (4 * (r + 1)) icap7) xs7) := ⟨hB7, hS7⟩; clear hB7 hS7 hKP hIl hBlt hBlt' hS6 hLJ hLq hLw)
        | (go_at_call 15; obtain ⟨gI, Ra, Rg, Rl, Rc, hgI, hRow⟩ := H7.out.2.rowed; refine (whole_any B gI (4 * (r + 1)) icap7 ia7 Ra Rg Rl Rc u7 (by omega) hgI H7.out.2.cell0 H7.out.2.cell1 hRow).mono ?_; rintro e u8 ⟨rfl, hw8⟩; subst u8; clear hgI hRow)
        | (go_at_call 12; refine (num_any G _).mono ?_; rintro e u9 ⟨rfl, hw9⟩; subst u9))
      go_roundw
      case rel =>
        exact ⟨r + 1, by omega, rfl, by go_num, (HR.out.1.trans (HBel.out.mono hBw)).trans H7.out.1, ia7, icap7, xs7, H7.out.2⟩
      case measure => simp [intOf]; omega
    · obtain rfl : r = 2 := by omega
      go_wp2
      go_ret
      exact ⟨rfl, HG3.out.1.1.trans (HR.out.1.mono (by rw [← HB.out]; exact HG3.out.1.size))⟩

end Go.Proofs.YtddpcjgekfmhkaaDoor
