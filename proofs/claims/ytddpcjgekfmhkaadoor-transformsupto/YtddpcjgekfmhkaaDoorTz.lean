/- The statement Transforms: the law's own walk. -/
import Derived.Test.YtddpcjgekfmhkaaDoorTx
import Derived.Deep.RegionHeld3
namespace Go.Proofs.YtddpcjgekfmhkaaDoor
open Go.RowKit Go.Maps
set_option linter.unusedSimpArgs false
set_option linter.unusedVariables false

theorem lent_arr {w : World} {b len : Nat} {z : Nat → Int} (h : Arr w b (len + 8) (lentF len z)) : Arr w b len (Zm z) := fun i hi => by
  have := h i (by omega)
  unfold lentF at this
  rw [if_pos hi] at this
  exact this

set_option maxHeartbeats 4000000 in
set_option maxRecDepth 20000 in
theorem transforms_core (a : Option Addr) (b off len cap : Nat) (z : Nat → Int) (inv : Bool) (w : World) (ht : Tab w) (ht1 : 1 < w.heap.size) (hmax : len ≤ 1048576) (hadr : 0 < len → a = some ⟨b, off, none⟩) (ha : IArr w b off len z) :
    Calls Tryd.prog 3 #[.slice a len cap, .bool inv] w fun e w' => e = .returned (.bool true) ∧ Below w.heap.size w w' := by
  obtain ⟨code, cnt, F, R⟩ := t_res len inv z hmax
  have HRs : Hid (TRes len inv z code cnt F) := R
  have hcnt : cnt ≤ 1024 := R.le
  have HW : Hid (Tab w ∧ IArr w b off len z ∧ (0 < len → a = some ⟨b, off, none⟩)) := ⟨ht, ha, hadr⟩
  have CI := impulse_any w ht
  clear ht ha hadr R
  go_enter Tryd.func3, Tryd.ntmps3
  go_wp2_with (go_at_call 7; refine CI.mono ?_; rintro e w1 ⟨rfl, g1⟩; clear CI; have H1 : Hid (XQ w w1 z (.slice none 0 0) 0) := ⟨⟨rfl, .inl ⟨rfl, rfl⟩⟩, Bt.of_gw _ g1⟩; clear g1)
  go_loopw [6, 7] (fun tv ti wr => ∃ (i : Nat) (vx : Value), vx = tv ∧ i ≤ len ∧ ti = .int .i64 i ∧ Hid (XQ w wr z vx i)) (fun _ ti _ => len - (intOf ti).toNat)
  case atStart => exact ⟨0, _, rfl, Nat.zero_le _, rfl, H1⟩
  case round =>
    obtain ⟨i, vx, e6, hi, rfl, HR⟩ := hrel
    subst e6
    by_cases hlt : i < len
    · obtain rfl := HW.out.2.2 (by omega)
      have cz := HR.out.2.cell (fun x => x) (HW.out.2.1 i hlt).1
      obtain ⟨v, hv⟩ : ∃ v, z i = v := ⟨_, rfl⟩
      rw [hv] at cz
      obtain ⟨v', hv'⟩ : ∃ v', v % 18446744073709551616 = v' := ⟨_, rfl⟩
      have co := of_ref v wr
      rw [hv'] at co
      have HZ : Hid (Zm z i = v') := by show z i % _ = v'; rw [hv, hv']
      have i1 : (i : Int) < (len : Int) := by omega
      clear H1 hv hv'
      go_wp2_with (first
        | (go_at_call 8; refine co.mono ?_; rintro e w2 ⟨rfl, g2⟩; clear co; have H2 : Hid (XQ w w2 z vx i) := HR.out.gw g2)
        | (at_builtin; refine wpList_append_el rfl _ _ 24 rfl w.heap.size 26 (.agg #[.int .i64 0, .int .i64 0]) 2 16 Tryd.underlying24 info_num rfl (by decide) vx i (outE (Zm z) i) rfl (H2.out.gw ((Gw.refl _).alloc _ _)).1 w2.heap.size 0 1 1 [numE v'] rfl rfl (numE_el v') (src_num w2 v' _) (by omega) (by decide) (H2.out.gw ((Gw.refl _).alloc _ _)).2.size ?_; intro v8 w8 H8; have H9 : Hid (XQ w w8 z v8 (i + 1)) := (H2.out.gw ((Gw.refl _).alloc _ _)).app (by rw [HZ.out]; exact H8.out)))
      go_roundw
      case rel => exact ⟨i + 1, v8, rfl, by omega, by go_num, H9⟩
      case measure => simp [intOf]; omega
    · obtain rfl : len = i := by omega
      clear H1 hlt hi
      obtain ⟨ax, bx, cx, rfl, hax, hNx⟩ := HR.out.form
      have CR := HRs.out.ref wr ax bx cx hax hNx
      have hBt := HR.out.2
      have szw := hBt.size
      have HR3 : Hid (Bt (fun _ => False) w wr) := hBt
      clear HR hax hNx hBt
      go_wp2_with (go_at_call 9; refine CR.mono ?_; rintro e w3 ⟨aw, wb, cw, rfl, n2, hN, hB3⟩; clear CR; have HG3 : Hid (Bt (fun _ => False) w w3 ∧ NArr w3 wb cnt F ∧ (0 < cnt → aw = some ⟨wb, 0, none⟩)) := ⟨HR3.out.trans (S := fun _ => False) (T := fun _ => False) ⟨hB3.os, hB3.tape, hB3.output, hB3.size, fun k hk _ => hB3.block k hk⟩ (fun _ _ x => x), hN, n2⟩; clear n2 hN hB3)
      obtain ⟨B, hB⟩ : ∃ B, w3.heap.size = B := ⟨_, rfl⟩
      have HB : Hid (w3.heap.size = B) := hB
      obtain ⟨w4, hw4⟩ : ∃ w4, w3.alloc (.cells #[.slice none 0 0, .slice none 0 0] 34) = w4 := ⟨_, rfl⟩
      rw [hw4, hB]
      have H4 : Hid (Below B w3 w4 ∧ ke.St B w4 B 0 (.slice none (4 * 0) 0) []) := by
        subst hB
        subst hw4
        refine ⟨((Gw.refl w3).alloc _ _).1, ⟨alloc_at w3 _ _ 1 _ rfl, alloc_at w3 _ _ 0 _ rfl, ?_, World.ownsRow_nil _ _ _ _, (fun h => by cases h), Nat.le_refl _, (fun i v h => by simp at h)⟩⟩
        rw [frozen?_alloc_cells]; simp [World.frozen?]
      clear hB hw4
      go_loopw [5, 11] (fun tk tn wr => ∃ r : Nat, r ≤ 2 ∧ tk = .bool true ∧ tn = .int .i64 r ∧ Hid (Below B w3 wr ∧ ∃ ia icap xs, ke.St B wr B r (.slice ia (4 * r) icap) xs)) (fun _ tn _ => 2 - (intOf tn).toNat)
      case atStart => exact ⟨0, by omega, rfl, rfl, H4.out.1, none, 0, [], H4.out.2⟩
      case round =>
        obtain ⟨r, hr, rfl, rfl, HR⟩ := hrel
        clear H4
        by_cases hlt : r < 2
        · obtain ⟨wo, rfl⟩ : ∃ wo : World, wo = wr := ⟨_, rfl⟩
          obtain ⟨ia, icap, xs, hSt0⟩ := HR.out.2
          have HSt : Hid (ke.St B wo B r (.slice ia (4 * r) icap) xs) := hSt0
          clear hSt0
          have hBw : B ≤ wo.heap.size := by rw [← HB.out]; exact HR.out.1.size
          have HX : Hid (IArr wo b off len z ∧ Tab wo ∧ NArr wo wb cnt F ∧ (0 < len → b < B) ∧ 1 < B) := by
            have hsz := HG3.out.1.size
            have k0 : 0 < len → b < B := fun h => by have := HW.out.2.1.lt h; have := HB.out; omega
            have k2 : 1 < B := by have := HB.out; omega
            have hb3 : Below w.heap.size w w3 := HG3.out.1.below (Nat.le_refl _) (fun _ _ x => x)
            refine ⟨(HW.out.2.1.below hb3 (fun h => HW.out.2.1.lt h)).below HR.out.1 k0, (HW.out.1.below hb3 ht1).below HR.out.1 k2, HG3.out.2.1.below HR.out.1 (fun h => ?_), k0, k2⟩
            have := World.block_lt_of_cell? w3 _ (HG3.out.2.1 0 h).1
            rw [← HB.out]; exact this
          have hr1 : (r : Int) < 2 := by omega
          go_wp2_with (first
            | (go_at_call 10; refine (lent_any a b off len cap z wo hmax HW.out.2.2 HX.out.1).mono ?_; rintro e u1 ⟨rfl, hA, hG, hZ⟩; have H1 : Hid (Arr u1 wo.heap.size (len + 8) (lentF len z) ∧ Gw wo u1 ∧ u1.heap.size = wo.heap.size + 1) := ⟨hA, hG, hZ⟩; clear hA hG hZ)
            | (go_at_call 11; refine (HRs.out.prog u1 wo.heap.size (len + 8) (HX.out.2.1.gw H1.out.2.1) (lent_arr H1.out.1)).mono ?_; rintro e u2 ⟨al, ob, rfl, n1, n2, hJ, hob, hG⟩; have H2 : Hid ((cnt = 0 → al = none) ∧ (0 < cnt → al = some ⟨ob, 0, none⟩) ∧ Arr u2 ob cnt F ∧ u1.heap.size ≤ ob ∧ Gw u1 u2) := ⟨n1, n2, hJ, hob, hG⟩; clear n1 n2 hJ hob hG)
            | (go_at_call 12; refine (num_any code _).mono ?_; rintro e u9 ⟨rfl, hw9⟩; subst u9))
          have HG2 : Hid (Gw wo u2) := H1.out.2.1.trans H2.out.2.2.2.2
          go_loopw [5, 15] (fun tk ti wr => ∃ i : Nat, i ≤ cnt ∧ tk = .bool true ∧ ti = .int .i64 i ∧ Hid (Gw u2 wr)) (fun _ ti _ => cnt - (intOf ti).toNat)
          case atStart => exact ⟨0, Nat.zero_le _, rfl, rfl, Gw.refl _⟩
          case round =>
            obtain ⟨i, hi, rfl, rfl, HI⟩ := hrel
            by_cases hil : i < cnt
            · have g := HI.out
              obtain rfl := H2.out.2.1 (by omega)
              obtain rfl := HG3.out.2.2 (by omega)
              have c0 := g.at (H2.out.2.2.1 i hil).1
              have c1 := g.at (HG2.out.at (HX.out.2.2.1 i hil).1)
              have c2 := g.at (HG2.out.at (HX.out.2.2.1 i hil).2)
              have bd := HRs.out.bd i
              obtain ⟨v, hv⟩ : ∃ v, F i = v := ⟨_, rfl⟩
              rw [hv] at c0 c1 c2 bd
              have ci := is_ref v v bd.1 (by omega) bd.1 (by omega) rfl
              have i1 : (i : Int) < (cnt : Int) := by omega
              clear hv bd
              go_wp2
              go_region_held3 (fun V => V.cell? ⟨ob, i, none⟩ = some (.int .u64 v) ∧ V.cell? ⟨wb, i * 2, none⟩ = some (.int .i64 (v / 4294967296)) ∧ V.cell? ⟨wb, i * 2 + 1, none⟩ = some (.int .i64 (v % 4294967296)) ∧ Gw u2 V)
                (first
                  | (go_split_ands; exact ⟨hg.at ‹_›, hg.at ‹_›, hg.at ‹_›, Gw.trans ‹_› hg⟩)
                  | (exact ⟨c0, c1, c2, (by repeat (first | assumption | exact Gw.refl _ | apply Gw.drew | apply Gw.alloc | refine Gw.setCell ?_ (by first | (simp; done) | (simp; omega)) _))⟩)
                  | (exact ⟨by simp [go_sem, *], by simp [go_sem, *], by simp [go_sem, *], (by repeat (first | assumption | exact Gw.refl _ | apply Gw.drew | apply Gw.alloc | refine Gw.setCell ?_ (by first | (simp; done) | (simp; omega)) _))⟩))
                (first | (go_at_call 13; refine (ci _).mono ?_; rintro e w' ⟨rfl, hg⟩))
              go_split_ands
              go_wp2
              go_roundw
              case rel => exact ⟨i + 1, by omega, rfl, by go_num, ‹_›⟩
              case measure => simp [intOf]; omega
            · obtain rfl : cnt = i := by omega
              obtain ⟨u3, rfl⟩ : ∃ u3 : World, u3 = wr := ⟨_, rfl⟩
              have hln : (len : Int) + 8 ≤ 1048584 := by omega
              have g3 := HI.out
              have HA3 : Hid (Arr u3 wo.heap.size (len + 8) (lentF len z) ∧ IArr u3 b off len z ∧ Gw wo u3) := ⟨(H1.out.1.gw H2.out.2.2.2.2).gw g3, (HX.out.1.gw HG2.out).gw g3, HG2.out.trans g3⟩
              have HJ3 : Hid (Arr u3 ob cnt F) := H2.out.2.2.1.gw g3
              clear HI hi hil g3
              go_wp2
              go_loopw [5, 17] (fun tk ti wr => ∃ i m : Nat, i ≤ len + 8 ∧ tk = .bool true ∧ ti = .int .i64 i ∧ wr = u3.drewN m) (fun _ ti _ => len + 8 - (intOf ti).toNat)
              case atStart => exact ⟨0, 0, Nat.zero_le _, rfl, rfl, rfl⟩
              case round =>
                obtain ⟨i, m, hi, rfl, rfl, rfl⟩ := hrel
                by_cases hil : i < len + 8
                · have i1 : (i : Int) < (len : Int) + 8 := by omega
                  have c0 := (HA3.out.1 i hil).1
                  by_cases hl : i < len
                  · obtain rfl := HW.out.2.2 (by omega)
                    have c1 := (HA3.out.2.1 i hl).1
                    unfold lentF at c0
                    rw [if_pos hl] at c0
                    obtain ⟨v, hv⟩ : ∃ v, z i = v := ⟨_, rfl⟩
                    rw [hv] at c0 c1
                    obtain ⟨v', hv'⟩ : ∃ v', v % 18446744073709551616 = v' := ⟨_, rfl⟩
                    have hv2 : IntKind.u64.wrap v = v' := by rw [IntKind.wrap_u64]; exact hv'
                    rw [hv'] at c0
                    have i2 : (i : Int) < (len : Int) := by omega
                    clear hv HA3 HJ3 HX HR HSt H1 H2 HG2
                    go_wp2
                    go_quiet (fail)
                    go_wp2
                    go_roundw
                    case rel => exact ⟨i + 1, _, by omega, rfl, by go_num, rfl⟩
                    case measure => simp [intOf]; omega
                  · unfold lentF at c0
                    rw [if_neg hl] at c0
                    have i2 : ¬ (i : Int) < (len : Int) := by omega
                    clear HA3 HJ3 HX HR HSt H1 H2 HG2
                    go_wp2
                    go_quiet (fail)
                    go_wp2
                    go_roundw
                    case rel => exact ⟨i + 1, _, by omega, rfl, by go_num, rfl⟩
                    case measure => simp [intOf]; omega
                · obtain rfl : i = len + 8 := by omega
                  have hBel : Below wo.heap.size wo (u3.drewN m) := (HA3.out.2.2.drewN m).1
                  have HBel : Hid (Below wo.heap.size wo (u3.drewN m)) := hBel
                  have hBlt := World.block_lt_of_cell? wo _ HSt.out.cell0
                  have hBlt' : B < wo.heap.size := hBlt
                  have HLb : Hid (∃ q, Arr (u3.drewN m) q cnt F ∧ (0 < cnt → al = some ⟨q, 0, none⟩) ∧ wo.heap.size ≤ q) := by
                    by_cases h0 : cnt = 0
                    · exact ⟨wo.heap.size, fun i hi => by omega, fun h => by omega, Nat.le_refl _⟩
                    · exact ⟨ob, HJ3.out, H2.out.2.1, by have := H2.out.2.2.2.1; have := H1.out.2.2; omega⟩
                  obtain ⟨u5, hu5⟩ : ∃ u5 : World, u5 = u3.drewN m := ⟨_, rfl⟩
                  rw [← hu5] at HBel HLb ⊢
                  clear hBel hBlt hu5
                  go_wp2_with (first
                    | (go_at_call 14; obtain ⟨lk, hLJ, hLq, hLw⟩ := HLb.out; have hS6 := HSt.out.mono HBel.out;
                        have hIl : (Value.slice ia (4 * r) icap).ownBlock ≠ some lk := fun h => (by have := (own_lt HSt.out.own h).2; omega);
                        refine (ke.keepElems_any B lk cnt (4 * r) icap B al ia F xs u5 hcnt (by omega) hLq hS6.cell0 hS6.unf hS6.own hLJ (by omega) hIl hS6.apart (fun h => by by_cases h0 : cnt = 0; exact h0; have := H2.out.2.1 (by omega); rw [h] at this; cases this) (Nat.le_trans hBw HBel.out.size)).mono ?_;
                        intro e u7 hKP;
                        obtain ⟨rfl, hB7, ia7, icap7, xs7, hS7⟩ := hS6.keep hKP (by omega) (by omega) hIl (fun i a len cap hx h0 h => by
                          obtain ⟨a', len', cap', e', _, hr'⟩ := HSt.out.rows i _ hx
                          cases e'
                          obtain ⟨g, rfl, _, _, _, hc⟩ := hr' h0
                          have := World.block_lt_of_cell? wo _ (hc 0 h0)
                          have h2 : g = lk := Option.some.inj h
                          have : g < wo.heap.size := this
                          omega) hcnt hLq (Nat.le_trans hBw HBel.out.size);
                        have H7 : Hid (Below B u5 u7 ∧ ke.St B u7 B (r + 1) (.slice ia7 (4 * (r + 1)) icap7) xs7) := ⟨hB7, hS7⟩; clear hB7 hS7 hKP hIl hS6 hLJ hLq hLw)
                    | (go_at_call 15; obtain ⟨gI, Ra, Rg, Rl, Rc, hgI, hRow⟩ := H7.out.2.rowed; refine (ke.whole_elems B gI (4 * (r + 1)) icap7 ia7 Ra Rg Rl Rc u7 (by omega) hgI H7.out.2.cell1 H7.out.2.cell0 hRow).mono ?_; rintro e u8 ⟨rfl, hw8⟩; subst u8; clear hgI hRow))
                  go_roundw
                  case rel =>
                    exact ⟨r + 1, by omega, rfl, by go_num, (HR.out.1.trans (HBel.out.mono hBw)).trans H7.out.1, ia7, icap7, xs7, H7.out.2⟩
                  case measure => simp [intOf]; omega
        · obtain rfl : r = 2 := by omega
          go_wp2
          go_ret
          have hb3 : Below w.heap.size w w3 := HG3.out.1.below (Nat.le_refl _) (fun _ _ x => x)
          exact ⟨rfl, hb3.trans (HR.out.1.mono (by rw [← HB.out]; exact HG3.out.1.size))⟩

end Go.Proofs.YtddpcjgekfmhkaaDoor
