/- Texts joined: Ob Oc Od. -/
import Derived.Test.YtddpcjgekfmhkabDoorM22

/- sums: DOC.md's filter. -/
namespace Go.Proofs.YtddpcjgekfmhkabDoor
open Go.RowKit
set_option linter.unusedSimpArgs false
set_option linter.unusedVariables false

def l17 : List Int := [1, 2, 3, 0, 0, 0, 0, 0, 0, 0, 0, 0, 0, 0, 0, 0, 0]
def s16 : FlS := FlS.fresh 16 64 1 [1, 1]
def t16 : FlS := s16.more l17
theorem okc16 : okConf 16 64 1 := by unfold okConf okBlock; omega
theorem okt16 : okTaps [1, 1] := by unfold okTaps lnorm; decide
theorem all17 : ∀ v ∈ l17, okSample v := by
  intro v hv
  simp [l17] at hv
  unfold okSample
  omega
theorem push17 : pushR s16 l17 = 17 ∧ pushE s16 l17 = 0 ∧ pushS s16 l17 = t16 := by
  have hk : pushN s16 l17 = 17 := by decide
  unfold pushR pushE pushS
  rw [if_pos all17, if_pos all17, if_pos all17, hk]
  exact ⟨rfl, rfl, rfl⟩
theorem can16 : t16.can 99 = 16 := by decide
theorem outs16 : at0 (t16.outs 16) 0 = 1 ∧ at0 (t16.outs 16) 1 = 3 ∧ at0 (t16.outs 16) 2 = 5 ∧ at0 (t16.outs 16) 3 = 3 ∧ at0 (t16.outs 16) 4 = 0 := by decide
theorem ok16 : t16.Ok := by
  have h := FlS.Ok.fresh okc16 okt16
  exact FlS.Ok.more h all17 (by decide)

set_option maxHeartbeats 2000000 in
theorem sums_law {FI : Nat → Nat → FlS → Res} (ok : FltOk FI) (base : Nat) (w : World) (ht : Tab w) (hb1 : 1 < base) (hb : base ≤ w.heap.size) :
    Calls Tryd.prog 34 #[] w fun e w' => e = .returned (.bool true) ∧ Bt (fun _ => False) w w' := by
  obtain ⟨wA, hwA⟩ : ∃ wA, wA = w.alloc (.cells #[.int .i64 1, .int .i64 1] 3) := ⟨_, rfl⟩
  have BA : Bt (fun _ => False) w wA := by rw [hwA]; exact (Bt.refl _ _).alloc _
  have sA : Src wA (some ⟨w.heap.size, 0, none⟩) (ints [1, 1]) := by
    rw [hwA]
    intro _
    refine ⟨_, _, rfl, fun j u hj => ?_⟩
    rw [World.cell?_alloc_at _ _ _ _ rfl]
    simpa [ints] using hj
  have C1 : Calls Tryd.prog 12 #[.agg #[.int .i64 16, .int .i64 64, .int .i64 1], .slice (some ⟨w.heap.size, 0, none⟩) 2 2] wA fun e w1 => Hid (∃ xb F, e = .returned (.tuple #[.pointer (some ⟨xb, 0, none⟩), .int .i64 0]) ∧ FI base xb s16 w1 F ∧ (∀ k, F k → w.heap.size ≤ k) ∧ Bt (fun _ => False) w w1) := by
    refine (ok.new base 16 64 1 (some ⟨w.heap.size, 0, none⟩) 2 [1, 1] wA (ht.bt BA (fun x => x)) hb1 (Nat.le_trans hb BA.size) sA (fun x hx => by simp at hx; omega) (by simp) (by simp) (fun e => by cases e) (by omega) (by omega) (by omega)).mono ?_
    intro e w1 hq
    unfold NewP at hq
    rw [if_pos okc16, if_pos okt16] at hq
    obtain ⟨xb, F, h1, h2, h3, h4⟩ := hq
    exact ⟨xb, F, h1, h2, fun k hk => Nat.le_trans BA.size (h3 k hk), BA.trans h4 (fun _ _ x => x)⟩
  have C2 : ∀ (w1 w3 : World) (xb : Nat) (F : Nat → Prop), FI base xb s16 w1 F → (∀ k, F k → w.heap.size ≤ k) → Bt (fun _ => False) w w1 → Bt (fun _ => False) w1 w3 → Jr w3 w1.heap.size 17 (at0 l17) → Calls Tryd.prog 13 #[.pointer (some ⟨xb, 0, none⟩), .slice (some ⟨w1.heap.size, 0, none⟩) 17 17] w3 fun e w4 => e = .returned (.tuple #[.int .i64 17, .int .i64 0]) ∧ Hid (∃ G, FI base xb t16 w4 G ∧ (∀ k, G k → w.heap.size ≤ k) ∧ Bt (fun _ => False) w w4) := by
    intro w1 w3 xb F f1 f2 b1 b3 hj
    have hs : s16.Small := ⟨FlS.Ok.fresh okc16 okt16, by decide, by decide⟩
    have := ok.push ((ok.fr _ _ _).bt f1 b3 (fun _ _ x => x)) hs (some ⟨w1.heap.size, 0, none⟩) 17 l17 (hj.src l17 (by decide) (fun _ _ => rfl)) (fun x hx => by simp [l17] at hx; omega) (by decide) (by decide) (fun e => by cases e) (fun b o e q => by simp at e; obtain ⟨rfl, _⟩ := e; have := ((ok.fr _ _ _).lt f1 q).2; omega)
    rw [push17.1, push17.2.1, push17.2.2] at this
    refine this.mono ?_
    rintro e w4 ⟨rfl, G, g1, g2⟩
    have s1 := b1.size
    have s3 := b3.size
    refine ⟨rfl, G, g1, fun k hk => ?_, (b1.trans b3 (fun _ _ x => x)).trans g2.bt (fun k hk e => by have := f2 k e; omega)⟩
    rcases g2.new k hk with e | e
    · exact f2 k e
    · omega
  have C3 : ∀ (w4 : World) (xb : Nat), (∃ G, FI base xb t16 w4 G ∧ (∀ k, G k → w.heap.size ≤ k) ∧ Bt (fun _ => False) w w4) → Calls Tryd.prog 16 #[.pointer (some ⟨xb, 0, none⟩), .int .i64 99] w4 fun e w5 => Hid (∃ lb, e = .returned (.slice (some ⟨lb, 0, none⟩) 16 16) ∧ Jr w5 lb 16 (at0 (t16.outs 16)) ∧ Bt (fun _ => False) w w5) := by
    rintro w4 xb ⟨G, g1, g2, g3⟩
    have hs : t16.Small := ⟨ok16, by decide, by decide⟩
    refine (ok.pull g1 hs 99 (by omega) (by omega)).mono ?_
    rintro e w5 ⟨ao, lb, h1, h2, h3, h4, h5, F', h6, h7, h8⟩
    rw [can16] at h1 h2 h4
    obtain rfl := h2 (by omega)
    exact ⟨lb, h1, h4, g3.trans h7.bt (fun k hk e => by have := g2 k e; omega)⟩
  have HJ : Hid (∀ w1 w2 : World, Rw w2 w1.heap.size 3 (List.replicate 17 [.int .i64 0]) → Bt (fun _ => False) w1 w2 → (w2.cell? ⟨w1.heap.size, 0, none⟩ = some (.int .i64 0) ∧ w2.cell? ⟨w1.heap.size, 1, none⟩ = some (.int .i64 0) ∧ w2.cell? ⟨w1.heap.size, 2, none⟩ = some (.int .i64 0) ∧ w2.frozen? ⟨w1.heap.size, 0, none⟩ = false ∧ w2.frozen? ⟨w1.heap.size, 1, none⟩ = false ∧ w2.frozen? ⟨w1.heap.size, 2, none⟩ = false) ∧
      Jr (((w2.setCell ⟨w1.heap.size, 0, none⟩ (.int .i64 1)).setCell ⟨w1.heap.size, 1, none⟩ (.int .i64 2)).setCell ⟨w1.heap.size, 2, none⟩ (.int .i64 3)) w1.heap.size 17 (at0 l17) ∧ Bt (fun _ => False) w1 (((w2.setCell ⟨w1.heap.size, 0, none⟩ (.int .i64 1)).setCell ⟨w1.heap.size, 1, none⟩ (.int .i64 2)).setCell ⟨w1.heap.size, 2, none⟩ (.int .i64 3))) := by
    intro w1 w2 hr b
    have hj := Jr.of_rw hr
    refine ⟨⟨(hj 0 (by omega)).1, (hj 1 (by omega)).1, (hj 2 (by omega)).1, (hj 0 (by omega)).2, (hj 1 (by omega)).2, (hj 2 (by omega)).2⟩, ?_, ((b.setCell (fun h => absurd h (Nat.lt_irrefl _)) _).setCell (fun h => absurd h (Nat.lt_irrefl _)) _).setCell (fun h => absurd h (Nat.lt_irrefl _)) _⟩
    refine (((hj.set (k := 0) (by omega) 1).set (k := 1) (by omega) 2).set (k := 2) (by omega) 3).congr fun i hi => ?_
    unfold upd
    have : i = 0 ∨ i = 1 ∨ i = 2 ∨ i = 3 ∨ i = 4 ∨ i = 5 ∨ i = 6 ∨ i = 7 ∨ i = 8 ∨ i = 9 ∨ i = 10 ∨ i = 11 ∨ i = 12 ∨ i = 13 ∨ i = 14 ∨ i = 15 ∨ i = 16 := by omega
    rcases this with rfl | rfl | rfl | rfl | rfl | rfl | rfl | rfl | rfl | rfl | rfl | rfl | rfl | rfl | rfl | rfl | rfl <;> rfl
  rw [hwA] at C1
  clear sA BA hwA
  go_enter Tryd.func34, Tryd.ntmps34
  go_wp2_with (first
    | (go_at_call 12; refine C1.mono ?_; rintro e w1 H1; obtain ⟨xb, FX, rfl, q⟩ := H1.out; have HX : Hid (FI base xb s16 w1 FX ∧ (∀ k, FX k → w.heap.size ≤ k) ∧ Bt (fun _ => False) w w1) := q; clear H1 q)
    | (at_make; refine wpList_make_el rfl _ _ 24 3 rfl Tryd.underlying24 (.int .i64 0) [.int .i64 0] 1 8 info_num rfl rfl 17 _ rfl rfl rfl (by omega) (by omega) ?_; intro w2 H2; obtain ⟨⟨k0, k1, k2, k3, k4, k5⟩, _⟩ := HJ.out w1 w2 H2.out.1 H2.out.2.1)
    | (go_at_call 13; refine (C2 w1 _ xb FX HX.out.1 HX.out.2.1 HX.out.2.2 (HJ.out w1 w2 H2.out.1 H2.out.2.1).2.2 (HJ.out w1 w2 H2.out.1 H2.out.2.1).2.1).mono ?_; rintro e w4 ⟨rfl, H4⟩)
    | (go_at_call 16; refine (C3 w4 xb H4.out).mono ?_; rintro e w5 H5; obtain ⟨lb, rfl, hj5, hb5⟩ := H5.out; clear H5; have HB : Hid (Bt (fun _ => False) w w5) := hb5; clear hb5; have y0 := (hj5 0 (by omega)).1; have y1 := (hj5 1 (by omega)).1; have y2 := (hj5 2 (by omega)).1; have y3 := (hj5 3 (by omega)).1; have y4 := (hj5 4 (by omega)).1; rw [outs16.1] at y0; rw [outs16.2.1] at y1; rw [outs16.2.2.1] at y2; rw [outs16.2.2.2.1] at y3; rw [outs16.2.2.2.2] at y4; clear hj5))
  go_ret
  exact ⟨rfl, HB.out⟩
end Go.Proofs.YtddpcjgekfmhkabDoor

/- plays: two filters, a script. -/
namespace Go.Proofs.YtddpcjgekfmhkabDoor
open Go.RowKit
set_option linter.unusedSimpArgs false
set_option linter.unusedVariables false

/-- The steps of a script. -/
structure Scr (w : World) (base sb so n : Nat) (W K A B : Nat → Int) (La : Nat → Option Addr) (Lc : Nat → Nat) (Ls : Nat → List Int) : Prop where
  c0 : ∀ i, i < n → w.cell? ⟨sb, so + i * 5, none⟩ = some (.int .i64 (W i))
  c1 : ∀ i, i < n → w.cell? ⟨sb, so + i * 5 + 1, none⟩ = some (.int .i64 (K i))
  c2 : ∀ i, i < n → w.cell? ⟨sb, so + i * 5 + 2, none⟩ = some (.int .i64 (A i))
  c3 : ∀ i, i < n → w.cell? ⟨sb, so + i * 5 + 3, none⟩ = some (.int .i64 (B i))
  c4 : ∀ i, i < n → w.cell? ⟨sb, so + i * 5 + 4, none⟩ = some (.slice (La i) (Ls i).length (Lc i))
  rW : ∀ i, i < n → -9223372036854775808 ≤ W i ∧ W i ≤ 9223372036854775807
  rA : ∀ i, i < n → -9223372036854775808 ≤ A i ∧ A i ≤ 9223372036854775807
  rB : ∀ i, i < n → -9223372036854775808 ≤ B i ∧ B i ≤ 9223372036854775807
  src : ∀ i, i < n → Src w (La i) (ints (Ls i))
  rng : ∀ i, i < n → Rng (Ls i)
  len : ∀ i, i < n → (Ls i).length ≤ 1048576
  cap : ∀ i, i < n → (Ls i).length ≤ Lc i
  nil : ∀ i, i < n → La i = none → Lc i = 0
  low : ∀ i b o, i < n → 0 < (Ls i).length → La i = some ⟨b, o, none⟩ → b < base
theorem Scr.bt {w w' : World} {base sb so n : Nat} {W K A B : Nat → Int} {La : Nat → Option Addr} {Lc : Nat → Nat} {Ls : Nat → List Int} (h : Scr w base sb so n W K A B La Lc Ls) (b : Bt (fun _ => False) w w') : Scr w' base sb so n W K A B La Lc Ls :=
  ⟨fun i hi => b.cell (fun x => x) (h.c0 i hi), fun i hi => b.cell (fun x => x) (h.c1 i hi), fun i hi => b.cell (fun x => x) (h.c2 i hi), fun i hi => b.cell (fun x => x) (h.c3 i hi), fun i hi => b.cell (fun x => x) (h.c4 i hi), h.rW, h.rA, h.rB, fun i hi => (h.src i hi).bt b (fun _ _ _ x => x), h.rng, h.len, h.cap, h.nil, h.low⟩

/-- Two pairs and a book, behind at most i steps. -/
def Sg (FI : Nat → Nat → FlS → Res) (base bb : Nat) (p1 p2 : Value) (i : Nat) : Res := Sep (PO FI base bb p1 i) (Sep (PO FI base bb p2 i) (BN base bb i))
def SG (FI : Nat → Nat → FlS → Res) (w0 : World) (bb : Nat) (p1 p2 : Value) (i : Nat) (w : World) : Prop := ∃ H, Sg FI w0.heap.size bb p1 p2 i w H ∧ Bt (fun _ => False) w0 w
theorem Sep.rot {R1 R2 R3 : Res} {w : World} {F : Nat → Prop} (h : Sep R1 (Sep R2 R3) w F) : Sep R2 (Sep R1 R3) w F := by
  obtain ⟨F1, F23, h1, ⟨F2, F3, h2, h3, hd2, hF2⟩, hd, hF⟩ := h
  refine ⟨F2, fun k => F1 k ∨ F3 k, h2, ⟨F1, F3, h1, h3, fun k hk e => hd k hk ((hF2 k).2 (.inr e)), fun _ => Iff.rfl⟩, fun k hk e => ?_, fun k => ?_⟩
  · rcases e with e | e
    · exact hd k e ((hF2 k).2 (.inl hk))
    · exact hd2 k hk e
  · rw [hF k, hF2 k]
    constructor
    · rintro (e | e | e)
      · exact .inr (.inl e)
      · exact .inl e
      · exact .inr (.inr e)
    · rintro (e | e | e)
      · exact .inr (.inl e)
      · exact .inl e
      · exact .inr (.inr e)
theorem PO.mono {FI : Nat → Nat → FlS → Res} {base bb i j : Nat} {pv : Value} {w : World} {F : Nat → Prop} (h : PO FI base bb pv i w F) (hj : i ≤ j) : PO FI base bb pv j w F :=
  h.imp id (fun ⟨pb, e, xb, fb, s, h1, h2, h3, h4⟩ => ⟨pb, e, xb, fb, s, h1, h2, by omega, by omega⟩)
theorem BN.mono {base bb i j : Nat} {w : World} {F : Nat → Prop} (h : BN base bb i w F) (hj : i ≤ j) : BN base bb j w F := by
  obtain ⟨r, hr, h⟩ := h; exact ⟨r, by omega, h⟩
section
variable {FI : Nat → Nat → FlS → Res} {w0 w : World} {bb i j : Nat} {p1 p2 : Value}
theorem SG.mono (h : SG FI w0 bb p1 p2 i w) (hj : i ≤ j) : SG FI w0 bb p1 p2 j w := by
  obtain ⟨H, ⟨F1, F23, h1, ⟨F2, F3, h2, h3, hd2, hF2⟩, hd, hF⟩, b⟩ := h
  exact ⟨H, ⟨F1, F23, h1.mono hj, ⟨F2, F3, h2.mono hj, h3.mono hj, hd2, hF2⟩, hd, hF⟩, b⟩
theorem SG.bt (ok : FltOk FI) {w' : World} (h : SG FI w0 bb p1 p2 i w) (b : Bt (fun _ => False) w w') : SG FI w0 bb p1 p2 i w' := by
  obtain ⟨H, h, b0⟩ := h
  exact ⟨H, ((PO.fr ok _ _ _ _).sep ((PO.fr ok _ _ _ _).sep (BN.fr _ _ _))).bt h b (fun _ _ x => x), b0.trans b (fun _ _ x => x)⟩
theorem PO.at {base : Nat} {pb : Nat} {F : Nat → Prop} (h : PO FI base bb (.pointer (some ⟨pb, 0, none⟩)) i w F) : PN FI base pb bb i w F := by
  rcases h with ⟨e, _⟩ | ⟨pb', e, q⟩
  · cases e
  · simp at e; subst e; exact q
/-- One of the two pairs and the book, the other one standing by. -/
theorem SG.pair (ok : FltOk FI) {pb : Nat} (h : SG FI w0 bb p1 p2 i w) (hp : p1 = .pointer (some ⟨pb, 0, none⟩) ∨ p2 = .pointer (some ⟨pb, 0, none⟩)) : ∃ H1, PBn FI w0.heap.size pb bb i w H1 ∧ (∀ k, H1 k → w0.heap.size ≤ k) ∧ ∀ w', Steps w H1 (PBn FI w0.heap.size pb bb (i + 1)) w' → SG FI w0 bb p1 p2 (i + 1) w' := by
  obtain ⟨H, h, b⟩ := h
  have hlt : ∀ k, H k → w0.heap.size ≤ k := fun k hk => (((PO.fr ok _ _ _ _).sep ((PO.fr ok _ _ _ _).sep (BN.fr _ _ _))).lt h hk).1
  rcases hp with rfl | rfl
  · obtain ⟨H1, g1, g2, g3⟩ := Sep.r (PO.fr ok _ _ _ _) ((PO.fr ok _ _ _ _).sep (BN.fr _ _ _)) (Sep.rot h)
    obtain ⟨F1, F2, a1, a2, a3, a4⟩ := g1
    refine ⟨H1, ⟨F1, F2, a1.at, a2, a3, a4⟩, fun k hk => hlt k (g2 k hk), fun w' hst => ?_⟩
    obtain ⟨H1', ⟨E1, E2, e1, e2, e3, e4⟩, q2⟩ := hst
    obtain ⟨H', ⟨D1, D2, d1, d2, d3, d4⟩, k2⟩ := g3 (Sep (PO FI w0.heap.size bb (.pointer (some ⟨pb, 0, none⟩)) (i + 1)) (BN w0.heap.size bb (i + 1))) w' H1' ⟨E1, E2, .inr ⟨pb, rfl, e1⟩, e2, e3, e4⟩ q2
    exact ⟨H', Sep.rot ⟨D1, D2, d1.mono (by omega), d2, d3, d4⟩, b.trans k2.bt (fun k hk e => by have := hlt k e; omega)⟩
  · obtain ⟨H1, g1, g2, g3⟩ := Sep.r (PO.fr ok _ _ _ _) ((PO.fr ok _ _ _ _).sep (BN.fr _ _ _)) h
    obtain ⟨F1, F2, a1, a2, a3, a4⟩ := g1
    refine ⟨H1, ⟨F1, F2, a1.at, a2, a3, a4⟩, fun k hk => hlt k (g2 k hk), fun w' hst => ?_⟩
    obtain ⟨H1', ⟨E1, E2, e1, e2, e3, e4⟩, q2⟩ := hst
    obtain ⟨H', ⟨D1, D2, d1, d2, d3, d4⟩, k2⟩ := g3 (Sep (PO FI w0.heap.size bb (.pointer (some ⟨pb, 0, none⟩)) (i + 1)) (BN w0.heap.size bb (i + 1))) w' H1' ⟨E1, E2, .inr ⟨pb, rfl, e1⟩, e2, e3, e4⟩ q2
    exact ⟨H', ⟨D1, D2, d1.mono (by omega), d2, d3, d4⟩, b.trans k2.bt (fun k hk e => by have := hlt k e; omega)⟩
theorem sg_whole (h : SG FI w0 bb p1 p2 i w) (hi : i ≤ 2097150) : Calls Tryd.prog 37 #[.pointer (some ⟨bb, 0, none⟩)] w fun e w' => e = .returned (.bool true) ∧ w' = w := by
  obtain ⟨H, ⟨F1, F23, h1, ⟨F2, F3, h2, ⟨r, hr, h3⟩, hd2, hF2⟩, hd, hF⟩, b⟩ := h
  exact whole_law h3 (by omega)
theorem sg_state (ok : FltOk FI) {pb : Nat} (h : SG FI w0 bb p1 p2 i w) (hp : p1 = .pointer (some ⟨pb, 0, none⟩) ∨ p2 = .pointer (some ⟨pb, 0, none⟩)) (hi : i ≤ 2097150) : Calls Tryd.prog 38 #[.pointer (some ⟨pb, 0, none⟩)] w fun e w' => e = .returned (.bool true) ∧ Hid (SG FI w0 bb p1 p2 i w') := by
  obtain ⟨H1, g1, g2, g3⟩ := h.pair ok hp
  refine (n_state ok g1 hi).mono ?_
  rintro e w' ⟨rfl, q⟩
  exact ⟨rfl, h.bt ok q.out⟩
theorem sg_pull (ok : FltOk FI) {pb : Nat} (h : SG FI w0 bb p1 p2 i w) (hp : p1 = .pointer (some ⟨pb, 0, none⟩) ∨ p2 = .pointer (some ⟨pb, 0, none⟩)) (hi : i ≤ 2097150) (n : Int) (hn0 : -9223372036854775808 ≤ n) (hn1 : n ≤ 9223372036854775807) : Calls Tryd.prog 39 #[.pointer (some ⟨pb, 0, none⟩), .int .i64 n] w fun e w' => e = .returned (.bool true) ∧ Hid (SG FI w0 bb p1 p2 (i + 1) w') := by
  obtain ⟨H1, g1, g2, g3⟩ := h.pair ok hp
  refine (n_pull ok g1 hi n hn0 hn1).mono ?_
  rintro e w' ⟨rfl, q⟩
  exact ⟨rfl, g3 w' q.out⟩
theorem sg_step (ok : FltOk FI) {pb : Nat} (h : SG FI w0 bb p1 p2 i w) (hp : p1 = .pointer (some ⟨pb, 0, none⟩) ∨ p2 = .pointer (some ⟨pb, 0, none⟩)) (hi : i ≤ 2097150) {sb so n : Nat} {W K A B : Nat → Int} {La : Nat → Option Addr} {Lc : Nat → Nat} {Ls : Nat → List Int} (hs : Scr w0 w0.heap.size sb so n W K A B La Lc Ls) (j : Nat) (hj : j < n) :
    Calls Tryd.prog 36 #[.pointer (some ⟨pb, 0, none⟩), .agg #[.int .i64 (W j), .int .i64 (K j), .int .i64 (A j), .int .i64 (B j), .slice (La j) (Ls j).length (Lc j)]] w fun e w' => e = .returned (.bool true) ∧ Hid (SG FI w0 bb p1 p2 (i + 1) w') := by
  have hb : Bt (fun _ => False) w0 w := by obtain ⟨_, _, b⟩ := h; exact b
  obtain ⟨H1, g1, g2, g3⟩ := h.pair ok hp
  have hs' := hs.bt hb
  refine (step_law ok g1 hi (W j) (K j) (A j) (B j) (hs.rA j hj).1 (hs.rA j hj).2 (hs.rB j hj).1 (hs.rB j hj).2 (La j) (Lc j) (Ls j) (hs'.src j hj) (hs.rng j hj) (hs.len j hj) (hs.cap j hj) (hs.nil j hj) (fun h0 b o e => ⟨fun q => by have := g2 b q; have := hs.low j b o hj h0 e; omega, Nat.lt_of_lt_of_le (hs.low j b o hj h0 e) hb.size⟩)).mono ?_
  rintro e w' ⟨rfl, q⟩
  exact ⟨rfl, g3 w' q⟩
end
/-- Where it begins. -/
theorem sg_start {FI : Nat → Nat → FlS → Res} (ok : FltOk FI) {w0 w1 w2 w3 w4 : World} {p1 p2 : Value} {F1 F2 : Nat → Prop} (t : TypeId) (b1 : Bt (fun _ => False) w0 w1) (h2 : w2 = w1.alloc (.cells #[.slice none 0 0, .slice none 0 0] t))
    (h3 : PO FI w0.heap.size w1.heap.size p1 0 w3 F1) (f3 : ∀ k, F1 k → w2.heap.size ≤ k) (b3 : Bt (fun _ => False) w2 w3) (h4 : PO FI w0.heap.size w1.heap.size p2 0 w4 F2) (f4 : ∀ k, F2 k → w3.heap.size ≤ k) (b4 : Bt (fun _ => False) w3 w4) : SG FI w0 w1.heap.size p1 p2 0 w4 := by
  have hbk := BK.start w1 w0.heap.size b1.size t
  rw [← h2] at hbk
  have b2 : Bt (fun _ => False) w1 w2 := by rw [h2]; exact (Bt.refl _ _).alloc _
  have hz : w2.heap.size = w1.heap.size + 1 := by rw [h2]; simp
  have l1 : ∀ k, F1 k → k < w3.heap.size := fun k hk => ((PO.fr ok _ _ _ _).lt h3 hk).2
  have s3 := b3.size
  refine ⟨fun k => F1 k ∨ F2 k ∨ k = w1.heap.size, ⟨F1, fun k => F2 k ∨ k = w1.heap.size, (PO.fr ok _ _ _ _).bt h3 b4 (fun _ _ x => x), ⟨F2, fun k => k = w1.heap.size, h4, ⟨0, Nat.le_refl _, (BK.fr _ _ _).bt hbk (b3.trans b4 (fun _ _ x => x)) (fun _ _ x => x)⟩, fun k hk e => ?_, fun _ => Iff.rfl⟩, fun k hk e => ?_, fun _ => Iff.rfl⟩, ((b1.trans b2 (fun _ _ x => x)).trans b3 (fun _ _ x => x)).trans b4 (fun _ _ x => x)⟩
  · have := f4 k hk; omega
  · rcases e with e | e
    · have := l1 k hk; have := f4 k e; omega
    · have := f3 k hk; omega
end Go.Proofs.YtddpcjgekfmhkabDoor

/- plays, walked. -/
namespace Go.Proofs.YtddpcjgekfmhkabDoor
open Go.RowKit
set_option linter.unusedSimpArgs false
set_option linter.unusedVariables false

/-- A list that is handed in. -/
structure InL (w : World) (a : Option Addr) (c : Nat) (l : List Int) : Prop where
  tab : Tab w
  src : Src w a (ints l)
  rng : Rng l
  len : l.length ≤ 1048576
  cap : l.length ≤ c
  nil : a = none → c = 0
theorem InL.bt {w w' : World} {a : Option Addr} {c : Nat} {l : List Int} (h : InL w a c l) (b : Bt (fun _ => False) w w') : InL w' a c l := ⟨h.tab.bt b (fun x => x), h.src.bt b (fun _ _ _ x => x), h.rng, h.len, h.cap, h.nil⟩
def I64 (n : Int) : Prop := -9223372036854775808 ≤ n ∧ n ≤ 9223372036854775807

theorem open_at {FI : Nat → Nat → FlS → Res} (ok : FltOk FI) (w0 w : World) (bb : Nat) (B R W : Int) (a : Option Addr) (c : Nat) (l : List Int) (h : InL w0 a c l) (b : Bt (fun _ => False) w0 w) (hB : I64 B) (hR : I64 R) (hW : I64 W) :
    Calls Tryd.prog 35 #[.agg #[.int .i64 B, .int .i64 R, .int .i64 W], .slice a l.length c, .pointer (some ⟨bb, 0, none⟩)] w fun e w' => Hid (OpenQ FI w0.heap.size bb w e w') :=
  opened_law ok w0.heap.size bb B R W a c l w (h.tab.bt b (fun x => x)) h.tab.lt b.size (h.bt b).src h.rng h.len h.cap h.nil hB hR hW

set_option maxHeartbeats 8000000 in
set_option maxRecDepth 20000 in
theorem plays_core {FI : Nat → Nat → FlS → Res} (ok : FltOk FI) (w : World) (B1 R1 W1 B2 R2 W2 : Int) (a1 a2 : Option Addr) (c1 c2 : Nat) (l1 l2 : List Int) (h1 : InL w a1 c1 l1) (h2 : InL w a2 c2 l2)
    (rb1 : I64 B1) (rr1 : I64 R1) (rw1 : I64 W1) (rb2 : I64 B2) (rr2 : I64 R2) (rw2 : I64 W2)
    (sb so n scap : Nat) (sa : Option Addr) (W K A B : Nat → Int) (La : Nat → Option Addr) (Lc : Nat → Nat) (Ls : Nat → List Int) (hsc : Scr w w.heap.size sb so n W K A B La Lc Ls) (hsa : 0 < n → sa = some ⟨sb, so, none⟩) (hn : n ≤ 1048576) (sw : Bool) :
    Calls Tryd.prog 18 #[.agg #[.int .i64 B1, .int .i64 R1, .int .i64 W1], .slice a1 l1.length c1, .agg #[.int .i64 B2, .int .i64 R2, .int .i64 W2], .slice a2 l2.length c2, .slice sa n scap, .bool sw] w fun e w' => e = .returned (.bool true) ∧ Bt (fun _ => False) w w' := by
  obtain ⟨v, hv⟩ : ∃ v, v = (w.alloc (.cells #[.int .i64 B1, .int .i64 R1, .int .i64 W1] 46)).alloc (.cells #[.int .i64 B2, .int .i64 R2, .int .i64 W2] 46) := ⟨_, rfl⟩
  have BV : Bt (fun _ => False) w v := by rw [hv]; exact ((Bt.refl _ _).alloc _).alloc _
  have HC : Hid (∀ w1, Bt (fun _ => False) v w1 → (w1.cell? ⟨w.heap.size, 0, none⟩ = some (.int .i64 B1) ∧ w1.cell? ⟨w.heap.size, 1, none⟩ = some (.int .i64 R1) ∧ w1.cell? ⟨w.heap.size, 2, none⟩ = some (.int .i64 W1)) ∧ w1.cell? ⟨w.heap.size + 1, 0, none⟩ = some (.int .i64 B2) ∧ w1.cell? ⟨w.heap.size + 1, 1, none⟩ = some (.int .i64 R2) ∧ w1.cell? ⟨w.heap.size + 1, 2, none⟩ = some (.int .i64 W2)) := by
    intro w1 b
    rw [hv] at b
    refine ⟨⟨b.cell (fun x => x) ?_, b.cell (fun x => x) ?_, b.cell (fun x => x) ?_⟩, b.cell (fun x => x) ?_, b.cell (fun x => x) ?_, b.cell (fun x => x) ?_⟩ <;> simp [go_sem]
  have CS : Calls Tryd.prog 34 #[] v fun e w' => e = .returned (.bool true) ∧ Hid (Bt (fun _ => False) v w') := sums_law ok w.heap.size v (h1.tab.bt BV (fun x => x)) h1.tab.lt BV.size
  have C1 : ∀ w1, Bt (fun _ => False) v w1 → ∀ bb, Calls Tryd.prog 35 #[.agg #[.int .i64 B1, .int .i64 R1, .int .i64 W1], .slice a1 l1.length c1, .pointer (some ⟨bb, 0, none⟩)] w1 fun e w' => Hid (OpenQ FI w.heap.size bb w1 e w') := fun w1 b bb => open_at ok w w1 bb B1 R1 W1 a1 c1 l1 h1 (BV.trans b (fun _ _ x => x)) rb1 rr1 rw1
  have C2 : ∀ w1, Bt (fun _ => False) v w1 → ∀ bb, Calls Tryd.prog 35 #[.agg #[.int .i64 B2, .int .i64 R2, .int .i64 W2], .slice a2 l2.length c2, .pointer (some ⟨bb, 0, none⟩)] w1 fun e w' => Hid (OpenQ FI w.heap.size bb w1 e w') := fun w1 b bb => open_at ok w w1 bb B2 R2 W2 a2 c2 l2 h2 (BV.trans b (fun _ _ x => x)) rb2 rr2 rw2
  have HS : Hid (Scr w w.heap.size sb so n W K A B La Lc Ls ∧ (0 < n → sa = some ⟨sb, so, none⟩) ∧ FltOk FI) := ⟨hsc, hsa, ok⟩
  have HST : Hid (∀ (w1 w3 w4 : World) (p1 p2 : Value) (F1 F2 : Nat → Prop), Bt (fun _ => False) v w1 → PO FI w.heap.size w1.heap.size p1 0 w3 F1 → (∀ k, F1 k → (w1.alloc (.cells #[.slice none 0 0, .slice none 0 0] 70)).heap.size ≤ k) → Bt (fun _ => False) (w1.alloc (.cells #[.slice none 0 0, .slice none 0 0] 70)) w3 → PO FI w.heap.size w1.heap.size p2 0 w4 F2 → (∀ k, F2 k → w3.heap.size ≤ k) → Bt (fun _ => False) w3 w4 → SG FI w w1.heap.size p1 p2 0 w4) :=
    fun w1 w3 w4 p1 p2 F1 F2 b q1 q2 q3 q4 q5 q6 => sg_start ok (w0 := w) 70 (BV.trans b (fun _ _ x => x)) rfl q1 q2 q3 q4 q5 q6
  rw [hv] at CS
  have HV : Hid (v = (w.alloc (.cells #[.int .i64 B1, .int .i64 R1, .int .i64 W1] 46)).alloc (.cells #[.int .i64 B2, .int .i64 R2, .int .i64 W2] 46)) := hv
  generalize l1.length = n1 at *
  generalize l2.length = n2 at *
  clear hv h1 h2 hsc hsa ok rb1 rr1 rw1 rb2 rr2 rw2
  go_enter Tryd.func18, Tryd.ntmps18
  go_wp2_with (first
    | (go_at_call 34; refine CS.mono ?_; rintro e w1 ⟨rfl, H1'⟩; have H1 : Hid (Bt (fun _ => False) v w1) := (by rw [HV.out]; exact H1'.out); clear H1'; obtain ⟨⟨g0, g1, g2⟩, g3, g4, g5⟩ := HC.out (w1.alloc (.cells #[.slice none 0 0, .slice none 0 0] 70)) (H1.out.alloc _); have z1 : w.heap.size + 2 ≤ w1.heap.size := (by have := H1.out.size; rw [HV.out] at this; simp at this; omega); have z2 : ¬ w.heap.size = w1.heap.size := (by omega); have z3 : ¬ w1.heap.size = w.heap.size := (by omega))
    | (go_at_call 35; have _t := C1; refine (C1 _ (H1.out.alloc _) _).mono ?_; clear C1; rintro e w3 H3; obtain ⟨p1, F1, rfl, q1⟩ := H3.out; have HQ1 : Hid (PO FI w.heap.size w1.heap.size p1 0 w3 F1 ∧ (∀ k, F1 k → (w1.alloc (.cells #[.slice none 0 0, .slice none 0 0] 70)).heap.size ≤ k) ∧ Bt (fun _ => False) (w1.alloc (.cells #[.slice none 0 0, .slice none 0 0] 70)) w3 ∧ (p1 = .pointer none ∨ ∃ pb, p1 = .pointer (some ⟨pb, 0, none⟩))) := q1; clear H3 q1; obtain ⟨_, k3, k4, k5⟩ := HC.out w3 ((H1.out.alloc _).trans HQ1.out.2.2.1 (fun _ _ x => x)))
    | (go_at_call 35; refine (C2 _ ((H1.out.alloc _).trans HQ1.out.2.2.1 (fun _ _ x => x)) _).mono ?_; clear C2; rintro e w4 H4; obtain ⟨p2, F2, rfl, q2⟩ := H4.out; have HQ2 : Hid (PO FI w.heap.size w1.heap.size p2 0 w4 F2 ∧ (∀ k, F2 k → w3.heap.size ≤ k) ∧ Bt (fun _ => False) w3 w4 ∧ (p2 = .pointer none ∨ ∃ pb, p2 = .pointer (some ⟨pb, 0, none⟩))) := q2; clear H4 q2))
  have HG0 : Hid (SG FI w w1.heap.size p1 p2 0 w4) := HST.out w1 w3 w4 p1 p2 F1 F2 H1.out HQ1.out.1 HQ1.out.2.1 HQ1.out.2.2.1 HQ2.out.1 HQ2.out.2.1 HQ2.out.2.2.1
  have HP : Hid ((p1 = .pointer none ∨ ∃ pb, p1 = .pointer (some ⟨pb, 0, none⟩)) ∧ (p2 = .pointer none ∨ ∃ pb, p2 = .pointer (some ⟨pb, 0, none⟩))) := ⟨HQ1.out.2.2.2, HQ2.out.2.2.2⟩
  clear HQ1 HQ2 HST HC g0 g1 g2 g3 g4 g5 k3 k4 k5
  go_loopw [19] (fun ti wr => ∃ i : Nat, i ≤ n ∧ ti = .int .i64 i ∧ Hid (SG FI w w1.heap.size p1 p2 i wr)) (fun ti _ => n - (intOf ti).toNat)
  case atStart => exact ⟨0, Nat.zero_le _, rfl, HG0.out⟩
  case round =>
    obtain ⟨i, hi, rfl, HG⟩ := hrel
    by_cases hlt : i < n
    · have hlt1 : (i : Int) < (n : Int) := by omega
      obtain rfl : sa = some ⟨sb, so, none⟩ := HS.out.2.1 (by omega)
      have hbt : Bt (fun _ => False) w wr := by obtain ⟨_, _, b⟩ := HG.out; exact b
      have hsr := HS.out.1.bt hbt
      have x0 := hsr.c0 i hlt
      have x1 := hsr.c1 i hlt
      have x2 := hsr.c2 i hlt
      have x3 := hsr.c3 i hlt
      have x4 := hsr.c4 i hlt
      have rW := HS.out.1.rW i hlt
      obtain ⟨Wi, hWi⟩ : ∃ x, W i = x := ⟨_, rfl⟩
      obtain ⟨Ki, hKi⟩ : ∃ x, K i = x := ⟨_, rfl⟩
      obtain ⟨Ai, hAi⟩ : ∃ x, A i = x := ⟨_, rfl⟩
      obtain ⟨Bi, hBi⟩ : ∃ x, B i = x := ⟨_, rfl⟩
      obtain ⟨Li, hLi⟩ : ∃ x, (Ls i).length = x := ⟨_, rfl⟩
      rw [hWi] at x0 rW
      rw [hKi] at x1
      rw [hAi] at x2
      rw [hBi] at x3
      rw [hLi] at x4
      clear hsr hbt
      obtain ⟨q2, hq2⟩ : ∃ q2, Wi.tmod 2 = q2 := ⟨_, rfl⟩
      by_cases hw : q2 = 0
      · subst hw
        rcases HP.out.1 with e | ⟨pb, e⟩
        · subst e
          go_wp2
          go_roundw
          case rel => exact ⟨i + 1, by omega, by go_num, HG.out.mono (by omega)⟩
          case measure => simp [intOf]; omega
        · subst e
          have CST := sg_step HS.out.2.2 HG.out (.inl rfl) (by omega) HS.out.1 i hlt
          rw [hKi, hAi, hBi, hLi, hWi] at CST
          by_cases hskip : sw = false ∧ (Ki = 4 ∨ Ki = 7)
          · obtain ⟨rfl, hk⟩ := hskip
            clear CST
            rcases hk with rfl | rfl
            · go_wp2
              go_roundw
              case rel => exact ⟨i + 1, by omega, by go_num, HG.out.mono (by omega)⟩
              case measure => simp [intOf]; omega
            · go_wp2
              go_roundw
              case rel => exact ⟨i + 1, by omega, by go_num, HG.out.mono (by omega)⟩
              case measure => simp [intOf]; omega
          · cases sw with
            | true =>
              clear hskip
              go_wp2_with (first
                | (go_at_call 36; refine CST.mono ?_; rintro e w6 ⟨rfl, H6⟩)
                | (go_at_call 37; refine (sg_whole H6.out (by omega)).mono ?_; rintro e w' ⟨rfl, hw⟩; subst w'))
              go_roundw
              case rel => exact ⟨i + 1, by omega, by go_num, H6.out⟩
              case measure => simp [intOf]; omega
            | false =>
              have hk4 : ¬ Ki = 4 := fun e => hskip ⟨rfl, .inl e⟩
              have hk7 : ¬ Ki = 7 := fun e => hskip ⟨rfl, .inr e⟩
              have p4 : decide (Ki = 4) = false := decide_eq_false hk4
              have p7 : decide (Ki = 7) = false := decide_eq_false hk7
              clear hskip
              go_wp2_with (first
                | (go_at_call 36; refine CST.mono ?_; rintro e w6 ⟨rfl, H6⟩)
                | (go_at_call 37; refine (sg_whole H6.out (by omega)).mono ?_; rintro e w' ⟨rfl, hw⟩; subst w'))
              all_goals go_roundw
              all_goals (first | (simp [intOf]; omega; done) | exact ⟨i + 1, by omega, by go_num, H6.out⟩ | exact ⟨i + 1, by omega, by go_num, HG.out.mono (by omega)⟩)
      · have hw1 : ¬ Wi.tmod 2 = 0 := by rw [hq2]; exact hw
        rcases HP.out.2 with e | ⟨pb, e⟩
        · subst e
          go_wp2
          go_roundw
          case rel => exact ⟨i + 1, by omega, by go_num, HG.out.mono (by omega)⟩
          case measure => simp [intOf]; omega
        · subst e
          have CST := sg_step HS.out.2.2 HG.out (.inr rfl) (by omega) HS.out.1 i hlt
          rw [hKi, hAi, hBi, hLi, hWi] at CST
          by_cases hskip : sw = false ∧ (Ki = 4 ∨ Ki = 7)
          · obtain ⟨rfl, hk⟩ := hskip
            clear CST
            rcases hk with rfl | rfl
            · go_wp2
              go_roundw
              case rel => exact ⟨i + 1, by omega, by go_num, HG.out.mono (by omega)⟩
              case measure => simp [intOf]; omega
            · go_wp2
              go_roundw
              case rel => exact ⟨i + 1, by omega, by go_num, HG.out.mono (by omega)⟩
              case measure => simp [intOf]; omega
          · cases sw with
            | true =>
              clear hskip
              go_wp2_with (first
                | (go_at_call 36; refine CST.mono ?_; rintro e w6 ⟨rfl, H6⟩)
                | (go_at_call 37; refine (sg_whole H6.out (by omega)).mono ?_; rintro e w' ⟨rfl, hw⟩; subst w'))
              go_roundw
              case rel => exact ⟨i + 1, by omega, by go_num, H6.out⟩
              case measure => simp [intOf]; omega
            | false =>
              have hk4 : ¬ Ki = 4 := fun e => hskip ⟨rfl, .inl e⟩
              have hk7 : ¬ Ki = 7 := fun e => hskip ⟨rfl, .inr e⟩
              have p4 : decide (Ki = 4) = false := decide_eq_false hk4
              have p7 : decide (Ki = 7) = false := decide_eq_false hk7
              clear hskip
              go_wp2_with (first
                | (go_at_call 36; refine CST.mono ?_; rintro e w6 ⟨rfl, H6⟩)
                | (go_at_call 37; refine (sg_whole H6.out (by omega)).mono ?_; rintro e w' ⟨rfl, hw⟩; subst w'))
              all_goals go_roundw
              all_goals (first | (simp [intOf]; omega; done) | exact ⟨i + 1, by omega, by go_num, H6.out⟩ | exact ⟨i + 1, by omega, by go_num, HG.out.mono (by omega)⟩)
    · obtain rfl : i = n := by omega
      go_wp2
      go_loopw [23] (fun ti wr => ∃ j : Nat, j ≤ 2 ∧ ti = .int .i64 j ∧ Hid (SG FI w w1.heap.size p1 p2 (i + j) wr)) (fun ti _ => 2 - (intOf ti).toNat)
      case atStart => exact ⟨0, by omega, rfl, HG.out⟩
      case round =>
        obtain ⟨j, hj, rfl, HG2⟩ := hrel
        by_cases j0 : j = 0
        · subst j0
          rcases HP.out.1 with e | ⟨pb, e⟩
          · subst e
            go_wp2
            go_roundw
            case rel => exact ⟨1, by omega, rfl, HG2.out.mono (by omega)⟩
            case measure => simp [intOf]
          · subst e
            have CT1 := sg_state HS.out.2.2 HG2.out (.inl rfl) (by omega)
            go_wp2_with (first
              | (go_at_call 38; refine CT1.mono ?_; rintro e w6 ⟨rfl, H6⟩)
              | (go_at_call 39; refine (sg_pull HS.out.2.2 H6.out (.inl rfl) (by omega) 100000 (by omega) (by omega)).mono ?_; rintro e w7 ⟨rfl, H7⟩)
              | (go_at_call 37; refine (sg_whole H7.out (by omega)).mono ?_; rintro e w' ⟨rfl, hw⟩; subst w'))
            go_roundw
            case rel => exact ⟨1, by omega, rfl, H7.out.mono (by omega)⟩
            case measure => simp [intOf]
        by_cases j1 : j = 1
        · subst j1
          rcases HP.out.2 with e | ⟨pb, e⟩
          · subst e
            go_wp2
            go_roundw
            case rel => exact ⟨2, by omega, rfl, HG2.out.mono (by omega)⟩
            case measure => simp [intOf]
          · subst e
            have CT1 := sg_state HS.out.2.2 HG2.out (.inr rfl) (by omega)
            go_wp2_with (first
              | (go_at_call 38; refine CT1.mono ?_; rintro e w6 ⟨rfl, H6⟩)
              | (go_at_call 39; refine (sg_pull HS.out.2.2 H6.out (.inr rfl) (by omega) 100000 (by omega) (by omega)).mono ?_; rintro e w7 ⟨rfl, H7⟩)
              | (go_at_call 37; refine (sg_whole H7.out (by omega)).mono ?_; rintro e w' ⟨rfl, hw⟩; subst w'))
            go_roundw
            case rel => exact ⟨2, by omega, rfl, H7.out.mono (by omega)⟩
            case measure => simp [intOf]
        · obtain rfl : j = 2 := by omega
          go_wp2
          go_ret
          exact ⟨rfl, by obtain ⟨_, _, b⟩ := HG2.out; exact b⟩
end Go.Proofs.YtddpcjgekfmhkabDoor
