/- Texts joined: Nq Xj Xk. -/
import Derived.Test.YtddpcjgekfmhkabDoorM16
import Derived.Test.YtddpcjgekfmhkabDoorM13

/- What a filter of the program must keep; a pair: the program's filter and the document's. -/
namespace Go.Proofs.YtddpcjgekfmhkabDoor
open Go.RowKit
set_option linter.unusedSimpArgs false
set_option linter.unusedVariables false

/-- What Pull of the program gives: a row of its own. -/
def PullP (FI : Nat → Nat → FlS → Res) (base xb : Nat) (s : FlS) (n : Int) (w : World) (F : Nat → Prop) (e : Ending) (w' : World) : Prop :=
  ∃ ao lb, e = .returned (.slice ao (s.can n) (s.can n)) ∧ (0 < s.can n → ao = some ⟨lb, 0, none⟩) ∧ (ao = none → s.can n = 0) ∧ Jr w' lb (s.can n) (at0 (s.outs (s.can n))) ∧ (0 < s.can n → w.heap.size ≤ lb) ∧ ∃ F', FI base xb (s.took (s.can n)) w' F' ∧ Stp w F w' F' ∧ (0 < s.can n → ¬ F' lb)

/-- A state that is not too far on. -/
structure FlS.Small (s : FlS) : Prop where
  ok : s.Ok
  x : s.X.length ≤ 18014398509481984
  p : s.parts.length ≤ 4194304

/-- One that is not far on at all: what a list of all its samples bears. -/
structure FlS.Little (s : FlS) : Prop where
  ok : s.Ok
  x : s.X.length ≤ 137438953472
  p : s.parts.length ≤ 4194304
theorem FlS.Little.small {s : FlS} (h : s.Little) : s.Small := ⟨h.ok, by have := h.x; omega, h.p⟩

/-- What New of the program gives. -/
def NewP (FI : Nat → Nat → FlS → Res) (base : Nat) (B R W : Int) (l : List Int) (w : World) (e : Ending) (w' : World) : Prop :=
  if okConf B R W then
    if okTaps l then ∃ xb F, e = .returned (.tuple #[.pointer (some ⟨xb, 0, none⟩), .int .i64 0]) ∧ FI base xb (FlS.fresh B.toNat R.toNat W.toNat l) w' F ∧ (∀ k, F k → w.heap.size ≤ k) ∧ Bt (fun _ => False) w w'
    else e = .returned (.tuple #[.pointer none, .int .i64 4]) ∧ Bt (fun _ => False) w w'
  else e = .returned (.tuple #[.pointer none, .int .i64 3]) ∧ Bt (fun _ => False) w w'

/-- What a filter of the program must keep: FI base xb s: at xb there is a filter in the state s. -/
structure FltOk (FI : Nat → Nat → FlS → Res) : Prop where
  fr : ∀ base xb s, Fr base (FI base xb s)
  new : ∀ (base : Nat) (B R W : Int) (a : Option Addr) (c : Nat) (l : List Int) (w : World), Tab w → 1 < base → base ≤ w.heap.size → Src w a (ints l) → Rng l → l.length ≤ 1048576 → l.length ≤ c → (a = none → c = 0) →
    (-9223372036854775808 ≤ B ∧ B ≤ 9223372036854775807) → (-9223372036854775808 ≤ R ∧ R ≤ 9223372036854775807) → (-9223372036854775808 ≤ W ∧ W ≤ 9223372036854775807) →
    Calls Tryd.prog 12 #[.agg #[.int .i64 B, .int .i64 R, .int .i64 W], .slice a l.length c] w fun e w' => NewP FI base B R W l w e w'
  push : ∀ {base xb s w F}, FI base xb s w F → s.Small → ∀ (a : Option Addr) (c : Nat) (l : List Int), Src w a (ints l) → Rng l → l.length ≤ 1048576 → l.length ≤ c → (a = none → c = 0) → (∀ b o, a = some ⟨b, o, none⟩ → ¬ F b) →
    Calls Tryd.prog 13 #[.pointer (some ⟨xb, 0, none⟩), .slice a l.length c] w fun e w' => e = .returned (.tuple #[.int .i64 (pushR s l), .int .i64 (pushE s l)]) ∧ Steps w F (FI base xb (pushS s l)) w'
  flush : ∀ {base xb s w F}, FI base xb s w F → s.Small →
    Calls Tryd.prog 15 #[.pointer (some ⟨xb, 0, none⟩)] w fun e w' => e = .returned (.tuple #[.int .i64 (flushR s), .int .i64 (flushE s)]) ∧ Steps w F (FI base xb (flushS s)) w'
  swap : ∀ {base xb s w F}, FI base xb s w F → s.Small → ∀ (a : Option Addr) (c : Nat) (l : List Int), Src w a (ints l) → Rng l → l.length ≤ 1048576 → l.length ≤ c → (a = none → c = 0) → (∀ b o, a = some ⟨b, o, none⟩ → ¬ F b) →
    Calls Tryd.prog 14 #[.pointer (some ⟨xb, 0, none⟩), .slice a l.length c] w fun e w' => e = .returned (.tuple #[.int .i64 (swapR s l), .int .i64 (swapE s l)]) ∧ Steps w F (FI base xb (swapS s l)) w'
  pull : ∀ {base xb s w F}, FI base xb s w F → s.Small → ∀ n : Int, -9223372036854775808 ≤ n → n ≤ 9223372036854775807 →
    Calls Tryd.prog 16 #[.pointer (some ⟨xb, 0, none⟩), .int .i64 n] w fun e w' => PullP FI base xb s n w F e w'
  state : ∀ {base xb s w F}, FI base xb s w F → s.Small →
    Calls Tryd.prog 17 #[.pointer (some ⟨xb, 0, none⟩)] w fun e w' => e = .returned (stateV s) ∧ Bt (fun _ => False) w w'

/-- A pair's block. -/
def PB (w : World) (pb xb fb bb : Nat) : Prop := w.heap[pb]? = some (.cells #[.pointer (some ⟨xb, 0, none⟩), .pointer (some ⟨fb, 0, none⟩), .pointer (some ⟨bb, 0, none⟩)] 105 (0, 0))
section
variable {w : World} {pb xb fb bb : Nat}
theorem PB.c0 (h : PB w pb xb fb bb) : w.cell? ⟨pb, 0, none⟩ = some (.pointer (some ⟨xb, 0, none⟩)) := by unfold PB at h; simp [World.cell?, h]
theorem PB.c1 (h : PB w pb xb fb bb) : w.cell? ⟨pb, 1, none⟩ = some (.pointer (some ⟨fb, 0, none⟩)) := by unfold PB at h; simp [World.cell?, h]
theorem PB.c2 (h : PB w pb xb fb bb) : w.cell? ⟨pb, 2, none⟩ = some (.pointer (some ⟨bb, 0, none⟩)) := by unfold PB at h; simp [World.cell?, h]
theorem PB.lt (h : PB w pb xb fb bb) : pb < w.heap.size := lt_of_some h
theorem PB.bt {w' : World} {S : Nat → Prop} (h : PB w pb xb fb bb) (k : Bt S w w') (hs : ¬ S pb) : PB w' pb xb fb bb := k.heap hs h
end
def PBr (base pb xb fb bb : Nat) : Res := fun w F => PB w pb xb fb bb ∧ base ≤ pb ∧ ∀ k, F k ↔ k = pb
theorem PBr.fr (base pb xb fb bb : Nat) : Fr base (PBr base pb xb fb bb) :=
  ⟨fun h b hs _ => ⟨h.1.bt b (hs pb ((h.2.2 pb).2 rfl)), h.2⟩, fun h hk => by have e := (h.2.2 _).1 hk; subst e; exact ⟨h.2.1, h.1.lt⟩⟩
/-- The program's filter and the document's, in the states s and t. -/
def Two (FI : Nat → Nat → FlS → Res) (base xb fb : Nat) (s t : FlS) : Res := Sep (FI base xb s) (RF base fb t)
/-- A pair. -/
def PS (FI : Nat → Nat → FlS → Res) (base pb xb fb bb : Nat) (s t : FlS) : Res := Sep (PBr base pb xb fb bb) (Two FI base xb fb s t)
section
variable {FI : Nat → Nat → FlS → Res} {base pb xb fb bb : Nat} {s t : FlS} {w w' : World} {F : Nat → Prop}
theorem Two.fr (ok : FltOk FI) : Fr base (Two FI base xb fb s t) := (ok.fr _ _ _).sep (RF.fr _ _ _)
theorem PS.fr (ok : FltOk FI) : Fr base (PS FI base pb xb fb bb s t) := (PBr.fr _ _ _ _ _).sep (Two.fr ok)
theorem PS.blk (h : PS FI base pb xb fb bb s t w F) : PB w pb xb fb bb := by
  obtain ⟨F1, F2, h1, _⟩ := h
  exact h1.1
theorem PS.bs (h : PS FI base pb xb fb bb s t w F) : base ≤ w.heap.size := by
  obtain ⟨F1, F2, h1, _⟩ := h
  have := h1.1.lt; have := h1.2.1; omega
/-- The program's half steps. -/
theorem PS.x (ok : FltOk FI) (h : PS FI base pb xb fb bb s t w F) : ∃ F1, FI base xb s w F1 ∧ (∀ k, F1 k → F k) ∧ ∀ (s' : FlS) (w' : World), Steps w F1 (FI base xb s') w' → Steps w F (PS FI base pb xb fb bb s' t) w' := by
  obtain ⟨G, h2, hs, k⟩ := Sep.r (PBr.fr _ _ _ _ _) (Two.fr ok) h
  obtain ⟨F1, h3, hs1, k1⟩ := Sep.l (ok.fr _ _ _) (RF.fr _ _ _) h2
  refine ⟨F1, h3, fun q hq => hs q (hs1 q hq), fun s' w' hst => ?_⟩
  obtain ⟨F1', q1, q2⟩ := hst
  obtain ⟨G', g1, g2⟩ := k1 _ w' F1' q1 q2
  obtain ⟨F', f1, f2⟩ := k _ w' G' g1 g2
  exact ⟨F', f1, f2⟩
/-- The document's half steps. -/
theorem PS.y (ok : FltOk FI) (h : PS FI base pb xb fb bb s t w F) : ∃ F1, RF base fb t w F1 ∧ (∀ k, F1 k → F k) ∧ ∀ (t' : FlS) (w' : World), Steps w F1 (RF base fb t') w' → Steps w F (PS FI base pb xb fb bb s t') w' := by
  obtain ⟨G, h2, hs, k⟩ := Sep.r (PBr.fr _ _ _ _ _) (Two.fr ok) h
  obtain ⟨F1, h3, hs1, k1⟩ := Sep.r (ok.fr _ _ _) (RF.fr _ _ _) h2
  refine ⟨F1, h3, fun q hq => hs q (hs1 q hq), fun s' w' hst => ?_⟩
  obtain ⟨F1', q1, q2⟩ := hst
  obtain ⟨G', g1, g2⟩ := k1 _ w' F1' q1 q2
  obtain ⟨F', f1, f2⟩ := k _ w' G' g1 g2
  exact ⟨F', f1, f2⟩
end

theorem Stp.of_bt {w w' : World} {F : Nat → Prop} (b : Bt (fun _ => False) w w') : Stp w F w' F := ⟨b.mono (fun _ _ x => x.elim), fun _ h => .inl h⟩
theorem Stp.then {u v w : World} {F G S : Nat → Prop} (h : Stp u F v G) (b : Bt S v w) (hs : ∀ k, k < u.heap.size → ¬ S k) : Stp u F w G := ⟨h.bt.trans b (fun k hk e => absurd e (hs k hk)), h.new⟩
theorem Stp.out {u v : World} {F G : Nat → Prop} (h : Stp u F v G) {k : Nat} (hk : k < u.heap.size) (hf : ¬ F k) : ¬ G k := fun e => (h.new k e).elim hf (fun q => by omega)
end Go.Proofs.YtddpcjgekfmhkabDoor

/- A block that is whole: its answers, walked. -/
namespace Go.Proofs.YtddpcjgekfmhkabDoor
open Go.RowKit
set_option linter.unusedSimpArgs false
set_option linter.unusedVariables false

theorem Rw.iarr {w : World} {g : Nat} {l : List Int} (h : Rw w g 3 (ints l)) (hr : Rng l) : IArr w g 0 l.length (at0 l) := by
  intro i hi
  have e := at0_some hi
  unfold Rw at h
  rw [ints_flat] at h
  refine ⟨?_, hr.at e⟩
  simp [World.cell?, h, e]
/-- The answers of block q. -/
def answers (p : Par) (q : Nat) : List Int := (List.range p.B).map fun c => flt p.h.length (at0 p.h) p.z (q * p.B + c)
theorem answers_len (p : Par) (q : Nat) : (answers p q).length = p.B := by simp [answers]
theorem answers_at (p : Par) (q c : Nat) (hc : c < p.B) : at0 (answers p q) c = flt p.h.length (at0 p.h) p.z (q * p.B + c) := by
  unfold at0 answers
  rw [List.getD_eq_getElem?_getD, List.getElem?_map, List.getElem?_range hc]
  rfl
theorem JArr.src' {w : World} {b n : Nat} {f : Nat → Int} (h : JArr w b n f) (l : List Int) (hl : l.length = n) (he : ∀ i, i < n → at0 l i = f i) : Src w (some ⟨b, 0, none⟩) (ints l) := by
  refine Src.of_int fun i x hi => ?_
  have hlt : i < l.length := by
    rcases Nat.lt_or_ge i l.length with q | q
    · exact q
    · rw [List.getElem?_eq_none q] at hi; cases hi
  have e : at0 l i = x := by unfold at0; rw [List.getD_eq_getElem?_getD, hi]; rfl
  rw [Nat.zero_add, ← e, he i (by omega)]
  exact (h i (by omega)).1
/-- What must hold of a filter whose block is whole. -/
structure Full (p : Par) (shb mb k n : Nat) : Prop where
  hB : okBlock (p.B : Int)
  hS : p.S.length = p.B
  rng : Rng p.S
  n1 : 2 ^ p.K = n
  n2 : n = 2 * p.B
  hK : p.K ≤ 10
  hsh : p.sh = some (shb, mb, k)
  hk : k ≤ 900000
  hz : ∀ i, i < p.B → p.z (p.nb * p.B + i) = at0 p.S i
  zs : ∀ i, -2147483648 ≤ p.z i ∧ p.z i ≤ 2147483647
  hh : okTaps p.h
  hY : p.Y.length + p.B ≤ p.R
  hR : p.R ≤ 65536
def worked (p : Par) (shb mb k : Nat) : Par := { p with S := [], nb := p.nb + 1, Y := p.Y ++ answers p p.nb, sh := some (shb, mb, k + 1 + 1) }

theorem emb_blk {p : Par} {shb mb k n : Nat} (f : Full p shb mb k n) (j : Nat) : dft p.K (emb p.B (at0 p.S)) j = dft p.K (blk p.B p.z p.nb) j := by
  refine dft_md (fun i hi => ?_) j
  unfold emb blk
  by_cases e : i < p.B
  · rw [if_pos e, if_pos e, md_md, f.hz i e]
  · rw [if_neg e, if_neg e]
theorem wins_cover {L B : Nat} (hL : 1 ≤ L) (hB : 1 ≤ B) : L + B ≤ wins L B * B + 1 := by
  unfold wins
  have h1 := Nat.div_add_mod (L + B - 2) B
  have h2 := Nat.mod_lt (L + B - 2) (show 0 < B by omega)
  rw [Nat.add_mul, Nat.one_mul, Nat.mul_comm]
  omega
theorem at0_out (l : List Int) (k : Nat) (h : l.length ≤ k) : at0 l k = 0 := by
  unfold at0
  rw [List.getD_eq_getElem?_getD, List.getElem?_eq_none h]; rfl

set_option maxHeartbeats 4000000 in
set_option maxRecDepth 20000 in
theorem work_any {base xb : Nat} {p : Par} {w : World} {F : Nat → Prop} (h : FP base xb p w F) {shb mb k n : Nat} (f : Full p shb mb k n) :
    Calls Tryd.prog 48 #[.pointer (some ⟨xb, 0, none⟩), .pointer (some ⟨shb, 0, none⟩)] w fun e w' => e = .returned (.tuple #[]) ∧ Steps w F (FP base xb (worked p shb mb k)) w' := by
  have hB' := f.hB
  unfold okBlock at hB'
  obtain ⟨B, hB⟩ : ∃ B, p.B = B := ⟨_, rfl⟩
  have hFlt : ∀ k, F k → k < w.heap.size := fun k hk => ((FP.fr base xb p).lt h hk).2
  have hbase := h.base_le
  have n1 := f.n1
  have n2 := f.n2
  -- the calls, one behind the other
  have C1 : Calls Tryd.prog 32 #[.pointer (some ⟨p.sb, 0, none⟩), .int .i64 B] w fun e w1 => e = .returned (.slice (some ⟨w.heap.size, 0, none⟩) B B) ∧ Hid (IArr w1 w.heap.size 0 B (at0 p.S) ∧ ∃ F1, FP base xb { p with S := [] } w1 F1 ∧ Stp w F w1 F1 ∧ ∀ k, F1 k → F k) := by
    refine (fp_take h B (by rw [f.hS, hB])).mono ?_
    rintro e w1 ⟨rfl, H⟩
    have := H.out.1.iarr f.rng
    rw [f.hS, hB] at this
    exact ⟨rfl, this, H.out.2⟩
  have C2 : ∀ w1, (IArr w1 w.heap.size 0 B (at0 p.S) ∧ ∃ F1, FP base xb { p with S := [] } w1 F1 ∧ Stp w F w1 F1 ∧ ∀ k, F1 k → F k) → Calls Tryd.prog 42 #[.slice (some ⟨w.heap.size, 0, none⟩) B B, .int .i64 n] w1 fun e w2 => e = .returned (.slice (some ⟨w1.heap.size, 0, none⟩) n n) ∧ Hid (Arr w2 w1.heap.size n (emb B (at0 p.S)) ∧ w.heap.size ≤ w1.heap.size ∧ ∃ F1, FP base xb { p with S := [] } w2 F1 ∧ Stp w F w2 F1 ∧ ∀ k, F1 k → F k) := by
    rintro w1 ⟨q1, F1, q2, q3, q4⟩
    refine (embedAll_any w.heap.size 0 B B n (at0 p.S) w1 (by omega) (by omega) (by omega) q1).mono ?_
    rintro e w2 ⟨rfl, r1, r2, r3⟩
    exact ⟨rfl, r1, q3.bt.size, F1, (FP.fr _ _ _).bt q2 (r2.bt (fun _ => False)) (fun _ _ x => x), q3.then (r2.bt (fun _ => False)) (fun _ _ x => x), q4⟩
  have C3 : ∀ (w1 w2 : World), (Arr w2 w1.heap.size n (emb B (at0 p.S)) ∧ w.heap.size ≤ w1.heap.size ∧ ∃ F1, FP base xb { p with S := [] } w2 F1 ∧ Stp w F w2 F1 ∧ ∀ k, F1 k → F k) → Calls Tryd.prog 41 #[.pointer (some ⟨shb, 0, none⟩), .slice (some ⟨w1.heap.size, 0, none⟩) n n, .bool false] w2 fun e w3 => ∃ ob, e = .returned (.slice (some ⟨ob, 0, none⟩) n n) ∧ Hid (Arr w3 ob n (dft p.K (blk p.B p.z p.nb)) ∧ w.heap.size ≤ ob ∧ ∃ F3, FP base xb { p with S := [], sh := some (shb, mb, k + 1) } w3 F3 ∧ Stp w F w3 F3 ∧ ¬ F3 ob) := by
    rintro w1 w2 ⟨q1, q2, F1, q3, q4, q5⟩
    refine (fp_tra q3 shb mb k f.hsh (by have := f.hk; omega) f.hK n n1 w1.heap.size n _ false q1 (emb_elems _ _ _) (fun e => by have := hFlt _ (q5 _ e); omega)).mono ?_
    rintro e w3 ⟨ob, rfl, H⟩
    obtain ⟨r1, r2, F3, r3, r4, r5⟩ := H.out
    refine ⟨ob, rfl, r1.congr (fun i _ => ?_), Nat.le_trans q4.bt.size r2, F3, r3, q4.trans r4, r5⟩
    show dft p.K (emb B (at0 p.S)) i = _
    rw [← hB]; exact emb_blk f i
  have C4 : ∀ (w3 : World) (ob : Nat), (Arr w3 ob n (dft p.K (blk p.B p.z p.nb)) ∧ w.heap.size ≤ ob ∧ ∃ F3, FP base xb { p with S := [], sh := some (shb, mb, k + 1) } w3 F3 ∧ Stp w F w3 F3 ∧ ¬ F3 ob) → Calls Tryd.prog 80 #[.pointer (some ⟨xb, 0, none⟩), .slice (some ⟨ob, 0, none⟩) n n] w3 fun e w4 => e = .returned (.tuple #[]) ∧ Hid (∃ F4, FP base xb { p with S := [], nb := p.nb + 1, sh := some (shb, mb, k + 1) } w4 F4 ∧ Stp w F w4 F4) := by
    rintro w3 ob ⟨q1, q2, F3, q3, q4, q5⟩
    refine (keep_blk q3 f.hB ob n n1 (by show Arr w3 ob (2 ^ p.K) _; rw [n1]; exact q1) q5 (by omega)).mono ?_
    rintro e w4 ⟨rfl, F4, r1, r2, r3⟩
    refine ⟨rfl, F4, r1, q4.bt.trans r2 (fun i hi e => (q4.new i e).elim id (fun q => by omega)), fun i hi => ?_⟩
    rcases r3 i hi with e | e | e
    · exact q4.new i e
    · exact .inr (Nat.le_trans q4.bt.size e)
    · exact .inr (by omega)
  have C5 : ∀ (w4 : World), (∃ F4, FP base xb { p with S := [], nb := p.nb + 1, sh := some (shb, mb, k + 1) } w4 F4 ∧ Stp w F w4 F4) → Calls Tryd.prog 81 #[.pointer (some ⟨xb, 0, none⟩)] w4 fun e w5 => ∃ ob, e = .returned (.slice (some ⟨ob, 0, none⟩) n n) ∧ Hid (∃ F5, FP base xb { p with S := [], nb := p.nb + 1, sh := some (shb, mb, k + 1) } w5 F5 ∧ Stp w F w5 F5 ∧ Arr w5 ob n (spec p.K (fun j => blk p.B p.z (p.nb - j)) (win p.B (at0 p.h)) (min (wins p.h.length p.B) (p.nb + 1))) ∧ ¬ F5 ob) := by
    rintro w4 ⟨F4, q1, q2⟩
    refine (meet_any q1 f.hB n n1 n2 f.hh.2.1 (by show 1 ≤ p.nb + 1; omega)).mono ?_
    rintro e w5 ⟨ob, rfl, F5, r1, r2, r3, r4, r5⟩
    refine ⟨ob, rfl, F5, r1, q2.trans r2, ?_, r5⟩
    have r3' : Arr w5 ob (2 ^ p.K) (spec p.K (fun j => blk p.B p.z (p.nb + 1 - 1 - j)) (win p.B (at0 p.h)) (min (wins p.h.length p.B) (p.nb + 1))) := r3
    rw [n1] at r3'
    exact r3'
  have C6 : ∀ (w5 : World) (ob : Nat), (∃ F5, FP base xb { p with S := [], nb := p.nb + 1, sh := some (shb, mb, k + 1) } w5 F5 ∧ Stp w F w5 F5 ∧ Arr w5 ob n (spec p.K (fun j => blk p.B p.z (p.nb - j)) (win p.B (at0 p.h)) (min (wins p.h.length p.B) (p.nb + 1))) ∧ ¬ F5 ob) → Calls Tryd.prog 41 #[.pointer (some ⟨shb, 0, none⟩), .slice (some ⟨ob, 0, none⟩) n n, .bool true] w5 fun e w6 => ∃ ob6, e = .returned (.slice (some ⟨ob6, 0, none⟩) n n) ∧ Hid ((∀ i, i < B → w6.cell? ⟨ob6, B + i, none⟩ = some (.int .u64 (trans p.K true (spec p.K (fun j => blk p.B p.z (p.nb - j)) (win p.B (at0 p.h)) (min (wins p.h.length p.B) (p.nb + 1))) (B + i)))) ∧ ∃ F6, FP base xb { p with S := [], nb := p.nb + 1, sh := some (shb, mb, k + 1 + 1) } w6 F6 ∧ Stp w F w6 F6) := by
    rintro w5 ob ⟨F5, q1, q2, q3, q4⟩
    refine (fp_tra q1 shb mb (k + 1) rfl (by have := f.hk; omega) f.hK n n1 ob n _ true q3 (spec_elems _ _ _ _ _) q4).mono ?_
    rintro e w6 ⟨ob6, rfl, H⟩
    obtain ⟨r1, r2, F6, r3, r4, r5⟩ := H.out
    exact ⟨ob6, rfl, fun i hi => (r1 (B + i) (by omega)).1, F6, r3, q2.trans r4⟩
  have C7 : ∀ (w6 : World) (ob6 : Nat), ((∀ i, i < B → w6.cell? ⟨ob6, B + i, none⟩ = some (.int .u64 (trans p.K true (spec p.K (fun j => blk p.B p.z (p.nb - j)) (win p.B (at0 p.h)) (min (wins p.h.length p.B) (p.nb + 1))) (B + i)))) ∧ ∃ F6, FP base xb { p with S := [], nb := p.nb + 1, sh := some (shb, mb, k + 1 + 1) } w6 F6 ∧ Stp w F w6 F6) →
      w6.cell? ⟨xb, 5, none⟩ = some (.pointer (some ⟨p.ab, 0, none⟩)) ∧ ∀ (m off cap : Nat), m = B → off = B → Calls Tryd.prog 44 #[.slice (some ⟨ob6, off, none⟩) m cap] w6.drew fun e w7 => e = .returned (.slice (some ⟨w6.heap.size, 0, none⟩) B B) ∧ w7.cell? ⟨xb, 5, none⟩ = some (.pointer (some ⟨p.ab, 0, none⟩)) ∧ Calls Tryd.prog 47 #[.pointer (some ⟨p.ab, 0, none⟩), .slice (some ⟨w6.heap.size, 0, none⟩) B B] w7 fun e w8 => ∃ i : Int, e = .returned (.int .i64 i) ∧ w8.cell? ⟨xb, 5, none⟩ = some (.pointer (some ⟨p.ab, 0, none⟩)) ∧ Hid (Steps w F (FP base xb (worked p shb mb k)) w8) := by
    rintro w6 ob6 ⟨q1, F6, q2, q3⟩
    subst hB
    refine ⟨q2.blk.c5, fun m off cap hm hoff => ?_⟩
    rw [hm, hoff]
    clear hm hoff
    have hJ : min (wins p.h.length p.B) (p.nb + 1) ≤ p.nb + 1 := Nat.min_le_right _ _
    have hc := wins_cover (L := p.h.length) (B := p.B) f.hh.1 (by omega)
    refine (liftAll_off ob6 p.B p.B cap _ w6.drew (by omega) (fun i _ => ⟨(trans_bd _ _ _ _).1, Int.le_trans (trans_bd _ _ _ _).2 (by omega)⟩) (fun i hi => q1 i hi)).mono ?_
    rintro e w7 ⟨rfl, r1, r2, r3⟩
    have q2' := (FP.fr _ _ _).bt q2 (((Bt.refl (fun _ => False) w6).drew).trans (r2.bt (fun _ => False)) (fun _ _ x => x)) (fun _ _ x => x)
    have q3' : Stp w F w7 F6 := q3.then (((Bt.refl (fun _ => False) w6).drew).trans (r2.bt (fun _ => False)) (fun _ _ x => x)) (fun _ _ x => x)
    have h6 : ∀ i, F6 i → i < w6.heap.size := fun i hi => ((FP.fr _ _ _).lt q2 hi).2
    refine ⟨rfl, q2'.blk.c5, ?_⟩
    have hsrc : Src w7 (some ⟨w6.heap.size, 0, none⟩) (ints (answers p p.nb)) := by
      refine JArr.src' r1 _ (answers_len p p.nb) (fun i hi => ?_)
      rw [answers_at p p.nb i hi]
      refine (win_lift (K := p.K) (B := p.B) (by have := f.hK; omega) (by rw [n1, n2]) (at0 p.h) p.z p.h.length p.nb (min (wins p.h.length p.B) (p.nb + 1)) (fun k hk => at0_out _ _ hk) hJ ?_ f.hh.2.2 f.zs _ (fun k _ => rfl) i hi).symm
      by_cases e : p.nb + 1 ≤ wins p.h.length p.B
      · exact .inl (by omega)
      · right
        have e2 : min (wins p.h.length p.B) (p.nb + 1) = wins p.h.length p.B := by omega
        rw [e2]; exact hc
    have hr3 : w7.heap.size = w6.heap.size + 1 := r3
    refine (fp_put q2' w6.heap.size p.B p.B (answers p p.nb) hsrc (answers_len p p.nb) (Nat.le_refl _) (by omega) (fun e => by have := h6 _ e; omega) (by omega) f.hY f.hR).mono ?_
    rintro e w8 ⟨i, rfl, H⟩
    obtain ⟨F8, k1, k2⟩ := H.out
    exact ⟨i, rfl, k1.blk.c5, F8, k1, q3'.trans k2⟩
  have c0 := h.blk.c0
  have c4 := h.blk.c4
  rw [hB] at c0
  have hn3 : (2 : Int) * (B : Int) = (n : Int) := by omega
  have hnB : B ≤ n := by omega
  have hn5 : n ≤ 512 := by omega
  have hnm : n - B = B := by omega
  have hnB2 : ¬ n = B := by omega
  have hi1 : (B : Int) ≤ (n : Int) := by omega
  clear h f hFlt hB' n1 n2 hB
  have tk : True := trivial
  go_enter Tryd.func48, Tryd.ntmps48
  go_wp2_with (first
    | (go_at_call 32; refine C1.mono ?_; rintro e w1 ⟨rfl, H1⟩; clear C1)
    | (go_at_call 42; refine (C2 _ H1.out).mono ?_; rintro e w2 ⟨rfl, H2⟩; clear C2)
    | (go_at_call 41; have _t := tk; refine (C3 _ _ H2.out).mono ?_; rintro e w3 ⟨ob3, rfl, H3⟩; clear tk _t C3)
    | (go_at_call 80; refine (C4 _ _ H3.out).mono ?_; rintro e w4 ⟨rfl, H4⟩; clear C4)
    | (go_at_call 81; refine (C5 _ H4.out).mono ?_; rintro e w5 ⟨ob5, rfl, H5⟩; clear C5)
    | (go_at_call 41; refine (C6 _ _ H5.out).mono ?_; rintro e w6 ⟨ob6, rfl, H6⟩; clear C6))
  obtain ⟨c5, C7'⟩ := C7 _ _ H6.out
  clear C7
  go_region_held3 (fun W => W.cell? ⟨xb, 5, none⟩ = some (.pointer (some ⟨p.ab, 0, none⟩)))
    (first
      | exact e5
      | exact d5
      | exact c5)
    (first
      | (go_at_call 44; with_reducible refine (C7' _ _ _ rfl rfl).mono ?_; rintro e w7 ⟨rfl, d5, C8⟩; clear C7')
      | (go_at_call 47; with_reducible refine C8.mono ?_; rintro e w8 ⟨i8, rfl, e5, H8⟩; clear C8))
  go_wp2
  go_end0
  exact ⟨rfl, H8.out⟩
end Go.Proofs.YtddpcjgekfmhkabDoor

/- A filter's parts and its state. -/
namespace Go.Proofs.YtddpcjgekfmhkabDoor
open Go.RowKit
set_option linter.unusedSimpArgs false
set_option linter.unusedVariables false

def FlS.lastTaps (s : FlS) : List Int := (s.parts.getLast?.map (·.2)).getD []
/-- The parts p hold the state s. -/
structure Rep (s : FlS) (p : Par) : Prop where
  B : p.B = s.B
  R : p.R = s.R
  W : p.W = s.W
  K : 2 ^ p.K = 2 * s.B
  K10 : p.K ≤ 10
  acc : p.acc = s.X.length
  pend : p.pend = s.pending
  S : p.S = s.X.drop s.whole
  Y : p.Y = s.outs (s.whole - s.pulled)
  nb : p.nb = s.X.length / s.B
  z : p.z = at0 s.X
  h : p.h = tapsAt s.parts s.whole []
  hn : p.hn = if s.X.length < s.from then some s.lastTaps else none
  one : ∀ i q, s.parts[i]? = some q → i + 1 < s.parts.length → q.1 ≤ s.whole

theorem tapsAt_le {ps : List (Nat × List Int)} {n m : Nat} (h : ∀ p ∈ ps, (p.1 ≤ n ↔ p.1 ≤ m)) (d : List Int) : tapsAt ps n d = tapsAt ps m d := by
  induction ps generalizing d with
  | nil => rfl
  | cons p ps ih =>
    unfold tapsAt
    have e : (if p.1 ≤ n then p.2 else d) = if p.1 ≤ m then p.2 else d := by
      by_cases q : p.1 ≤ n
      · rw [if_pos q, if_pos ((h p (by simp)).1 q)]
      · rw [if_neg q, if_neg (fun e => q ((h p (by simp)).2 e))]
    rw [e]
    exact ih (fun q hq => h q (by simp [hq])) _
theorem parts_last {s : FlS} (h : s.parts ≠ []) : s.parts = s.parts.dropLast ++ [(s.from, s.lastTaps)] := by
  have e := List.dropLast_concat_getLast h
  have e2 : s.parts.getLast h = (s.from, s.lastTaps) := by
    unfold FlS.from FlS.lastTaps
    rw [List.getLast?_eq_some_getLast h]
    rfl
  rw [e2] at e
  exact e.symm
theorem FlS.Ok.ne {s : FlS} (h : s.Ok) : s.parts ≠ [] := by
  intro e
  have := h.p0
  rw [e] at this
  simp at this
theorem tapsAt_from {s : FlS} (h : s.Ok) {n : Nat} (hn : s.from ≤ n) : tapsAt s.parts n [] = s.lastTaps := by
  rw [parts_last h.ne, tapsAt_append]
  show (if s.from ≤ n then s.lastTaps else _) = _
  rw [if_pos hn]
/-- The taps stay as they are while nothing is passed. -/
theorem Rep.taps {s : FlS} {p : Par} (r : Rep s p) (h : s.Ok) {n : Nat} (h0 : s.whole ≤ n) (h1 : s.from ≤ s.whole ∨ n < s.from) : tapsAt s.parts n [] = p.h := by
  rw [r.h]
  refine tapsAt_le (fun q hq => ?_) []
  obtain ⟨i, hi⟩ := List.getElem?_of_mem hq
  have hlt : i < s.parts.length := by
    rcases Nat.lt_or_ge i s.parts.length with e | e
    · exact e
    · rw [List.getElem?_eq_none e] at hi; cases hi
  by_cases e : i + 1 < s.parts.length
  · have := r.one i q hi e; omega
  · have e1 : q.1 = s.from := by
      unfold FlS.from
      rw [List.getLast?_eq_getElem?, show s.parts.length - 1 = i by omega, hi]
      rfl
    omega
theorem FlS.whole_le' (s : FlS) (hB : 0 < s.B) : s.whole ≤ s.X.length ∧ s.X.length < s.whole + s.B := by
  have h1 := Nat.div_add_mod s.X.length s.B
  have h2 := Nat.mod_lt s.X.length hB
  unfold FlS.whole
  rw [Nat.mul_comm] at h1
  omega
theorem Rep.S_len {s : FlS} {p : Par} (r : Rep s p) : p.S.length = s.X.length - s.whole := by rw [r.S, List.length_drop]
theorem FlS.y_more {s : FlS} {l : List Int} {n : Nat} (hn : n < s.X.length) : (s.more l).y n = s.y n := by
  unfold FlS.y FlS.more
  refine sm_congr _ fun k hk => ?_
  by_cases e : k ≤ n
  · rw [if_pos e, if_pos e]
    congr 1
    unfold at0
    simp only [List.getD_eq_getElem?_getD]
    rw [List.getElem?_append_left (by omega)]
  · rw [if_neg e, if_neg e]
theorem at0_app {a b : List Int} {i : Nat} (h : i < a.length) : at0 (a ++ b) i = at0 a i := by
  unfold at0
  simp only [List.getD_eq_getElem?_getD]
  rw [List.getElem?_append_left h]
theorem at0_app' {a b : List Int} {i : Nat} (h : a.length ≤ i) : at0 (a ++ b) i = at0 b (i - a.length) := by
  unfold at0
  simp only [List.getD_eq_getElem?_getD]
  rw [List.getElem?_append_right h]
theorem at0_sample {l : List Int} (h : ∀ v ∈ l, okSample v) (i : Nat) : -2147483648 ≤ at0 l i ∧ at0 l i ≤ 2147483647 := by
  rcases Nat.lt_or_ge i l.length with e | e
  · exact h _ (List.mem_of_getElem? (at0_some e))
  · rw [at0_out l i e]; omega

/-- n samples more, the block not whole yet. -/
def fed (p : Par) (l : List Int) (X : List Int) : Par := { p with S := p.S ++ l, acc := p.acc + l.length, z := at0 X }
theorem whole_same {s : FlS} {l : List Int} (hB : 0 < s.B) (h : s.X.length + l.length < s.whole + s.B) : (s.more l).whole = s.whole ∧ (s.X.length + l.length) / s.B = s.X.length / s.B := by
  have hq : (s.X.length + l.length) / s.B = s.X.length / s.B := by
    have h1 := s.whole_le' hB
    unfold FlS.whole at h h1
    apply Nat.div_eq_of_lt_le
    · omega
    · rw [Nat.add_mul, Nat.one_mul]; omega
  refine ⟨?_, hq⟩
  unfold FlS.whole FlS.more
  simp only [List.length_append, hq]
theorem Rep.part {s : FlS} {p : Par} (r : Rep s p) (ok : s.Ok) {l : List Int} (h : s.X.length + l.length < s.whole + s.B) : Rep (s.more l) (fed p l (s.X ++ l)) := by
  have hB := ok.B0
  obtain ⟨w1, w2⟩ := whole_same hB h
  have hw := s.whole_le' hB
  have hfr : s.from ≤ s.whole ∨ s.whole + s.B ≤ s.from := by
    obtain ⟨l', hl⟩ := ok.from_mem
    obtain ⟨q, hq⟩ := ok.mult _ hl
    have hq' : s.from = q * s.B := hq
    unfold FlS.whole
    rw [hq']
    rcases Nat.lt_or_ge (s.X.length / s.B) q with e | e
    · right
      have := Nat.mul_le_mul_right s.B e
      rw [Nat.succ_mul] at this; exact this
    · left; exact Nat.mul_le_mul_right _ e
  refine ⟨r.B, r.R, r.W, r.K, r.K10, ?_, ?_, ?_, ?_, ?_, rfl, ?_, ?_, ?_⟩
  · show p.acc + l.length = (s.X ++ l).length
    rw [r.acc, List.length_append]
  · show p.pend = _
    rw [r.pend]
    unfold FlS.pending FlS.more FlS.from
    simp only [List.length_append]
    have e : (s.parts.getLast?.map (·.1)).getD 0 = s.from := rfl
    rw [e]
    by_cases q : s.X.length < s.from
    · rw [if_pos q, if_pos (by omega)]
    · rw [if_neg q, if_neg (by omega)]
  · show p.S ++ l = (s.X ++ l).drop (s.more l).whole
    rw [r.S, w1, List.drop_append_of_le_length hw.1]
  · show p.Y = (s.more l).outs ((s.more l).whole - s.pulled)
    rw [r.Y, w1]
    unfold FlS.outs
    refine List.map_congr_left fun i hi => ?_
    have := List.mem_range.1 hi
    show s.y (s.pulled + i) = (s.more l).y (s.pulled + i)
    rw [FlS.y_more (by omega)]
  · show p.nb = (s.X ++ l).length / s.B
    rw [r.nb, List.length_append, w2]
  · show p.h = tapsAt s.parts (s.more l).whole []
    rw [w1]; exact r.h
  · show p.hn = if (s.X ++ l).length < s.from then some s.lastTaps else none
    rw [r.hn, List.length_append]
    by_cases q : s.X.length < s.from
    · rw [if_pos q, if_pos (by omega)]
    · rw [if_neg q, if_neg (by omega)]
  · intro i q hi hl
    rw [w1]
    exact r.one i q hi hl

/-- The block gets whole. -/
theorem Rep.full {s : FlS} {p : Par} (r : Rep s p) (ok : s.Ok) {l : List Int} (h : s.X.length + l.length = s.whole + s.B) (hl : ∀ v ∈ l, okSample v) (hr : l.length ≤ s.room) {shb mb k : Nat} (hsh : p.sh = some (shb, mb, k)) (hk : k ≤ 900000) : Full (fed p l (s.X ++ l)) shb mb k (2 * s.B) := by
  have hB := ok.B0
  have hw := s.whole_le' hB
  have hpw := ok.pow
  have hall : ∀ v ∈ s.X ++ l, okSample v := fun v hv => (List.mem_append.1 hv).elim (ok.smp v) (hl v)
  have hS : p.S ++ l = (s.X ++ l).drop s.whole := by rw [r.S, List.drop_append_of_le_length hw.1]
  refine ⟨?_, ?_, ?_, r.K, ?_, r.K10, hsh, hk, ?_, ?_, ?_, ?_, ?_⟩
  · show okBlock (p.B : Int)
    rw [r.B]; unfold okBlock; omega
  · show (p.S ++ l).length = p.B
    rw [List.length_append, r.S_len, r.B]; omega
  · show Rng (p.S ++ l)
    intro x hx
    rw [hS] at hx
    have := hall x (List.mem_of_mem_drop hx)
    unfold okSample at this; omega
  · show 2 * s.B = 2 * p.B
    rw [r.B]
  · intro i hi
    show at0 (s.X ++ l) (p.nb * p.B + i) = at0 (p.S ++ l) i
    rw [hS, r.nb, r.B]
    have e : s.X.length / s.B * s.B = s.whole := rfl
    rw [e]
    unfold at0
    simp only [List.getD_eq_getElem?_getD, List.getElem?_drop]
  · intro i
    exact at0_sample hall i
  · show okTaps p.h
    rw [r.h]
    obtain ⟨l0, ps, hp⟩ := ok.first
    have : tapsAt s.parts s.whole [] ∈ s.parts.map (·.2) := by
      rw [hp]
      show tapsAt ps s.whole (if 0 ≤ s.whole then l0 else []) ∈ _
      rw [if_pos (Nat.zero_le _)]
      have gen : ∀ (qs : List (Nat × List Int)) (d : List Int), tapsAt qs s.whole d = d ∨ tapsAt qs s.whole d ∈ qs.map (·.2) := by
        intro qs
        induction qs with
        | nil => intro d; exact .inl rfl
        | cons q qs ih =>
          intro d
          unfold tapsAt
          rcases ih (if q.1 ≤ s.whole then q.2 else d) with e | e
          · rw [e]
            by_cases c : q.1 ≤ s.whole
            · rw [if_pos c]; exact .inr (by simp)
            · rw [if_neg c]; exact .inl rfl
          · exact .inr (by simp [e])
      rcases gen ps l0 with e | e
      · rw [e]; simp
      · simp [e]
    obtain ⟨q, hq, e⟩ := List.mem_map.1 this
    rw [← e]; exact ok.taps q hq
  · show p.Y.length + p.B ≤ p.R
    rw [r.Y, r.B, r.R]
    unfold FlS.outs
    rw [List.length_map, List.length_range]
    have := ok.pl
    have := ok.rm
    unfold FlS.room at hr
    omega
  · show p.R ≤ 65536
    rw [r.R]; exact ok.r1
theorem whole_next {s : FlS} {l : List Int} (hB : 0 < s.B) (h : s.X.length + l.length = s.whole + s.B) : (s.more l).whole = s.whole + s.B ∧ (s.X.length + l.length) / s.B = s.X.length / s.B + 1 := by
  have hq : (s.X.length + l.length) / s.B = s.X.length / s.B + 1 := by
    rw [h]
    unfold FlS.whole
    rw [Nat.add_div_right _ hB, Nat.mul_div_left _ hB]
  refine ⟨?_, hq⟩
  unfold FlS.whole FlS.more
  simp only [List.length_append, hq, Nat.add_mul, Nat.one_mul]
/-- The parts behind a block. -/
def turned (p : Par) : Par := if (p.acc : Int) = p.pend then { p with tv := p.nv, nv := .slice none 0 0, pend := -1, h := p.hn.getD [], hn := none } else p
theorem Rep.block {s : FlS} {p : Par} (r : Rep s p) (ok : s.Ok) {l : List Int} (h : s.X.length + l.length = s.whole + s.B) (shb mb k : Nat) : Rep (s.more l) (turned (worked (fed p l (s.X ++ l)) shb mb k)) := by
  have hB := ok.B0
  obtain ⟨w1, w2⟩ := whole_next hB h
  have hw := s.whole_le' hB
  have hfr : s.from ≤ s.whole ∨ s.whole + s.B ≤ s.from := by
    obtain ⟨l', hl⟩ := ok.from_mem
    obtain ⟨q, hq⟩ := ok.mult _ hl
    have hq' : s.from = q * s.B := hq
    unfold FlS.whole
    rw [hq']
    rcases Nat.lt_or_ge (s.X.length / s.B) q with e | e
    · right
      have := Nat.mul_le_mul_right s.B e
      rw [Nat.succ_mul] at this; exact this
    · left; exact Nat.mul_le_mul_right _ e
  have hX : (s.more l).X.length = s.whole + s.B := by show (s.X ++ l).length = _; rw [List.length_append, h]
  have hfrm : (s.more l).from = s.from := rfl
  have hlst : (s.more l).lastTaps = s.lastTaps := rfl
  have hpend : (s.more l).pending = if s.whole + s.B < s.from then (s.from : Int) else -1 := by
    unfold FlS.pending; rw [hX, hfrm]
  have hY : p.Y ++ answers (fed p l (s.X ++ l)) p.nb = (s.more l).outs ((s.more l).whole - s.pulled) := by
    have hpl := ok.pl
    rw [r.Y, w1, show s.whole + s.B - s.pulled = (s.whole - s.pulled) + s.B by omega]
    unfold FlS.outs
    rw [List.range_add, List.map_append]
    congr 1
    · refine List.map_congr_left fun i hi => ?_
      have := List.mem_range.1 hi
      show s.y (s.pulled + i) = (s.more l).y (s.pulled + i)
      rw [FlS.y_more (by omega)]
    · unfold answers
      rw [List.map_map]
      show (List.range p.B).map _ = _
      rw [r.B]
      refine List.map_congr_left fun c hc => ?_
      have hc' := List.mem_range.1 hc
      show flt p.h.length (at0 p.h) (at0 (s.X ++ l)) (p.nb * p.B + c) = (s.more l).y (s.pulled + (s.whole - s.pulled + c))
      have e1 : s.pulled + (s.whole - s.pulled + c) = s.whole + c := by omega
      have e2 : p.nb * p.B + c = s.whole + c := by rw [r.nb, r.B]; rfl
      rw [e1, e2]
      unfold FlS.y
      show _ = flt (tapsAt s.parts (s.whole + c) []).length (at0 (tapsAt s.parts (s.whole + c) [])) (at0 (s.X ++ l)) (s.whole + c)
      rw [r.taps ok (by omega) (by omega)]
  have hacc : (worked (fed p l (s.X ++ l)) shb mb k).acc = s.whole + s.B := by
    show p.acc + l.length = _
    rw [r.acc, h]
  have hpd : (worked (fed p l (s.X ++ l)) shb mb k).pend = s.pending := r.pend
  have hpold : s.pending = if s.X.length < s.from then (s.from : Int) else -1 := rfl
  have hone : ∀ i q, (s.more l).parts[i]? = some q → i + 1 < (s.more l).parts.length → q.1 ≤ (s.more l).whole := by
    intro i q hi hl
    have := r.one i q hi hl
    omega
  have hS : ([] : List Int) = (s.more l).X.drop (s.more l).whole := by rw [List.drop_of_length_le (by omega)]
  by_cases c : s.from = s.whole + s.B
  · have e : ((worked (fed p l (s.X ++ l)) shb mb k).acc : Int) = (worked (fed p l (s.X ++ l)) shb mb k).pend := by
      rw [hacc, hpd, hpold, if_pos (by omega), c]
    unfold turned
    rw [if_pos e]
    refine ⟨r.B, r.R, r.W, r.K, r.K10, ?_, ?_, hS, hY, ?_, rfl, ?_, ?_, hone⟩
    · show (worked (fed p l (s.X ++ l)) shb mb k).acc = _
      rw [hacc, hX]
    · show (-1 : Int) = _
      rw [hpend, if_neg (by omega)]
    · show p.nb + 1 = (s.more l).X.length / s.B
      rw [r.nb, ← w2]; show _ = (s.X ++ l).length / s.B; rw [List.length_append]
    · show p.hn.getD [] = tapsAt s.parts (s.more l).whole []
      rw [r.hn, if_pos (by omega), tapsAt_from ok (by omega)]; rfl
    · show none = if (s.more l).X.length < s.from then some s.lastTaps else none
      rw [hX, if_neg (by omega)]
  · have e : ¬ ((worked (fed p l (s.X ++ l)) shb mb k).acc : Int) = (worked (fed p l (s.X ++ l)) shb mb k).pend := by
      rw [hacc, hpd, hpold]
      split <;> omega
    unfold turned
    rw [if_neg e]
    refine ⟨r.B, r.R, r.W, r.K, r.K10, ?_, ?_, hS, hY, ?_, rfl, ?_, ?_, hone⟩
    · rw [hacc, hX]
    · rw [hpd, hpend, hpold]
      by_cases q : s.X.length < s.from
      · rw [if_pos q, if_pos (by omega)]
      · rw [if_neg q, if_neg (by omega)]
    · show p.nb + 1 = (s.more l).X.length / s.B
      rw [r.nb, ← w2]; show _ = (s.X ++ l).length / s.B; rw [List.length_append]
    · show p.h = tapsAt s.parts (s.more l).whole []
      rw [r.taps ok (by omega) (by omega)]
    · show p.hn = if (s.more l).X.length < s.from then some s.lastTaps else none
      rw [r.hn, hX]
      by_cases q : s.X.length < s.from
      · rw [if_pos q, if_pos (by omega)]
      · rw [if_neg q, if_neg (by omega)]
end Go.Proofs.YtddpcjgekfmhkabDoor
