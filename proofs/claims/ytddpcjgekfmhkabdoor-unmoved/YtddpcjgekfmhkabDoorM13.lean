/- Texts joined: Qm RingEU Xh Xi. -/
import Derived.Deep.QuietTactic
import Derived.Test.YtddpcjgekfmhkabDoorM12
import Derived.Test.YtddpcjgekfmhkabDoorM11
import Derived.Defers
import Derived.Deep.RegionHeld3

/- A region that draws its order: quiet operations, then some that come one behind the other. -/
namespace Go.Proofs.YtddpcjgekfmhkabDoor
open Go
set_option linter.unusedVariables false
set_option linter.unusedSimpArgs false

section
variable {P : Program} {ops : Array Oper} {md : Region.Mode} {C : World → Prop} {L : Nat}

/-- r operations, one behind the other, from k on. -/
def seqB (md : Region.Mode) (ops : Array Oper) : Nat → Nat → Array Bool → Bool
  | 0, k, listed => decide (Region.ready md ops listed = [])
  | r + 1, k, listed => decide (Region.ready md ops listed = [k]) && seqB md ops r (k + 1) (listed.setIfInBounds k true)
theorem wpAny_seq {Q : Exit → Act → World → Prop} : ∀ (l : List Oper) (k : Nat) (listed : Array Bool) (a : Act) (w : World), (∀ j, j < l.length → l[j]? = ops[k + j]?) → seqB md ops l.length k listed = true → wpList P ops Q l a w → wpAny P md ops Q l.length listed a w
  | [], k, listed, a, w, _, hB, h => by
    simp only [List.length_nil, seqB, decide_eq_true_eq] at hB
    exact ⟨hB, h⟩
  | o :: l, k, listed, a, w, hl, hB, h => by
    have h0 : ops[k]? = some o := by simpa using (hl 0 (by simp)).symm
    simp only [List.length_cons, seqB, Bool.and_eq_true, decide_eq_true_eq] at hB
    obtain ⟨h1, h2⟩ := hB
    refine ⟨fun q => (by rw [h1] at q; cases q), fun i hi => ?_⟩
    rw [h1] at hi
    obtain rfl : i = k := by simpa using hi
    have ih := fun a' w' (q : wpList P ops Q l a' w') => wpAny_seq l (i + 1) (listed.setIfInBounds i true) a' w' (fun j hj => by have := hl (j + 1) (by simp; omega); simpa [Nat.add_assoc, Nat.add_comm 1 j] using this) h2 q
    refine wpOp_mono ih ?_
    unfold wpOp
    rw [h0]
    exact h

/-- Whatever order is picked, up to those that come one behind the other. -/
def wpAnyS (P : Program) (md : Region.Mode) (ops : Array Oper) (C : World → Prop) (r L : Nat) (E : Act → Prop) : Nat → Array Bool → Act → Prop
  | 0, listed, a => seqB md ops (r + 1) L listed = true ∧ E a
  | fuel + 1, listed, a => L ∉ Region.ready md ops listed ∧ Region.ready md ops listed ≠ [] ∧ ∀ i ∈ Region.ready md ops listed, qOp P ops C i (wpAnyS P md ops C r L E fuel (listed.setIfInBounds i true)) a

theorem wpAny_of_S {r : Nat} {E : Act → Prop} {Q : Exit → Act → World → Prop} (hE : ∀ listed a w, C w → seqB md ops (r + 1) L listed = true → E a → wpAny P md ops Q (r + 1) listed a w) : ∀ (fuel : Nat) (listed : Array Bool) (a : Act) (w : World), C w →
    wpAnyS P md ops C r L E fuel listed a → wpAny P md ops Q (fuel + (r + 1)) listed a w
  | 0, listed, a, w, hw, h => by
    rw [Nat.zero_add]
    exact hE listed a w hw h.1 h.2
  | fuel + 1, listed, a, w, hw, h => by
    obtain ⟨h1, h2, h3⟩ := h
    rw [show fuel + 1 + (r + 1) = (fuel + (r + 1)) + 1 by omega]
    refine ⟨fun h0 => absurd h0 h2, fun i hi => ?_⟩
    exact wpOp_of_qOp hw (fun a' w' hw' q => wpAny_of_S hE fuel _ a' w' hw' q) (h3 i hi)

theorem wpAnyS_first {r : Nat} {E : Act → Prop} {i : Nat} {oi : Oper} {v : Value} (hi : ops[i]? = some oi) (hiL : i < L) (hsel : ∀ (j : Nat) (o : Oper) cs b, ops[j]? = some o → o.op ≠ .select cs b)
    (hlast : ∀ listed, Down md ops listed → L ∈ Region.ready md ops listed → ∀ j, j < L → listed.getD j false = true) :
    ∀ (fuel : Nat) (listed : Array Bool) (a : Act), Down md ops listed →
      (∀ j oj, ops[j]? = some oj → j ≠ i → listed.getD j true = false → (∀ e ∈ oj.after, Region.binds md e = true → e.on ≠ i) → oi.apart ops oj = true) →
      i ∈ Region.ready md ops listed → YieldsIn P ops C oi v a →
      wpAnyS P md ops C r L E fuel (listed.setIfInBounds i true) (a.put oi.dst v) → wpAnyS P md ops C r L E (fuel + 1) listed a := by
  have hnl : ∀ listed, Down md ops listed → i ∈ Region.ready md ops listed → L ∉ Region.ready md ops listed := by
    intro listed hdn hr hL
    have h0 := (mem_ready.1 hr).1
    have h1 := hlast listed hdn hL i hiL
    rw [Array.getD_eq_getD_getElem?] at h0 h1
    cases e : listed[i]? with
    | none => rw [e] at h1; cases h1
    | some b => rw [e] at h0 h1; simp at h0 h1; rw [h0] at h1; cases h1
  intro fuel
  induction fuel with
  | zero =>
    intro listed a hdn _ hr hy H
    refine ⟨hnl listed hdn hr, fun h => (by rw [h] at hr; cases hr), fun j hj => ?_⟩
    by_cases hji : j = i
    · subst hji; exact hy.qOp hi H
    · have := ready_mono hj hji
      have h1 := H.1
      simp only [seqB, Bool.and_eq_true, decide_eq_true_eq] at h1
      rw [h1.1] at this
      obtain rfl : j = L := by simpa using this
      exact absurd hj (hnl listed hdn hr)
  | succ fuel ih =>
    intro listed a hdn hfree hr hy H
    refine ⟨hnl listed hdn hr, fun h => (by rw [h] at hr; cases hr), fun j hj => ?_⟩
    by_cases hji : j = i
    · subst hji; exact hy.qOp hi H
    · have h1 := H.2.2 j (ready_mono hj hji)
      obtain ⟨hjun, oj, hoj, hall⟩ := mem_ready.1 hj
      have hnot : ∀ e ∈ oj.after, Region.binds md e = true → e.on ≠ i := fun e he hb heq => by
        have h1 := hall e he hb
        have h0 := (mem_ready.1 hr).1
        rw [heq] at h1
        rcases Nat.lt_or_ge i listed.size with h' | h'
        · simp [h'] at h0 h1; rw [h0] at h1; cases h1
        · simp [Array.getElem?_eq_none h'] at h1
      have h2 := qOp_put hoj (hfree j oj hoj hji hjun hnot) (fun cs b => hsel i oi cs b hi) (fun cs b => hsel j oj cs b hoj) hy h1
      have hfree' : ∀ k ok, ops[k]? = some ok → k ≠ i → (listed.setIfInBounds j true).getD k true = false →
          (∀ e ∈ ok.after, Region.binds md e = true → e.on ≠ i) → oi.apart ops ok = true := fun k ok hk hki hun hno => by
        refine hfree k ok hk hki ?_ hno
        by_cases hjk : j = k
        · subst hjk; exact hjun
        · rw [getD_set_ne true hjk] at hun; exact hun
      refine qOp_mono (fun a' h3 => ih (listed.setIfInBounds j true) a' (hdn.next hj) hfree' (ready_mono hr (Ne.symm hji)) h3.1 ?_) h2
      rw [Array.setIfInBounds_comm _ _ hji]
      exact h3.2

/-- The order of the text, up to those that come one behind the other. -/
def lexS (md : Region.Mode) (ops : Array Oper) (r : Nat) : Nat → Nat → Array Bool → Bool
  | 0, k, listed => seqB md ops (r + 1) k listed
  | fuel + 1, k, listed => (Region.ready md ops listed).contains k && Region.free md ops listed k && lexS md ops r fuel (k + 1) (listed.setIfInBounds k true)

theorem wpAnyS_lex {r : Nat} {E : Act → Prop} (hs : Region.noSelect ops = true) (hlast : ∀ listed, Down md ops listed → L ∈ Region.ready md ops listed → ∀ j, j < L → listed.getD j false = true) : ∀ (l : List Oper) (k : Nat) (listed : Array Bool) (a : Act), Down md ops listed → k + l.length = L → (∀ j, j < l.length → l[j]? = ops[k + j]?) →
    lexS md ops r l.length k listed = true → wpQuiet P ops C E l a → wpAnyS P md ops C r L E l.length listed a
  | [], k, listed, a, hdn, hk, _, hB, h => by
    simp only [List.length_nil, Nat.add_zero] at hk
    subst hk
    exact ⟨hB, h⟩
  | o :: l, k, listed, a, hdn, hk, hl, hB, h => by
    have h0 : ops[k]? = some o := by simpa using (hl 0 (by simp)).symm
    simp only [List.length_cons, lexS, Bool.and_eq_true] at hB
    obtain ⟨⟨hr, hf⟩, hB'⟩ := hB
    have hst : qOp P ops C k (wpQuiet P ops C E l) a := by unfold qOp; simp only [h0]; exact h
    obtain ⟨v, hy, hK⟩ := yieldsIn_of_qOp h0 hst
    simp only [List.length_cons] at hk
    exact wpAnyS_first h0 (by omega) (Region.noSelect_spec hs) hlast l.length listed a hdn (Region.free_spec h0 hf) (by simpa using hr) hy
      (wpAnyS_lex hs hlast l (k + 1) _ _ (hdn.next (by simpa using hr)) (by omega) (fun j hj => by have := hl (j + 1) (by simp; omega); simpa [Nat.add_assoc, Nat.add_comm 1 j] using this) hB' hK)

/-- What comes behind waits for all quiet ones. -/
def waitsS (md : Region.Mode) (ops : Array Oper) (L : Nat) : Bool := (List.range L).all fun j => decide (j < 0) || (reach md ops L (depsOf md ops L)).contains j
theorem waitsS_spec (h : waitsS md ops L = true) (listed : Array Bool) (hdn : Down md ops listed) (hL : L ∈ Region.ready md ops listed) (j : Nat) (hj : j < L) : listed.getD j false = true :=
  ready_reach hdn hL L L 0 h j (Nat.zero_le _) hj

theorem wp_region_quiet_seq {id : Nat} {Q : Exit → Act → World → Prop} {a : Act} {w : World} {l : List Oper} (n r : Nat) (hm : P.follows .mixedOrders = true) (hn : l.length = n + (r + 1))
    (hB : (Region.noSelect l.toArray && lexS .any l.toArray r n 0 (Array.replicate (n + (r + 1)) false) && waitsS .any l.toArray n) = true)
    (h : wpQuiet P l.toArray (fun w' => ∃ n, w' = w.drewN n) (fun a' => ∀ w', (∃ n, w' = w.drewN n) → wpList P l.toArray Q (l.drop n) a' w') (l.take n) a) : (Code.region id l.toArray true).wp P Q a w := by
  simp only [Bool.and_eq_true] at hB
  obtain ⟨⟨hs, hx⟩, hw⟩ := hB
  refine wp_region_any hm ?_
  have hsz : l.toArray.size = n + (r + 1) := by simpa using hn
  rw [hsz]
  refine wpAny_of_S (C := fun w' => ∃ n, w' = w.drewN n) (r := r) (L := n) (E := fun a' => ∀ w', (∃ n, w' = w.drewN n) → wpList P l.toArray Q (l.drop n) a' w') (fun listed a' w' hw' hq q => ?_) n _ a _ ⟨1, rfl⟩ ?_
  · have q1 := q w' hw'
    have hl : (l.drop n).length = r + 1 := by rw [List.length_drop]; omega
    have := wpAny_seq (P := P) (md := .any) (ops := l.toArray) (Q := Q) (l.drop n) n listed a' w' (fun j hj => by simp) (by rw [hl]; exact hq) q1
    rwa [hl] at this
  · have ht : (l.take n).length = n := by rw [List.length_take]; omega
    have := wpAnyS_lex (P := P) (C := fun w' => ∃ n, w' = w.drewN n) (md := .any) (ops := l.toArray) (r := r) (L := n) (E := fun a' => ∀ w', (∃ n, w' = w.drewN n) → wpList P l.toArray Q (l.drop n) a' w') hs (fun li hdn hL j hj => waitsS_spec hw li hdn hL j hj) (l.take n) 0 (Array.replicate (n + (r + 1)) false) a (fun k o _ hk => by rw [Array.getD_eq_getD_getElem?, Array.getElem?_replicate] at hk; split at hk <;> cases hk) (by omega) (fun j hj => by rw [ht] at hj; simp [List.getElem?_take, hj]) (by rw [ht]; exact hx) h
    rwa [ht] at this
end
end Go.Proofs.YtddpcjgekfmhkabDoor

/- A ring of []uint64: New, Len, Put, walked. -/
namespace Go.Proofs.YtddpcjgekfmhkabDoor
open Go.RowKit
set_option linter.unusedSimpArgs false
set_option linter.unusedVariables false

set_option maxHeartbeats 1000000 in
set_option maxRecDepth 20000 in
theorem putDU (u : FrameMode) (rb gb M : Nat) (room : Int) (L X : List (List Value)) (b o len cap k : Nat) (w : World) (h : Ring 90 59 1 M w rb gb room L) (hM : M ≤ 4398046511104) (hX : Src w (some ⟨b, o, none⟩) X) (eX : El 1 X) (lX : X.length = len) (hlen : len ≤ 281474976710656) (hcap : len ≤ cap) (hcap2 : cap ≤ 9223372036854775807)
    (hnb : b ≠ rb ∧ b ≠ gb ∧ b < w.heap.size) (hk : k = min len (room.toNat - L.length)) (hkM : L.length + k ≤ M) :
    CallsD Tryd.prog 98 #[.pointer (some ⟨rb, 0, none⟩), .slice (some ⟨b, o, none⟩) len cap] u w fun e u' w' => u' = u ∧ (e = .returned (.int .i64 k) ∧ PutQU M w w' rb gb room (L ++ X.take k)) := by
  have hle := h.le
  have hlt := h.lt
  obtain ⟨C, f, h0, hgb⟩ := id h
  have hroom := h0.roomM
  have c0 := h0.blk.c0
  have c3 := h0.blk.c3
  have hkr : (L.length : Int) + k ≤ room := by omega
  have CG : Calls Tryd.prog 107 #[.pointer (some ⟨rb, 0, none⟩), .int .i64 ((L.length : Int) + k)] w.drew fun e w' => e = .returned (.tuple #[]) ∧ ∃ gb' C f, w'.cell? ⟨rb, 3, none⟩ = some (.int .i64 L.length) ∧ Hid (PgQU M k w w' rb gb gb' room C f L) := by
    have hb : Bt (fun _ => False) w w.drew := (Bt.refl _ w).drew
    refine (growU rb gb M room L (L.length + k) w.drew (h.bt hb (fun x => x) (fun x => x)) hM (by omega) hkM (by omega)).mono ?_
    rintro e w' ⟨rfl, gb', C, f, hq, hg, hc, hg2, hbt⟩
    exact ⟨rfl, gb', C, f, hq.blk.c3, hq, hg, hc, hg2, hb.mono (T := fun k => k = rb) (fun _ _ x => x.elim) |>.trans hbt (fun _ _ x => x)⟩
  have CP : ∀ w2 gb' C f, Hid (PgQU M k w w2 rb gb gb' room C f L) → Calls Tryd.prog 108 #[.pointer (some ⟨rb, 0, none⟩), .int .i64 L.length, .int .i64 k] w2 fun e w' => ∃ hp tp d0 d1 m s st, e = .returned (.tuple #[.slice hp st d0, .slice tp (k - st) d1]) ∧ w' = w2.drewN m ∧ st ≤ k ∧ Hid (pos f C.length L.length = s ∧ st = Nat.min k (C.length - s) ∧ PcQ gb' 1 C.length s hp tp) := by
    intro w2 gb' C f H
    obtain ⟨h, hgb', hfit, hg, bt⟩ := H.out
    have hsm := h.small
    refine (piecesU rb gb' _ room C.length f L.length L.length k _ _ w2 h.blk (by omega) h.circ.first h.circ.le (by omega) rfl rfl).mono ?_
    rintro e w' ⟨hp, tp, d0, d1, rfl, hq1, hq0, m, hw⟩
    exact ⟨hp, tp, d0, d1, m, _, _, rfl, hw, Nat.min_le_left _ _, rfl, rfl, hq1, hq0⟩
  have HS : Hid (SrQU w rb gb b o len X) := ⟨hX, eX, lX, hnb⟩
  have hite : (if room - (L.length : Int) < (len : Int) then room - (L.length : Int) else (len : Int)) = (k : Int) := by split <;> omega
  have hkl : k ≤ len := by omega
  clear h h0 hX eX lX hnb hk hgb
  go_enter_d Tryd.func98, Tryd.ntmps98
  go_wp2
  go_region
  try simp only [hite]
  clear hite c0
  go_wp2_with (first
    | (go_at_call 107; refine CG.mono ?_; rintro e w2 ⟨rfl, gb', C', f', d3, HG⟩)
    | (go_at_call 108; refine (CP w2 gb' C' f' HG).mono ?_; rintro e w' ⟨hp, tp, d0, d1, m, s, st, rfl, hw, hsk, HP⟩; subst w'; obtain ⟨hs, hst, hq⟩ := HP.out; by_cases hsc : st < cap; (obtain ⟨w4, w5, r4, r5, g3, f3, HX⟩ := put_copiesU HG.out HS.out hkl hkr hs hst hq m d0 d1 cap (cap - st) (some ⟨b, o + st * 1, none⟩) (fun _ => rfl); clear hs hst hq HP HG HS CG CP; try simp only [Nat.mul_one] at r5); rotate_left; (obtain rfl : st = cap := by omega); (obtain rfl : len = st := by omega); (obtain rfl : k = len := by omega); (obtain ⟨w4, w5, r4, r5, g3, f3, HX⟩ := put_copiesU HG.out HS.out hkl hkr hs hst hq m d0 d1 k 0 (some ⟨b, o, none⟩) (fun h => by omega)); clear hs hst hq HP HG HS CG CP; simp only [Nat.sub_self] at r5))
  all_goals go_ret
  all_goals exact ⟨rfl, HX.out⟩

end Go.Proofs.YtddpcjgekfmhkabDoor

/- What the last blocks and the windows give. -/
namespace Go.Proofs.YtddpcjgekfmhkabDoor
open Go.RowKit
set_option linter.unusedSimpArgs false
set_option linter.unusedVariables false

theorem Rw.at_sl {w : World} {g n : Nat} {bs : List Nat} (h : Rw w g 59 (sls n bs)) {i b : Nat} (hi : bs[i]? = some b) : w.cell? ⟨g, i, none⟩ = some (.slice (some ⟨b, 0, none⟩) n n) := by
  unfold Rw at h
  rw [sls_flat] at h
  simp [World.cell?, h, hi, sl]
/-- What meet gives. -/
def MeetQ (base xb : Nat) (p : Par) (ob : Nat) (w : World) (F : Nat → Prop) (w' : World) : Prop :=
  ∃ F', FP base xb p w' F' ∧ Stp w F w' F' ∧ Arr w' ob (2 ^ p.K) (spec p.K (fun j => blk p.B p.z (p.nb - 1 - j)) (win p.B (at0 p.h)) (min (wins p.h.length p.B) p.nb)) ∧ w.heap.size ≤ ob ∧ ¬ F' ob
theorem wins_mono {a b B : Nat} (h : a ≤ b) : wins a B ≤ wins b B := by
  unfold wins
  have := Nat.div_le_div_right (c := B) (show a + B - 2 ≤ b + B - 2 by omega)
  omega
theorem spec_elems (K n : Nat) (X H : Nat → Nat → Int) (J : Nat) : Elems n (spec K X H J) := fun _ _ => md_bd _
theorem dft_elems (K n : Nat) (X : Nat → Int) : Elems n (dft K X) := fun _ _ => md_bd _

set_option maxHeartbeats 4000000 in
set_option maxRecDepth 20000 in
theorem meet_any {base xb : Nat} {p : Par} {w : World} {F : Nat → Prop} (h : FP base xb p w F) (hB : okBlock (p.B : Int)) (n : Nat) (hn : 2 ^ p.K = n) (hn2 : n = 2 * p.B) (hh : p.h.length ≤ 1024) (hnb : 1 ≤ p.nb) :
    Calls Tryd.prog 81 #[.pointer (some ⟨xb, 0, none⟩)] w fun e w' => ∃ ob, e = .returned (.slice (some ⟨ob, 0, none⟩) n n) ∧ MeetQ base xb p ob w F w' := by
  have hbase := h.base_le
  have hFlt : ∀ k, F k → k < w.heap.size := fun k hk => ((FP.fr base xb p).lt h hk).2
  have hB' := hB
  unfold okBlock at hB'
  obtain ⟨G, hG, hGF, oth, step⟩ := h.steps 3 (by omega)
  obtain ⟨G0, hx, hx0, _⟩ := oth 0 (by omega) (by omega)
  obtain ⟨G4, ht4, hx4, _⟩ := oth 4 (by omega) (by omega)
  have nxG : ¬ G xb := hx0 xb ((hx.2.2 xb).2 rfl)
  obtain ⟨gb, bs, g1, g2, g3, g4, g5, g6, g7⟩ := hG
  obtain ⟨tb, tbs, t1, t2, t3, t4, t5, t6, t7⟩ := ht4
  have hw := wins_le hB
  have hwp := wins_pos 1024 p.B
  have hwm : wins p.h.length p.B ≤ wins 1024 p.B := wins_mono hh
  have hx' := hx.1
  have ntb : ¬ G tb := hx4 tb ((t7 tb).2 (.inl rfl))
  have ntbs : ∀ b, b ∈ tbs → ¬ G b := fun b hb => hx4 b ((t7 b).2 (.inr hb))
  obtain ⟨room, hroom⟩ : ∃ room, wins 1024 p.B = room := ⟨_, rfl⟩
  obtain ⟨kb, hkb⟩ : ∃ kb, p.kb = kb := ⟨_, rfl⟩
  obtain ⟨B, hBB⟩ : ∃ B, p.B = B := ⟨_, rfl⟩
  obtain ⟨L, hL⟩ : ∃ L, bs.length = L := ⟨_, rfl⟩
  obtain ⟨T, hT⟩ : ∃ T, tbs.length = T := ⟨_, rfl⟩
  rw [hn, hroom] at g1
  rw [hroom] at g2 hw hwp hwm
  rw [hkb] at g1
  have g1' : KRing w kb gb room n bs := g1
  have hl := g1'.lt
  have htb := t3.lt
  have nk : ∀ k, ¬ G k → ¬ (k = kb ∨ k = gb) := fun k hk e => hk ((g7 k).2 (by rw [hkb]; omega))
  have c6 := hx'.c6
  have c7 := hx'.c7
  have c0 := hx'.c0
  rw [hkb] at c6
  rw [t1, hT] at c7
  rw [hBB] at c0 hB' hn2
  rw [hL] at g2
  rw [hT] at t2
  -- what it ends in
  have FN : Hid (∀ (w' : World) (gb' ob : Nat), KRing w' kb gb' room n bs → (gb' = gb ∨ w.heap.size ≤ gb') → Bt (fun i => i = kb ∨ i = gb) w w' → Arr w' ob n (spec p.K (fun j => blk p.B p.z (p.nb - 1 - j)) (win p.B (at0 p.h)) (min T L)) → w.heap.size ≤ ob → ob ≠ gb' → MeetQ base xb p ob w F w') := by
    intro w' gb' ob k1 k2 k3 k4 k5 k6
    have hc : comp base xb p 3 w' (fun k => k = kb ∨ k = gb' ∨ k ∈ bs) := by
      refine ⟨gb', bs, ?_, by rw [hroom, hL]; exact g2, g3.bt k3 (fun b hb => by have := g6 b hb; rw [hkb] at this; omega), g4, by rcases k2 with rfl | k2; exact g5; omega, fun c hc => ?_, fun k => by rw [hkb]⟩
      · show Ring _ _ _ _ _ p.kb _ _ _
        rw [hkb, hn, hroom]; exact k1
      · have := g3.lt (Nat.two_pow_pos p.K) hc
        rcases k2 with rfl | k2
        · exact g6 c hc
        · exact ⟨(g6 c hc).1, (g6 c hc).2.1, by omega⟩
    have hnw : ∀ k, (k = kb ∨ k = gb' ∨ k ∈ bs) → G k ∨ w.heap.size ≤ k := by
      intro k hk
      rcases hk with rfl | rfl | e
      · exact .inl ((g7 _).2 (.inl hkb.symm))
      · rcases k2 with rfl | k2
        · exact .inl ((g7 _).2 (.inr (.inl rfl)))
        · exact .inr k2
      · exact .inl ((g7 _).2 (.inr (.inr e)))
    obtain ⟨F', q1, q2, q3⟩ := step p w' (fun k => k = kb ∨ k = gb' ∨ k ∈ bs) (fun i hi hne => rfl) hc (k3.mono (fun i _ e => (g7 i).2 (by rw [hkb]; omega))) (fun k hk => (hnw k hk).imp id (fun e q => by have := hFlt k q; omega))
    have hmin : min T L = min (wins p.h.length p.B) p.nb := by omega
    rw [hmin] at k4
    refine ⟨F', q1, ⟨q2, fun k hk => ?_⟩, by rw [hn]; exact k4, k5, fun e => ?_⟩
    · rcases q3 k hk with e | e
      · exact (hnw k e).imp (hGF k) id
      · exact .inl e
    · rcases q3 ob e with e | e
      · rcases e with e | e | e
        · omega
        · exact k6 e
        · have := g3.lt (Nat.two_pow_pos p.K) e; omega
      · have := hFlt ob e; omega
  -- what is there while it goes on
  have OLD : Hid (∀ wr, Bt (fun i => i = kb ∨ i = gb) w wr → wr.cell? ⟨xb, 6, none⟩ = some (.pointer (some ⟨kb, 0, none⟩)) ∧ wr.cell? ⟨xb, 7, none⟩ = some (.slice (some ⟨tb, 0, none⟩) T T) ∧ wr.cell? ⟨xb, 0, none⟩ = some (.int .i64 B) ∧
      (∀ j, j < T → ∃ c, wr.cell? ⟨tb, j, none⟩ = some (.slice (some ⟨c, 0, none⟩) n n) ∧ Arr wr c n (dft p.K (win p.B (at0 p.h) j)) ∧ c < w.heap.size) ∧ (∀ i b, bs[i]? = some b → Arr wr b n (dft p.K (blk p.B p.z (p.nb - L + i))) ∧ b < w.heap.size)) := by
    intro wr b
    refine ⟨b.cell (nk _ nxG) c6, b.cell (nk _ nxG) c7, b.cell (nk _ nxG) c0, fun j hj => ?_, fun i c hc => ?_⟩
    · have e : tbs[j]? = some tbs[j] := List.getElem?_eq_getElem (by omega)
      have hm : tbs[j] ∈ tbs := List.getElem_mem _
      have e3 : Rw w tb 59 (sls n tbs) := by rw [← hn]; exact t3
      refine ⟨tbs[j], (e3.bt b (nk _ ntb)).at_sl e, ?_, t4.lt (Nat.two_pow_pos p.K) hm⟩
      rw [← hn]
      exact (t4 j _ e).bt b (nk _ (ntbs _ hm))
    · have hm := List.mem_of_getElem? hc
      refine ⟨?_, g3.lt (Nat.two_pow_pos p.K) hm⟩
      have := g3 i c hc
      rw [hn, hL] at this
      exact this.bt b (by have := g6 c hm; rw [hkb] at this; omega)
  have CL : ∀ m, Calls Tryd.prog 100 #[.pointer (some ⟨kb, 0, none⟩)] (w.drewN m) fun e w' => e = .returned (.int .i64 L) ∧ w' = w.drewN m := fun m => by
    have := kr_len (g1'.bt ((Bt.refl (fun _ => False) w).drewN m) (fun x => x) (fun x => x))
    rwa [hL] at this
  have CT : ∀ m, Calls Tryd.prog 99 #[.pointer (some ⟨kb, 0, none⟩), .int .i64 L] (w.drewN m) fun e w' => e = .returned (.slice (some ⟨w.heap.size, 0, none⟩) L L) ∧ Hid (Rw w' w.heap.size 59 (sls n bs) ∧ KRing w' kb gb room n [] ∧ Bt (fun i => i = kb ∨ i = gb) w w') := fun m => by
    refine (kr_take (g1'.bt ((Bt.refl (fun _ => False) w).drewN m) (fun x => x) (fun x => x)) L L rfl (by omega)).mono ?_
    rintro e w' ⟨rfl, q1, q2, q3⟩
    rw [List.take_of_length_le (by omega)] at q1
    rw [List.drop_of_length_le (by omega)] at q2
    exact ⟨rfl, q1, q2, ((Bt.refl (fun i => i = kb ∨ i = gb) w).drewN m).trans q3 (fun _ _ x => x)⟩
  have CA : ∀ (wr : World) (ob j q c : Nat), Arr wr ob n (spec p.K (fun j => blk p.B p.z (p.nb - 1 - j)) (win p.B (at0 p.h)) j) → Bt (fun i => i = kb ∨ i = gb) w wr → (∃ b, bs[q]? = some b ∧ b = c) → q + j + 1 = L → j < T → w.heap.size ≤ ob → ∀ t, Arr wr t n (dft p.K (win p.B (at0 p.h) j)) → t < w.heap.size → Calls Tryd.prog 101 #[.slice (some ⟨ob, 0, none⟩) n n, .slice (some ⟨c, 0, none⟩) n n, .slice (some ⟨t, 0, none⟩) n n] wr fun e w' => e = .returned (.tuple #[]) ∧ Hid (Arr w' ob n (spec p.K (fun j => blk p.B p.z (p.nb - 1 - j)) (win p.B (at0 p.h)) (j + 1)) ∧ Only ob wr w') := by
    rintro wr ob j q c ha hb ⟨b, hq, rfl⟩ hqj hj hob t hta htl
    have ho := (OLD.out wr hb).2.2.2.2 q b hq
    have e : p.nb - L + q = p.nb - 1 - j := by omega
    rw [e] at ho
    refine (addProducts_any ob b t n _ _ _ wr (by omega) ha ho.1 hta (spec_elems _ _ _ _ _) (dft_elems _ _ _) (dft_elems _ _ _) (by omega) (by omega)).mono ?_
    rintro e w' ⟨rfl, q1, q2⟩
    exact ⟨rfl, q1.congr (fun i _ => (spec_succ _ _ _ _).symm), q2⟩
  have HBS : Hid (∀ q, q < L → ∃ b, bs[q]? = some b) := fun q hq => ⟨bs[q], List.getElem?_eq_getElem (by omega)⟩
  have CD : ∀ (wr : World), Rw wr w.heap.size 59 (sls n bs) → KRing wr kb gb room n [] → Bt (fun i => i = kb ∨ i = gb) w wr → CallsD Tryd.prog 98 #[.pointer (some ⟨kb, 0, none⟩), .slice (some ⟨w.heap.size, 0, none⟩) L L] .returning wr fun e u' w' => u' = .returning ∧ (e = .returned (.int .i64 L) ∧ Hid (KPutQ wr w' kb gb room n bs)) := by
    intro wr r1 r2 r3
    have hr := r1.src (sls_el n bs) 0 L (some ⟨w.heap.size, 0, none⟩) (fun _ => by simp)
    rw [List.drop_zero, List.take_of_length_le (by rw [sls_len]; omega)] at hr
    refine (putDU .returning kb gb 131072 room (sls n []) (sls n bs) w.heap.size 0 L L L wr r2 (by decide) hr (sls_el n bs) (by rw [sls_len]; exact hL) (by omega) (by omega) (by omega) ⟨by omega, by omega, r1.lt⟩ (by simp [sls]; omega) (by simp [sls]; omega)).mono ?_
    rintro e u' w' ⟨rfl, rfl, gb', q1, q2, q3⟩
    refine ⟨rfl, rfl, gb', ?_, q2, q3⟩
    rw [List.take_of_length_le (by rw [sls_len]; omega)] at q1
    exact q1
  have hT1 : T ≤ 65 := by omega
  have hL1 : L ≤ 65 := by omega
  have hx6 := c6
  have hn3 : (2 : Int) * (B : Int) = (n : Int) := by omega
  have hnb2 : n ≤ 512 := by omega
  clear step oth hGF hx0 hx hx' h hx4 t1 t3 t4 t5 t6 t7 g1 g1' g3 g6 g7 c7 c0 nk ntb ntbs hFlt g2 t2 hL hT hn2 hroom hkb hBB hn hw hwp hwm nxG hbase hB hh hnb g4 g5 hB'
  obtain ⟨J, hJ, hcase⟩ : ∃ J, J = min T L ∧ ((J = L ∧ L < T) ∨ (J = T ∧ T ≤ L)) := ⟨_, rfl, by omega⟩
  rw [← hJ] at FN
  have hJT : J ≤ T := by omega
  have hJL : J ≤ L := by omega
  clear hJ
  obtain ⟨ZS, hZS⟩ : ∃ ZS, ZS = spec p.K (fun j => blk p.B p.z (p.nb - 1 - j)) (win p.B (at0 p.h)) := ⟨_, rfl⟩
  have HZ0 : Hid (∀ i, ZS 0 i = 0) := fun i => by rw [hZS]; rfl
  rw [← hZS] at CA FN
  have HQQ : Hid (∀ j, j < J → ∃ q : Nat, (L : Int) - 1 - (j : Int) = (q : Int) ∧ q + j + 1 = L ∧ (q : Int) < (L : Int) ∧ (j : Int) < (T : Int) ∧ IntKind.i64.wrap (IntKind.i64.wrap ((L : Int) - 1) - (j : Int)) = (q : Int)) := fun j hj => ⟨L - 1 - j, by omega, by omega, by omega, by omega, by rw [IntWalk.i64_in ((L : Int) - 1) (by omega), IntWalk.i64_in _ (by omega)]; omega⟩
  clear hZS
  have hlb : kb < w.heap.size := hl.1
  have hlg : gb < w.heap.size := hl.2
  clear hl
  rcases hcase with ⟨e, c⟩ | ⟨e, c⟩
  all_goals
    have c1 : (J : Int) ≤ (T : Int) := by omega
    have c2 : (J : Int) ≤ (L : Int) := by omega
    subst e
    go_enter_defers Tryd.func81, Tryd.ntmps81
    go_wp2
    refine wp_region_quiet_seq 9 1 (by kernel_rfl) (by kernel_rfl) (by kernel_rfl) ?_
    repeat (quiet_step ((first
      | (go_at_call 100; exact Calls.quiet_of_same (CL _)))))
    refine wpQuiet_nil ?_
    rintro _ ⟨nq, rfl⟩
    go_wp2_with (first
      | (go_at_call 99; refine (CT _).mono ?_; rintro e w1 ⟨rfl, H1⟩; obtain ⟨d6, d7, d0, _⟩ := OLD.out w1 H1.out.2.2)
      | (at_make; refine wpList_make_u64 _ rfl _ _ 59 84 rfl Tryd.underlying59 info_u64 n _ rfl rfl rfl (by omega) ?_; intro w2 hA hG hZ; have HW2 : Hid (Bt (fun i => i = kb ∨ i = gb) w w2) := H1.out.2.2.trans (hG.bt _) (fun _ _ x => x); obtain ⟨e6, e7, e0, _⟩ := OLD.out w2 HW2.out))
    have hz1 : w.heap.size < w1.heap.size := H1.out.1.lt
    have HS : Hid (Arr w2 w1.heap.size n (ZS 0) ∧ Rw w2 w.heap.size 59 (sls n bs) ∧ KRing w2 kb gb room n [] ∧ w2.heap.size = w1.heap.size + 1) := ⟨hA.congr (fun i _ => (HZ0.out i).symm), H1.out.1.bt (hG.bt (fun _ => False)) (fun x => x), H1.out.2.1.bt (hG.bt (fun _ => False)) (fun x => x) (fun x => x), hZ⟩
    clear hA hG hZ H1
    go_loopw [36] (fun ti wr => ∃ j : Nat, j ≤ J ∧ ti = .int .i64 j ∧ Hid (Arr wr w1.heap.size n (ZS j) ∧ Only w1.heap.size w2 wr)) (fun ti _ => J - (intOf ti).toNat)
    case atStart => exact ⟨0, Nat.zero_le _, rfl, HS.out.1, Only.refl _ _⟩
    case round =>
      obtain ⟨j, hj, rfl, HR⟩ := hrel
      have HWR : Hid (Bt (fun i => i = kb ∨ i = gb) w wr) := HW2.out.trans HR.out.2.bt (fun i hi e => by omega)
      obtain ⟨f6, f7, f0, ft, fb⟩ := OLD.out wr HWR.out
      by_cases hlt : j < J
      · obtain ⟨q, hq1, hq2, i2, i3, i4⟩ := HQQ.out j hlt
        obtain ⟨b, hb⟩ := HBS.out q (by omega)
        obtain ⟨t, ht1, ht2, ht3⟩ := ft j (by omega)
        have hcb : wr.cell? ⟨w.heap.size, q, none⟩ = some (.slice (some ⟨b, 0, none⟩) n n) := (HS.out.2.1.bt HR.out.2.bt (by omega)).at_sl hb
        have cadd := fun m => CA (wr.drewN m) w1.heap.size j q b (HR.out.1.drewN m) (HWR.out.drewN m) ⟨b, hb, rfl⟩ hq2 (by omega) (by omega) t (ht2.drewN m) ht3
        have i1 : (j : Int) < (J : Int) := by omega
        clear hq1 hq2 hb ht2 ht3 fb ft CA CT CL CD FN
        go_wp2
        refine wp_region_quiet_seq 16 0 (by kernel_rfl) (by kernel_rfl) (by kernel_rfl) ?_
        repeat (quiet_step (fail))
        refine wpQuiet_nil ?_
        rintro _ ⟨mq, rfl⟩
        go_wp2_with (go_at_call 101; refine (cadd _).mono ?_; rintro e w3 ⟨rfl, H3⟩)
        go_roundw
        case rel => exact ⟨j + 1, by omega, by go_num, H3.out.1, (HR.out.2.drewN _).trans H3.out.2⟩
        case measure => simp [intOf]; omega
      · obtain rfl : j = J := by omega
        have hr2 := HS.out.2.1.bt HR.out.2.bt (by omega)
        have hk2 := HS.out.2.2.1.bt HR.out.2.bt (by omega) (by omega)
        have cd := CD wr hr2 hk2 HWR.out
        have HK : Hid (wr.heap.size = w1.heap.size + 1) := by rw [← HS.out.2.2.2]; exact HR.out.2.size
        clear fb ft CA CT CL CD hr2 hk2
        go_wp2
        refine leaves_cons (by simp) ?_ (cd.mono ?_)
        · simp [go_sem]
        · rintro e u' w'' ⟨rfl, rfl, HP⟩
          refine ⟨_, results_tmp rfl _ _ _, w1.heap.size, rfl, ?_⟩
          obtain ⟨gb', k1, k2, k3⟩ := HP.out
          refine FN.out w'' gb' w1.heap.size k1 ?_ (HWR.out.trans k3 (fun _ _ x => x)) (HR.out.1.bt k3 (by omega)) (by omega) ?_
          · have := HK.out; omega
          · have := HK.out; omega
end Go.Proofs.YtddpcjgekfmhkabDoor

/- A block that is whole: its answers. -/
namespace Go.Proofs.YtddpcjgekfmhkabDoor
open Go.RowKit
set_option linter.unusedSimpArgs false
set_option linter.unusedVariables false

set_option maxHeartbeats 1000000 in
theorem liftAll_off (b off c cap : Nat) (f : Nat → Int) (w : World) (hmax : c ≤ 1024) (hf : Fits c f) (ha : ∀ i, i < c → w.cell? ⟨b, off + i, none⟩ = some (.int .u64 (f i))) :
    Calls Tryd.prog 44 #[.slice (some ⟨b, off, none⟩) c cap] w
      fun e w' => e = .returned (.slice (some ⟨w.heap.size, 0, none⟩) c c) ∧ JArr w' w.heap.size c (fun i => liftv (f i)) ∧ Gw w w' ∧ w'.heap.size = w.heap.size + 1 := by
  have HA : Hid ((∀ i, i < c → w.cell? ⟨b, off + i, none⟩ = some (.int .u64 (f i))) ∧ Fits c f) := ⟨ha, hf⟩
  clear ha hf
  go_enter Tryd.func44, Tryd.ntmps44
  go_wp2_with (at_make; refine wpList_make_i64 _ rfl _ _ 24 3 rfl Tryd.underlying24 info_int c _ rfl rfl rfl (by omega) ?_; intro w1 hA hG hZ)
  have HR0 : Hid (JArr w1 w.heap.size c (fun _ => 0) ∧ (∀ i, i < 0 → (0 : Int) = liftv (f i)) ∧ Gw w w1 ∧ w1.heap.size = w.heap.size + 1) := ⟨hA, fun i hi => by omega, hG, hZ⟩
  clear hA hG hZ
  go_loopw [11] (fun ti wr => ∃ (k : Nat) (g : Nat → Int), k ≤ c ∧ ti = .int .i64 k ∧ Hid (JArr wr w.heap.size c g ∧ (∀ i, i < k → g i = liftv (f i)) ∧ Gw w wr ∧ wr.heap.size = w.heap.size + 1)) (fun ti _ => c - (intOf ti).toNat)
  case atStart => exact ⟨0, fun _ => 0, Nat.zero_le _, rfl, HR0⟩
  case round =>
    obtain ⟨k, g, hk, rfl, HR⟩ := hrel
    by_cases hlt : k < c
    · obtain ⟨hA, hU, hG, hZ⟩ := HR.out
      have c1 := hG.at (HA.out.1 k hlt)
      have bf := HA.out.2 k hlt
      have cl := lift_any (f k) bf.1 bf.2
      have c2 := (hA k hlt).1
      have f2 := (hA k hlt).2
      obtain ⟨v, hv⟩ : ∃ v, f k = v := ⟨_, rfl⟩
      obtain ⟨u, hu⟩ : ∃ u, liftv v = u := ⟨_, rfl⟩
      rw [hv, hu] at cl
      rw [hv] at c1
      have HU : Hid (liftv (f k) = u) := by rw [hv, hu]; rfl
      clear bf hA hU hG hZ hv hu
      go_wp2_with (go_at_call 76; refine (cl _).mono ?_; rintro e w' ⟨rfl, hw⟩; subst w')
      go_roundw
      case rel =>
        refine ⟨k + 1, upd g k u, by omega, by go_num, ?_⟩
        obtain ⟨hA, hU, hG, hZ⟩ := HR.out
        refine ⟨hA.set hlt u, fun i hi => ?_, hG.setCell (Nat.le_refl _) _, by simpa [World.setCell] using hZ⟩
        by_cases e : i = k
        · subst e; rw [upd_same]; exact HU.out.symm
        · rw [upd_other e]; exact hU i (by omega)
      case measure => simp [intOf]; omega
    · obtain rfl : k = c := by omega
      go_wp2
      go_ret
      obtain ⟨hA, hU, hG, hZ⟩ := HR.out
      exact ⟨rfl, hA.congr hU, hG, hZ⟩

section
variable {base xb : Nat} {p : Par} {w : World} {F : Nat → Prop}
/-- Samples are taken. -/
theorem fp_take (h : FP base xb p w F) (n : Nat) (hn : p.S.length = n) :
    Calls Tryd.prog 32 #[.pointer (some ⟨p.sb, 0, none⟩), .int .i64 n] w fun e w' => e = .returned (.slice (some ⟨w.heap.size, 0, none⟩) n n) ∧ Hid (Rw w' w.heap.size 3 (ints p.S) ∧ ∃ F', FP base xb { p with S := [] } w' F' ∧ Stp w F w' F' ∧ ∀ k, F' k → F k) := by
  obtain ⟨G, hG, hGF, step⟩ := h.step 1 (by omega)
  refine (ri_take (hG : RI base p.sb p.B p.S w G) n n (by omega)).mono ?_
  rintro e w' ⟨rfl, q1, q2, q3⟩
  rw [List.take_of_length_le (by omega)] at q1
  rw [List.drop_of_length_le (by omega)] at q2
  obtain ⟨F', k1, k2, k3⟩ := step { p with S := [] } w' G (fun i hi hne => by
    match i, hi, hne with
    | 0, _, _ => rfl
    | 1, _, q => exact absurd rfl q
    | 2, _, _ => rfl
    | 3, _, _ => rfl
    | 4, _, _ => rfl
    | 5, _, _ => rfl
    | 6, _, _ => rfl) q2 ⟨q3, fun k hk => .inl hk⟩
  exact ⟨rfl, q1, F', k1, k2, fun k hk => (k3 k hk).elim (hGF k) id⟩
/-- A transform, with the filter's shelf. -/
theorem fp_tra (h : FP base xb p w F) (shb mb k : Nat) (hsh : p.sh = some (shb, mb, k)) (hk : k ≤ 1000000) (hK : p.K ≤ 10) (n : Nat) (hn : 2 ^ p.K = n) (b cap : Nat) (f : Nat → Int) (inv : Bool) (ha : Arr w b n f) (hf : Elems n f) (hb : ¬ F b) :
    Calls Tryd.prog 41 #[.pointer (some ⟨shb, 0, none⟩), .slice (some ⟨b, 0, none⟩) n cap, .bool inv] w fun e w' => ∃ ob, e = .returned (.slice (some ⟨ob, 0, none⟩) n n) ∧ Hid (Arr w' ob n (trans p.K inv f) ∧ w.heap.size ≤ ob ∧ ∃ F', FP base xb { p with sh := some (shb, mb, k + 1) } w' F' ∧ Stp w F w' F' ∧ ¬ F' ob) := by
  have ht := h.1
  have hb1 := h.2.1
  obtain ⟨G, hG, hGF, step⟩ := h.step 6 (by omega)
  have hG' : ShR base n p.K shb mb k w G := by
    have q : ShO base p.K p.sh w G := hG
    rw [hsh, ShO, hn] at q
    exact q
  have hFlt : ∀ k, F k → k < w.heap.size := fun k hk => ((FP.fr base xb p).lt h hk).2
  refine (tra base n p.K shb mb k hK hn hb1 hG' hk ht b cap f inv ha hf (fun e => hb (hGF b e))).mono ?_
  intro e w' hq
  obtain ⟨ob, G', he, q1, q2, q3, q4, q5⟩ := hq.stp hG'
  obtain ⟨F', k1, k2, k3⟩ := step { p with sh := some (shb, mb, k + 1) } w' G' (fun i hi hne => by
    match i, hi, hne with
    | 0, _, _ => rfl
    | 1, _, _ => rfl
    | 2, _, _ => rfl
    | 3, _, _ => rfl
    | 4, _, _ => rfl
    | 5, _, _ => rfl
    | 6, _, q => exact absurd rfl q) (by show ShR base (2 ^ p.K) p.K shb mb (k + 1) w' G'; rw [hn]; exact q3) q4
  exact ⟨ob, he, q1, q2, F', k1, k2, fun e => (k3 ob e).elim q5 (fun q => by have := hFlt ob q; omega)⟩
/-- Answers are put. -/
theorem fp_put (h : FP base xb p w F) (b n cap : Nat) (X : List Int) (hX : Src w (some ⟨b, 0, none⟩) (ints X)) (lX : X.length = n) (hcap : n ≤ cap) (hcap2 : cap ≤ 1048576) (hb : ¬ F b) (hbl : b < w.heap.size) (hr : p.Y.length + n ≤ p.R) (hR : p.R ≤ 65536) :
    Calls Tryd.prog 47 #[.pointer (some ⟨p.ab, 0, none⟩), .slice (some ⟨b, 0, none⟩) n cap] w fun e w' => ∃ i : Int, e = .returned (.int .i64 i) ∧ Hid (∃ F', FP base xb { p with Y := p.Y ++ X } w' F' ∧ Stp w F w' F') := by
  have hbase := h.base_le
  obtain ⟨G, hG, hGF, step⟩ := h.step 2 (by omega)
  refine (ri_put (hG : RI base p.ab p.R p.Y w G) b 0 n cap n X hX lX (by omega) hcap (fun e => hb (hGF b e)) hbl hbase (by omega) (by omega)).mono ?_
  rintro e w' ⟨rfl, G', q1, q2⟩
  rw [List.take_of_length_le (by omega)] at q1
  obtain ⟨F', k1, k2, k3⟩ := step { p with Y := p.Y ++ X } w' G' (fun i hi hne => by
    match i, hi, hne with
    | 0, _, _ => rfl
    | 1, _, _ => rfl
    | 2, _, q => exact absurd rfl q
    | 3, _, _ => rfl
    | 4, _, _ => rfl
    | 5, _, _ => rfl
    | 6, _, _ => rfl) q1 q2
  exact ⟨_, rfl, F', k1, k2⟩
end
end Go.Proofs.YtddpcjgekfmhkabDoor
