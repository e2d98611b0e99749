/- Texts joined: Xl Xm Xn Xb. -/
import Derived.Test.YtddpcjgekfmhkabDoorM17
import Derived.Test.YtddpcjgekfmhkabDoorM06
import Derived.Test.YtddpcjgekfmhkabDoorM07

/- Samples that are accepted: the calls of a round. -/
namespace Go.Proofs.YtddpcjgekfmhkabDoor
open Go.RowKit
set_option linter.unusedSimpArgs false
set_option linter.unusedVariables false

section
variable {base xb : Nat} {p : Par} {w : World} {F : Nat → Prop}
theorem KR.zc {kb B K room nb : Nat} {z z' : Nat → Int} (hK : 2 ^ K = 2 * B) (hz : ∀ i, i < nb * B → z i = z' i) (h : KR base kb B K room nb z w F) : KR base kb B K room nb z' w F := by
  obtain ⟨gb, bs, g1, g2, g3, g4⟩ := h
  refine ⟨gb, bs, g1, g2, fun i b hb => ?_, g4⟩
  have hi : i < bs.length := by
    rcases Nat.lt_or_ge i bs.length with q | q
    · exact q
    · rw [List.getElem?_eq_none q] at hb; cases hb
  refine (g3 i b hb).congr (fun j _ => ?_)
  refine dft_md (fun t ht => ?_) j
  unfold blk
  by_cases e : t < B
  · rw [if_pos e, if_pos e, hz]
    have : (nb - bs.length + i + 1) * B ≤ nb * B := Nat.mul_le_mul_right _ (by omega)
    rw [Nat.add_mul, Nat.one_mul] at this
    omega
  · rw [if_neg e, if_neg e]
theorem FP.zc (h : FP base xb p w F) (z' : Nat → Int) (hK : 2 ^ p.K = 2 * p.B) (hz : ∀ i, i < p.nb * p.B → p.z i = z' i) : FP base xb { p with z := z' } w F := by
  obtain ⟨ht, hb, Fs, h1, h2, h3⟩ := h
  refine ⟨ht, hb, Fs, fun i hi => ?_, h2, h3⟩
  match i, hi with
  | 0, _ => exact h1 0 (by omega)
  | 1, _ => exact h1 1 (by omega)
  | 2, _ => exact h1 2 (by omega)
  | 3, _ => exact KR.zc hK hz (h1 3 (by omega))
  | 4, _ => exact h1 4 (by omega)
  | 5, _ => exact h1 5 (by omega)
  | 6, _ => exact h1 6 (by omega)
/-- Samples are put. -/
theorem fp_feed (h : FP base xb p w F) (b o len cap n : Nat) (X : List Int) (hX : Src w (some ⟨b, o, none⟩) (ints X)) (lX : X.length = len) (hlen : len ≤ 1048576) (hcap : len ≤ cap) (hb : ¬ F b) (hbl : b < w.heap.size) (hn : n = min len (p.B - p.S.length)) (hB : p.B ≤ 256) :
    Calls Tryd.prog 47 #[.pointer (some ⟨p.sb, 0, none⟩), .slice (some ⟨b, o, none⟩) len cap] w fun e w' => e = .returned (.int .i64 n) ∧ Hid (∃ F', FP base xb { p with S := p.S ++ X.take n } w' F' ∧ Stp w F w' F') := by
  have hbase := h.base_le
  obtain ⟨G, hG, hGF, step⟩ := h.step 1 (by omega)
  refine (ri_put (hG : RI base p.sb p.B p.S w G) b o len cap n X hX lX (by omega) hcap (fun e => hb (hGF b e)) hbl hbase hn (by omega)).mono ?_
  rintro e w' ⟨rfl, G', q1, q2⟩
  obtain ⟨F', k1, k2, k3⟩ := step { p with S := p.S ++ X.take n } w' G' (fun i hi hne => by
    match i, hi, hne with
    | 0, _, _ => rfl
    | 1, _, q => exact absurd rfl q
    | 2, _, _ => rfl
    | 3, _, _ => rfl
    | 4, _, _ => rfl
    | 5, _, _ => rfl
    | 6, _, _ => rfl) q1 q2
  exact ⟨rfl, F', k1, k2⟩
theorem fp_len (h : FP base xb p w F) (m : Nat) : Calls Tryd.prog 31 #[.pointer (some ⟨p.sb, 0, none⟩)] (w.drewN m) fun e w' => e = .returned (.int .i64 p.S.length) ∧ w' = w.drewN m := by
  have h' := (FP.fr base xb p).bt h ((Bt.refl (fun _ => False) w).drewN m) (fun _ _ x => x)
  obtain ⟨G, hG, _⟩ := h'.step 1 (by omega)
  exact ri_len (hG : RI base p.sb p.B p.S (w.drewN m) G)
theorem fp_acc (h : FP base xb p w F) (a : Nat) : FP base xb { p with acc := a } (w.setCell ⟨xb, 3, none⟩ (.int .i64 (a : Int))) F ∧ Stp w F (w.setCell ⟨xb, 3, none⟩ (.int .i64 (a : Int))) F :=
  h.set { p with acc := a } _ (fun i hi hne => by
    match i, hi, hne with
    | 0, _, q => exact absurd rfl q
    | 1, _, _ => rfl
    | 2, _, _ => rfl
    | 3, _, _ => rfl
    | 4, _, _ => rfl
    | 5, _, _ => rfl
    | 6, _, _ => rfl) (h.blk.set3 a) ((Bt.refl (fun k => k = xb) w).setCell (fun _ => rfl) _)
/-- The taps of the swap take their place. -/
theorem fp_change (h : FP base xb p w F) (l : List Int) (hn : p.hn = some l) (w' : World) (hx : XB w' xb p.B p.R p.W p.acc p.sb p.ab p.kb p.nv (.slice none 0 0) (-1)) (b : Bt (fun k => k = xb) w w') :
    ∃ F', FP base xb { p with tv := p.nv, nv := .slice none 0 0, pend := -1, h := l, hn := none } w' F' ∧ Stp w F w' F' := by
  obtain ⟨ht, hb, Fs, h1, h2, h3⟩ := h
  have g := h1 0 (by omega)
  have st : Bt (Fs 0) w w' := b.mono (fun k _ e => (g.2.2 k).2 e)
  have keep : ∀ i, i < 7 → i ≠ 0 → comp base xb p i w' (Fs i) := fun i hi e => (comp.fr base xb p i).btw (h1 i hi) st (fun k hk q => e (h2 i 0 k hi (by omega) hk q)) (fun k hk => by have := (g.2.2 k).1 hk; subst this; exact g.2.1)
  have k5 : NR base p.B p.K p.nv p.hn w' (Fs 5) := keep 5 (by omega) (by omega)
  rw [hn] at k5
  refine ⟨fun k => ∃ i, i < 7 ∧ (if i = 4 then Fs 5 k else if i = 5 then False else Fs i k), ⟨ht.bt b (fun e => by have := g.2.1; omega), hb, fun i k => if i = 4 then Fs 5 k else if i = 5 then False else Fs i k, fun i hi => ?_, fun i j k hi hj a c => ?_, fun k => Iff.rfl⟩, b.mono (fun k _ e => (h3 k).2 ⟨0, by omega, (g.2.2 k).2 e⟩), fun k hk => ?_⟩
  · match i, hi with
    | 0, _ => exact ⟨hx, g.2⟩
    | 1, _ => exact keep 1 (by omega) (by omega)
    | 2, _ => exact keep 2 (by omega) (by omega)
    | 3, _ => exact keep 3 (by omega) (by omega)
    | 4, _ => exact k5
    | 5, _ => exact ⟨rfl, fun k e => e⟩
    | 6, _ => exact keep 6 (by omega) (by omega)
  · have pk : ∀ i, i < 7 → (if i = 4 then Fs 5 k else if i = 5 then False else Fs i k) → (i = 4 ∧ Fs 5 k) ∨ (i ≠ 4 ∧ i ≠ 5 ∧ Fs i k) := by
      intro i _ q
      by_cases e4 : i = 4
      · rw [if_pos e4] at q; exact .inl ⟨e4, q⟩
      · rw [if_neg e4] at q
        by_cases e5 : i = 5
        · rw [if_pos e5] at q; exact q.elim
        · rw [if_neg e5] at q; exact .inr ⟨e4, e5, q⟩
    rcases pk i hi a with ⟨e1, a1⟩ | ⟨e1, e2, a1⟩ <;> rcases pk j hj c with ⟨f1, c1⟩ | ⟨f1, f2, c1⟩
    · omega
    · have := h2 5 j k (by omega) hj a1 c1; omega
    · have := h2 i 5 k hi (by omega) a1 c1; omega
    · exact h2 i j k hi hj a1 c1
  · obtain ⟨i, hi, q⟩ := hk
    by_cases e4 : i = 4
    · rw [if_pos e4] at q; exact .inl ((h3 k).2 ⟨5, by omega, q⟩)
    · rw [if_neg e4] at q
      by_cases e5 : i = 5
      · rw [if_pos e5] at q; exact q.elim
      · rw [if_neg e5] at q; exact .inl ((h3 k).2 ⟨i, hi, q⟩)
/-- A shelf more, and no shelf more. -/
theorem fp_shelf (h : FP base xb p w F) (hsh : p.sh = none) (w' : World) (b : Bt (fun _ => False) w w') (hs : Shelf w' (w.heap.size + 1) w.heap.size 0 (.map [])) : ∃ F', FP base xb { p with sh := some (w.heap.size + 1, w.heap.size, 0) } w' F' ∧ Stp w F w' F' := by
  have hbase := h.base_le
  obtain ⟨G, hG, hGF, step⟩ := h.step 6 (by omega)
  have hG' : ∀ k, ¬ G k := by
    have q : ShO base p.K p.sh w G := hG
    rw [hsh] at q; exact q
  obtain ⟨F', k1, k2, k3⟩ := step { p with sh := some (w.heap.size + 1, w.heap.size, 0) } w' (fun k => k = w.heap.size + 1 ∨ k = w.heap.size) (fun i hi hne => by
    match i, hi, hne with
    | 0, _, _ => rfl
    | 1, _, _ => rfl
    | 2, _, _ => rfl
    | 3, _, _ => rfl
    | 4, _, _ => rfl
    | 5, _, _ => rfl
    | 6, _, q => exact absurd rfl q) (ShR.new (2 ^ p.K) p.K base hbase hs) ⟨b.mono (fun _ _ x => x.elim), fun k hk => .inr (by omega)⟩
  exact ⟨F', k1, k2⟩
theorem fp_unshelf (h : FP base xb p w F) : ∃ F', FP base xb { p with sh := none } w F' ∧ Stp w F w F' := by
  obtain ⟨G, hG, hGF, step⟩ := h.step 6 (by omega)
  obtain ⟨F', k1, k2, k3⟩ := step { p with sh := none } w (fun k => False) (fun i hi hne => by
    match i, hi, hne with
    | 0, _, _ => rfl
    | 1, _, _ => rfl
    | 2, _, _ => rfl
    | 3, _, _ => rfl
    | 4, _, _ => rfl
    | 5, _, _ => rfl
    | 6, _, q => exact absurd rfl q) (fun k e => e) ⟨Bt.refl _ _, fun k e => e.elim⟩
  exact ⟨F', k1, k2⟩

theorem fp_nv (h : FP base xb p w F) (l : List Int) (hn : p.hn = some l) : ∃ tb n, p.nv = .slice (some ⟨tb, 0, none⟩) n n := by
  obtain ⟨G, hG, _⟩ := h.step 5 (by omega)
  have q : NR base p.B p.K p.nv p.hn w G := hG
  rw [hn] at q
  obtain ⟨tb, bs, h1, _⟩ := q
  exact ⟨tb, _, h1⟩

set_option maxHeartbeats 1000000 in
theorem changeTaps_any (h : FP base xb p w F) (hn : (p.acc : Int) = p.pend → p.hn.isSome = true) (ha : p.acc ≤ 18014398509627776) (hp : -1 ≤ p.pend ∧ p.pend ≤ 18014398509627776) :
    Calls Tryd.prog 49 #[.pointer (some ⟨xb, 0, none⟩)] w fun e w' => e = .returned (.tuple #[]) ∧ Steps w F (FP base xb (turned p)) w' := by
  have c3 := h.blk.c3
  have c9 := h.blk.c9
  have c8 := h.blk.c8
  have c7 := h.blk.c7
  have f7 := h.blk.fz 7
  have f8 := h.blk.fz 8
  have f9 := h.blk.fz 9
  unfold turned
  by_cases e : (p.acc : Int) = p.pend
  · rw [if_pos e]
    obtain ⟨l, hl⟩ := Option.isSome_iff_exists.1 (hn e)
    obtain ⟨tb, tn, hV⟩ := fp_nv h l hl
    have FN : Hid (∀ m, Steps w F (FP base xb { p with tv := p.nv, nv := .slice none 0 0, pend := -1, h := p.hn.getD [], hn := none }) ((((w.drewN m).setCell ⟨xb, 7, none⟩ (.slice (some ⟨tb, 0, none⟩) tn tn)).setCell ⟨xb, 8, none⟩ (.slice none 0 0)).setCell ⟨xb, 9, none⟩ (.int .i64 (-1)))) := by
      intro m
      rw [← hV]
      have b0 : Bt (fun _ => False) w (w.drewN m) := (Bt.refl _ _).drewN m
      have hb := (FP.fr base xb p).bt h b0 (fun _ _ x => x)
      obtain ⟨F', q1, q2⟩ := fp_change hb l hl _ (((hb.blk.set7 p.nv).set8 (.slice none 0 0)).set9 (-1)) ((((Bt.refl (fun k => k = xb) (w.drewN m)).setCell (fun _ => rfl) _).setCell (fun _ => rfl) _).setCell (fun _ => rfl) _)
      refine ⟨F', ?_, (Stp.of_bt b0).trans q2⟩
      rw [hl]; exact q1
    rw [hV] at c8
    generalize p.pend = pe at *
    generalize p.acc = ac at *
    subst e
    clear h hn hl hp hV
    go_enter Tryd.func49, Tryd.ntmps49
    go_wp2
    go_quiet (fail)
    go_wp2
    go_end0
    exact ⟨rfl, FN.out _⟩
  · rw [if_neg e]
    have FN : Hid (∀ m, Steps w F (FP base xb p) (w.drewN m)) := fun m => ⟨F, (FP.fr base xb p).bt h ((Bt.refl (fun _ => False) w).drewN m) (fun _ _ x => x), Stp.drewN m⟩
    generalize p.pend = pe at *
    generalize p.acc = ac at *
    clear h hn hp
    go_enter Tryd.func49, Tryd.ntmps49
    go_wp2
    go_quiet (fail)
    go_wp2
    go_end0
    exact ⟨rfl, FN.out _⟩
end
end Go.Proofs.YtddpcjgekfmhkabDoor

/- Samples that are accepted, walked. -/
namespace Go.Proofs.YtddpcjgekfmhkabDoor
open Go.RowKit
set_option linter.unusedSimpArgs false
set_option linter.unusedVariables false

/-- A filter in the state s. -/
def FI (base xb : Nat) (s : FlS) : Res := fun w F => ∃ p, p.sh = none ∧ Rep s p ∧ FP base xb p w F
/-- The same, with a shelf. -/
def FJ (base xb shb mb k : Nat) (s : FlS) : Res := fun w F => ∃ p k', k' ≤ k ∧ p.sh = some (shb, mb, k') ∧ Rep s p ∧ FP base xb p w F
theorem more_nil (s : FlS) : s.more [] = s := by unfold FlS.more; rw [List.append_nil]
theorem more_more (s : FlS) (a b : List Int) : (s.more a).more b = s.more (a ++ b) := by unfold FlS.more; rw [List.append_assoc]
def slen : Value → Nat
  | .slice _ n _ => n
  | _ => 0
/-- What the worlds of a round hold: d cells of the filter's block. -/
def XC (w : World) (xb B sb acc : Nat) : Prop := w.cell? ⟨xb, 0, none⟩ = some (.int .i64 B) ∧ w.cell? ⟨xb, 4, none⟩ = some (.pointer (some ⟨sb, 0, none⟩)) ∧ w.cell? ⟨xb, 3, none⟩ = some (.int .i64 acc) ∧ w.frozen? ⟨xb, 3, none⟩ = false
theorem FP.xc {base xb : Nat} {p : Par} {w : World} {F : Nat → Prop} (h : FP base xb p w F) : XC w xb p.B p.sb p.acc := ⟨h.blk.c0, h.blk.c4, h.blk.c3, h.blk.fz 3⟩

/-- The calls of a round in which the block does not get whole. -/
theorem round_part {base xb shb mb k : Nat} {s : FlS} {w : World} {F : Nat → Prop} (h : FJ base xb shb mb k s w F) (ok : s.Ok) (hX : s.X.length ≤ 18014398509600000) (l : List Int) (b o c : Nat) (hs : Src w (some ⟨b, o, none⟩) (ints l)) (hlc : l.length ≤ c) (hl : l.length ≤ 1048576) (hbF : ¬ F b) (hbl : b < w.heap.size) (hfit : s.X.length + l.length < s.whole + s.B) :
    ∃ B sb acc S : Nat, XC w xb B sb acc ∧ S < B ∧ B ≤ 256 ∧ acc ≤ 18014398509600000 ∧ Calls Tryd.prog 47 #[.pointer (some ⟨sb, 0, none⟩), .slice (some ⟨b, o, none⟩) l.length c] w fun e w1 => e = .returned (.int .i64 l.length) ∧ XC w1 xb B sb acc ∧ Hid (∀ v : Int, v = (acc : Int) + l.length → XC (w1.setCell ⟨xb, 3, none⟩ (.int .i64 v)) xb B sb (acc + l.length) ∧ (∀ m, Calls Tryd.prog 31 #[.pointer (some ⟨sb, 0, none⟩)] ((w1.setCell ⟨xb, 3, none⟩ (.int .i64 v)).drewN m) fun e w' => e = .returned (.int .i64 S) ∧ w' = (w1.setCell ⟨xb, 3, none⟩ (.int .i64 v)).drewN m) ∧ ∀ m, Steps w F (FJ base xb shb mb k (s.more l)) ((w1.setCell ⟨xb, 3, none⟩ (.int .i64 v)).drewN m)) := by
  obtain ⟨p, k', hk, hsh, r, hp⟩ := h
  have hB0 := ok.B0
  have hB1 := ok.B1
  have hw := s.whole_le' hB0
  have hS := r.S_len
  refine ⟨p.B, p.sb, p.acc, (p.S ++ l).length, hp.xc, ?_, by rw [r.B]; exact hB1, by rw [r.acc]; exact hX, ?_⟩
  · rw [List.length_append, hS, r.B]; omega
  refine (fp_feed hp b o l.length c l.length l hs rfl hl hlc hbF hbl (by rw [hS, r.B]; omega) (by rw [r.B]; exact hB1)).mono ?_
  rintro e w1 ⟨rfl, H⟩
  obtain ⟨F1, q1, q2⟩ := H.out
  rw [List.take_of_length_le (Nat.le_refl _)] at q1
  refine ⟨rfl, q1.xc, fun v hv => ?_⟩
  have hv' : v = ((p.acc + l.length : Nat) : Int) := by rw [hv]; omega
  subst hv'
  obtain ⟨k1, k2⟩ := fp_acc q1 (p.acc + l.length)
  have k3 := k1.zc (at0 (s.X ++ l)) (by show 2 ^ p.K = 2 * p.B; rw [r.K, r.B]) (fun i hi => by
    have hi' : i < p.nb * p.B := hi
    show p.z i = _
    have : p.nb * p.B = s.whole := by rw [r.nb, r.B]; rfl
    rw [r.z, at0_app (by omega)])
  have k3' : FP base xb (fed p l (s.X ++ l)) _ F1 := k3
  refine ⟨k3'.xc, fun m => fp_len k3' m, fun m => ⟨F1, ⟨fed p l (s.X ++ l), k', hk, hsh, r.part ok hfit, (FP.fr _ _ _).bt k3' ((Bt.refl (fun _ => False) _).drewN m) (fun _ _ x => x)⟩, (q2.trans k2).trans (Stp.drewN m)⟩⟩

/-- The calls of a round in which the block gets whole. -/
theorem round_full {base xb shb mb k : Nat} {s : FlS} {w : World} {F : Nat → Prop} (h : FJ base xb shb mb k s w F) (ok : s.Ok) (hX : s.X.length ≤ 18014398509600000) (l : List Int) (n b o c : Nat) (hs : Src w (some ⟨b, o, none⟩) (ints l)) (hlc : l.length ≤ c) (hl : l.length ≤ 1048576) (hbF : ¬ F b) (hbl : b < w.heap.size) (hn : n ≤ l.length) (hfit : s.X.length + n = s.whole + s.B) (hsm : ∀ v ∈ l, okSample v) (hr : n ≤ s.room) (hk9 : k ≤ 900000) :
    ∃ B sb acc : Nat, XC w xb B sb acc ∧ B ≤ 256 ∧ acc ≤ 18014398509600000 ∧ 0 < n ∧ Calls Tryd.prog 47 #[.pointer (some ⟨sb, 0, none⟩), .slice (some ⟨b, o, none⟩) l.length c] w fun e w1 => e = .returned (.int .i64 n) ∧ XC w1 xb B sb acc ∧ Hid (∀ v : Int, v = (acc : Int) + n → XC (w1.setCell ⟨xb, 3, none⟩ (.int .i64 v)) xb B sb (acc + n) ∧ (∀ m, Calls Tryd.prog 31 #[.pointer (some ⟨sb, 0, none⟩)] ((w1.setCell ⟨xb, 3, none⟩ (.int .i64 v)).drewN m) fun e w' => e = .returned (.int .i64 B) ∧ w' = (w1.setCell ⟨xb, 3, none⟩ (.int .i64 v)).drewN m) ∧
      ∀ m, Calls Tryd.prog 48 #[.pointer (some ⟨xb, 0, none⟩), .pointer (some ⟨shb, 0, none⟩)] ((w1.setCell ⟨xb, 3, none⟩ (.int .i64 v)).drewN m) fun e w2 => e = .returned (.tuple #[]) ∧ Hid (Calls Tryd.prog 49 #[.pointer (some ⟨xb, 0, none⟩)] w2 fun e w3 => e = .returned (.tuple #[]) ∧ Hid (Steps w F (FJ base xb shb mb (k + 2) (s.more (l.take n))) w3))) := by
  obtain ⟨p, k', hk, hsh, r, hp⟩ := h
  have hB0 := ok.B0
  have hB1 := ok.B1
  have hw := s.whole_le' hB0
  have hS := r.S_len
  have hlt : (l.take n).length = n := by rw [List.length_take]; omega
  refine ⟨p.B, p.sb, p.acc, hp.xc, by rw [r.B]; exact hB1, by rw [r.acc]; exact hX, by omega, ?_⟩
  refine (fp_feed hp b o l.length c n l hs rfl hl hlc hbF hbl (by rw [hS, r.B]; omega) (by rw [r.B]; exact hB1)).mono ?_
  rintro e w1 ⟨rfl, H⟩
  obtain ⟨F1, q1, q2⟩ := H.out
  refine ⟨rfl, q1.xc, fun v hv => ?_⟩
  have hv' : v = ((p.acc + n : Nat) : Int) := by rw [hv]; omega
  subst hv'
  obtain ⟨k1, k2⟩ := fp_acc q1 (p.acc + n)
  have k3 := k1.zc (at0 (s.X ++ l.take n)) (by show 2 ^ p.K = 2 * p.B; rw [r.K, r.B]) (fun i hi => by
    have hi' : i < p.nb * p.B := hi
    show p.z i = _
    have : p.nb * p.B = s.whole := by rw [r.nb, r.B]; rfl
    rw [r.z, at0_app (by omega)])
  have k3' : FP base xb (fed p (l.take n) (s.X ++ l.take n)) (w1.setCell ⟨xb, 3, none⟩ (.int .i64 ((p.acc + n : Nat) : Int))) F1 := by
    unfold fed; rw [hlt]; exact k3
  have full := r.full ok (l := l.take n) (by rw [hlt]; exact hfit) (fun v hv => hsm v (List.mem_of_mem_take hv)) (by rw [hlt]; exact hr) hsh (by omega)
  refine ⟨k3.xc, fun m => ?_, fun m => ?_⟩
  · have := fp_len k3' m
    rw [full.hS] at this
    exact this
  · have k4 := (FP.fr _ _ _).bt k3' ((Bt.refl (fun _ => False) _).drewN m) (fun _ _ x => x)
    refine (work_any k4 full).mono ?_
    rintro e w2 ⟨rfl, F2, j1, j2⟩
    have rb := r.block ok (l := l.take n) (by rw [hlt]; exact hfit) shb mb k'
    have hpend : (worked (fed p (l.take n) (s.X ++ l.take n)) shb mb k').pend = s.pending := r.pend
    have hacc : (worked (fed p (l.take n) (s.X ++ l.take n)) shb mb k').acc = s.X.length + n := by show p.acc + (l.take n).length = _; rw [hlt, r.acc]
    have hfl := ok.from_le
    have hpv : s.pending = if s.X.length < s.from then (s.from : Int) else -1 := rfl
    refine ⟨rfl, ?_⟩
    refine (changeTaps_any j1 (fun e => ?_) (by rw [hacc]; omega) (by rw [hpend, hpv]; split <;> omega)).mono ?_
    · rw [hacc, hpend, hpv] at e
      show p.hn.isSome = true
      rw [r.hn]
      by_cases q : s.X.length < s.from
      · rw [if_pos q]; rfl
      · rw [if_neg q] at e; omega
    · rintro e w3 ⟨rfl, F3, i1, i2⟩
      refine ⟨rfl, F3, ⟨_, k' + 1 + 1, by omega, ?_, rb, i1⟩, (((q2.trans k2).trans (Stp.drewN m)).trans j2).trans i2⟩
      unfold turned
      split <;> rfl
end Go.Proofs.YtddpcjgekfmhkabDoor

/- Samples that are accepted, walked. -/
namespace Go.Proofs.YtddpcjgekfmhkabDoor
open Go.RowKit
set_option linter.unusedSimpArgs false
set_option linter.unusedVariables false

/-- What lasts from round to round. -/
def AccI (base xb shb mb : Nat) (s : FlS) (l : List Int) (i : Nat) (w : World) (F : Nat → Prop) (wr : World) : Prop := Steps w F (FJ base xb shb mb (2 * i) (s.more (l.take i))) wr ∧ w.heap.size ≤ wr.heap.size
set_option maxHeartbeats 4000000 in
set_option maxRecDepth 20000 in
theorem accept_any {base xb : Nat} {s : FlS} {w : World} {F : Nat → Prop} (h : FI base xb s w F) (ok : s.Ok) (hX : s.X.length ≤ 18014398509500000) (l : List Int) (hr : l.length ≤ s.room) (hsm : ∀ v ∈ l, okSample v) (a : Option Addr) (c : Nat) (src : Src w a (ints l)) (hlc : l.length ≤ c) (haF : ∀ b o, a = some ⟨b, o, none⟩ → ¬ F b) :
    Calls Tryd.prog 30 #[.pointer (some ⟨xb, 0, none⟩), .slice a l.length c] w fun e w' => e = .returned (.tuple #[]) ∧ Steps w F (FI base xb (s.more l)) w' := by
  have hroom : s.room ≤ 65536 := by have := ok.r1; unfold FlS.room; omega
  have hbl : ∀ b o, a = some ⟨b, o, none⟩ → 0 < l.length → b < w.heap.size := by
    intro b o e h0
    obtain ⟨b', o', e', q⟩ := src.int (at0_some h0)
    rw [e] at e'
    simp at e'
    obtain ⟨rfl, rfl⟩ := e'
    exact World.block_lt_of_cell? w _ q
  -- the shelf
  have C0 : Calls Tryd.prog 20 #[] w fun e w1 => e = .returned (.pointer (some ⟨w.heap.size + 1, 0, none⟩)) ∧ Hid (AccI base xb (w.heap.size + 1) w.heap.size s l 0 w F w1) := by
    refine (newShelf_any w).mono ?_
    rintro e w1 ⟨rfl, q1, q2, q3⟩
    obtain ⟨p, p1, p2, p3⟩ := h
    obtain ⟨F1, k1, k2⟩ := fp_shelf p3 p1 w1 (q2.bt _) q1
    refine ⟨rfl, ⟨F1, ⟨{ p with sh := some (w.heap.size + 1, w.heap.size, 0) }, 0, Nat.le_refl _, rfl, ?_, k1⟩, k2⟩, q2.size⟩
    rw [List.take_zero, more_nil]
    exact ⟨p2.B, p2.R, p2.W, p2.K, p2.K10, p2.acc, p2.pend, p2.S, p2.Y, p2.nb, p2.z, p2.h, p2.hn, p2.one⟩
  -- the end
  have FN : Hid (∀ shb mb wr, AccI base xb shb mb s l l.length w F wr → Steps w F (FI base xb (s.more l)) wr) := by
    rintro shb mb wr ⟨⟨F1, ⟨p, k', q1, q2, q3, q4⟩, q5⟩, _⟩
    rw [List.take_of_length_le (Nat.le_refl _)] at q3
    obtain ⟨F2, k1, k2⟩ := fp_unshelf q4
    exact ⟨F2, ⟨{ p with sh := none }, rfl, ⟨q3.B, q3.R, q3.W, q3.K, q3.K10, q3.acc, q3.pend, q3.S, q3.Y, q3.nb, q3.z, q3.h, q3.hn, q3.one⟩, k1⟩, q5.trans k2⟩
  -- a round
  have oki : ∀ i, i ≤ l.length → (s.more (l.take i)).Ok ∧ (s.more (l.take i)).X.length = s.X.length + i := fun i hi => by
    have hlen : (l.take i).length = i := by rw [List.length_take]; omega
    exact ⟨ok.more (fun v hv => hsm v (List.mem_of_mem_take hv)) (by rw [hlen]; omega), by show (s.X ++ l.take i).length = _; rw [List.length_append, hlen]⟩
  have RD : ∀ (shb mb i : Nat) (wr : World) (b o c' : Nat), AccI base xb shb mb s l i w F wr → i < l.length → a = some ⟨b, o, none⟩ → l.length - i ≤ c' →
      ∃ B sb acc n : Nat, XC wr xb B sb acc ∧ B ≤ 256 ∧ acc ≤ 18014398509600000 ∧ 0 < n ∧ n ≤ l.length - i ∧ Calls Tryd.prog 47 #[.pointer (some ⟨sb, 0, none⟩), .slice (some ⟨b, o + i, none⟩) (l.length - i) c'] wr fun e w1 => e = .returned (.int .i64 n) ∧ XC w1 xb B sb acc ∧ Hid (∀ v : Int, v = (acc : Int) + n → ∃ S : Nat, XC (w1.setCell ⟨xb, 3, none⟩ (.int .i64 v)) xb B sb (acc + n) ∧ (∀ m, Calls Tryd.prog 31 #[.pointer (some ⟨sb, 0, none⟩)] ((w1.setCell ⟨xb, 3, none⟩ (.int .i64 v)).drewN m) fun e w' => e = .returned (.int .i64 S) ∧ w' = (w1.setCell ⟨xb, 3, none⟩ (.int .i64 v)).drewN m) ∧
        ((S < B ∧ ∀ m, AccI base xb shb mb s l (i + n) w F ((w1.setCell ⟨xb, 3, none⟩ (.int .i64 v)).drewN m)) ∨ (S = B ∧ ∀ m, Calls Tryd.prog 48 #[.pointer (some ⟨xb, 0, none⟩), .pointer (some ⟨shb, 0, none⟩)] ((w1.setCell ⟨xb, 3, none⟩ (.int .i64 v)).drewN m) fun e w2 => e = .returned (.tuple #[]) ∧ Hid (Calls Tryd.prog 49 #[.pointer (some ⟨xb, 0, none⟩)] w2 fun e w3 => e = .returned (.tuple #[]) ∧ Hid (AccI base xb shb mb s l (i + n) w F w3))))) := by
    rintro shb mb i wr b o c' ⟨⟨F1, hj, st⟩, hsz⟩ hi ha hc'
    obtain ⟨ok1, hX1⟩ := oki i (by omega)
    have hld : (l.drop i).length = l.length - i := List.length_drop
    have hsr : Src wr (some ⟨b, o + i, none⟩) (ints (l.drop i)) := by
      have e : ints (l.drop i) = (ints l).drop i := by simp [ints, List.map_drop]
      rw [e]
      have := (src.bt st.bt (fun b' o' e q => haF b' o' e q)).drop (ints_el l) i (sp' := some ⟨b, o + i, none⟩) (fun _ b' o' e => by rw [ha] at e; simp at e; obtain ⟨rfl, rfl⟩ := e; simp)
      exact this
    have hbF : ¬ F1 b := st.out (hbl b o ha (by omega)) (haF b o ha)
    have hb1 : b < wr.heap.size := by have := hbl b o ha (by omega); omega
    have hB0 := ok1.B0
    have hw := (s.more (l.take i)).whole_le' hB0
    have ht : ∀ n, n ≤ l.length - i → l.take i ++ (l.drop i).take n = l.take (i + n) := fun n _ => by rw [List.take_add]
    by_cases full : (s.more (l.take i)).X.length + (l.length - i) < (s.more (l.take i)).whole + (s.more (l.take i)).B
    · obtain ⟨B, sb, acc, S, q1, q2, q3, q4, q5⟩ := round_part hj ok1 (by omega) (l.drop i) b (o + i) c' hsr (by omega) (by omega) hbF hb1 (by rw [hld]; exact full)
      rw [hld] at q5
      refine ⟨B, sb, acc, l.length - i, q1, q3, q4, by omega, Nat.le_refl _, q5.mono ?_⟩
      rintro e w1 ⟨rfl, r1, H⟩
      refine ⟨rfl, r1, fun v hv => ?_⟩
      obtain ⟨k1, k2, k3⟩ := H.out v hv
      refine ⟨S, k1, k2, .inl ⟨q2, fun m => ⟨?_, ?_⟩⟩⟩
      · obtain ⟨F2, ⟨p, k', j1, j2, j3, j4⟩, j5⟩ := k3 m
        have e : (s.more (l.take i)).more (l.drop i) = s.more (l.take (i + (l.length - i))) := by
          rw [more_more, List.take_append_drop, show i + (l.length - i) = l.length by omega, List.take_of_length_le (Nat.le_refl _)]
        rw [e] at j3
        exact ⟨F2, ⟨p, k', by omega, j2, j3, j4⟩, st.trans j5⟩
      · have := (k3 m)
        obtain ⟨F2, _, j5⟩ := this
        exact Nat.le_trans hsz j5.bt.size
    · obtain ⟨n, hn⟩ : ∃ n, n = (s.more (l.take i)).whole + (s.more (l.take i)).B - (s.more (l.take i)).X.length := ⟨_, rfl⟩
      have hrm : n ≤ (s.more (l.take i)).room := by
        have : (s.more (l.take i)).room = s.R - (s.X.length + i - s.pulled) := by unfold FlS.room; rw [hX1]; rfl
        have h2 : s.room = s.R - (s.X.length - s.pulled) := rfl
        have := ok.pX
        omega
      obtain ⟨B, sb, acc, q1, q3, q4, q0, q5⟩ := round_full hj ok1 (by omega) (l.drop i) n b (o + i) c' hsr (by omega) (by omega) hbF hb1 (by omega) (by omega) (fun v hv => hsm v (List.mem_of_mem_drop hv)) hrm (by omega)
      rw [hld] at q5
      refine ⟨B, sb, acc, n, q1, q3, q4, q0, by omega, q5.mono ?_⟩
      rintro e w1 ⟨rfl, r1, H⟩
      refine ⟨rfl, r1, fun v hv => ?_⟩
      obtain ⟨k1, k2, k3⟩ := H.out v hv
      refine ⟨B, k1, k2, .inr ⟨rfl, fun m => (k3 m).mono ?_⟩⟩
      rintro e w2 ⟨rfl, H2⟩
      refine ⟨rfl, H2.out.mono ?_⟩
      rintro e w3 ⟨rfl, H3⟩
      obtain ⟨F2, ⟨p, k', j1, j2, j3, j4⟩, j5⟩ := H3.out
      rw [more_more, ht n (by omega)] at j3
      exact ⟨rfl, ⟨F2, ⟨p, k', by omega, j2, j3, j4⟩, st.trans j5⟩, Nat.le_trans hsz j5.bt.size⟩
  have HA : Hid (0 < l.length → ∃ b o, a = some ⟨b, o, none⟩) := fun h0 => by
    obtain ⟨b, o, e, _⟩ := src (by rw [ints_len]; exact h0)
    exact ⟨b, o, e⟩
  obtain ⟨N, hN⟩ : ∃ N, l.length = N := ⟨_, rfl⟩
  have hN6 : N ≤ 65536 := by omega
  rw [hN] at RD FN HA hlc ⊢
  clear h ok hX hr hsm src haF hbl oki hroom hN
  go_enter Tryd.func30, Tryd.ntmps30
  go_wp2_with (go_at_call 20; refine C0.mono ?_; rintro e w0 ⟨rfl, H0⟩; clear C0)
  go_loopw [1] (fun tl wr => ∃ (i c' : Nat) (a' : Option Addr), tl = .slice a' (N - i) c' ∧ i ≤ N ∧ N - i ≤ c' ∧ Hid ((i < N → ∃ b o, a = some ⟨b, o, none⟩ ∧ a' = some ⟨b, o + i, none⟩) ∧ AccI base xb (w.heap.size + 1) w.heap.size s l i w F wr)) (fun tl _ => slen tl)
  case atStart => exact ⟨0, c, a, rfl, Nat.zero_le _, by omega, fun h0 => by obtain ⟨b, o, e⟩ := HA.out h0; exact ⟨b, o, e, e⟩, H0.out⟩
  case round =>
    obtain ⟨i, c', a', rfl, hi, hc', HR⟩ := hrel
    by_cases hlt : i < N
    · obtain ⟨b, o, ha, rfl⟩ := HR.out.1 hlt
      obtain ⟨B, sb, acc, n, xc, hB, hacc, hn0, hnN, CP⟩ := RD _ _ i wr b o c' HR.out.2 hlt ha hc'
      obtain ⟨x0, x4, x3, xf⟩ := xc
      obtain ⟨M, hM⟩ : ∃ M, N - i = M := ⟨_, rfl⟩
      have HM : Hid (N - i = M ∧ i < N) := ⟨hM, hlt⟩
      rw [hM] at CP hc' hnN ⊢
      have hM0 : (0 : Int) < (M : Int) := by omega
      have hnM : (n : Int) ≤ (M : Int) := by omega
      have hM6 : M ≤ 65536 := by omega
      clear RD HA hM hlt
      -- what is left
      have HN : Hid (∀ (A : Option Addr) (wx : World), (n < M → A = some ⟨b, o + i + n, none⟩) → AccI base xb (w.heap.size + 1) w.heap.size s l (i + n) w F wx → ∃ (i' c2 : Nat) (a2 : Option Addr), Value.slice A (M - n) (c' - n) = .slice a2 (N - i') c2 ∧ i' ≤ N ∧ N - i' ≤ c2 ∧ Hid ((i' < N → ∃ b o, a = some ⟨b, o, none⟩ ∧ a2 = some ⟨b, o + i', none⟩) ∧ AccI base xb (w.heap.size + 1) w.heap.size s l i' w F wx)) := by
        intro A wx hA hx
        have := HM.out
        refine ⟨i + n, c' - n, A, by rw [show N - (i + n) = M - n by omega], by omega, by omega, fun h0 => ⟨b, o, ha, ?_⟩, hx⟩
        rw [hA (by omega), Nat.add_assoc]
      by_cases hcn : c' = n
      · subst hcn
        have hMn : M = c' := by omega
        subst hMn
        go_wp2_with (go_at_call 47; refine CP.mono ?_; rintro e w1 ⟨rfl, xc1, H1⟩; obtain ⟨y0, y4, y3, yf⟩ := xc1; clear CP)
        obtain ⟨S, xc2, CL, ss⟩ := H1.out _ rfl
        obtain ⟨z0, z4, z3, zf⟩ := xc2
        clear H1
        rcases ss with ⟨hS, HX⟩ | ⟨hS, CW⟩
        · have hS2 : ¬ (S : Int) = (B : Int) := by omega
          go_quiet ((go_at_call 31; exact Calls.quiet_of_same (CL _)))
          go_wp2
          go_roundw
          case rel =>
            have q := fun m => HN.out (some ⟨b, o + i, none⟩) _ (fun q => by omega) (HX m)
            simp only [Nat.sub_self] at q
            exact q _
          case measure => simp [slen]; omega
        · subst hS
          go_quiet ((go_at_call 31; exact Calls.quiet_of_same (CL _)))
          go_wp2_with (first
            | (go_at_call 48; refine (CW _).mono ?_; rintro e w2 ⟨rfl, H2⟩; have CH2 := H2.out; clear CW H2)
            | (go_at_call 49; refine CH2.mono ?_; rintro e w3 ⟨rfl, H3⟩; clear CH2))
          go_roundw
          case rel =>
            have q := HN.out (some ⟨b, o + i, none⟩) _ (fun q => by omega) H3.out
            rw [Nat.sub_self] at q
            exact q
          case measure => simp [slen]; omega
      · have g2 : n ≤ c' := by omega
        go_wp2_with (go_at_call 47; refine CP.mono ?_; rintro e w1 ⟨rfl, xc1, H1⟩; obtain ⟨y0, y4, y3, yf⟩ := xc1; clear CP)
        obtain ⟨S, xc2, CL, ss⟩ := H1.out _ rfl
        obtain ⟨z0, z4, z3, zf⟩ := xc2
        clear H1
        rcases ss with ⟨hS, HX⟩ | ⟨hS, CW⟩
        · have hS2 : ¬ (S : Int) = (B : Int) := by omega
          go_quiet ((go_at_call 31; exact Calls.quiet_of_same (CL _)))
          go_wp2
          go_roundw
          case rel => exact HN.out _ _ (fun q => by first | rfl | omega) (HX _)
          case measure => simp [slen]; omega
        · subst hS
          go_quiet ((go_at_call 31; exact Calls.quiet_of_same (CL _)))
          go_wp2_with (first
            | (go_at_call 48; refine (CW _).mono ?_; rintro e w2 ⟨rfl, H2⟩; have CH2 := H2.out; clear CW H2)
            | (go_at_call 49; refine CH2.mono ?_; rintro e w3 ⟨rfl, H3⟩; clear CH2))
          go_roundw
          case rel => exact HN.out _ _ (fun q => by first | rfl | omega) H3.out
          case measure => simp [slen]; omega
    · obtain rfl : i = N := by omega
      have HF : Hid (Steps w F (FI base xb (s.more l)) wr) := FN.out _ _ wr HR.out.2
      rw [Nat.sub_self]
      clear RD FN HA HR
      go_wp2
      go_end0
      exact ⟨rfl, HF.out⟩
end Go.Proofs.YtddpcjgekfmhkabDoor

/- The filter's checks. -/
namespace Go.Proofs.YtddpcjgekfmhkabDoor
open Go.RowKit
set_option linter.unusedSimpArgs false
set_option linter.unusedVariables false

theorem isBlock_any (B : Int) (h0 : -9223372036854775808 ≤ B) (h1 : B ≤ 9223372036854775807) (w : World) :
    Calls Tryd.prog 45 #[.int .i64 B] w fun e w' => BoolIs (okBlock B) e ∧ w' = w := by
  by_cases a : B < 16
  · go_enter Tryd.func45, Tryd.ntmps45
    go_wp2
    go_ret
    exact ⟨⟨_, rfl, by unfold okBlock; simp; omega⟩, rfl⟩
  · by_cases b : 256 < B
    · go_enter Tryd.func45, Tryd.ntmps45
      go_wp2
      go_ret
      exact ⟨⟨_, rfl, by unfold okBlock; simp; omega⟩, rfl⟩
    · obtain ⟨n, rfl⟩ : ∃ n : Nat, B = n := ⟨B.toNat, by omega⟩
      have cz : ∀ w, Calls Tryd.prog 77 #[.int .i64 (n : Int)] w fun e w' => ∃ ok : Bool, e = .returned (.bool ok) ∧ w' = w ∧ Hid (ok = true ↔ okBlock (n : Int)) := by
        intro w
        by_cases hz : ∃ k, k ≤ 10 ∧ n = 2 ^ k
        · obtain ⟨k, hk, rfl⟩ := hz
          refine (isSize_yes k hk w).mono ?_
          rintro e w' ⟨rfl, rfl⟩
          refine ⟨true, rfl, rfl, ?_⟩
          have h4 : 4 ≤ k := Nat.le_of_not_lt fun h => by
            have : 2 ^ k ≤ 2 ^ 3 := Nat.pow_le_pow_right (by decide) (by omega)
            omega
          have h8 : k ≤ 8 := Nat.le_of_not_lt fun h => by
            have : 2 ^ 9 ≤ 2 ^ k := Nat.pow_le_pow_right (by decide) (by omega)
            omega
          obtain rfl | rfl | rfl | rfl | rfl : k = 4 ∨ k = 5 ∨ k = 6 ∨ k = 7 ∨ k = 8 := by omega
          all_goals (show _ ↔ _; unfold okBlock; simp)
        · refine (isSize_no n hz (by omega) w).mono ?_
          rintro e w' ⟨rfl, rfl⟩
          refine ⟨false, rfl, rfl, ?_⟩
          show _ ↔ _
          simp only [Bool.false_eq_true, false_iff]
          intro h
          unfold okBlock at h
          rcases h with h | h | h | h | h
          · exact hz ⟨4, by omega, by omega⟩
          · exact hz ⟨5, by omega, by omega⟩
          · exact hz ⟨6, by omega, by omega⟩
          · exact hz ⟨7, by omega, by omega⟩
          · exact hz ⟨8, by omega, by omega⟩
      go_enter Tryd.func45, Tryd.ntmps45
      go_wp2_with (go_at_call 77; refine (cz _).mono ?_; rintro e w' ⟨ok, rfl, hw, HK⟩; subst w')
      go_ret
      exact ⟨⟨_, rfl, HK.out⟩, rfl⟩

theorem isConfig_any (B R W : Int) (hB : -9223372036854775808 ≤ B ∧ B ≤ 9223372036854775807) (w : World) :
    Calls Tryd.prog 22 #[.agg #[.int .i64 B, .int .i64 R, .int .i64 W]] w fun e w' => BoolIs (okConf B R W) e ∧ Bt (fun _ => False) w w' := by
  have cb := fun w' => isBlock_any B hB.1 hB.2 w'
  have cb' : ∀ w', Calls Tryd.prog 45 #[.int .i64 B] w' fun e w'' => e = .returned (.bool (decide (okBlock B))) ∧ w'' = w' := by
    intro w'
    refine (cb w').mono ?_
    rintro e w'' ⟨⟨ok, rfl, hk⟩, rfl⟩
    refine ⟨?_, rfl⟩
    congr 2
    by_cases q : okBlock B
    · rw [decide_eq_true q]; exact hk.2 q
    · rw [decide_eq_false q]; cases ok with
      | false => rfl
      | true => exact absurd (hk.1 rfl) q
  clear cb
  by_cases q : okBlock B
  · rw [decide_eq_true q] at cb'
    have q' := q
    unfold okBlock at q'
    have hm : (2 * B : Int) ≤ 512 ∧ 32 ≤ 2 * B := by omega
    by_cases r1 : 2 * B ≤ R
    · by_cases r2 : R ≤ 65536
      · by_cases w1 : 1 ≤ W
        · by_cases w2 : W ≤ 64
          · clear q'
            go_enter Tryd.func22, Tryd.ntmps22
            go_wp2_with (go_at_call 45; refine (cb' _).mono ?_; rintro e w' ⟨rfl, hw⟩; subst w')
            go_ret
            exact ⟨⟨_, rfl, by unfold okConf; simp; grind⟩, (Bt.refl _ _).alloc _⟩
          · clear q'
            go_enter Tryd.func22, Tryd.ntmps22
            go_wp2_with (go_at_call 45; refine (cb' _).mono ?_; rintro e w' ⟨rfl, hw⟩; subst w')
            go_ret
            exact ⟨⟨_, rfl, by unfold okConf; simp; grind⟩, (Bt.refl _ _).alloc _⟩
        · clear q'
          go_enter Tryd.func22, Tryd.ntmps22
          go_wp2_with (go_at_call 45; refine (cb' _).mono ?_; rintro e w' ⟨rfl, hw⟩; subst w')
          go_ret
          exact ⟨⟨_, rfl, by unfold okConf; simp; grind⟩, (Bt.refl _ _).alloc _⟩
      · clear q'
        go_enter Tryd.func22, Tryd.ntmps22
        go_wp2_with (go_at_call 45; refine (cb' _).mono ?_; rintro e w' ⟨rfl, hw⟩; subst w')
        go_ret
        exact ⟨⟨_, rfl, by unfold okConf; simp; grind⟩, (Bt.refl _ _).alloc _⟩
    · clear q'
      go_enter Tryd.func22, Tryd.ntmps22
      go_wp2_with (go_at_call 45; refine (cb' _).mono ?_; rintro e w' ⟨rfl, hw⟩; subst w')
      go_ret
      exact ⟨⟨_, rfl, by unfold okConf; simp; grind⟩, (Bt.refl _ _).alloc _⟩
  · rw [decide_eq_false q] at cb'
    go_enter Tryd.func22, Tryd.ntmps22
    go_wp2_with (go_at_call 45; refine (cb' _).mono ?_; rintro e w' ⟨rfl, hw⟩; subst w')
    go_ret
    exact ⟨⟨_, rfl, by unfold okConf; simp [q]⟩, (Bt.refl _ _).alloc _⟩

set_option maxRecDepth 20000 in
theorem areSamples_any (a : Option Addr) (c : Nat) (l : List Int) (w : World) (hs : Src w a (ints l)) (hl : l.length ≤ 1099511627776) :
    Calls Tryd.prog 28 #[.slice a l.length c] w fun e w' => BoolIs (∀ v ∈ l, okSample v) e ∧ w' = w := by
  have HS : Hid (∀ i, i < l.length → ∃ b o, a = some ⟨b, o, none⟩ ∧ w.cell? ⟨b, o + i, none⟩ = some (.int .i64 (at0 l i))) := fun i hi => hs.int (at0_some hi)
  obtain ⟨N, hN⟩ : ∃ N, l.length = N := ⟨_, rfl⟩
  have HN : Hid (l.length = N) := hN
  rw [hN] at HS hl ⊢
  clear hs hN
  go_enter Tryd.func28, Tryd.ntmps28
  go_wp2
  go_loop [7] (fun ti => ∃ i : Nat, ti = .int .i64 i ∧ i ≤ N ∧ Hid (∀ j, j < i → okSample (at0 l j))) (fun ti => N - (intOf ti).toNat)
  case atStart => exact ⟨0, rfl, Nat.zero_le _, fun j hj => by omega⟩
  case round =>
    obtain ⟨i, rfl, hi, HI⟩ := hrel
    by_cases hlt : i < N
    · obtain ⟨b, o, rfl, ci⟩ := HS.out i hlt
      have hmem : Hid (at0 l i ∈ l) := List.mem_of_getElem? (at0_some (by rw [HN.out]; exact hlt))
      obtain ⟨x, hx⟩ : ∃ x, at0 l i = x := ⟨_, rfl⟩
      have HX : Hid (at0 l i = x) := hx
      rw [hx] at ci
      clear hx
      by_cases e1 : x < -2147483648
      · go_wp2
        go_ret
        exact ⟨⟨_, rfl, by simp only [Bool.false_eq_true, false_iff]; intro q; have := q _ hmem.out; unfold okSample at this; rw [HX.out] at this; omega⟩, rfl⟩
      · by_cases e2 : 2147483647 < x
        · go_wp2
          go_ret
          exact ⟨⟨_, rfl, by simp only [Bool.false_eq_true, false_iff]; intro q; have := q _ hmem.out; unfold okSample at this; rw [HX.out] at this; omega⟩, rfl⟩
        · go_wp2
          go_round
          case rel =>
            refine ⟨i + 1, by go_num, by omega, fun j hj => ?_⟩
            by_cases e : j = i
            · subst e; unfold okSample; rw [HX.out]; omega
            · exact HI.out j (by omega)
          case measure => simp [intOf]; omega
    · obtain rfl : i = N := by omega
      go_wp2
      go_ret
      refine ⟨⟨_, rfl, ?_⟩, rfl⟩
      simp only [true_iff]
      intro v hv
      obtain ⟨j, hj⟩ := List.getElem?_of_mem hv
      have hjl : j < l.length := by
        rcases Nat.lt_or_ge j l.length with q | q
        · exact q
        · rw [List.getElem?_eq_none q] at hj; cases hj
      have e : at0 l j = v := by unfold at0; rw [List.getD_eq_getElem?_getD, hj]; rfl
      rw [← e]
      exact HI.out j (by rw [← HN.out]; exact hjl)

set_option maxHeartbeats 1000000 in
set_option maxRecDepth 20000 in
theorem areTaps_any (a : Option Addr) (c : Nat) (l : List Int) (w : World) (hs : Src w a (ints l)) (hr : Rng l) (hl : l.length ≤ 1099511627776) :
    Calls Tryd.prog 23 #[.slice a l.length c] w fun e w' => BoolIs (okTaps l) e ∧ w' = w := by
  have HS : Hid (∀ i, i < l.length → (∃ b o, a = some ⟨b, o, none⟩ ∧ w.cell? ⟨b, o + i, none⟩ = some (.int .i64 (at0 l i))) ∧ -9223372036854775808 ≤ at0 l i ∧ at0 l i ≤ 9223372036854775807) := fun i hi => ⟨hs.int (at0_some hi), hr.at (at0_some hi)⟩
  obtain ⟨N, hN⟩ : ∃ N, l.length = N := ⟨_, rfl⟩
  have HN : Hid (l.length = N) := hN
  rw [hN] at HS hl ⊢
  clear hs hr hN
  by_cases h0 : N = 0
  · subst h0
    go_enter Tryd.func23, Tryd.ntmps23
    go_wp2
    go_ret
    exact ⟨⟨_, rfl, by simp only [Bool.false_eq_true, false_iff]; intro q; have := q.1; rw [HN.out] at this; omega⟩, rfl⟩
  · by_cases h1 : 1024 < N
    · go_enter Tryd.func23, Tryd.ntmps23
      go_wp2
      go_ret
      exact ⟨⟨_, rfl, by simp only [Bool.false_eq_true, false_iff]; intro q; have := q.2.1; rw [HN.out] at this; omega⟩, rfl⟩
    · have h0' : ¬ (N : Int) = 0 := by omega
      have h1' : ¬ (1024 : Int) < (N : Int) := by omega
      have h1'' : (N : Int) ≤ 1024 := by omega
      go_enter Tryd.func23, Tryd.ntmps23
      go_wp2
      go_loop [3, 16] (fun ts ti => ∃ (i : Nat) (S : Int), ts = .int .i64 S ∧ ti = .int .i64 i ∧ i ≤ N ∧ 0 ≤ S ∧ S ≤ i * 2147483648 ∧ Hid (S = norm (at0 l) i)) (fun _ ti => N - (intOf ti).toNat)
      case atStart => exact ⟨0, 0, rfl, rfl, Nat.zero_le _, by omega, by omega, rfl⟩
      case round =>
        obtain ⟨i, S, rfl, rfl, hi, hS0, hS1, HV⟩ := hrel
        by_cases hiN : i < N
        · obtain ⟨⟨b, o, rfl, ci⟩, r0, r1⟩ := HS.out i hiN
          have HO : Hid (okTaps l → (if at0 l i < 0 then -at0 l i else at0 l i) ≤ 2147483648) := by
            intro q
            have := norm_one (h := at0 l) (L := l.length) (i := i) (by rw [HN.out]; exact hiN)
            have h3 := q.2.2
            unfold lnorm at h3
            omega
          have HV2 : Hid (norm (at0 l) (i + 1) = S + (if at0 l i < 0 then -at0 l i else at0 l i)) := by show _ = _; rw [norm_succ, HV.out]
          obtain ⟨x, hx⟩ : ∃ x, at0 l i = x := ⟨_, rfl⟩
          rw [hx] at ci r0 r1 HO HV2
          clear hx HV
          by_cases e1 : x < -2147483648
          · go_wp2
            go_ret
            exact ⟨⟨_, rfl, by simp only [Bool.false_eq_true, false_iff]; intro q; have := HO.out q; rw [if_pos (by omega)] at this; omega⟩, rfl⟩
          · by_cases e2 : 2147483648 < x
            · go_wp2
              go_ret
              exact ⟨⟨_, rfl, by simp only [Bool.false_eq_true, false_iff]; intro q; have := HO.out q; rw [if_neg (by omega)] at this; omega⟩, rfl⟩
            · by_cases e3 : x < -x
              · go_wp2
                go_round
                case rel =>
                  refine ⟨i + 1, S + -x, by go_num, by go_num, by omega, by omega, by push_cast; omega, ?_⟩
                  show _ = _
                  rw [HV2.out, if_pos (by omega)]
                case measure => simp [intOf]; omega
              · go_wp2
                go_round
                case rel =>
                  refine ⟨i + 1, S + x, by go_num, by go_num, by omega, by omega, by push_cast; omega, ?_⟩
                  show _ = _
                  rw [HV2.out, if_neg (by omega)]
                case measure => simp [intOf]; omega
        · obtain rfl : i = N := by omega
          go_wp2
          go_ret
          refine ⟨⟨_, rfl, ?_⟩, rfl⟩
          simp only [decide_eq_true_eq]
          unfold okTaps lnorm
          rw [HN.out, ← HV.out]
          omega

theorem windowCount_any (L B : Nat) (hL : L ≤ 1048576) (hL1 : 1 ≤ L) (hB : okBlock (B : Int)) (w : World) :
    Calls Tryd.prog 26 #[.int .i64 L, .int .i64 B] w fun e w' => e = .returned (.int .i64 ((L + B - 2) / B + 1 : Nat)) ∧ w' = w := by
  unfold okBlock at hB
  obtain ⟨n, hn⟩ : ∃ n : Nat, n = L + B - 2 := ⟨_, rfl⟩
  have e1 : (L : Int) + B - 2 = (n : Int) := by omega
  have hb0 : (B : Int) ≠ 0 := by omega
  obtain ⟨q, hq⟩ : ∃ q : Nat, q = n / B := ⟨_, rfl⟩
  have hle : q ≤ n := by rw [hq]; exact Nat.div_le_self _ _
  have hd : (n : Int) / (B : Int) = (q : Int) := by rw [hq]; rfl
  have hn2 : n ≤ 1048832 := by omega
  rw [← hn, ← hq]
  clear hn hq
  go_enter Tryd.func26, Tryd.ntmps26
  go_wp2
  go_ret
  exact ⟨by go_num, rfl⟩
end Go.Proofs.YtddpcjgekfmhkabDoor
