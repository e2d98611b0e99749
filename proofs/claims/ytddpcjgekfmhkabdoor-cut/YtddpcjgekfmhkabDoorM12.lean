/- Texts joined: Xd Xe Xf Ql Xg Iv. -/
import Derived.Test.YtddpcjgekfmhkabDoorM11
import Derived.Deep.QuietTactic
import Derived.RegionTactic

/- What is in a filter. -/
namespace Go.Proofs.YtddpcjgekfmhkabDoor
open Go.RowKit
set_option linter.unusedSimpArgs false
set_option linter.unusedVariables false

/-- A shelf, while there is one. -/
def ShO (base K : Nat) : Option (Nat × Nat × Nat) → Res
  | none => fun w F => ∀ k, ¬ F k
  | some (shb, mb, k) => ShR base (2 ^ K) K shb mb k
theorem ShO.fr (base K : Nat) (s : Option (Nat × Nat × Nat)) : Fr base (ShO base K s) := by
  match s with
  | none => exact ⟨fun h _ _ _ => h, fun h hk => absurd hk (h _)⟩
  | some (shb, mb, k) => exact ShR.fr _ _ _ _ _ _ (Nat.two_pow_pos K)
/-- What is in a filter. -/
structure Par where
  B : Nat
  K : Nat
  R : Nat
  W : Nat
  acc : Nat
  sb : Nat
  ab : Nat
  kb : Nat
  tv : Value
  nv : Value
  pend : Int
  S : List Int
  Y : List Int
  nb : Nat
  z : Nat → Int
  h : List Int
  hn : Option (List Int)
  sh : Option (Nat × Nat × Nat)
def comp (base xb : Nat) (p : Par) (i : Nat) : Res :=
  match i with
  | 0 => fun w F => XB w xb p.B p.R p.W p.acc p.sb p.ab p.kb p.tv p.nv p.pend ∧ base ≤ xb ∧ ∀ k, F k ↔ k = xb
  | 1 => RI base p.sb p.B p.S
  | 2 => RI base p.ab p.R p.Y
  | 3 => KR base p.kb p.B p.K (wins 1024 p.B) p.nb p.z
  | 4 => TR base p.B p.K p.tv p.h
  | 5 => NR base p.B p.K p.nv p.hn
  | _ => ShO base p.K p.sh
theorem comp.fr (base xb : Nat) (p : Par) (i : Nat) : Fr base (comp base xb p i) := by
  match i with
  | 0 => exact ⟨fun h b hs _ => ⟨h.1.bt b (hs xb ((h.2.2 xb).2 rfl)), h.2⟩, fun h hk => by have e := (h.2.2 _).1 hk; subst e; exact ⟨h.2.1, h.1.lt⟩⟩
  | 1 => exact RI.fr _ _ _ _
  | 2 => exact RI.fr _ _ _ _
  | 3 => exact KR.fr _ _ _ _ _ _ _
  | 4 => exact TR.fr _ _ _ _ _
  | 5 => exact NR.fr _ _ _ _ _
  | _ + 6 => exact ShO.fr _ _ _
/-- A filter's parts. -/
def FP (base xb : Nat) (p : Par) : Res := fun w F => Tab w ∧ 1 < base ∧ Many 7 (comp base xb p) w F
theorem FP.fr (base xb : Nat) (p : Par) : Fr base (FP base xb p) := by
  refine ⟨fun h b hs hb => ⟨h.1.bt b (fun e => by have := hb 1 e; have := h.2.1; omega), h.2.1, (Many.fr (fun i _ => comp.fr base xb p i)).btw h.2.2 b hs hb⟩, fun h hk => (Many.fr (fun i _ => comp.fr base xb p i)).lt h.2.2 hk⟩
section
variable {base xb : Nat} {p : Par} {w : World} {F : Nat → Prop}
/-- One part steps. -/
theorem FP.step (h : FP base xb p w F) (n : Nat) (hn : n < 7) : ∃ G, comp base xb p n w G ∧ (∀ k, G k → F k) ∧ ∀ (p' : Par) (w' : World) (G' : Nat → Prop), (∀ i, i < 7 → i ≠ n → comp base xb p' i = comp base xb p i) → comp base xb p' n w' G' → Stp w G w' G' → ∃ F', FP base xb p' w' F' ∧ Stp w F w' F' ∧ ∀ k, F' k → G' k ∨ F k := by
  obtain ⟨ht, hb, Fs, h1, h2, h3⟩ := h
  refine ⟨Fs n, h1 n hn, fun k hk => (h3 k).2 ⟨n, hn, hk⟩, fun p' w' G' hR hG st => ?_⟩
  obtain ⟨F', q1, q2, q3⟩ := Many.step (fun i _ => comp.fr base xb p i) h1 h2 h3 n hn (comp base xb p') hR hG st
  exact ⟨F', ⟨ht.bt st.bt (fun e => by have := ((comp.fr base xb p n).lt (h1 n hn) e).1; omega), hb, q1⟩, q2, q3⟩
/-- One part steps; it may take over what nobody had. -/
theorem FP.steps (h : FP base xb p w F) (n : Nat) (hn : n < 7) : ∃ G, comp base xb p n w G ∧ (∀ k, G k → F k) ∧ (∀ j, j < 7 → j ≠ n → ∃ Gj, comp base xb p j w Gj ∧ (∀ k, Gj k → ¬ G k) ∧ ∀ k, Gj k → F k) ∧ ∀ (p' : Par) (w' : World) (G' : Nat → Prop), (∀ i, i < 7 → i ≠ n → comp base xb p' i = comp base xb p i) → comp base xb p' n w' G' → Bt G w w' → (∀ k, G' k → G k ∨ ¬ F k) → ∃ F', FP base xb p' w' F' ∧ Bt F w w' ∧ ∀ k, F' k → G' k ∨ F k := by
  obtain ⟨ht, hb, Fs, h1, h2, h3⟩ := h
  refine ⟨Fs n, h1 n hn, fun k hk => (h3 k).2 ⟨n, hn, hk⟩, fun j hj hne => ⟨Fs j, h1 j hj, fun k a b => hne (h2 j n k hj hn a b), fun k a => (h3 k).2 ⟨j, hj, a⟩⟩, fun p' w' G' hR hG st hnew => ?_⟩
  obtain ⟨F', q1, q2, q3⟩ := Many.steps (fun i _ => comp.fr base xb p i) h1 h2 h3 n hn (comp base xb p') hR hG st hnew
  exact ⟨F', ⟨ht.bt st (fun e => by have := ((comp.fr base xb p n).lt (h1 n hn) e).1; omega), hb, q1⟩, q2, q3⟩
theorem FP.base_le (h : FP base xb p w F) : base ≤ w.heap.size := by
  obtain ⟨ht, hb, Fs, h1, h2, h3⟩ := h
  have g := h1 0 (by omega)
  have := g.1.lt; have := g.2.1; omega
theorem FP.blk (h : FP base xb p w F) : XB w xb p.B p.R p.W p.acc p.sb p.ab p.kb p.tv p.nv p.pend := by
  obtain ⟨ht, hb, Fs, h1, h2, h3⟩ := h
  exact (h1 0 (by omega)).1
theorem FP.own (h : FP base xb p w F) : F xb := by
  obtain ⟨ht, hb, Fs, h1, h2, h3⟩ := h
  exact (h3 xb).2 ⟨0, by omega, ((h1 0 (by omega)).2.2 xb).2 rfl⟩
/-- The filter's block steps. -/
theorem FP.set (h : FP base xb p w F) (p' : Par) (w' : World) (hR : ∀ i, i < 7 → i ≠ 0 → comp base xb p' i = comp base xb p i) (hx : XB w' xb p'.B p'.R p'.W p'.acc p'.sb p'.ab p'.kb p'.tv p'.nv p'.pend) (b : Bt (fun k => k = xb) w w') : FP base xb p' w' F ∧ Stp w F w' F := by
  obtain ⟨ht, hb, Fs, h1, h2, h3⟩ := h
  have g := h1 0 (by omega)
  have st : Bt (Fs 0) w w' := b.mono (fun k _ e => (g.2.2 k).2 e)
  refine ⟨⟨ht.bt b (fun e => by have := g.2.1; omega), hb, Fs, fun i hi => ?_, h2, h3⟩, b.mono (fun k _ e => (h3 k).2 ⟨0, by omega, (g.2.2 k).2 e⟩), fun k hk => .inl hk⟩
  by_cases e : i = 0
  · subst e; exact ⟨hx, g.2⟩
  · rw [hR i hi e]
    exact (comp.fr base xb p i).btw (h1 i hi) st (fun k hk q => e (h2 i 0 k hi (by omega) hk q)) (fun k hk => by have := (g.2.2 k).1 hk; subst this; exact g.2.1)
end
end Go.Proofs.YtddpcjgekfmhkabDoor

/- The filter's rings. -/
namespace Go.Proofs.YtddpcjgekfmhkabDoor
open Go.RowKit
set_option linter.unusedSimpArgs false
set_option linter.unusedVariables false

section
variable {base rb room : Nat} {L : List Int} {w : World} {G : Nat → Prop}
theorem ri_len (h : RI base rb room L w G) : Calls Tryd.prog 31 #[.pointer (some ⟨rb, 0, none⟩)] w fun e w' => e = .returned (.int .i64 L.length) ∧ w' = w := by
  obtain ⟨gb, h1, _⟩ := h
  have := lenI 131072 rb gb room (ints L) w h1
  rwa [ints_len] at this
theorem ri_take (h : RI base rb room L w G) (v : Int) (k : Nat) (hk : (k : Int) = max 0 (min v L.length)) :
    Calls Tryd.prog 32 #[.pointer (some ⟨rb, 0, none⟩), .int .i64 v] w fun e w' => e = .returned (.slice (some ⟨w.heap.size, 0, none⟩) k k) ∧ Rw w' w.heap.size 3 (ints (L.take k)) ∧ RI base rb room (L.drop k) w' G ∧ Bt G w w' := by
  obtain ⟨gb, h1, h2, h3, h4⟩ := h
  refine (takeI rb gb 131072 room (ints L) v k w h1 (by decide) (by rw [ints_len]; exact hk)).mono ?_
  rintro e w' ⟨rfl, q1, q2, q3⟩
  refine ⟨rfl, by rw [ints_take]; exact q2, ⟨gb, ?_, h2, h3, h4⟩, q3.mono (fun i _ e => (h4 i).2 e)⟩
  have e : ints (L.drop k) = (ints L).drop k := by simp [ints, List.map_drop]
  rw [e]; exact q1
theorem ri_put (h : RI base rb room L w G) (b o len cap k : Nat) (X : List Int) (hX : Src w (some ⟨b, o, none⟩) (ints X)) (lX : X.length = len) (hlen : len ≤ 1099511627776) (hcap : len ≤ cap) (hb : ¬ G b) (hbl : b < w.heap.size) (hbase : base ≤ w.heap.size) (hk : k = min len (room - L.length)) (hr : room ≤ 131072) :
    Calls Tryd.prog 47 #[.pointer (some ⟨rb, 0, none⟩), .slice (some ⟨b, o, none⟩) len cap] w fun e w' => e = .returned (.int .i64 k) ∧ ∃ G', RI base rb room (L ++ X.take k) w' G' ∧ Stp w G w' G' := by
  obtain ⟨gb, h1, h2, h3, h4⟩ := h
  have hle := h1.le
  rw [ints_len] at hle
  refine (putCI rb gb 131072 room (ints L) (ints X) b o len cap k w h1 (by decide) hX (ints_el X) (by rw [ints_len]; exact lX) (by omega) hcap ⟨fun e => hb ((h4 b).2 (.inl e)), fun e => hb ((h4 b).2 (.inr e)), hbl⟩ (by rw [ints_len]; omega) (by rw [ints_len]; omega)).mono ?_
  rintro e w' ⟨rfl, gb', q1, q2, q3⟩
  refine ⟨rfl, fun i => i = rb ∨ i = gb', ⟨gb', ?_, h2, by rcases q2 with rfl | q2; exact h3; omega, fun _ => Iff.rfl⟩, q3.mono (fun i _ e => (h4 i).2 e), fun i hi => ?_⟩
  · rw [ints_app, ints_take]; exact q1
  · rcases hi with rfl | rfl
    · exact .inl ((h4 _).2 (.inl rfl))
    · rcases q2 with rfl | q2
      · exact .inl ((h4 _).2 (.inr rfl))
      · exact .inr q2
end
end Go.Proofs.YtddpcjgekfmhkabDoor

/- The last blocks: kept. -/
namespace Go.Proofs.YtddpcjgekfmhkabDoor
open Go.RowKit
set_option linter.unusedSimpArgs false
set_option linter.unusedVariables false

/-- The ring of the blocks, as such: gb its slots, bs what is in it. -/
def KRing (w : World) (kb gb room n : Nat) (bs : List Nat) : Prop := Ring 90 59 1 131072 w kb gb room (sls n bs)
theorem kr_len {w : World} {kb gb room n : Nat} {bs : List Nat} (h : KRing w kb gb room n bs) : Calls Tryd.prog 100 #[.pointer (some ⟨kb, 0, none⟩)] w fun e w' => e = .returned (.int .i64 bs.length) ∧ w' = w := by
  have := lenU 131072 kb gb room (sls n bs) w h
  rwa [sls_len] at this
theorem kr_take {w : World} {kb gb room n : Nat} {bs : List Nat} (h : KRing w kb gb room n bs) (v : Int) (k : Nat) (hv : v = k) (hk : k ≤ bs.length) :
    Calls Tryd.prog 99 #[.pointer (some ⟨kb, 0, none⟩), .int .i64 v] w fun e w' => e = .returned (.slice (some ⟨w.heap.size, 0, none⟩) k k) ∧ Rw w' w.heap.size 59 (sls n (bs.take k)) ∧ KRing w' kb gb room n (bs.drop k) ∧ Bt (fun i => i = kb ∨ i = gb) w w' := by
  refine (takeU kb gb 131072 room (sls n bs) v k w h (by decide) (by rw [sls_len]; omega)).mono ?_
  rintro e w' ⟨rfl, q1, q2, q3⟩
  have e1 : sls n (bs.drop k) = (sls n bs).drop k := by simp [sls, List.map_drop]
  have e2 : sls n (bs.take k) = (sls n bs).take k := by simp [sls, List.map_take]
  refine ⟨rfl, by rw [e2]; exact q2, ?_, q3⟩
  show Ring _ _ _ _ _ _ _ _ (sls n (bs.drop k))
  rw [e1]; exact q1
/-- What Put leaves. -/
def KPutQ (w w' : World) (kb gb room n : Nat) (bs : List Nat) : Prop := ∃ gb', KRing w' kb gb' room n bs ∧ (gb' = gb ∨ w.heap.size ≤ gb') ∧ Bt (fun i => i = kb ∨ i = gb) w w'
theorem kr_put {w : World} {kb gb room n : Nat} {bs : List Nat} (h : KRing w kb gb room n bs) (b len cap k : Nat) (X : List Nat) (hX : Src w (some ⟨b, 0, none⟩) (sls n X)) (lX : X.length = len) (hlen : len ≤ 131072) (hcap : len ≤ cap) (hcap2 : cap ≤ 131072) (hb : b ≠ kb ∧ b ≠ gb ∧ b < w.heap.size) (hk : k = min len (room - bs.length)) (hr : room ≤ 131072) :
    Calls Tryd.prog 98 #[.pointer (some ⟨kb, 0, none⟩), .slice (some ⟨b, 0, none⟩) len cap] w fun e w' => e = .returned (.int .i64 k) ∧ Hid (KPutQ w w' kb gb room n (bs ++ X.take k)) := by
  have hle := h.le
  rw [sls_len] at hle
  refine (putU kb gb 131072 room (sls n bs) (sls n X) b 0 len cap k w h (by decide) hX (sls_el n X) (by rw [sls_len]; exact lX) (by omega) hcap (by omega) hb (by rw [sls_len]; omega) (by rw [sls_len]; omega)).mono ?_
  rintro e w' ⟨rfl, gb', q1, q2, q3⟩
  refine ⟨rfl, gb', ?_, q2, q3⟩
  have e2 : sls n (X.take k) = (sls n X).take k := by simp [sls, List.map_take]
  show Ring _ _ _ _ _ _ _ _ (sls n (bs ++ X.take k))
  rw [sls_app, e2]; exact q1
theorem KRing.bt {w w' : World} {kb gb room n : Nat} {bs : List Nat} {S : Nat → Prop} (h : KRing w kb gb room n bs) (k : Bt S w w') (h1 : ¬ S kb) (h2 : ¬ S gb) : KRing w' kb gb room n bs := Ring.bt h k h1 h2
theorem KRing.lt {w : World} {kb gb room n : Nat} {bs : List Nat} (h : KRing w kb gb room n bs) : kb < w.heap.size ∧ gb < w.heap.size := Ring.lt h

/-- A block more is kept: what comes of it. -/
def KeptQ (base xb : Nat) (p : Par) (b : Nat) (w : World) (F : Nat → Prop) (w' : World) : Prop := ∃ F', FP base xb { p with nb := p.nb + 1 } w' F' ∧ Bt F w w' ∧ ∀ k, F' k → F k ∨ w.heap.size ≤ k ∨ k = b
theorem wins_pos (L B : Nat) : 0 < wins L B := Nat.succ_pos _
theorem wins_le {B : Nat} (h : okBlock (B : Int)) : wins 1024 B ≤ 65 := by
  unfold okBlock at h
  obtain rfl | rfl | rfl | rfl | rfl : B = 16 ∨ B = 32 ∨ B = 64 ∨ B = 128 ∨ B = 256 := by omega
  all_goals decide

theorem src_one {w : World} (n b : Nat) : Src (w.alloc (.cells #[sl n b] 59)) (some ⟨w.heap.size, 0, none⟩) (sls n [b]) := by
  intro _
  refine ⟨_, _, rfl, fun j u hj => ?_⟩
  rw [World.cell?_alloc_at _ _ _ _ rfl]
  simpa [sls] using hj

/-- Spectra of the last blocks, with one more at the end. -/
theorem Sps.snoc {w : World} {n : Nat} {bs : List Nat} {f : Nat → Nat → Int} {b : Nat} (h : Sps w n bs f) (hb : Arr w b n (f bs.length)) : Sps w n (bs ++ [b]) f := by
  intro i c hc
  rw [List.getElem?_append] at hc
  split at hc
  · exact h i c hc
  · rename_i hi
    have e : i = bs.length := by
      rcases Nat.lt_or_ge (i - bs.length) 1 with q | q
      · omega
      · rw [List.getElem?_eq_none (by simpa using q)] at hc; cases hc
    subst e
    simp at hc
    subst hc; exact hb
theorem Sps.tail {w : World} {n : Nat} {bs : List Nat} {f : Nat → Nat → Int} (h : Sps w n bs f) : Sps w n (bs.drop 1) (fun i => f (i + 1)) := by
  intro i c hc
  rw [List.getElem?_drop, Nat.add_comm] at hc
  exact h (i + 1) c hc

set_option maxHeartbeats 1000000 in
theorem keep_blk {base xb : Nat} {p : Par} {w : World} {F : Nat → Prop} (h : FP base xb p w F) (hB : okBlock (p.B : Int)) (b n : Nat) (hn : 2 ^ p.K = n) (hA : Arr w b (2 ^ p.K) (dft p.K (blk p.B p.z p.nb))) (hb : ¬ F b) (hbb : base ≤ b) :
    Calls Tryd.prog 80 #[.pointer (some ⟨xb, 0, none⟩), .slice (some ⟨b, 0, none⟩) n n] w fun e w' => e = .returned (.tuple #[]) ∧ KeptQ base xb p b w F w' := by
  have hblt := hA.lt (Nat.two_pow_pos p.K)
  have hbase := h.base_le
  have hFlt : ∀ k, F k → k < w.heap.size := fun k hk => ((FP.fr base xb p).lt h hk).2
  obtain ⟨G, hG, hGF, oth, step⟩ := h.steps 3 (by omega)
  obtain ⟨G0, hx, hx0, _⟩ := oth 0 (by omega) (by omega)
  have nxG : ¬ G xb := hx0 xb ((hx.2.2 xb).2 rfl)
  obtain ⟨gb, bs, g1, g2, g3, g4, g5, g6, g7⟩ := hG
  have hw := wins_le hB
  have hwp := wins_pos 1024 p.B
  have hc6 := hx.1.c6
  have nkx : xb ≠ p.kb := fun e => nxG (by rw [e]; exact (g7 _).2 (.inl rfl))
  have ngx : xb ≠ gb := fun e => nxG (by rw [e]; exact (g7 _).2 (.inr (.inl rfl)))
  obtain ⟨room, hroom⟩ : ∃ room, wins 1024 p.B = room := ⟨_, rfl⟩
  obtain ⟨kb, hkb⟩ : ∃ kb, p.kb = kb := ⟨_, rfl⟩
  rw [hn, hroom] at g1
  rw [hroom] at g2 hw hwp
  rw [hkb] at g1 hc6 nkx
  have g1' : KRing w kb gb room n bs := g1
  have hl := g1'.lt
  have fin : Hid (∀ (w' : World) (gb' : Nat) (bs' : List Nat), KRing w' kb gb' room n bs' → (gb' = gb ∨ w.heap.size ≤ gb') → Bt (fun i => i = kb ∨ i = gb) w w' → (bs' = bs ++ [b] ∧ bs.length < room ∨ bs' = bs.drop 1 ++ [b] ∧ bs.length = room) → KeptQ base xb p b w F w') := by
    intro w' gb' bs' k1 k2 k3 k4
    have hbs : ∀ c, c ∈ bs' → (c ∈ bs ∨ c = b) := by
      rcases k4 with ⟨rfl, _⟩ | ⟨rfl, _⟩
      · intro c hc; simpa using hc
      · intro c hc
        rcases List.mem_append.1 hc with q | q
        · exact .inl (List.mem_of_mem_drop q)
        · exact .inr (by simpa using q)
    have keep : ∀ c, c ∈ bs → ¬ (c = kb ∨ c = gb) := fun c hc e => by have := g6 c hc; omega
    have bk : b ≠ kb := fun e => hb (hGF _ ((g7 _).2 (.inl (by rw [hkb]; exact e))))
    have bg : b ≠ gb := fun e => hb (hGF _ ((g7 _).2 (.inr (.inl e))))
    have hc : comp base xb { p with nb := p.nb + 1 } 3 w' (fun k => k = kb ∨ k = gb' ∨ k ∈ bs') := by
      refine ⟨gb', bs', ?_, ?_, ?_, g4, by rcases k2 with rfl | k2; exact g5; omega, fun c hc => ?_, fun k => by rw [hkb]⟩
      · show Ring _ _ _ _ _ p.kb _ _ _
        rw [hkb, hn, hroom]; exact k1
      · show _ = min (p.nb + 1) (wins 1024 p.B)
        rw [hroom]
        rcases k4 with ⟨rfl, k5⟩ | ⟨rfl, k5⟩
        · simp; omega
        · simp; omega
      · have o1 := g3.bt k3 keep
        have o2 := hA.bt k3 (by omega)
        rcases k4 with ⟨rfl, k5⟩ | ⟨rfl, k5⟩
        · have e : (fun i => dft p.K (blk p.B p.z (p.nb + 1 - (bs ++ [b]).length + i))) = fun i => dft p.K (blk p.B p.z (p.nb - bs.length + i)) := by
            funext i; congr 2; simp
          show Sps w' (2 ^ p.K) (bs ++ [b]) (fun i => dft p.K (blk p.B p.z (p.nb + 1 - (bs ++ [b]).length + i)))
          rw [e]
          refine o1.snoc ?_
          have e2 : p.nb - bs.length + bs.length = p.nb := by omega
          rw [e2]; exact o2
        · have e : (fun i => dft p.K (blk p.B p.z (p.nb + 1 - (bs.drop 1 ++ [b]).length + i))) = fun i => dft p.K (blk p.B p.z (p.nb - bs.length + (i + 1))) := by
            funext i; congr 2; simp; omega
          show Sps w' (2 ^ p.K) (bs.drop 1 ++ [b]) (fun i => dft p.K (blk p.B p.z (p.nb + 1 - (bs.drop 1 ++ [b]).length + i)))
          rw [e]
          refine o1.tail.snoc ?_
          have e2 : p.nb - bs.length + ((bs.drop 1).length + 1) = p.nb := by simp; omega
          rw [e2]; exact o2
      · show base ≤ c ∧ c ≠ p.kb ∧ c ≠ gb'
        rw [hkb]
        rcases hbs c hc with q | rfl
        · have := g6 c q
          have := g3.lt (Nat.two_pow_pos p.K) q
          rw [hkb] at *
          rcases k2 with rfl | k2
          · omega
          · omega
        · rcases k2 with rfl | k2
          · omega
          · omega
    have hnw : ∀ k, (k = kb ∨ k = gb' ∨ k ∈ bs') → G k ∨ ¬ F k := by
      intro k hk
      rcases hk with rfl | rfl | e
      · exact .inl ((g7 _).2 (.inl hkb.symm))
      · rcases k2 with rfl | k2
        · exact .inl ((g7 _).2 (.inr (.inl rfl)))
        · exact .inr (fun e => by have := hFlt _ e; omega)
      · rcases hbs k e with q | q
        · exact .inl ((g7 _).2 (.inr (.inr q)))
        · exact .inr (by rw [q]; exact hb)
    obtain ⟨F', q1, q2, q3⟩ := step { p with nb := p.nb + 1 } w' (fun k => k = kb ∨ k = gb' ∨ k ∈ bs') (fun i hi hne => by
        match i, hi, hne with
        | 0, _, _ => rfl
        | 1, _, _ => rfl
        | 2, _, _ => rfl
        | 3, _, q => exact absurd rfl q
        | 4, _, _ => rfl
        | 5, _, _ => rfl
        | 6, _, _ => rfl) hc (k3.mono (fun i _ e => (g7 i).2 (by rw [hkb]; omega))) hnw
    refine ⟨F', q1, q2, fun k hk => ?_⟩
    rcases q3 k hk with e | e
    · rcases e with rfl | rfl | e
      · exact .inl (hGF _ ((g7 _).2 (.inl hkb.symm)))
      · rcases k2 with rfl | k2
        · exact .inl (hGF _ ((g7 _).2 (.inr (.inl rfl))))
        · exact .inr (.inl k2)
      · rcases hbs k e with q | q
        · exact .inl (hGF _ ((g7 _).2 (.inr (.inr q))))
        · exact .inr (.inr q)
    · exact .inl e
  have B1 : Bt (fun _ => False) w (w.alloc (.cells #[sl n b] 59)) := (Bt.refl _ _).alloc _
  have hS1 : Src (w.alloc (.cells #[sl n b] 59)) (some ⟨w.heap.size, 0, none⟩) (sls n [b]) := src_one n b
  obtain ⟨w1, hw1⟩ : ∃ w1, w1 = w.alloc (.cells #[sl n b] 59) := ⟨_, rfl⟩
  have z1 : w1.heap.size = w.heap.size + 1 := by rw [hw1]; simp
  rw [← hw1] at B1 hS1
  have C1 := kr_put (g1'.bt B1 (fun x => x) (fun x => x)) w.heap.size 1 1 (min 1 (room - bs.length)) [b] hS1 rfl (by omega) (by omega) (by omega) (by omega) rfl (by omega)
  have X1 : ∀ w', Bt (fun i => i = kb ∨ i = gb) w w' → w'.cell? ⟨xb, 6, none⟩ = some (.pointer (some ⟨kb, 0, none⟩)) := fun w' q => q.cell (by omega) hc6
  by_cases full : bs.length < room
  · have e1 : min 1 (room - bs.length) = 1 := by omega
    rw [e1] at C1
    have c6 := X1 w1 (B1.mono (fun _ _ x => x.elim))
    have FN : Hid (∀ w', KPutQ w1 w' kb gb room n (bs ++ [b]) → KeptQ base xb p b w F w') := by
      rintro w' ⟨gb', q1, q2, q3⟩
      exact fin.out w' gb' _ q1 (by omega) ((B1.mono (fun _ _ x => x.elim)).trans q3 (fun _ _ x => x)) (.inl ⟨rfl, full⟩)
    rw [hw1] at C1 c6 FN
    unfold sl at C1 c6 FN
    clear fin g1 g1' g2 g3 g6 g7 step oth hGF hx0 hx h hA X1 hw1 B1 hS1
    go_enter Tryd.func80, Tryd.ntmps80
    go_wp2_with (go_at_call 98; refine C1.mono ?_; rintro e w2 ⟨rfl, H2⟩)
    go_end0
    exact ⟨rfl, FN.out _ H2.out⟩
  · have e1 : min 1 (room - bs.length) = 0 := by omega
    rw [e1] at C1
    have c6 := X1 w1 (B1.mono (fun _ _ x => x.elim))
    have hl2 : bs.length = room := by have := g1'.le; rw [sls_len] at this; omega
    have C2 : ∀ w2, KPutQ w1 w2 kb gb room n (bs ++ [b].take 0) → w2.cell? ⟨xb, 6, none⟩ = some (.pointer (some ⟨kb, 0, none⟩)) ∧ Calls Tryd.prog 99 #[.pointer (some ⟨kb, 0, none⟩), .int .i64 1] w2 fun e w3 => ∃ k c, e = .returned (.slice (some ⟨k, 0, none⟩) c c) ∧ w3.cell? ⟨xb, 6, none⟩ = some (.pointer (some ⟨kb, 0, none⟩)) ∧ Calls Tryd.prog 98 #[.pointer (some ⟨kb, 0, none⟩), .slice (some ⟨w.heap.size, 0, none⟩) 1 1] w3 fun e w4 => ∃ i : Int, e = .returned (.int .i64 i) ∧ Hid (KeptQ base xb p b w F w4) := by
      rintro w2 ⟨gb2, q1, q2, q3⟩
      have b2 : Bt (fun i => i = kb ∨ i = gb) w w2 := (B1.mono (fun _ _ x => x.elim)).trans q3 (fun _ _ x => x)
      refine ⟨X1 w2 b2, ?_⟩
      rw [List.take_zero, List.append_nil] at q1
      refine (kr_take q1 1 1 rfl (by omega)).mono ?_
      rintro e w3 ⟨rfl, t1, t2, t3⟩
      have b3 : Bt (fun i => i = kb ∨ i = gb) w w3 := b2.trans t3 (fun i hi e => by omega)
      refine ⟨_, _, rfl, X1 w3 b3, ?_⟩
      have hS3 : Src w3 (some ⟨w.heap.size, 0, none⟩) (sls n [b]) := (hS1.bt q3 (fun b' o e q => by have e' : w.heap.size = b' := (by simpa using congrArg (fun (x : Option Addr) => x.map (·.block)) e); omega)).bt t3 (fun b' o e q => by have e' : w.heap.size = b' := (by simpa using congrArg (fun (x : Option Addr) => x.map (·.block)) e); omega)
      have hs3 := t3.size
      have hs2 := q3.size
      refine (kr_put t2 w.heap.size 1 1 1 [b] hS3 rfl (by omega) (by omega) (by omega) (by omega) (by simp; omega) (by omega)).mono ?_
      rintro e w4 ⟨rfl, H⟩
      obtain ⟨gb4, r1, r2, r3⟩ := H.out
      exact ⟨_, rfl, fin.out w4 gb4 _ r1 (by omega) (b3.trans r3 (fun i hi e => by omega)) (.inr ⟨rfl, hl2⟩)⟩
    rw [hw1] at C1 c6 C2
    unfold sl at C1 c6 C2
    clear fin g1 g1' g2 g3 g6 g7 step oth hGF hx0 hx h hA X1 hw1 B1 hS1
    go_enter Tryd.func80, Tryd.ntmps80
    go_wp2_with (first
      | (go_at_call 98; refine C1.mono ?_; rintro e w2 ⟨rfl, H2⟩; obtain ⟨d6, C2'⟩ := C2 _ H2.out; clear C1 C2)
      | (go_at_call 99; refine C2'.mono ?_; rintro e w3 ⟨k3, c3, rfl, e6, C3⟩; clear C2')
      | (go_at_call 98; refine C3.mono ?_; rintro e w4 ⟨i4, rfl, H4⟩))
    go_end0
    exact ⟨rfl, H4.out⟩
end Go.Proofs.YtddpcjgekfmhkabDoor

/- A region that draws its order, all of whose operations but the last are quiet: the last one waits for all others. -/
namespace Go.Proofs.YtddpcjgekfmhkabDoor
open Go
set_option linter.unusedVariables false
set_option linter.unusedSimpArgs false

section
variable {P : Program} {ops : Array Oper} {md : Region.Mode} {C : World → Prop} {L : Nat}

/-- Whatever order is picked, up to the last one. -/
def wpAnyT (P : Program) (md : Region.Mode) (ops : Array Oper) (C : World → Prop) (L : Nat) (E : Act → Prop) : Nat → Array Bool → Act → Prop
  | 0, listed, a => Region.ready md ops listed = [L] ∧ Region.ready md ops (listed.setIfInBounds L true) = [] ∧ E a
  | fuel + 1, listed, a => L ∉ Region.ready md ops listed ∧ Region.ready md ops listed ≠ [] ∧ ∀ i ∈ Region.ready md ops listed, qOp P ops C i (wpAnyT P md ops C L E fuel (listed.setIfInBounds i true)) a

theorem wpAny_of_T {E : Act → Prop} {Q : Exit → Act → World → Prop} (hE : ∀ a w, C w → E a → wpOp P ops Q L (fun a' w' => Q .normal a' w') a w) : ∀ (fuel : Nat) (listed : Array Bool) (a : Act) (w : World), C w →
    wpAnyT P md ops C L E fuel listed a → wpAny P md ops Q (fuel + 1) listed a w
  | 0, listed, a, w, hw, h => by
    obtain ⟨h1, h2, h3⟩ := h
    refine ⟨fun h0 => (by rw [h1] at h0; cases h0), fun i hi => ?_⟩
    rw [h1] at hi
    obtain rfl : i = L := by simpa using hi
    exact wpOp_mono (fun a' w' q => ⟨h2, q⟩) (hE a w hw h3)
  | fuel + 1, listed, a, w, hw, h => by
    obtain ⟨h1, h2, h3⟩ := h
    refine ⟨fun h0 => absurd h0 h2, fun i hi => ?_⟩
    exact wpOp_of_qOp hw (fun a' w' hw' q => wpAny_of_T hE fuel _ a' w' hw' q) (h3 i hi)

theorem wpAnyT_first {E : Act → Prop} {i : Nat} {oi : Oper} {v : Value} (hi : ops[i]? = some oi) (hiL : i < L) (hsel : ∀ (j : Nat) (o : Oper) cs b, ops[j]? = some o → o.op ≠ .select cs b)
    (hlast : ∀ listed, L ∈ Region.ready md ops listed → ∀ j, j < L → listed.getD j false = true) :
    ∀ (fuel : Nat) (listed : Array Bool) (a : Act),
      (∀ j oj, ops[j]? = some oj → j ≠ i → listed.getD j true = false → (∀ e ∈ oj.after, Region.binds md e = true → e.on ≠ i) → oi.apart ops oj = true) →
      i ∈ Region.ready md ops listed → YieldsIn P ops C oi v a →
      wpAnyT P md ops C L E fuel (listed.setIfInBounds i true) (a.put oi.dst v) → wpAnyT P md ops C L E (fuel + 1) listed a := by
  have hnl : ∀ listed, i ∈ Region.ready md ops listed → L ∉ Region.ready md ops listed := by
    intro listed hr hL
    have h0 := (mem_ready.1 hr).1
    have h1 := hlast listed hL i hiL
    rw [Array.getD_eq_getD_getElem?] at h0 h1
    cases e : listed[i]? with
    | none => rw [e] at h1; cases h1
    | some b => rw [e] at h0 h1; simp at h0 h1; rw [h0] at h1; cases h1
  intro fuel
  induction fuel with
  | zero =>
    intro listed a _ hr hy H
    refine ⟨hnl listed hr, fun h => (by rw [h] at hr; cases hr), fun j hj => ?_⟩
    by_cases hji : j = i
    · subst hji; exact hy.qOp hi H
    · have := ready_mono hj hji
      rw [H.1] at this
      obtain rfl : j = L := by simpa using this
      exact absurd hj (hnl listed hr)
  | succ fuel ih =>
    intro listed a hfree hr hy H
    refine ⟨hnl listed hr, fun h => (by rw [h] at hr; cases hr), fun j hj => ?_⟩
    by_cases hji : j = i
    · subst hji; exact hy.qOp hi H
    · have h1 := H.2.2 j (ready_mono hj hji)
      obtain ⟨hjun, oj, hoj, hall⟩ := mem_ready.1 hj
      have hnot : ∀ e ∈ oj.after, Region.binds md e = true → e.on ≠ i := fun e he hb heq => by
        have h1 := hall e he hb
        have h0 := (mem_ready.1 hr).1
        rw [heq] at h1
        rcases Nat.lt_or_ge i listed.size with h' | h'
        · simp [h'] at h0 h1; rw [h0] at h1; cases h1
        · simp [Array.getElem?_eq_none h'] at h1
      have h2 := qOp_put hoj (hfree j oj hoj hji hjun hnot) (fun cs b => hsel i oi cs b hi) (fun cs b => hsel j oj cs b hoj) hy h1
      have hfree' : ∀ k ok, ops[k]? = some ok → k ≠ i → (listed.setIfInBounds j true).getD k true = false →
          (∀ e ∈ ok.after, Region.binds md e = true → e.on ≠ i) → oi.apart ops ok = true := fun k ok hk hki hun hno => by
        refine hfree k ok hk hki ?_ hno
        by_cases hjk : j = k
        · subst hjk; exact hjun
        · rw [getD_set_ne true hjk] at hun; exact hun
      refine qOp_mono (fun a' h3 => ih (listed.setIfInBounds j true) a' hfree' (ready_mono hr (Ne.symm hji)) h3.1 ?_) h2
      rw [Array.setIfInBounds_comm _ _ hji]
      exact h3.2

/-- The order of the text, up to the last one. -/
def lexL (md : Region.Mode) (ops : Array Oper) : Nat → Nat → Array Bool → Bool
  | 0, k, listed => decide (Region.ready md ops listed = [k]) && decide (Region.ready md ops (listed.setIfInBounds k true) = [])
  | fuel + 1, k, listed => (Region.ready md ops listed).contains k && Region.free md ops listed k && lexL md ops fuel (k + 1) (listed.setIfInBounds k true)

theorem wpAnyT_lex {E : Act → Prop} (hs : Region.noSelect ops = true) (hlast : ∀ listed, L ∈ Region.ready md ops listed → ∀ j, j < L → listed.getD j false = true) : ∀ (l : List Oper) (k : Nat) (listed : Array Bool) (a : Act), k + l.length = L → (∀ j, j < l.length → l[j]? = ops[k + j]?) →
    lexL md ops l.length k listed = true → wpQuiet P ops C E l a → wpAnyT P md ops C L E l.length listed a
  | [], k, listed, a, hk, _, hB, h => by
    simp only [List.length_nil, Nat.add_zero] at hk
    subst hk
    simp only [List.length_nil, lexL, Bool.and_eq_true, decide_eq_true_eq] at hB
    exact ⟨hB.1, hB.2, h⟩
  | o :: l, k, listed, a, hk, hl, hB, h => by
    have h0 : ops[k]? = some o := by simpa using (hl 0 (by simp)).symm
    simp only [List.length_cons, lexL, Bool.and_eq_true] at hB
    obtain ⟨⟨hr, hf⟩, hB'⟩ := hB
    have hst : qOp P ops C k (wpQuiet P ops C E l) a := by unfold qOp; simp only [h0]; exact h
    obtain ⟨v, hy, hK⟩ := yieldsIn_of_qOp h0 hst
    simp only [List.length_cons] at hk
    exact wpAnyT_first h0 (by omega) (Region.noSelect_spec hs) hlast l.length listed a (Region.free_spec h0 hf) (by simpa using hr) hy
      (wpAnyT_lex hs hlast l (k + 1) _ _ (by omega) (fun j hj => by have := hl (j + 1) (by simp; omega); simpa [Nat.add_assoc, Nat.add_comm 1 j] using this) hB' hK)

/-- The last one waits for all others. -/
def waitsB (md : Region.Mode) (ops : Array Oper) (L : Nat) : Bool := ((ops[L]?).map fun o => (List.range L).all fun j => o.after.any fun e => Region.binds md e && decide (e.on = j)).getD false
theorem waits_spec (h : waitsB md ops L = true) (listed : Array Bool) (hL : L ∈ Region.ready md ops listed) (j : Nat) (hj : j < L) : listed.getD j false = true := by
  obtain ⟨_, o, ho, hall⟩ := mem_ready.1 hL
  unfold waitsB at h
  rw [ho] at h
  simp only [Option.map_some, Option.getD_some] at h
  have h1 := List.all_eq_true.mp h j (List.mem_range.mpr hj)
  rw [Array.any_eq_true'] at h1
  obtain ⟨e, he, hb⟩ := h1
  simp only [Bool.and_eq_true, decide_eq_true_eq] at hb
  have := hall e he hb.1
  rwa [hb.2] at this

theorem wp_region_quiet_last {id : Nat} {Q : Exit → Act → World → Prop} {a : Act} {w : World} {l : List Oper} (n : Nat) (hm : P.follows .mixedOrders = true) (hn : l.length = n + 1)
    (hB : (Region.noSelect l.toArray && lexL .any l.toArray n 0 (Array.replicate (n + 1) false) && waitsB .any l.toArray n) = true)
    (h : wpQuiet P l.toArray (fun w' => ∃ n, w' = w.drewN n) (fun a' => ∀ w', (∃ n, w' = w.drewN n) → wpList P l.toArray Q (l.drop n) a' w') (l.take n) a) : (Code.region id l.toArray true).wp P Q a w := by
  simp only [Bool.and_eq_true] at hB
  obtain ⟨⟨hs, hx⟩, hw⟩ := hB
  refine wp_region_any hm ?_
  have hsz : l.toArray.size = n + 1 := by simpa using hn
  rw [hsz]
  refine wpAny_of_T (C := fun w' => ∃ n, w' = w.drewN n) (L := n) (E := fun a' => ∀ w', (∃ n, w' = w.drewN n) → wpList P l.toArray Q (l.drop n) a' w') (fun a' w' hw' q => ?_) n _ a _ ⟨1, rfl⟩ ?_
  · have q1 := q w' hw'
    have hlt : n < l.length := by omega
    have e : l.drop n = [l[n]] := by rw [List.drop_eq_getElem_cons hlt, List.drop_of_length_le (by omega)]
    rw [e] at q1
    have ho : l.toArray[n]? = some l[n] := by simp [hlt]
    unfold wpOp
    rw [ho]
    exact q1
  · have ht : (l.take n).length = n := by rw [List.length_take]; omega
    have := wpAnyT_lex (P := P) (C := fun w' => ∃ n, w' = w.drewN n) (md := .any) (ops := l.toArray) (L := n) (E := fun a' => ∀ w', (∃ n, w' = w.drewN n) → wpList P l.toArray Q (l.drop n) a' w') hs (fun li hL j hj => waits_spec hw li hL j hj) (l.take n) 0 (Array.replicate (n + 1) false) a (by omega) (fun j hj => by rw [ht] at hj; simp [List.getElem?_take, hj]) (by rw [ht]; exact hx) h
    rwa [ht] at this
end
end Go.Proofs.YtddpcjgekfmhkabDoor

/- Products added up; what the last blocks and the windows give. -/
namespace Go.Proofs.YtddpcjgekfmhkabDoor
open Go.RowKit
set_option linter.unusedSimpArgs false
set_option linter.unusedVariables false

/-- A product more, place by place. -/
def adp (s a b : Nat → Int) (i : Nat) : Int := (s i + (a i * b i) % PP) % PP

set_option maxHeartbeats 1000000 in
theorem addProducts_any (sb ab bb n : Nat) (s a b : Nat → Int) (w : World) (hn : n ≤ 1024) (hs : Arr w sb n s) (ha : Arr w ab n a) (hb : Arr w bb n b) (es : Elems n s) (ea : Elems n a) (eb : Elems n b) (n1 : ab ≠ sb) (n2 : bb ≠ sb) :
    Calls Tryd.prog 101 #[.slice (some ⟨sb, 0, none⟩) n n, .slice (some ⟨ab, 0, none⟩) n n, .slice (some ⟨bb, 0, none⟩) n n] w
      fun e w' => e = .returned (.tuple #[]) ∧ Arr w' sb n (adp s a b) ∧ Only sb w w' := by
  have HA : Hid (Arr w ab n a ∧ Arr w bb n b ∧ Elems n s ∧ Elems n a ∧ Elems n b) := ⟨ha, hb, es, ea, eb⟩
  have HS : Hid (Arr w sb n s) := hs
  clear hs ha hb es ea eb
  go_enter Tryd.func101, Tryd.ntmps101
  go_wp2
  go_loopw [9] (fun ti wr => ∃ (k : Nat) (g : Nat → Int), k ≤ n ∧ ti = .int .i64 k ∧ Hid (Arr wr sb n g ∧ (∀ i, i < k → g i = adp s a b i) ∧ (∀ i, k ≤ i → i < n → g i = s i) ∧ Only sb w wr)) (fun ti _ => n - (intOf ti).toNat)
  case atStart => exact ⟨0, s, Nat.zero_le _, rfl, HS.out, fun i hi => by omega, fun i _ _ => rfl, Only.refl _ _⟩
  case round =>
    obtain ⟨k, g, hk, rfl, HR⟩ := hrel
    by_cases hlt : k < n
    · obtain ⟨hA, hU, hV, hO⟩ := HR.out
      have cs := (hA k hlt).1
      have fs := (hA k hlt).2
      rw [hV k (Nat.le_refl _) hlt] at cs
      have ca := ((HA.out.1.only hO n1) k hlt).1
      have cb := ((HA.out.2.1.only hO n2) k hlt).1
      have b1 := HA.out.2.2.1 k hlt
      have b2 := HA.out.2.2.2.1 k hlt
      have b3 := HA.out.2.2.2.2 k hlt
      have cm := mul_any _ _ b2.1 (Int.le_trans b2.2 (by omega)) b3.1 (Int.le_trans b3.2 (by omega))
      obtain ⟨v, hv⟩ : ∃ v, (a k * b k) % PP = v := ⟨_, rfl⟩
      have b4 : 0 ≤ v ∧ v ≤ 18446744069414584320 := by rw [← hv]; exact md_bd _
      rw [hv] at cm
      have cd := add_any _ _ b1.1 (Int.le_trans b1.2 (by omega)) b4.1 (Int.le_trans b4.2 (by omega))
      obtain ⟨u, hu⟩ : ∃ u, (s k + v) % PP = u := ⟨_, rfl⟩
      rw [hu] at cd
      have HV : Hid (adp s a b k = u) := by show (s k + (a k * b k) % PP) % PP = u; rw [hv, hu]
      clear hv hu b1 b2 b3 b4 hA hU hV hO
      generalize s k = vs at *
      generalize a k = va at *
      generalize b k = vb at *
      have i1 : (k : Int) < (n : Int) := by omega
      go_wp2
      refine wp_region_quiet_last 17 (by kernel_rfl) (by kernel_rfl) (by kernel_rfl) ?_
      repeat (quiet_step ((first
        | (go_at_call 43; exact Calls.quiet_of_same (cm _))
        | (go_at_call 94; exact Calls.quiet_of_same (cd _)))))
      refine wpQuiet_nil ?_
      rintro _ ⟨nq, rfl⟩
      go_wp2
      go_roundw
      case rel =>
        refine ⟨k + 1, upd g k u, by omega, by go_num, ?_⟩
        obtain ⟨hA, hU, hV, hO⟩ := HR.out
        refine ⟨(hA.drewN _).set hlt u, fun i hi => ?_, fun i h1 h2 => ?_, ((hO.drewN _).setCell rfl _)⟩
        · by_cases e : i = k
          · subst e; rw [upd_same]; exact HV.out.symm
          · rw [upd_other e]; exact hU i (by omega)
        · rw [upd_other (by omega)]; exact hV i (by omega) h2
      case measure => simp [intOf]; omega
    · obtain rfl : k = n := by omega
      go_wp2
      go_end0
      obtain ⟨hA, hU, hV, hO⟩ := HR.out
      exact ⟨rfl, hA.congr hU, hO⟩
end Go.Proofs.YtddpcjgekfmhkabDoor

/- A region that draws its order, by an invariant: one step for each operation, whatever came before it. -/
namespace Go.Proofs.YtddpcjgekfmhkabDoor
open Go

theorem count_set {i : Nat} : ∀ (l : List Bool), l[i]? = some false → ((l.set i true).countP (· == false)) + 1 = l.countP (· == false) := by
  induction i with
  | zero => intro l h; cases l with
    | nil => simp at h
    | cons x l => simp at h; subst h; simp
  | succ i ih => intro l h; cases l with
    | nil => simp at h
    | cons x l =>
      simp at h
      have := ih l (by simpa using h)
      simp only [List.set_cons_succ, List.countP_cons]
      omega

theorem wpAny_inv {P : Program} {md : Region.Mode} {ops : Array Oper} {Q : Exit → Act → World → Prop} (J : Array Bool → Act → World → Prop)
    (hs : ∀ listed a w i, J listed a w → i ∈ Region.ready md ops listed → wpOp P ops Q i (J (listed.setIfInBounds i true)) a w)
    (hd : ∀ listed a w, J listed a w → Region.ready md ops listed = [] → Q .normal a w) :
    ∀ (fuel : Nat) (listed : Array Bool) (a : Act) (w : World), listed.toList.countP (· == false) ≤ fuel → J listed a w → wpAny P md ops Q fuel listed a w := by
  intro fuel
  induction fuel with
  | zero =>
    intro listed a w hc hJ
    have hr : Region.ready md ops listed = [] := by
      refine List.eq_nil_iff_forall_not_mem.mpr fun i hi => ?_
      have h0 := (mem_ready.mp hi).1
      have h1 : listed.toList[i]? = some false := by
        rw [Array.getElem?_toList]
        cases e : listed[i]? with
        | none => simp [Array.getD_eq_getD_getElem?, e] at h0
        | some b => simp [Array.getD_eq_getD_getElem?, e] at h0; rw [h0]
      have := count_set _ h1
      omega
    exact ⟨hr, hd listed a w hJ hr⟩
  | succ fuel ih =>
    intro listed a w hc hJ
    refine ⟨hd listed a w hJ, fun i hi => ?_⟩
    have h0 := (mem_ready.mp hi).1
    have h1 : listed.toList[i]? = some false := by
      rw [Array.getElem?_toList]
      cases e : listed[i]? with
      | none => simp [Array.getD_eq_getD_getElem?, e] at h0
      | some b => simp [Array.getD_eq_getD_getElem?, e] at h0; rw [h0]
    have h2 := count_set _ h1
    refine wpOp_mono (fun a' w' h => ih _ a' w' ?_ h) (hs listed a w i hJ hi)
    rw [Array.toList_setIfInBounds]
    omega

/-- Whatever has come up, what it waits for has come up too. -/
def Down (md : Region.Mode) (ops : Array Oper) (listed : Array Bool) : Prop := ∀ k o, ops[k]? = some o → listed.getD k false = true → ∀ e ∈ o.after, Region.binds md e = true → listed.getD e.on false = true

theorem Down.next {md : Region.Mode} {ops : Array Oper} {listed : Array Bool} {i : Nat} (h : Down md ops listed) (hi : i ∈ Region.ready md ops listed) : Down md ops (listed.setIfInBounds i true) := by
  intro k o ho hk e he hb
  refine getD_set_true ?_
  by_cases c : i = k
  · subst c
    obtain ⟨_, o', ho', hd⟩ := mem_ready.mp hi
    rw [ho] at ho'
    cases ho'
    exact hd e he hb
  · rw [getD_set_ne false c] at hk
    exact h k o ho hk e he hb

def depsOf (md : Region.Mode) (ops : Array Oper) (i : Nat) : List Nat := ((ops[i]?).map fun o => (o.after.toList.filter (Region.binds md)).map (·.on)).getD []
def reach (md : Region.Mode) (ops : Array Oper) : Nat → List Nat → List Nat
  | 0, l => l
  | f + 1, l => l ++ reach md ops f (l.flatMap (depsOf md ops))

theorem reach_listed {md : Region.Mode} {ops : Array Oper} {listed : Array Bool} (h : Down md ops listed) : ∀ (f : Nat) (l : List Nat), (∀ x ∈ l, listed.getD x false = true) → ∀ x ∈ reach md ops f l, listed.getD x false = true := by
  intro f
  induction f with
  | zero => intro l hl; exact hl
  | succ f ih =>
    intro l hl x hx
    rcases List.mem_append.mp hx with hx | hx
    · exact hl x hx
    · refine ih _ (fun y hy => ?_) x hx
      obtain ⟨z, hz, hy⟩ := List.mem_flatMap.mp hy
      unfold depsOf at hy
      cases e : ops[z]? with
      | none => rw [e] at hy; cases hy
      | some o =>
        rw [e] at hy
        simp only [Option.map_some, Option.getD_some, List.mem_map, List.mem_filter, Array.mem_toList_iff] at hy
        obtain ⟨d, ⟨hd, hb⟩, rfl⟩ := hy
        exact h z o e (hl z hz) d hd hb

theorem ready_reach {md : Region.Mode} {ops : Array Oper} {listed : Array Bool} {i : Nat} (h : Down md ops listed) (hi : i ∈ Region.ready md ops listed) (f n : Nat) (b : Nat) (hr : ((List.range n).all fun j => decide (j < b) || (reach md ops f (depsOf md ops i)).contains j) = true) (j : Nat) (hb : b ≤ j) (hj : j < n) : listed.getD j false = true := by
  refine reach_listed h f (depsOf md ops i) (fun x hx => ?_) j ?_
  · obtain ⟨_, o, ho, hd⟩ := mem_ready.mp hi
    unfold depsOf at hx
    rw [ho] at hx
    simp only [Option.map_some, Option.getD_some, List.mem_map, List.mem_filter, Array.mem_toList_iff] at hx
    obtain ⟨d, ⟨hd', hb⟩, rfl⟩ := hx
    exact hd d hd' hb
  · have := List.all_eq_true.mp hr j (List.mem_range.mpr hj)
    have hnb : ¬ j < b := by omega
    simpa [hnb] using this

/-- The whole region. -/
theorem wp_region_inv {P : Program} {id : Nat} {ops : Array Oper} {Q : Exit → Act → World → Prop} {a : Act} {w : World} (hm : P.follows .mixedOrders = true) (J : Array Bool → Act → World → Prop)
    (h0 : J (Array.replicate ops.size false) a { w with drawn := w.drawn + 1 })
    (hs : ∀ listed a w i, Down .any ops listed → J listed a w → i ∈ Region.ready .any ops listed → wpOp P ops Q i (J (listed.setIfInBounds i true)) a w)
    (hd : ∀ listed a w, J listed a w → Region.ready .any ops listed = [] → Q .normal a w) : (Code.region id ops true).wp P Q a w := by
  refine wp_region_any hm (wpAny_inv (fun l a w => Down .any ops l ∧ J l a w) (fun l a w i h hi => wpOp_mono (fun a' w' h' => ⟨h.1.next hi, h'⟩) (hs l a w i h.1 h.2 hi)) (fun l a w h => hd l a w h.2) _ _ _ _ ?_ ⟨?_, h0⟩)
  case refine_2 =>
    intro k o _ hk
    rw [Array.getD_eq_getD_getElem?, Array.getElem?_replicate] at hk
    split at hk <;> cases hk
  have := List.countP_le_length (p := (· == false)) (l := (Array.replicate ops.size false).toList)
  simpa using this

end Go.Proofs.YtddpcjgekfmhkabDoor
