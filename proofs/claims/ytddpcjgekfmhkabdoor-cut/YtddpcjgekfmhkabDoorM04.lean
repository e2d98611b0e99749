/- Texts joined: Fl Fb Fc Fd Fe Ff. -/
import Derived.Test.YtddpcjgekfmhkabDoorM03
import Derived.Test.YtddpcjgekfmhkabDoorProg

/- A filter's sums, and what a filter is: states and what can be done. -/
namespace Go.Proofs.YtddpcjgekfmhkabDoor
set_option linter.unusedVariables false

/-- The n-th answer of a filter: L taps h, samples z. -/
def flt (L : Nat) (h z : Nat → Int) (n : Nat) : Int := sm (fun k => if k ≤ n then h k * z (n - k) else 0) L
/-- The sum of the sizes. -/
def norm (h : Nat → Int) (L : Nat) : Int := sm (fun k => if h k < 0 then -h k else h k) L

theorem norm_succ (h : Nat → Int) (L : Nat) : norm h (L + 1) = norm h L + (if h L < 0 then -h L else h L) := rfl
theorem norm_nn (h : Nat → Int) : ∀ L, 0 ≤ norm h L
  | 0 => by unfold norm; exact Int.le_refl _
  | L + 1 => by
    have ih := norm_nn h L
    rw [norm_succ]
    split <;> omega
theorem norm_mono (h : Nat → Int) (a : Nat) : ∀ b, a ≤ b → norm h a ≤ norm h b
  | 0, hb => by obtain rfl : a = 0 := by omega
                exact Int.le_refl _
  | b + 1, hb => by
    by_cases e : a = b + 1
    · subst e; exact Int.le_refl _
    · have := norm_mono h a b (by omega)
      rw [norm_succ]
      split <;> omega

theorem tap_abs {a x M : Int} (h0 : -M ≤ x) (h1 : x ≤ M) : -((if a < 0 then -a else a) * M) ≤ a * x ∧ a * x ≤ (if a < 0 then -a else a) * M := by
  split
  · rename_i h
    have e1 : 0 ≤ (-a) * (M - x) := Int.mul_nonneg (by omega) (by omega)
    have e2 : 0 ≤ (-a) * (M + x) := Int.mul_nonneg (by omega) (by omega)
    have f1 : (-a) * (M - x) = (-a) * M + a * x := by grind
    have f2 : (-a) * (M + x) = (-a) * M - a * x := by grind
    omega
  · rename_i h
    have e1 : 0 ≤ a * (M - x) := Int.mul_nonneg (by omega) (by omega)
    have e2 : 0 ≤ a * (M + x) := Int.mul_nonneg (by omega) (by omega)
    have f1 : a * (M - x) = a * M - a * x := by grind
    have f2 : a * (M + x) = a * M + a * x := by grind
    omega

theorem flt_succ (L : Nat) (h z : Nat → Int) (n : Nat) : flt (L + 1) h z n = flt L h z n + (if L ≤ n then h L * z (n - L) else 0) := rfl
/-- Every part of the sum stays within the norm times the greatest sample. -/
theorem flt_abs {M : Int} (hM : 0 ≤ M) (h z : Nat → Int) (n : Nat) (hz : ∀ i, i ≤ n → -M ≤ z i ∧ z i ≤ M) : ∀ L, -(norm h L * M) ≤ flt L h z n ∧ flt L h z n ≤ norm h L * M
  | 0 => by unfold flt norm; show -(0 * M) ≤ 0 ∧ 0 ≤ 0 * M; rw [Int.zero_mul]; omega
  | L + 1 => by
    have ih := flt_abs hM h z n hz L
    have e : norm h (L + 1) * M = norm h L * M + (if h L < 0 then -h L else h L) * M := by rw [norm_succ, Int.add_mul]
    rw [e, flt_succ]
    have nn : 0 ≤ (if h L < 0 then -h L else h L) * M := Int.mul_nonneg (by split <;> omega) hM
    by_cases hl : L ≤ n
    · rw [if_pos hl]
      have b := hz (n - L) (by omega)
      have m := tap_abs (a := h L) b.1 b.2
      omega
    · rw [if_neg hl]; omega
theorem flt_62 {h z : Nat → Int} {n L : Nat} (hn : norm h L ≤ 2147483648) (hz : ∀ i, i ≤ n → -2147483648 ≤ z i ∧ z i ≤ 2147483647) : -4611686018427387904 ≤ flt L h z n ∧ flt L h z n ≤ 4611686018427387904 := by
  have b := flt_abs (M := 2147483648) (by omega) h z n (fun i hi => by have := hz i hi; omega) L
  have e : norm h L * 2147483648 ≤ 2147483648 * 2147483648 := Int.mul_le_mul_of_nonneg_right hn (by omega)
  omega
/-- What one tap times one sample may be. -/
theorem tap_62 {a x : Int} (h : (if a < 0 then -a else a) ≤ 2147483648) (h0 : -2147483648 ≤ x) (h1 : x ≤ 2147483647) : -4611686018427387904 ≤ a * x ∧ a * x ≤ 4611686018427387904 := by
  have m := tap_abs (a := a) (x := x) (M := 2147483648) h0 (by omega)
  have e : (if a < 0 then -a else a) * 2147483648 ≤ 2147483648 * 2147483648 := Int.mul_le_mul_of_nonneg_right h (by omega)
  omega
/-- A sum ends where the samples end. -/
theorem flt_end (h z : Nat → Int) (n k : Nat) (hk : n + 1 ≤ k) : ∀ L, k ≤ L → flt L h z n = flt k h z n
  | 0, hl => by obtain rfl : k = 0 := by omega
                rfl
  | L + 1, hl => by
    by_cases e : k = L + 1
    · subst e; rfl
    · rw [flt_succ, if_neg (by omega), Int.add_zero]
      exact flt_end h z n k hk L (by omega)

/-- The numbers of a list. -/
def at0 (l : List Int) (i : Nat) : Int := l.getD i 0
def lnorm (l : List Int) : Int := norm (at0 l) l.length
abbrev okTaps (l : List Int) : Prop := 1 ≤ l.length ∧ l.length ≤ 1024 ∧ lnorm l ≤ 2147483648
abbrev okSample (v : Int) : Prop := -2147483648 ≤ v ∧ v ≤ 2147483647

/-- A filter's state: its configuration, all samples that were accepted, which taps hold from where on, how many were pulled. -/
structure FlS where
  B : Nat
  R : Nat
  W : Nat
  X : List Int
  parts : List (Nat × List Int)
  pulled : Nat

/-- The taps that hold at n. -/
def tapsAt : List (Nat × List Int) → Nat → List Int → List Int
  | [], _, d => d
  | p :: ps, n, d => tapsAt ps n (if p.1 ≤ n then p.2 else d)
theorem tapsAt_append (n : Nat) : ∀ (a b : List (Nat × List Int)) (d : List Int), tapsAt (a ++ b) n d = tapsAt b n (tapsAt a n d)
  | [], b, d => rfl
  | p :: a, b, d => tapsAt_append n a b _
theorem tapsAt_none (n : Nat) : ∀ (a : List (Nat × List Int)) (d : List Int), (∀ p ∈ a, n < p.1) → tapsAt a n d = d
  | [], d, _ => rfl
  | p :: a, d, h => by
    unfold tapsAt
    rw [if_neg (by have := h p (by simp); omega)]
    exact tapsAt_none n a d (fun q hq => h q (by simp [hq]))
/-- The last part whose place was passed. -/
theorem tapsAt_is {ps : List (Nat × List Int)} {n k : Nat} {p : Nat × List Int} (hk : ps[k]? = some p) (hp : p.1 ≤ n) (hl : ∀ j q, k < j → ps[j]? = some q → n < q.1) (d : List Int) : tapsAt ps n d = p.2 := by
  have hlt : k < ps.length := by
    rcases Nat.lt_or_ge k ps.length with h | h
    · exact h
    · rw [List.getElem?_eq_none h] at hk; cases hk
  have e : ps = ps.take k ++ p :: ps.drop (k + 1) := by
    have e1 : ps[k] = p := by rw [List.getElem?_eq_getElem hlt] at hk; exact Option.some.inj hk
    rw [← e1, List.getElem_cons_drop, List.take_append_drop]
  rw [e, tapsAt_append]
  show tapsAt (ps.drop (k + 1)) n (if p.1 ≤ n then p.2 else _) = _
  rw [if_pos hp]
  refine tapsAt_none n _ _ fun q hq => ?_
  obtain ⟨j, hj⟩ := List.getElem?_of_mem hq
  rw [List.getElem?_drop] at hj
  exact hl _ q (by omega) hj

def FlS.whole (s : FlS) : Nat := s.X.length / s.B * s.B
def FlS.room (s : FlS) : Nat := s.R - (s.X.length - s.pulled)
def FlS.y (s : FlS) (n : Nat) : Int := flt (tapsAt s.parts n []).length (at0 (tapsAt s.parts n [])) (at0 s.X) n
def FlS.from (s : FlS) : Nat := (s.parts.getLast?.map (·.1)).getD 0
def FlS.pending (s : FlS) : Int := if s.X.length < s.from then s.from else -1
def FlS.more (s : FlS) (l : List Int) : FlS := { s with X := s.X ++ l }
def FlS.missing (s : FlS) : Nat := (s.B - s.X.length % s.B) % s.B
def FlS.place (s : FlS) : Nat := (s.X.length / s.B + s.W) * s.B
def FlS.swapped (s : FlS) (l : List Int) : FlS := { s with parts := s.parts ++ [(s.place, l)] }
def FlS.took (s : FlS) (m : Nat) : FlS := { s with pulled := s.pulled + m }
def FlS.outs (s : FlS) (m : Nat) : List Int := (List.range m).map fun i => s.y (s.pulled + i)
def FlS.can (s : FlS) (n : Int) : Nat := min n.toNat (s.whole - s.pulled)
def FlS.fresh (B R W : Nat) (l : List Int) : FlS := ⟨B, R, W, [], [(0, l)], 0⟩

/-- What holds of each state. -/
structure FlS.Ok (s : FlS) : Prop where
  pow : s.B = 16 ∨ s.B = 32 ∨ s.B = 64 ∨ s.B = 128 ∨ s.B = 256
  r0 : 2 * s.B ≤ s.R
  r1 : s.R ≤ 65536
  w0 : 1 ≤ s.W
  w1 : s.W ≤ 64
  first : ∃ l ps, s.parts = (0, l) :: ps
  taps : ∀ p ∈ s.parts, okTaps p.2
  mult : ∀ p ∈ s.parts, ∃ q, p.1 = q * s.B
  up : s.parts.Pairwise (fun p q => p.1 < q.1)
  last : ∀ p ∈ s.parts, p.1 ≤ s.X.length / s.B * s.B + 64 * s.B
  smp : ∀ v ∈ s.X, okSample v
  pl : s.pulled ≤ s.whole
  rm : s.X.length ≤ s.pulled + s.R

end Go.Proofs.YtddpcjgekfmhkabDoor

/- The document's filter in memory; what only reads it. -/
namespace Go.Proofs.YtddpcjgekfmhkabDoor
open Go.RowKit
set_option linter.unusedSimpArgs false
set_option linter.unusedVariables false

/-- The block of the document's filter. -/
def RFB (w : World) (fb B R W : Nat) (vx vp : Value) (pu : Nat) : Prop := w.heap[fb]? = some (.cells #[.int .i64 B, .int .i64 R, .int .i64 W, vx, vp, .int .i64 pu] 125 (0, 0))
section
variable {w : World} {fb B R W pu : Nat} {vx vp : Value}
theorem RFB.c0 (h : RFB w fb B R W vx vp pu) : w.cell? ⟨fb, 0, none⟩ = some (.int .i64 B) := by unfold RFB at h; simp [World.cell?, h]
theorem RFB.c1 (h : RFB w fb B R W vx vp pu) : w.cell? ⟨fb, 1, none⟩ = some (.int .i64 R) := by unfold RFB at h; simp [World.cell?, h]
theorem RFB.c2 (h : RFB w fb B R W vx vp pu) : w.cell? ⟨fb, 2, none⟩ = some (.int .i64 W) := by unfold RFB at h; simp [World.cell?, h]
theorem RFB.c3 (h : RFB w fb B R W vx vp pu) : w.cell? ⟨fb, 3, none⟩ = some vx := by unfold RFB at h; simp [World.cell?, h]
theorem RFB.c4 (h : RFB w fb B R W vx vp pu) : w.cell? ⟨fb, 4, none⟩ = some vp := by unfold RFB at h; simp [World.cell?, h]
theorem RFB.c5 (h : RFB w fb B R W vx vp pu) : w.cell? ⟨fb, 5, none⟩ = some (.int .i64 pu) := by unfold RFB at h; simp [World.cell?, h]
theorem RFB.fr (h : RFB w fb B R W vx vp pu) (o : Nat) : w.frozen? ⟨fb, o, none⟩ = false := by unfold RFB at h; simp [World.frozen?, h]
theorem RFB.lt (h : RFB w fb B R W vx vp pu) : fb < w.heap.size := lt_of_some h
theorem RFB.bt {w' : World} {S : Nat → Prop} (h : RFB w fb B R W vx vp pu) (k : Bt S w w') (hs : ¬ S fb) : RFB w' fb B R W vx vp pu := k.heap hs h
theorem RFB.set3 (h : RFB w fb B R W vx vp pu) (v : Value) : RFB (w.setCell ⟨fb, 3, none⟩ v) fb B R W v vp pu := by
  unfold RFB at h ⊢; rw [setCell_eq_setRow w fb 3 _ _ (0, 0) _ h]; exact setRow_heap w fb _ _ _ _ h
theorem RFB.set4 (h : RFB w fb B R W vx vp pu) (v : Value) : RFB (w.setCell ⟨fb, 4, none⟩ v) fb B R W vx v pu := by
  unfold RFB at h ⊢; rw [setCell_eq_setRow w fb 4 _ _ (0, 0) _ h]; exact setRow_heap w fb _ _ _ _ h
theorem RFB.set5 (h : RFB w fb B R W vx vp pu) (p : Nat) : RFB (w.setCell ⟨fb, 5, none⟩ (.int .i64 p)) fb B R W vx vp p := by
  unfold RFB at h ⊢; rw [setCell_eq_setRow w fb 5 _ _ (0, 0) _ h]; exact setRow_heap w fb _ _ _ _ h
end

/-- Parts as things of two cells: where they begin, and the slice of their taps. -/
def partRows (ps : List (Nat × List Int)) (tv : List Value) : List (List Value) := List.zipWith (fun p v => [.int .i64 (p.1 : Int), v]) ps tv

/-- The document's filter at fb. -/
structure RefAt (w : World) (base fb : Nat) (vx vp : Value) (tv : List Value) (s : FlS) : Prop where
  blk : RFB w fb s.B s.R s.W vx vp s.pulled
  x : Lst w base 3 1 vx (ints s.X)
  p : Lst w base 135 2 vp (partRows s.parts tv)
  len : tv.length = s.parts.length
  taps : ∀ (i : Nat) p v, s.parts[i]? = some p → tv[i]? = some v → Lst w base 3 1 v (ints p.2)
  ge : base ≤ fb
  n1 : vx.ownBlock ≠ some fb ∧ vp.ownBlock ≠ some fb
  n2 : ∀ k, vx.ownBlock = some k → vp.ownBlock ≠ some k
  n3 : ∀ v ∈ tv, ∀ k, v.ownBlock = some k → k ≠ fb ∧ vx.ownBlock ≠ some k ∧ vp.ownBlock ≠ some k
def rfoot (fb : Nat) (vx vp : Value) (tv : List Value) (k : Nat) : Prop := k = fb ∨ vx.ownBlock = some k ∨ vp.ownBlock = some k ∨ ∃ v ∈ tv, v.ownBlock = some k
section
variable {w w' : World} {base fb : Nat} {vx vp : Value} {tv : List Value} {s : FlS}
theorem RefAt.bt {S : Nat → Prop} (h : RefAt w base fb vx vp tv s) (k : Bt S w w') (hs : ∀ i, rfoot fb vx vp tv i → ¬ S i) : RefAt w' base fb vx vp tv s :=
  ⟨h.blk.bt k (hs _ (.inl rfl)), h.x.bt k (fun g hg => hs _ (.inr (.inl hg))), h.p.bt k (fun g hg => hs _ (.inr (.inr (.inl hg)))), h.len, fun i p v hp hv => (h.taps i p v hp hv).bt k (fun g hg => hs _ (.inr (.inr (.inr ⟨v, List.mem_of_getElem? hv, hg⟩)))), h.ge, h.n1, h.n2, h.n3⟩
theorem RefAt.lt (h : RefAt w base fb vx vp tv s) {k : Nat} (hk : rfoot fb vx vp tv k) : base ≤ k ∧ k < w.heap.size := by
  rcases hk with rfl | hk | hk | ⟨v, hv, hk⟩
  · exact ⟨h.ge, h.blk.lt⟩
  · exact h.x.ge hk
  · exact h.p.ge hk
  · obtain ⟨i, hi⟩ := List.getElem?_of_mem hv
    have hl : i < s.parts.length := by
      rw [← h.len]
      rcases Nat.lt_or_ge i tv.length with e | e
      · exact e
      · rw [List.getElem?_eq_none e] at hi; cases hi
    exact (h.taps i s.parts[i] v (List.getElem?_eq_getElem hl) hi).ge hk
/-- What lies where the parts lie. -/
theorem RefAt.part (h : RefAt w base fb vx vp tv s) (h0 : 0 < s.parts.length) : ∃ b o c, vp = .slice (some ⟨b, o, none⟩) s.parts.length c ∧ s.parts.length ≤ c ∧
    ∀ (i : Nat) p, s.parts[i]? = some p → ∃ a ct, w.cell? ⟨b, o + i * 2, none⟩ = some (.int .i64 (p.1 : Int)) ∧ w.cell? ⟨b, o + i * 2 + 1, none⟩ = some (.slice a p.2.length ct) ∧ p.2.length ≤ ct ∧ Src w a (ints p.2) := by
  obtain ⟨q, c, hvp, hc, hq⟩ := h.p.form
  have hlen : (partRows s.parts tv).length = s.parts.length := by simp [partRows, h.len]
  rw [hlen] at hc hvp
  obtain ⟨b, o, rfl, hcell⟩ := hq (by omega)
  refine ⟨b, o, c, hvp, hc, fun i p hp => ?_⟩
  have hl : i < s.parts.length := by
    rcases Nat.lt_or_ge i s.parts.length with e | e
    · exact e
    · rw [List.getElem?_eq_none e] at hp; cases hp
  have hv : ∃ v, tv[i]? = some v := ⟨tv[i]'(by rw [h.len]; exact hl), List.getElem?_eq_getElem _⟩
  obtain ⟨v, hv⟩ := hv
  obtain ⟨a, ct, rfl, hct, hs⟩ := (h.taps i p v hp hv).form
  have hrow : (partRows s.parts tv)[i]? = some [.int .i64 (p.1 : Int), .slice a (ints p.2).length ct] := by
    unfold partRows; rw [List.getElem?_zipWith, hp, hv]
  have hflat : ∀ j, j < 2 → (partRows s.parts tv).flatten[i * 2 + j]? = [Value.int .i64 (p.1 : Int), .slice a (ints p.2).length ct][j]? := by
    intro j hj
    have e1 := h.p.1.flat_drop (C := partRows s.parts tv) i
    have e2 : (partRows s.parts tv).drop i = [.int .i64 (p.1 : Int), .slice a (ints p.2).length ct] :: (partRows s.parts tv).drop (i + 1) := by
      rw [List.drop_eq_getElem_cons (by omega)]
      rw [List.getElem?_eq_getElem (by omega)] at hrow
      rw [Option.some.inj hrow]
    have e3 := congrArg (fun l => l[j]?) e1
    simp only [List.getElem?_drop, e2, List.flatten_cons] at e3
    rw [e3, List.getElem?_append_left (by simpa using hj)]
  rw [ints_len] at hct hflat
  refine ⟨a, ct, ?_, ?_, hct, hs⟩
  · have := hcell (i * 2) _ (hflat 0 (by omega)); simpa using this
  · have := hcell (i * 2 + 1) _ (hflat 1 (by omega))
    rw [← Nat.add_assoc] at this
    exact this
end
end Go.Proofs.YtddpcjgekfmhkabDoor

/- What only reads the document's filter, walked. -/
namespace Go.Proofs.YtddpcjgekfmhkabDoor
open Go.RowKit
set_option linter.unusedSimpArgs false
set_option linter.unusedVariables false

section
variable {base fb : Nat} {vx vp : Value} {tv : List Value} {s : FlS} {w : World}
theorem room_any (h : RefAt w base fb vx vp tv s) (hl : s.X.length ≤ 1099511627776) (h1 : s.pulled ≤ s.X.length) (h2 : s.X.length ≤ s.pulled + s.R) (h3 : s.R ≤ 65536) :
    Calls Tryd.prog 86 #[.pointer (some ⟨fb, 0, none⟩)] w fun e w' => e = .returned (.int .i64 (s.room : Nat)) ∧ ∃ m : Nat, w' = w.drewN m := by
  have c1 := h.blk.c1
  have c3 := h.blk.c3
  have c5 := h.blk.c5
  obtain ⟨a, c, rfl, _, _⟩ := h.x.form
  rw [ints_len] at c3
  clear h
  have e : ((s.room : Nat) : Int) = (s.R : Int) - ((s.X.length : Int) - (s.pulled : Int)) := by unfold FlS.room; omega
  rw [e]; clear e
  generalize s.X.length = n at *
  generalize s.R = R at *
  generalize s.pulled = p at *
  go_enter Tryd.func86, Tryd.ntmps86
  go_wp2
  go_quiet (fail)
  go_wp2
  go_ret
  exact ⟨by go_num, _, rfl⟩

theorem whole_ref (h : RefAt w base fb vx vp tv s) (hl : s.X.length ≤ 1099511627776) (h0 : 0 < s.B) (h1 : s.B ≤ 256) :
    Calls Tryd.prog 88 #[.pointer (some ⟨fb, 0, none⟩)] w fun e w' => e = .returned (.int .i64 (s.whole : Nat)) ∧ ∃ m : Nat, w' = w.drewN m := by
  have c0 := h.blk.c0
  have c3 := h.blk.c3
  obtain ⟨a, c, rfl, _, _⟩ := h.x.form
  rw [ints_len] at c3
  clear h
  unfold FlS.whole
  generalize s.X.length = n at *
  generalize s.B = B at *
  have hle : n / B * B ≤ n := Nat.div_mul_le_self n B
  obtain ⟨q, hq⟩ : ∃ q : Nat, n / B = q := ⟨_, rfl⟩
  rw [hq] at hle ⊢
  have d1 : (n : Int).tdiv (B : Int) = (q : Int) := by rw [Int.tdiv_eq_ediv_of_nonneg (by omega), ← hq]; rfl
  have d2 : (n : Int) / (B : Int) = (q : Int) := by rw [← hq]; rfl
  have hB : ¬ ((B : Int) = 0) := by omega
  have hq2 : q ≤ n := by rw [← hq]; exact Nat.div_le_self _ _
  obtain ⟨M, hM⟩ : ∃ M : Nat, q * B = M := ⟨_, rfl⟩
  have m1 : (q : Int) * (B : Int) = (M : Int) := by rw [← hM]; push_cast; rfl
  have w1 : IntKind.i64.wrap ((q : Int) * (B : Int)) = (M : Int) := by rw [m1, IntKind.wrap_i64]; omega
  have w2 : IntKind.i64.wrap (q : Int) = (q : Int) := by rw [IntKind.wrap_i64]; omega
  rw [hM] at hle ⊢
  clear hq hM
  go_enter Tryd.func88, Tryd.ntmps88
  go_wp2
  go_quiet (fail)
  go_wp2
  go_ret
  refine ⟨?_, _, rfl⟩
  first
  | go_num
  | simp [d1, d2, w1, w2, m1]
end
end Go.Proofs.YtddpcjgekfmhkabDoor

/- The document's filter: pending, Y. -/
namespace Go.Proofs.YtddpcjgekfmhkabDoor
open Go.RowKit
set_option linter.unusedSimpArgs false
set_option linter.unusedVariables false

theorem FlS.from_eq {s : FlS} (h0 : 0 < s.parts.length) : ∃ l, s.parts[s.parts.length - 1]? = some (s.from, l) := by
  unfold FlS.from
  rw [List.getLast?_eq_getElem?]
  rw [List.getElem?_eq_getElem (by omega)]
  exact ⟨_, rfl⟩

section
variable {base fb : Nat} {vx vp : Value} {tv : List Value} {s : FlS} {w : World}
theorem pending_ref (h : RefAt w base fb vx vp tv s) (hl : s.X.length ≤ 1099511627776) (h0 : 0 < s.parts.length) (h1 : s.parts.length ≤ 1099511627776) (h2 : s.from ≤ 2199023255552) :
    Calls Tryd.prog 89 #[.pointer (some ⟨fb, 0, none⟩)] w fun e w' => e = .returned (.int .i64 s.pending) ∧ ∃ m : Nat, w' = w.drewN m := by
  have c4 := h.blk.c4
  have c3 := h.blk.c3
  obtain ⟨b, o, c, hvp, hc, hp⟩ := h.part h0
  obtain ⟨l, hlast⟩ := FlS.from_eq h0
  obtain ⟨at_, ct, cf, _, _, _⟩ := hp _ _ hlast
  obtain ⟨a, cx, hvx, _, _⟩ := h.x.form
  rw [hvx, ints_len] at c3
  rw [hvp] at c4
  unfold FlS.pending
  clear h hp hlast hvx hvp
  generalize s.X.length = n at *
  generalize s.from = f at *
  obtain ⟨k, hk⟩ : ∃ k, s.parts.length = k + 1 := ⟨s.parts.length - 1, by omega⟩
  rw [hk] at c4 cf hc h1
  simp only [Nat.add_sub_cancel] at cf
  clear h0
  have i0 : ((k : Int) + 1 - 1) = (k : Int) := by omega
  by_cases hf : n < f
  · rw [if_pos hf]
    have hf1 : (n : Int) < (f : Int) := by omega
    go_enter Tryd.func89, Tryd.ntmps89
    go_wp2
    go_quiet (fail)
    go_wp2
    go_ret
    exact ⟨by go_num, _, rfl⟩
  · rw [if_neg hf]
    have hf1 : ¬ (n : Int) < (f : Int) := by omega
    go_enter Tryd.func89, Tryd.ntmps89
    go_wp2
    go_quiet (fail)
    go_wp2
    go_ret
    exact ⟨by go_num, _, rfl⟩
end
end Go.Proofs.YtddpcjgekfmhkabDoor

/- The document's filter: Y. -/
namespace Go.Proofs.YtddpcjgekfmhkabDoor
open Go.RowKit
set_option linter.unusedSimpArgs false
set_option linter.unusedVariables false

theorem at0_some {l : List Int} {i : Nat} (h : i < l.length) : l[i]? = some (at0 l i) := by
  unfold at0
  rw [List.getD_eq_getElem?_getD, List.getElem?_eq_getElem h]; rfl

section
variable {base fb : Nat} {vx vp : Value} {tv : List Value} {s : FlS} {w : World}
set_option maxHeartbeats 1000000 in
set_option maxRecDepth 20000 in
theorem y_ref (h : RefAt w base fb vx vp tv s) (hl : s.X.length ≤ 1099511627776) (h1 : s.parts.length ≤ 1099511627776) (h0 : ∃ l ps, s.parts = (0, l) :: ps) (hf : ∀ p ∈ s.parts, p.1 ≤ 2199023255552) (ht : ∀ p ∈ s.parts, okTaps p.2) (hx : ∀ v ∈ s.X, okSample v) (n : Nat) (hn : n < s.X.length) :
    Calls Tryd.prog 90 #[.pointer (some ⟨fb, 0, none⟩), .int .i64 n] w fun e w' => e = .returned (.int .i64 (s.y n)) ∧ ∃ m : Nat, w' = w.drewN m := by
  obtain ⟨l0, ps0, hps⟩ := h0
  have hpl : 0 < s.parts.length := by rw [hps]; simp
  have hfst : s.parts[0]? = some (0, l0) := by rw [hps]; rfl
  have c4 := h.blk.c4
  have c3 := h.blk.c3
  obtain ⟨b, o, c, hvp, hc, hp⟩ := h.part hpl
  obtain ⟨a, cx, hvx, hcx, hsx⟩ := h.x.form
  rw [hvx, ints_len] at c3
  rw [hvp] at c4
  rw [ints_len] at hcx
  obtain ⟨bx, ox, rfl, _⟩ := hsx (by rw [ints_len]; omega)
  have HX : Hid (∀ i, i < s.X.length → w.cell? ⟨bx, ox + i, none⟩ = some (.int .i64 (at0 s.X i)) ∧ okSample (at0 s.X i)) := by
    intro i hi
    obtain ⟨b', o', e', h'⟩ := hsx.int (at0_some hi)
    simp at e'
    obtain ⟨rfl, rfl⟩ := e'
    exact ⟨h', hx _ (List.mem_of_getElem? (at0_some hi))⟩
  have HP : Hid (∀ (i : Nat) p, s.parts[i]? = some p → p.1 ≤ 2199023255552 ∧ ∃ a ct, w.cell? ⟨b, o + i * 2, none⟩ = some (.int .i64 (p.1 : Int)) ∧ w.cell? ⟨b, o + i * 2 + 1, none⟩ = some (.slice a p.2.length ct) ∧ p.2.length ≤ ct ∧ Src w a (ints p.2) ∧ okTaps p.2) := by
    intro i p hi
    obtain ⟨a, ct, q1, q2, q3, q4⟩ := hp i p hi
    exact ⟨hf p (List.mem_of_getElem? hi), a, ct, q1, q2, q3, q4, ht p (List.mem_of_getElem? hi)⟩
  have HF : Hid (s.parts[0]? = some (0, l0)) := hfst
  have HY : Hid (∀ (k : Nat) p, s.parts[k]? = some p → p.1 ≤ n → (∀ j q, k < j → s.parts[j]? = some q → n < q.1) → s.y n = flt p.2.length (at0 p.2) (at0 s.X) n) := by
    intro k p hk h1 h2
    unfold FlS.y
    rw [tapsAt_is hk h1 h2]
  obtain ⟨z, hz⟩ : ∃ z, s.y n = z := ⟨_, rfl⟩
  rw [hz] at HY ⊢
  clear h hp hsx hvx hvp hfst hf ht hx hps hz
  obtain ⟨L, hL⟩ : ∃ L, s.parts.length = L := ⟨_, rfl⟩
  have HL : Hid (s.parts.length = L) := hL
  rw [hL] at c4 hc h1 hpl
  obtain ⟨N, hN⟩ : ∃ N, s.X.length = N := ⟨_, rfl⟩
  rw [hN] at c3 hcx hn hl HX
  clear hL hN
  have hn1 : (n : Int) < (N : Int) := by omega
  go_enter Tryd.func90, Tryd.ntmps90
  go_wp2
  go_loop [5] (fun tk => ∃ k : Nat, tk = .int .i64 k ∧ k < L ∧ Hid (∀ (j : Nat) q, k < j → s.parts[j]? = some q → n < q.1)) (fun tk => (intOf tk).toNat)
  case atStart =>
    refine ⟨L - 1, by go_num, by omega, fun j q hj hq => ?_⟩
    rw [List.getElem?_eq_none (by rw [HL.out]; omega)] at hq; cases hq
  case round =>
    obtain ⟨k, rfl, hk, HK⟩ := hrel
    have hk1 : (k : Int) < (L : Int) := by omega
    obtain ⟨p, hp⟩ : ∃ p, s.parts[k]? = some p := ⟨_, List.getElem?_eq_getElem (by rw [HL.out]; exact hk)⟩
    have HPK : Hid (s.parts[k]? = some p) := hp
    obtain ⟨hp1, ap, ct, q1, q2, q3, q4, q5⟩ := HP.out k p hp
    clear hp
    by_cases hlt : n < p.1
    · have hlt1 : (n : Int) < (p.1 : Int) := by omega
      have hk0 : 1 ≤ k := by
        rcases Nat.eq_zero_or_pos k with e | e
        · subst e
          have := HPK.out.symm.trans HF.out
          simp at this
          subst this
          omega
        · exact e
      clear q2 q3 q4 q5
      go_wp2
      go_round
      case rel =>
        refine ⟨k - 1, by go_num, by omega, fun j q hj hq => ?_⟩
        by_cases e : j = k
        · subst e
          have := HPK.out.symm.trans hq
          simp at this
          subst this
          exact hlt
        · exact HK.out j q (by omega) hq
      case measure => simp [intOf]; omega
    · have hlt1 : ¬ (n : Int) < (p.1 : Int) := by omega
      have HZ : Hid (z = flt p.2.length (at0 p.2) (at0 s.X) n) := HY.out k p HPK.out (by omega) HK.out
      obtain ⟨T, hT⟩ : ∃ T, p.2.length = T := ⟨_, rfl⟩
      have HT : Hid (∀ i, i < T → ∃ bt ot, ap = some ⟨bt, ot, none⟩ ∧ w.cell? ⟨bt, ot + i, none⟩ = some (.int .i64 (at0 p.2 i))) := fun i hi => q4.int (at0_some (by omega))
      have HOK : Hid (norm (at0 p.2) T ≤ 2147483648) := by rw [← hT]; exact q5.2.2
      have hT2 : T ≤ 1024 := by rw [← hT]; exact q5.2.1
      rw [hT] at q2 q3
      have HZ2 : Hid (z = flt T (at0 p.2) (at0 s.X) n) := by rw [← hT]; exact HZ.out
      clear q4 q5 HZ HPK HK hT
      go_wp2
      go_loopw [7, 8] (fun ts ti wr => ∃ (i : Nat) (S : Int), ts = .int .i64 S ∧ ti = .int .i64 i ∧ i ≤ T ∧ i ≤ n + 1 ∧ Hid (S = flt i (at0 p.2) (at0 s.X) n) ∧ ∃ m : Nat, wr = w.drewN m) (fun _ ti _ => T - (intOf ti).toNat)
      case atStart => exact ⟨0, 0, rfl, rfl, Nat.zero_le _, by omega, rfl, 0, rfl⟩
      case round =>
        obtain ⟨i, S, rfl, rfl, hi, hi2, HS, m, rfl⟩ := hrel
        by_cases hiT : i < T
        · have hiT1 : (i : Int) < (T : Int) := by omega
          by_cases hin : i ≤ n
          · have hin1 : (i : Int) ≤ (n : Int) := by omega
            obtain ⟨bt, ot, rfl, ct0⟩ := HT.out i hiT
            obtain ⟨cx0, ox0⟩ := HX.out (n - i) (by omega)
            have bS := flt_62 (L := i) (h := at0 p.2) (z := at0 s.X) (n := n) (Int.le_trans (norm_mono _ i T hi) HOK.out) (fun j hj => (HX.out j (by omega)).2)
            have bS2 := flt_62 (L := i + 1) (h := at0 p.2) (z := at0 s.X) (n := n) (Int.le_trans (norm_mono _ (i + 1) T (by omega)) HOK.out) (fun j hj => (HX.out j (by omega)).2)
            have bT : (if at0 p.2 i < 0 then -at0 p.2 i else at0 p.2 i) ≤ 2147483648 := by
              have q1 := norm_mono (at0 p.2) (i + 1) T (by omega)
              have q2 := norm_nn (at0 p.2) i
              have q3 := HOK.out
              rw [norm_succ] at q1
              omega
            have bM := tap_62 bT ox0.1 ox0.2
            rw [← HS.out] at bS
            rw [flt_succ, if_pos hin, ← HS.out] at bS2
            obtain ⟨u, hu⟩ : ∃ u, at0 p.2 i = u := ⟨_, rfl⟩
            obtain ⟨v, hv⟩ : ∃ v, at0 s.X (n - i) = v := ⟨_, rfl⟩
            have HUV : Hid (at0 p.2 i = u ∧ at0 s.X (n - i) = v) := ⟨hu, hv⟩
            rw [hu] at ct0 bM bS2
            rw [hv] at cx0 bM bS2
            obtain ⟨M, hM⟩ : ∃ M, u * v = M := ⟨_, rfl⟩
            rw [hM] at bM bS2
            have HM : Hid (u * v = M) := hM
            have wm : IntKind.i64.wrap (u * v) = M := by rw [hM, IntKind.wrap_i64]; omega
            have wa : IntKind.i64.wrap (S + M) = S + M := by rw [IntKind.wrap_i64]; omega
            have cx1 : w.cell? ⟨bx, ox + (n - i), none⟩ = some (.int .i64 v) := cx0
            have d0 : (0 : Int) ≤ (n : Int) - (i : Int) := by omega
            have d1 : (n : Int) - (i : Int) < (N : Int) := by omega
            have d2 : ((n : Int) - (i : Int)).toNat = n - i := by omega
            clear hu hv hM ox0 bT cx0
            go_wp2
            go_quiet (fail)
            go_wp2
            go_roundw
            case rel =>
              refine ⟨i + 1, S + M, by first | rfl | simp [wm, wa], by go_num, by omega, by omega, ?_, _, rfl⟩
              show S + M = _
              rw [flt_succ, if_pos hin, ← HS.out, HUV.out.1, HUV.out.2, HM.out]
            case measure => simp [intOf]; omega
          · have hin1 : ¬ (i : Int) ≤ (n : Int) := by omega
            go_wp2
            go_ret
            refine ⟨?_, _, rfl⟩
            rw [HZ2.out, flt_end _ _ _ i (by omega) T hi, HS.out]; rfl
        · obtain rfl : i = T := by omega
          go_wp2
          go_ret
          refine ⟨?_, _, rfl⟩
          rw [HZ2.out, HS.out]; rfl
end
end Go.Proofs.YtddpcjgekfmhkabDoor

/- The document's taps and powers. -/
namespace Go.Proofs.YtddpcjgekfmhkabDoor
open Go.RowKit
set_option linter.unusedSimpArgs false
set_option linter.unusedVariables false

/-- A bool that tells whether something holds. -/
def BoolIs (P : Prop) (e : Ending) : Prop := ∃ ok : Bool, e = .returned (.bool ok) ∧ (ok = true ↔ P)

theorem norm_one {h : Nat → Int} {L i : Nat} (hi : i < L) : (if h i < 0 then -h i else h i) ≤ norm h L := by
  have q1 := norm_mono h (i + 1) L (by omega)
  have q2 := norm_nn h i
  rw [norm_succ] at q1
  omega

set_option maxHeartbeats 1000000 in
set_option maxRecDepth 20000 in
theorem taps_ref (a : Option Addr) (c : Nat) (l : List Int) (w : World) (hs : Src w a (ints l)) (hr : Rng l) (hl : l.length ≤ 1099511627776) :
    Calls Tryd.prog 83 #[.slice a l.length c] w fun e w' => BoolIs (okTaps l) e ∧ w' = w := by
  have HS : Hid (∀ i, i < l.length → (∃ b o, a = some ⟨b, o, none⟩ ∧ w.cell? ⟨b, o + i, none⟩ = some (.int .i64 (at0 l i))) ∧ -9223372036854775808 ≤ at0 l i ∧ at0 l i ≤ 9223372036854775807) := fun i hi => ⟨hs.int (at0_some hi), hr.at (at0_some hi)⟩
  obtain ⟨N, hN⟩ : ∃ N, l.length = N := ⟨_, rfl⟩
  have HN : Hid (l.length = N) := hN
  rw [hN] at HS hl ⊢
  clear hs hr hN
  go_enter Tryd.func83, Tryd.ntmps83
  go_wp2
  go_loop [3, 4] (fun ts ti => ∃ (i : Nat) (S : Int), ts = .int .i64 S ∧ ti = .int .i64 i ∧ i ≤ N ∧ i ≤ 1024 ∧ 0 ≤ S ∧ S ≤ i * 2147483648 ∧ Hid (S = norm (at0 l) i)) (fun _ ti => N - (intOf ti).toNat)
  case atStart => exact ⟨0, 0, rfl, rfl, Nat.zero_le _, by omega, by omega, by omega, rfl⟩
  case round =>
    obtain ⟨i, S, rfl, rfl, hi, hi2, hS0, hS1, HV⟩ := hrel
    by_cases hiN : i < N
    · have hiN1 : (i : Int) < (N : Int) := by omega
      by_cases hik : i < 1024
      · have hik1 : (i : Int) < 1024 := by omega
        obtain ⟨⟨b, o, rfl, ci⟩, r0, r1⟩ := HS.out i hiN
        obtain ⟨x, hx⟩ : ∃ x, at0 l i = x := ⟨_, rfl⟩
        have HX : Hid (at0 l i = x) := hx
        rw [hx] at ci r0 r1
        clear hx
        by_cases hneg : x < 0
        · by_cases hmin : x = -9223372036854775808
          · subst hmin
            have wz : wrap64 9223372036854775808 = -9223372036854775808 := by unfold wrap64; decide
            go_wp2
            go_ret
            refine ⟨⟨_, rfl, ?_⟩, rfl⟩
            simp only [Bool.false_eq_true, false_iff]
            intro h
            have := norm_one (h := at0 l) (L := l.length) (i := i) (by rw [HN.out]; exact hiN)
            rw [HX.out] at this
            have h3 := h.2.2
            unfold lnorm at h3
            simp at this
            omega
          · by_cases hbig : 2147483648 < -x
            · go_wp2
              go_ret
              refine ⟨⟨_, rfl, ?_⟩, rfl⟩
              simp only [Bool.false_eq_true, false_iff]
              intro h
              have := norm_one (h := at0 l) (L := l.length) (i := i) (by rw [HN.out]; exact hiN)
              rw [HX.out, if_pos hneg] at this
              have h3 := h.2.2
              unfold lnorm at h3
              omega
            · go_wp2
              go_round
              case rel =>
                refine ⟨i + 1, S + -x, by go_num, by go_num, by omega, by omega, by omega, by push_cast; omega, ?_⟩
                show S + -x = _
                rw [norm_succ, HX.out, if_pos hneg, HV.out]
              case measure => simp [intOf]; omega
        · by_cases hbig : 2147483648 < x
          · go_wp2
            go_ret
            refine ⟨⟨_, rfl, ?_⟩, rfl⟩
            simp only [Bool.false_eq_true, false_iff]
            intro h
            have := norm_one (h := at0 l) (L := l.length) (i := i) (by rw [HN.out]; exact hiN)
            rw [HX.out, if_neg (by omega)] at this
            have h3 := h.2.2
            unfold lnorm at h3
            omega
          · go_wp2
            go_round
            case rel =>
              refine ⟨i + 1, S + x, by go_num, by go_num, by omega, by omega, by omega, by push_cast; omega, ?_⟩
              show S + x = _
              rw [norm_succ, HX.out, if_neg (by omega), HV.out]
            case measure => simp [intOf]; omega
      · have hik1 : ¬ (i : Int) < 1024 := by omega
        have hN1 : (1 : Int) ≤ (N : Int) := by omega
        have hN2 : ¬ (N : Int) ≤ 1024 := by omega
        go_wp2
        go_ret
        refine ⟨⟨_, rfl, ?_⟩, rfl⟩
        simp only [Bool.false_eq_true, false_iff]
        intro h
        have := h.2.1
        rw [HN.out] at this
        omega
    · obtain rfl : i = N := by omega
      by_cases h0 : i = 0
      · subst h0
        go_wp2
        go_ret
        refine ⟨⟨_, rfl, ?_⟩, rfl⟩
        simp only [Bool.false_eq_true, false_iff]
        intro h
        have := h.1
        rw [HN.out] at this
        omega
      · have hN1 : (1 : Int) ≤ (i : Int) := by omega
        have hN2 : (i : Int) ≤ 1024 := by omega
        go_wp2
        go_ret
        refine ⟨⟨_, rfl, ?_⟩, rfl⟩
        simp only [decide_eq_true_eq]
        unfold okTaps lnorm
        rw [HN.out, ← HV.out]
        omega

def pows : List Int := [1, 2, 4, 8, 16, 32, 64, 128, 256]
abbrev okBlock (B : Int) : Prop := B = 16 ∨ B = 32 ∨ B = 64 ∨ B = 128 ∨ B = 256
set_option maxRecDepth 20000 in
theorem power_ref (B : Int) (w : World) :
    Calls Tryd.prog 82 #[.int .i64 B, .int .i64 16, .int .i64 256] w fun e w' => BoolIs (okBlock B) e ∧ w' = w := by
  go_enter Tryd.func82, Tryd.ntmps82
  go_wp2
  go_loop [7] (fun t => ∃ p : Int, t = .int .i64 p ∧ (p = 1 ∨ p = 2 ∨ p = 4 ∨ p = 8 ∨ p = 16 ∨ p = 32 ∨ p = 64 ∨ p = 128 ∨ p = 256 ∨ p = 512) ∧ Hid (∀ q ∈ pows, q < p → B ≠ q)) (fun t => 1024 - (intOf t).toNat)
  case atStart => exact ⟨1, rfl, .inl rfl, fun q hq hlt => by simp [pows] at hq; omega⟩
  case round =>
    obtain ⟨p, rfl, hp, HB⟩ := hrel
    by_cases hlast : p = 512
    · subst hlast
      go_wp2
      go_ret
      refine ⟨⟨_, rfl, ?_⟩, rfl⟩
      simp only [Bool.false_eq_true, false_iff]
      intro h
      have := HB.out B (by unfold okBlock at h; simp [pows]; omega) (by unfold okBlock at h; omega)
      exact this rfl
    · have hp1 : p ≤ 256 := by omega
      have hp0 : 1 ≤ p := by omega
      by_cases hB : p = B
      · subst hB
        have HP : Hid (p = 1 ∨ p = 2 ∨ p = 4 ∨ p = 8 ∨ p = 16 ∨ p = 32 ∨ p = 64 ∨ p = 128 ∨ p = 256 ∨ p = 512) := hp
        clear hp
        go_wp2
        go_ret
        refine ⟨⟨_, rfl, ?_⟩, rfl⟩
        have hp := HP.out
        simp only [decide_eq_true_eq]
        unfold okBlock
        omega
      · have HP : Hid (p = 1 ∨ p = 2 ∨ p = 4 ∨ p = 8 ∨ p = 16 ∨ p = 32 ∨ p = 64 ∨ p = 128 ∨ p = 256 ∨ p = 512) := hp
        clear hp
        go_wp2
        go_round
        case rel =>
          have hp := HP.out
          refine ⟨2 * p, by go_num, by omega, fun q hq hlt => ?_⟩
          by_cases e : q < p
          · exact HB.out q hq e
          · simp [pows] at hq
            omega
        case measure => simp [intOf]; omega
end Go.Proofs.YtddpcjgekfmhkabDoor
