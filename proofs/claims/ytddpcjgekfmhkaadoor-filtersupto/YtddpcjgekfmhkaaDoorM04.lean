/- Texts joined: Fb Fc Fd Fe Ff Fg. -/
import Derived.Test.YtddpcjgekfmhkaaDoorM03
import Derived.Test.YtddpcjgekfmhkaaDoorProg

/- The document's filter in memory; what only reads it. -/
namespace Go.Proofs.YtddpcjgekfmhkaaDoor
open Go.RowKit
set_option linter.unusedSimpArgs false
set_option linter.unusedVariables false

/-- The block of the document's filter. -/
def RFB (w : World) (fb B R W : Nat) (vx vp : Value) (pu : Nat) : Prop := w.heap[fb]? = some (.cells #[.int .i64 B, .int .i64 R, .int .i64 W, vx, vp, .int .i64 pu] 128 (0, 0))
section
variable {w : World} {fb B R W pu : Nat} {vx vp : Value}
theorem RFB.c0 (h : RFB w fb B R W vx vp pu) : w.cell? ⟨fb, 0, none⟩ = some (.int .i64 B) := by unfold RFB at h; simp [World.cell?, h]
theorem RFB.c1 (h : RFB w fb B R W vx vp pu) : w.cell? ⟨fb, 1, none⟩ = some (.int .i64 R) := by unfold RFB at h; simp [World.cell?, h]
theorem RFB.c2 (h : RFB w fb B R W vx vp pu) : w.cell? ⟨fb, 2, none⟩ = some (.int .i64 W) := by unfold RFB at h; simp [World.cell?, h]
theorem RFB.c3 (h : RFB w fb B R W vx vp pu) : w.cell? ⟨fb, 3, none⟩ = some vx := by unfold RFB at h; simp [World.cell?, h]
theorem RFB.c4 (h : RFB w fb B R W vx vp pu) : w.cell? ⟨fb, 4, none⟩ = some vp := by unfold RFB at h; simp [World.cell?, h]
theorem RFB.c5 (h : RFB w fb B R W vx vp pu) : w.cell? ⟨fb, 5, none⟩ = some (.int .i64 pu) := by unfold RFB at h; simp [World.cell?, h]
theorem RFB.fr (h : RFB w fb B R W vx vp pu) (o : Nat) : w.frozen? ⟨fb, o, none⟩ = false := by unfold RFB at h; simp [World.frozen?, h]
theorem RFB.lt (h : RFB w fb B R W vx vp pu) : fb < w.heap.size := lt_of_some h
theorem RFB.bt {w' : World} {S : Nat → Prop} (h : RFB w fb B R W vx vp pu) (k : Bt S w w') (hs : ¬ S fb) : RFB w' fb B R W vx vp pu := k.heap hs h
theorem RFB.set3 (h : RFB w fb B R W vx vp pu) (v : Value) : RFB (w.setCell ⟨fb, 3, none⟩ v) fb B R W v vp pu := by
  unfold RFB at h ⊢; rw [setCell_eq_setRow w fb 3 _ _ (0, 0) _ h]; exact setRow_heap w fb _ _ _ _ h
theorem RFB.set4 (h : RFB w fb B R W vx vp pu) (v : Value) : RFB (w.setCell ⟨fb, 4, none⟩ v) fb B R W vx v pu := by
  unfold RFB at h ⊢; rw [setCell_eq_setRow w fb 4 _ _ (0, 0) _ h]; exact setRow_heap w fb _ _ _ _ h
theorem RFB.set5 (h : RFB w fb B R W vx vp pu) (p : Nat) : RFB (w.setCell ⟨fb, 5, none⟩ (.int .i64 p)) fb B R W vx vp p := by
  unfold RFB at h ⊢; rw [setCell_eq_setRow w fb 5 _ _ (0, 0) _ h]; exact setRow_heap w fb _ _ _ _ h
end

/-- Parts as things of two cells: where they begin, and the slice of their taps. -/
def partRows (ps : List (Nat × List Int)) (tv : List Value) : List (List Value) := List.zipWith (fun p v => [.int .i64 (p.1 : Int), v]) ps tv

/-- The document's filter at fb. -/
structure RefAt (w : World) (base fb : Nat) (vx vp : Value) (tv : List Value) (s : FS) : Prop where
  blk : RFB w fb s.B s.R s.W vx vp s.pulled
  x : Lst w base 3 1 vx (ints s.X)
  p : Lst w base 144 2 vp (partRows s.parts tv)
  len : tv.length = s.parts.length
  taps : ∀ (i : Nat) p v, s.parts[i]? = some p → tv[i]? = some v → Lst w base 3 1 v (ints p.2)
  ge : base ≤ fb
  n1 : vx.ownBlock ≠ some fb ∧ vp.ownBlock ≠ some fb
  n2 : ∀ k, vx.ownBlock = some k → vp.ownBlock ≠ some k
  n3 : ∀ v ∈ tv, ∀ k, v.ownBlock = some k → k ≠ fb ∧ vx.ownBlock ≠ some k ∧ vp.ownBlock ≠ some k
def rfoot (fb : Nat) (vx vp : Value) (tv : List Value) (k : Nat) : Prop := k = fb ∨ vx.ownBlock = some k ∨ vp.ownBlock = some k ∨ ∃ v ∈ tv, v.ownBlock = some k
section
variable {w w' : World} {base fb : Nat} {vx vp : Value} {tv : List Value} {s : FS}
theorem RefAt.bt {S : Nat → Prop} (h : RefAt w base fb vx vp tv s) (k : Bt S w w') (hs : ∀ i, rfoot fb vx vp tv i → ¬ S i) : RefAt w' base fb vx vp tv s :=
  ⟨h.blk.bt k (hs _ (.inl rfl)), h.x.bt k (fun g hg => hs _ (.inr (.inl hg))), h.p.bt k (fun g hg => hs _ (.inr (.inr (.inl hg)))), h.len, fun i p v hp hv => (h.taps i p v hp hv).bt k (fun g hg => hs _ (.inr (.inr (.inr ⟨v, List.mem_of_getElem? hv, hg⟩)))), h.ge, h.n1, h.n2, h.n3⟩
theorem RefAt.lt (h : RefAt w base fb vx vp tv s) {k : Nat} (hk : rfoot fb vx vp tv k) : base ≤ k ∧ k < w.heap.size := by
  rcases hk with rfl | hk | hk | ⟨v, hv, hk⟩
  · exact ⟨h.ge, h.blk.lt⟩
  · exact h.x.ge hk
  · exact h.p.ge hk
  · obtain ⟨i, hi⟩ := List.getElem?_of_mem hv
    have hl : i < s.parts.length := by
      rw [← h.len]
      rcases Nat.lt_or_ge i tv.length with e | e
      · exact e
      · rw [List.getElem?_eq_none e] at hi; cases hi
    exact (h.taps i s.parts[i] v (List.getElem?_eq_getElem hl) hi).ge hk
/-- What lies where the parts lie. -/
theorem RefAt.part (h : RefAt w base fb vx vp tv s) (h0 : 0 < s.parts.length) : ∃ b o c, vp = .slice (some ⟨b, o, none⟩) s.parts.length c ∧ s.parts.length ≤ c ∧
    ∀ (i : Nat) p, s.parts[i]? = some p → ∃ a ct, w.cell? ⟨b, o + i * 2, none⟩ = some (.int .i64 (p.1 : Int)) ∧ w.cell? ⟨b, o + i * 2 + 1, none⟩ = some (.slice a p.2.length ct) ∧ p.2.length ≤ ct ∧ Src w a (ints p.2) := by
  obtain ⟨q, c, hvp, hc, hq⟩ := h.p.form
  have hlen : (partRows s.parts tv).length = s.parts.length := by simp [partRows, h.len]
  rw [hlen] at hc hvp
  obtain ⟨b, o, rfl, hcell⟩ := hq (by omega)
  refine ⟨b, o, c, hvp, hc, fun i p hp => ?_⟩
  have hl : i < s.parts.length := by
    rcases Nat.lt_or_ge i s.parts.length with e | e
    · exact e
    · rw [List.getElem?_eq_none e] at hp; cases hp
  have hv : ∃ v, tv[i]? = some v := ⟨tv[i]'(by rw [h.len]; exact hl), List.getElem?_eq_getElem _⟩
  obtain ⟨v, hv⟩ := hv
  obtain ⟨a, ct, rfl, hct, hs⟩ := (h.taps i p v hp hv).form
  have hrow : (partRows s.parts tv)[i]? = some [.int .i64 (p.1 : Int), .slice a (ints p.2).length ct] := by
    unfold partRows; rw [List.getElem?_zipWith, hp, hv]
  have hflat : ∀ j, j < 2 → (partRows s.parts tv).flatten[i * 2 + j]? = [Value.int .i64 (p.1 : Int), .slice a (ints p.2).length ct][j]? := by
    intro j hj
    have e1 := h.p.1.flat_drop (C := partRows s.parts tv) i
    have e2 : (partRows s.parts tv).drop i = [.int .i64 (p.1 : Int), .slice a (ints p.2).length ct] :: (partRows s.parts tv).drop (i + 1) := by
      rw [List.drop_eq_getElem_cons (by omega)]
      rw [List.getElem?_eq_getElem (by omega)] at hrow
      rw [Option.some.inj hrow]
    have e3 := congrArg (fun l => l[j]?) e1
    simp only [List.getElem?_drop, e2, List.flatten_cons] at e3
    rw [e3, List.getElem?_append_left (by simpa using hj)]
  rw [ints_len] at hct hflat
  refine ⟨a, ct, ?_, ?_, hct, hs⟩
  · have := hcell (i * 2) _ (hflat 0 (by omega)); simpa using this
  · have := hcell (i * 2 + 1) _ (hflat 1 (by omega))
    rw [← Nat.add_assoc] at this
    exact this
end
end Go.Proofs.YtddpcjgekfmhkaaDoor

/- What only reads the document's filter, walked. -/
namespace Go.Proofs.YtddpcjgekfmhkaaDoor
open Go.RowKit
set_option linter.unusedSimpArgs false
set_option linter.unusedVariables false

section
variable {base fb : Nat} {vx vp : Value} {tv : List Value} {s : FS} {w : World}
theorem room_any (h : RefAt w base fb vx vp tv s) (hl : s.X.length ≤ 1099511627776) (h1 : s.pulled ≤ s.X.length) (h2 : s.X.length ≤ s.pulled + s.R) (h3 : s.R ≤ 65536) :
    Calls Tryd.prog 99 #[.pointer (some ⟨fb, 0, none⟩)] w fun e w' => e = .returned (.int .i64 (s.room : Nat)) ∧ ∃ m : Nat, w' = w.drewN m := by
  have c1 := h.blk.c1
  have c3 := h.blk.c3
  have c5 := h.blk.c5
  obtain ⟨a, c, rfl, _, _⟩ := h.x.form
  rw [ints_len] at c3
  clear h
  have e : ((s.room : Nat) : Int) = (s.R : Int) - ((s.X.length : Int) - (s.pulled : Int)) := by unfold FS.room; omega
  rw [e]; clear e
  generalize s.X.length = n at *
  generalize s.R = R at *
  generalize s.pulled = p at *
  go_enter Tryd.func99, Tryd.ntmps99
  go_wp2
  go_quiet (fail)
  go_wp2
  go_ret
  exact ⟨by go_num, _, rfl⟩

theorem whole_ref (h : RefAt w base fb vx vp tv s) (hl : s.X.length ≤ 1099511627776) (h0 : 0 < s.B) (h1 : s.B ≤ 256) :
    Calls Tryd.prog 103 #[.pointer (some ⟨fb, 0, none⟩)] w fun e w' => e = .returned (.int .i64 (s.whole : Nat)) ∧ ∃ m : Nat, w' = w.drewN m := by
  have c0 := h.blk.c0
  have c3 := h.blk.c3
  obtain ⟨a, c, rfl, _, _⟩ := h.x.form
  rw [ints_len] at c3
  clear h
  unfold FS.whole
  generalize s.X.length = n at *
  generalize s.B = B at *
  have hle : n / B * B ≤ n := Nat.div_mul_le_self n B
  obtain ⟨q, hq⟩ : ∃ q : Nat, n / B = q := ⟨_, rfl⟩
  rw [hq] at hle ⊢
  have d1 : (n : Int).tdiv (B : Int) = (q : Int) := by rw [Int.tdiv_eq_ediv_of_nonneg (by omega), ← hq]; rfl
  have d2 : (n : Int) / (B : Int) = (q : Int) := by rw [← hq]; rfl
  have hB : ¬ ((B : Int) = 0) := by omega
  have hq2 : q ≤ n := by rw [← hq]; exact Nat.div_le_self _ _
  obtain ⟨M, hM⟩ : ∃ M : Nat, q * B = M := ⟨_, rfl⟩
  have m1 : (q : Int) * (B : Int) = (M : Int) := by rw [← hM]; push_cast; rfl
  have w1 : IntKind.i64.wrap ((q : Int) * (B : Int)) = (M : Int) := by rw [m1, IntKind.wrap_i64]; omega
  have w2 : IntKind.i64.wrap (q : Int) = (q : Int) := by rw [IntKind.wrap_i64]; omega
  rw [hM] at hle ⊢
  clear hq hM
  go_enter Tryd.func103, Tryd.ntmps103
  go_wp2
  go_quiet (fail)
  go_wp2
  go_ret
  refine ⟨?_, _, rfl⟩
  first
  | go_num
  | simp [d1, d2, w1, w2, m1]
end
end Go.Proofs.YtddpcjgekfmhkaaDoor

/- The document's filter: pending, Y. -/
namespace Go.Proofs.YtddpcjgekfmhkaaDoor
open Go.RowKit
set_option linter.unusedSimpArgs false
set_option linter.unusedVariables false

theorem FS.from_eq {s : FS} (h0 : 0 < s.parts.length) : ∃ l, s.parts[s.parts.length - 1]? = some (s.from, l) := by
  unfold FS.from
  rw [List.getLast?_eq_getElem?]
  rw [List.getElem?_eq_getElem (by omega)]
  exact ⟨_, rfl⟩

section
variable {base fb : Nat} {vx vp : Value} {tv : List Value} {s : FS} {w : World}
theorem pending_ref (h : RefAt w base fb vx vp tv s) (hl : s.X.length ≤ 1099511627776) (h0 : 0 < s.parts.length) (h1 : s.parts.length ≤ 1099511627776) (h2 : s.from ≤ 2199023255552) :
    Calls Tryd.prog 104 #[.pointer (some ⟨fb, 0, none⟩)] w fun e w' => e = .returned (.int .i64 s.pending) ∧ ∃ m : Nat, w' = w.drewN m := by
  have c4 := h.blk.c4
  have c3 := h.blk.c3
  obtain ⟨b, o, c, hvp, hc, hp⟩ := h.part h0
  obtain ⟨l, hlast⟩ := FS.from_eq h0
  obtain ⟨at_, ct, cf, _, _, _⟩ := hp _ _ hlast
  obtain ⟨a, cx, hvx, _, _⟩ := h.x.form
  rw [hvx, ints_len] at c3
  rw [hvp] at c4
  unfold FS.pending
  clear h hp hlast hvx hvp
  generalize s.X.length = n at *
  generalize s.from = f at *
  obtain ⟨k, hk⟩ : ∃ k, s.parts.length = k + 1 := ⟨s.parts.length - 1, by omega⟩
  rw [hk] at c4 cf hc h1
  simp only [Nat.add_sub_cancel] at cf
  clear h0
  have i0 : ((k : Int) + 1 - 1) = (k : Int) := by omega
  by_cases hf : n < f
  · rw [if_pos hf]
    have hf1 : (n : Int) < (f : Int) := by omega
    go_enter Tryd.func104, Tryd.ntmps104
    go_wp2
    go_quiet (fail)
    go_wp2
    go_ret
    exact ⟨by go_num, _, rfl⟩
  · rw [if_neg hf]
    have hf1 : ¬ (n : Int) < (f : Int) := by omega
    go_enter Tryd.func104, Tryd.ntmps104
    go_wp2
    go_quiet (fail)
    go_wp2
    go_ret
    exact ⟨by go_num, _, rfl⟩
end
end Go.Proofs.YtddpcjgekfmhkaaDoor

/- The document's filter: Y. -/
namespace Go.Proofs.YtddpcjgekfmhkaaDoor
open Go.RowKit
set_option linter.unusedSimpArgs false
set_option linter.unusedVariables false

theorem at0_some {l : List Int} {i : Nat} (h : i < l.length) : l[i]? = some (at0 l i) := by
  unfold at0
  rw [List.getD_eq_getElem?_getD, List.getElem?_eq_getElem h]; rfl

section
variable {base fb : Nat} {vx vp : Value} {tv : List Value} {s : FS} {w : World}
set_option maxHeartbeats 1000000 in
set_option maxRecDepth 20000 in
theorem y_ref (h : RefAt w base fb vx vp tv s) (hl : s.X.length ≤ 1099511627776) (h1 : s.parts.length ≤ 1099511627776) (h0 : ∃ l ps, s.parts = (0, l) :: ps) (hf : ∀ p ∈ s.parts, p.1 ≤ 2199023255552) (ht : ∀ p ∈ s.parts, okTaps p.2) (hx : ∀ v ∈ s.X, okSample v) (n : Nat) (hn : n < s.X.length) :
    Calls Tryd.prog 105 #[.pointer (some ⟨fb, 0, none⟩), .int .i64 n] w fun e w' => e = .returned (.int .i64 (s.y n)) ∧ ∃ m : Nat, w' = w.drewN m := by
  obtain ⟨l0, ps0, hps⟩ := h0
  have hpl : 0 < s.parts.length := by rw [hps]; simp
  have hfst : s.parts[0]? = some (0, l0) := by rw [hps]; rfl
  have c4 := h.blk.c4
  have c3 := h.blk.c3
  obtain ⟨b, o, c, hvp, hc, hp⟩ := h.part hpl
  obtain ⟨a, cx, hvx, hcx, hsx⟩ := h.x.form
  rw [hvx, ints_len] at c3
  rw [hvp] at c4
  rw [ints_len] at hcx
  obtain ⟨bx, ox, rfl, _⟩ := hsx (by rw [ints_len]; omega)
  have HX : Hid (∀ i, i < s.X.length → w.cell? ⟨bx, ox + i, none⟩ = some (.int .i64 (at0 s.X i)) ∧ okSample (at0 s.X i)) := by
    intro i hi
    obtain ⟨b', o', e', h'⟩ := hsx.int (at0_some hi)
    simp at e'
    obtain ⟨rfl, rfl⟩ := e'
    exact ⟨h', hx _ (List.mem_of_getElem? (at0_some hi))⟩
  have HP : Hid (∀ (i : Nat) p, s.parts[i]? = some p → p.1 ≤ 2199023255552 ∧ ∃ a ct, w.cell? ⟨b, o + i * 2, none⟩ = some (.int .i64 (p.1 : Int)) ∧ w.cell? ⟨b, o + i * 2 + 1, none⟩ = some (.slice a p.2.length ct) ∧ p.2.length ≤ ct ∧ Src w a (ints p.2) ∧ okTaps p.2) := by
    intro i p hi
    obtain ⟨a, ct, q1, q2, q3, q4⟩ := hp i p hi
    exact ⟨hf p (List.mem_of_getElem? hi), a, ct, q1, q2, q3, q4, ht p (List.mem_of_getElem? hi)⟩
  have HF : Hid (s.parts[0]? = some (0, l0)) := hfst
  have HY : Hid (∀ (k : Nat) p, s.parts[k]? = some p → p.1 ≤ n → (∀ j q, k < j → s.parts[j]? = some q → n < q.1) → s.y n = flt p.2.length (at0 p.2) (at0 s.X) n) := by
    intro k p hk h1 h2
    unfold FS.y
    rw [tapsAt_is hk h1 h2]
  obtain ⟨z, hz⟩ : ∃ z, s.y n = z := ⟨_, rfl⟩
  rw [hz] at HY ⊢
  clear h hp hsx hvx hvp hfst hf ht hx hps hz
  obtain ⟨L, hL⟩ : ∃ L, s.parts.length = L := ⟨_, rfl⟩
  have HL : Hid (s.parts.length = L) := hL
  rw [hL] at c4 hc h1 hpl
  obtain ⟨N, hN⟩ : ∃ N, s.X.length = N := ⟨_, rfl⟩
  rw [hN] at c3 hcx hn hl HX
  clear hL hN
  have hn1 : (n : Int) < (N : Int) := by omega
  go_enter Tryd.func105, Tryd.ntmps105
  go_wp2
  go_loop [5] (fun tk => ∃ k : Nat, tk = .int .i64 k ∧ k < L ∧ Hid (∀ (j : Nat) q, k < j → s.parts[j]? = some q → n < q.1)) (fun tk => (intOf tk).toNat)
  case atStart =>
    refine ⟨L - 1, by go_num, by omega, fun j q hj hq => ?_⟩
    rw [List.getElem?_eq_none (by rw [HL.out]; omega)] at hq; cases hq
  case round =>
    obtain ⟨k, rfl, hk, HK⟩ := hrel
    have hk1 : (k : Int) < (L : Int) := by omega
    obtain ⟨p, hp⟩ : ∃ p, s.parts[k]? = some p := ⟨_, List.getElem?_eq_getElem (by rw [HL.out]; exact hk)⟩
    have HPK : Hid (s.parts[k]? = some p) := hp
    obtain ⟨hp1, ap, ct, q1, q2, q3, q4, q5⟩ := HP.out k p hp
    clear hp
    by_cases hlt : n < p.1
    · have hlt1 : (n : Int) < (p.1 : Int) := by omega
      have hk0 : 1 ≤ k := by
        rcases Nat.eq_zero_or_pos k with e | e
        · subst e
          have := HPK.out.symm.trans HF.out
          simp at this
          subst this
          omega
        · exact e
      clear q2 q3 q4 q5
      go_wp2
      go_round
      case rel =>
        refine ⟨k - 1, by go_num, by omega, fun j q hj hq => ?_⟩
        by_cases e : j = k
        · subst e
          have := HPK.out.symm.trans hq
          simp at this
          subst this
          exact hlt
        · exact HK.out j q (by omega) hq
      case measure => simp [intOf]; omega
    · have hlt1 : ¬ (n : Int) < (p.1 : Int) := by omega
      have HZ : Hid (z = flt p.2.length (at0 p.2) (at0 s.X) n) := HY.out k p HPK.out (by omega) HK.out
      obtain ⟨T, hT⟩ : ∃ T, p.2.length = T := ⟨_, rfl⟩
      have HT : Hid (∀ i, i < T → ∃ bt ot, ap = some ⟨bt, ot, none⟩ ∧ w.cell? ⟨bt, ot + i, none⟩ = some (.int .i64 (at0 p.2 i))) := fun i hi => q4.int (at0_some (by omega))
      have HOK : Hid (norm (at0 p.2) T ≤ 2147483648) := by rw [← hT]; exact q5.2.2
      have hT2 : T ≤ 1024 := by rw [← hT]; exact q5.2.1
      rw [hT] at q2 q3
      have HZ2 : Hid (z = flt T (at0 p.2) (at0 s.X) n) := by rw [← hT]; exact HZ.out
      clear q4 q5 HZ HPK HK hT
      go_wp2
      go_loopw [7, 8] (fun ts ti wr => ∃ (i : Nat) (S : Int), ts = .int .i64 S ∧ ti = .int .i64 i ∧ i ≤ T ∧ i ≤ n + 1 ∧ Hid (S = flt i (at0 p.2) (at0 s.X) n) ∧ ∃ m : Nat, wr = w.drewN m) (fun _ ti _ => T - (intOf ti).toNat)
      case atStart => exact ⟨0, 0, rfl, rfl, Nat.zero_le _, by omega, rfl, 0, rfl⟩
      case round =>
        obtain ⟨i, S, rfl, rfl, hi, hi2, HS, m, rfl⟩ := hrel
        by_cases hiT : i < T
        · have hiT1 : (i : Int) < (T : Int) := by omega
          by_cases hin : i ≤ n
          · have hin1 : (i : Int) ≤ (n : Int) := by omega
            obtain ⟨bt, ot, rfl, ct0⟩ := HT.out i hiT
            obtain ⟨cx0, ox0⟩ := HX.out (n - i) (by omega)
            have bS := flt_62 (L := i) (h := at0 p.2) (z := at0 s.X) (n := n) (Int.le_trans (norm_mono _ i T hi) HOK.out) (fun j hj => (HX.out j (by omega)).2)
            have bS2 := flt_62 (L := i + 1) (h := at0 p.2) (z := at0 s.X) (n := n) (Int.le_trans (norm_mono _ (i + 1) T (by omega)) HOK.out) (fun j hj => (HX.out j (by omega)).2)
            have bT : (if at0 p.2 i < 0 then -at0 p.2 i else at0 p.2 i) ≤ 2147483648 := by
              have q1 := norm_mono (at0 p.2) (i + 1) T (by omega)
              have q2 := norm_nn (at0 p.2) i
              have q3 := HOK.out
              rw [norm_succ] at q1
              omega
            have bM := tap_62 bT ox0.1 ox0.2
            rw [← HS.out] at bS
            rw [flt_succ, if_pos hin, ← HS.out] at bS2
            obtain ⟨u, hu⟩ : ∃ u, at0 p.2 i = u := ⟨_, rfl⟩
            obtain ⟨v, hv⟩ : ∃ v, at0 s.X (n - i) = v := ⟨_, rfl⟩
            have HUV : Hid (at0 p.2 i = u ∧ at0 s.X (n - i) = v) := ⟨hu, hv⟩
            rw [hu] at ct0 bM bS2
            rw [hv] at cx0 bM bS2
            obtain ⟨M, hM⟩ : ∃ M, u * v = M := ⟨_, rfl⟩
            rw [hM] at bM bS2
            have HM : Hid (u * v = M) := hM
            have wm : IntKind.i64.wrap (u * v) = M := by rw [hM, IntKind.wrap_i64]; omega
            have wa : IntKind.i64.wrap (S + M) = S + M := by rw [IntKind.wrap_i64]; omega
            have cx1 : w.cell? ⟨bx, ox + (n - i), none⟩ = some (.int .i64 v) := cx0
            have d0 : (0 : Int) ≤ (n : Int) - (i : Int) := by omega
            have d1 : (n : Int) - (i : Int) < (N : Int) := by omega
            have d2 : ((n : Int) - (i : Int)).toNat = n - i := by omega
            clear hu hv hM ox0 bT cx0
            go_wp2
            go_quiet (fail)
            go_wp2
            go_roundw
            case rel =>
              refine ⟨i + 1, S + M, by first | rfl | simp [wm, wa], by go_num, by omega, by omega, ?_, _, rfl⟩
              show S + M = _
              rw [flt_succ, if_pos hin, ← HS.out, HUV.out.1, HUV.out.2, HM.out]
            case measure => simp [intOf]; omega
          · have hin1 : ¬ (i : Int) ≤ (n : Int) := by omega
            go_wp2
            go_ret
            refine ⟨?_, _, rfl⟩
            rw [HZ2.out, flt_end _ _ _ i (by omega) T hi, HS.out]; rfl
        · obtain rfl : i = T := by omega
          go_wp2
          go_ret
          refine ⟨?_, _, rfl⟩
          rw [HZ2.out, HS.out]; rfl
end
end Go.Proofs.YtddpcjgekfmhkaaDoor

/- The document's taps and powers. -/
namespace Go.Proofs.YtddpcjgekfmhkaaDoor
open Go.RowKit
set_option linter.unusedSimpArgs false
set_option linter.unusedVariables false

/-- A bool that tells whether something holds. -/
def BoolIs (P : Prop) (e : Ending) : Prop := ∃ ok : Bool, e = .returned (.bool ok) ∧ (ok = true ↔ P)

theorem norm_one {h : Nat → Int} {L i : Nat} (hi : i < L) : (if h i < 0 then -h i else h i) ≤ norm h L := by
  have q1 := norm_mono h (i + 1) L (by omega)
  have q2 := norm_nn h i
  rw [norm_succ] at q1
  omega

set_option maxHeartbeats 1000000 in
set_option maxRecDepth 20000 in
theorem taps_ref (a : Option Addr) (c : Nat) (l : List Int) (w : World) (hs : Src w a (ints l)) (hr : Rng l) (hl : l.length ≤ 1099511627776) :
    Calls Tryd.prog 95 #[.slice a l.length c] w fun e w' => BoolIs (okTaps l) e ∧ w' = w := by
  have HS : Hid (∀ i, i < l.length → (∃ b o, a = some ⟨b, o, none⟩ ∧ w.cell? ⟨b, o + i, none⟩ = some (.int .i64 (at0 l i))) ∧ -9223372036854775808 ≤ at0 l i ∧ at0 l i ≤ 9223372036854775807) := fun i hi => ⟨hs.int (at0_some hi), hr.at (at0_some hi)⟩
  obtain ⟨N, hN⟩ : ∃ N, l.length = N := ⟨_, rfl⟩
  have HN : Hid (l.length = N) := hN
  rw [hN] at HS hl ⊢
  clear hs hr hN
  go_enter Tryd.func95, Tryd.ntmps95
  go_wp2
  go_loop [3, 4] (fun ts ti => ∃ (i : Nat) (S : Int), ts = .int .i64 S ∧ ti = .int .i64 i ∧ i ≤ N ∧ i ≤ 1024 ∧ 0 ≤ S ∧ S ≤ i * 2147483648 ∧ Hid (S = norm (at0 l) i)) (fun _ ti => N - (intOf ti).toNat)
  case atStart => exact ⟨0, 0, rfl, rfl, Nat.zero_le _, by omega, by omega, by omega, rfl⟩
  case round =>
    obtain ⟨i, S, rfl, rfl, hi, hi2, hS0, hS1, HV⟩ := hrel
    by_cases hiN : i < N
    · have hiN1 : (i : Int) < (N : Int) := by omega
      by_cases hik : i < 1024
      · have hik1 : (i : Int) < 1024 := by omega
        obtain ⟨⟨b, o, rfl, ci⟩, r0, r1⟩ := HS.out i hiN
        obtain ⟨x, hx⟩ : ∃ x, at0 l i = x := ⟨_, rfl⟩
        have HX : Hid (at0 l i = x) := hx
        rw [hx] at ci r0 r1
        clear hx
        by_cases hneg : x < 0
        · by_cases hmin : x = -9223372036854775808
          · subst hmin
            have wz : wrap64 9223372036854775808 = -9223372036854775808 := by unfold wrap64; decide
            go_wp2
            go_ret
            refine ⟨⟨_, rfl, ?_⟩, rfl⟩
            simp only [Bool.false_eq_true, false_iff]
            intro h
            have := norm_one (h := at0 l) (L := l.length) (i := i) (by rw [HN.out]; exact hiN)
            rw [HX.out] at this
            have h3 := h.2.2
            unfold lnorm at h3
            simp at this
            omega
          · by_cases hbig : 2147483648 < -x
            · go_wp2
              go_ret
              refine ⟨⟨_, rfl, ?_⟩, rfl⟩
              simp only [Bool.false_eq_true, false_iff]
              intro h
              have := norm_one (h := at0 l) (L := l.length) (i := i) (by rw [HN.out]; exact hiN)
              rw [HX.out, if_pos hneg] at this
              have h3 := h.2.2
              unfold lnorm at h3
              omega
            · go_wp2
              go_round
              case rel =>
                refine ⟨i + 1, S + -x, by go_num, by go_num, by omega, by omega, by omega, by push_cast; omega, ?_⟩
                show S + -x = _
                rw [norm_succ, HX.out, if_pos hneg, HV.out]
              case measure => simp [intOf]; omega
        · by_cases hbig : 2147483648 < x
          · go_wp2
            go_ret
            refine ⟨⟨_, rfl, ?_⟩, rfl⟩
            simp only [Bool.false_eq_true, false_iff]
            intro h
            have := norm_one (h := at0 l) (L := l.length) (i := i) (by rw [HN.out]; exact hiN)
            rw [HX.out, if_neg (by omega)] at this
            have h3 := h.2.2
            unfold lnorm at h3
            omega
          · go_wp2
            go_round
            case rel =>
              refine ⟨i + 1, S + x, by go_num, by go_num, by omega, by omega, by omega, by push_cast; omega, ?_⟩
              show S + x = _
              rw [norm_succ, HX.out, if_neg (by omega), HV.out]
            case measure => simp [intOf]; omega
      · have hik1 : ¬ (i : Int) < 1024 := by omega
        have hN1 : (1 : Int) ≤ (N : Int) := by omega
        have hN2 : ¬ (N : Int) ≤ 1024 := by omega
        go_wp2
        go_ret
        refine ⟨⟨_, rfl, ?_⟩, rfl⟩
        simp only [Bool.false_eq_true, false_iff]
        intro h
        have := h.2.1
        rw [HN.out] at this
        omega
    · obtain rfl : i = N := by omega
      by_cases h0 : i = 0
      · subst h0
        go_wp2
        go_ret
        refine ⟨⟨_, rfl, ?_⟩, rfl⟩
        simp only [Bool.false_eq_true, false_iff]
        intro h
        have := h.1
        rw [HN.out] at this
        omega
      · have hN1 : (1 : Int) ≤ (i : Int) := by omega
        have hN2 : (i : Int) ≤ 1024 := by omega
        go_wp2
        go_ret
        refine ⟨⟨_, rfl, ?_⟩, rfl⟩
        simp only [decide_eq_true_eq]
        unfold okTaps lnorm
        rw [HN.out, ← HV.out]
        omega

def pows : List Int := [1, 2, 4, 8, 16, 32, 64, 128, 256]
def okBlock (B : Int) : Prop := B = 16 ∨ B = 32 ∨ B = 64 ∨ B = 128 ∨ B = 256
set_option maxRecDepth 20000 in
theorem power_ref (B : Int) (w : World) :
    Calls Tryd.prog 29 #[.int .i64 B, .int .i64 16, .int .i64 256] w fun e w' => BoolIs (okBlock B) e ∧ w' = w := by
  go_enter Tryd.func29, Tryd.ntmps29
  go_wp2
  go_loop [7] (fun t => ∃ p : Int, t = .int .i64 p ∧ (p = 1 ∨ p = 2 ∨ p = 4 ∨ p = 8 ∨ p = 16 ∨ p = 32 ∨ p = 64 ∨ p = 128 ∨ p = 256 ∨ p = 512) ∧ Hid (∀ q ∈ pows, q < p → B ≠ q)) (fun t => 1024 - (intOf t).toNat)
  case atStart => exact ⟨1, rfl, .inl rfl, fun q hq hlt => by simp [pows] at hq; omega⟩
  case round =>
    obtain ⟨p, rfl, hp, HB⟩ := hrel
    by_cases hlast : p = 512
    · subst hlast
      go_wp2
      go_ret
      refine ⟨⟨_, rfl, ?_⟩, rfl⟩
      simp only [Bool.false_eq_true, false_iff]
      intro h
      have := HB.out B (by unfold okBlock at h; simp [pows]; omega) (by unfold okBlock at h; omega)
      exact this rfl
    · have hp1 : p ≤ 256 := by omega
      have hp0 : 1 ≤ p := by omega
      by_cases hB : p = B
      · subst hB
        have HP : Hid (p = 1 ∨ p = 2 ∨ p = 4 ∨ p = 8 ∨ p = 16 ∨ p = 32 ∨ p = 64 ∨ p = 128 ∨ p = 256 ∨ p = 512) := hp
        clear hp
        go_wp2
        go_ret
        refine ⟨⟨_, rfl, ?_⟩, rfl⟩
        have hp := HP.out
        simp only [decide_eq_true_eq]
        unfold okBlock
        omega
      · have HP : Hid (p = 1 ∨ p = 2 ∨ p = 4 ∨ p = 8 ∨ p = 16 ∨ p = 32 ∨ p = 64 ∨ p = 128 ∨ p = 256 ∨ p = 512) := hp
        clear hp
        go_wp2
        go_round
        case rel =>
          have hp := HP.out
          refine ⟨2 * p, by go_num, by omega, fun q hq hlt => ?_⟩
          by_cases e : q < p
          · exact HB.out q hq e
          · simp [pows] at hq
            omega
        case measure => simp [intOf]; omega
end Go.Proofs.YtddpcjgekfmhkaaDoor

/- append of zeros; append by its run; the document's filter as something that is owned. -/
namespace Go.Proofs.YtddpcjgekfmhkaaDoor
open Go.RowKit
set_option linter.unusedSimpArgs false
set_option linter.unusedVariables false

section
variable {P : Program} {w : World}
theorem append_zeros (base : Nat) (t ti ty e : TypeId) (kn : IntKind) (zv : Value) (z : List Value) (sz bytes : Nat) (ht : P.underlying t = some (.slice e)) (hti : P.underlying ti = some (.int kn)) (hinfo : (P.info? e).map (fun i => (i.zero, i.size, i.bytes)) = some (some zv, sz, bytes)) (hz : zv.cells = z.toArray) (hZ : El sz [z]) (hsz : 0 < sz)
    (v : Value) (L : List (List Value)) (h : Lst w base e sz v L) (m : Nat) (hn : L.length + m ≤ 1099511627776) (hby : bytes ≤ 64) (hbase : base ≤ w.heap.size) :
    ∃ v' w', (Builtin.append_ #[t, ti] ty #[v, .int .i64 m]).run P w = .ok v' w' ∧ Lst w' base e sz v' (L ++ List.replicate m z) ∧ Bt (fun k => v.ownBlock = some k) w w' ∧ (v'.ownBlock = v.ownBlock ∨ v'.ownBlock = some w.heap.size) := by
  obtain ⟨i, hi, hz0, hz1, hz2⟩ := info_parts hinfo
  subst hz1 hz2
  have hzl : z.length = i.size := (hZ z (by simp)).1
  have hw : IntKind.i64.wrap (m : Int) = m := by rw [IntKind.wrap_i64]; omega
  have hneg : ¬ ((m : Int) < 0) := by omega
  have hb1 : m * i.bytes ≤ 1099511627776 * 64 := Nat.mul_le_mul (by omega) hby
  have h48i : ¬ (281474976710656 < (m : Int) * (i.bytes : Int)) := by
    rw [← Int.natCast_mul]; omega
  have hX : El i.size (List.replicate m z) := hZ.replicate m
  have hxl : (List.replicate m z).flatten.length = m * i.size := by rw [hX.flat_len, List.length_replicate]
  have hzc : Builtin.zeroCells zv.cells m = (List.replicate m z).flatten.toArray := by
    apply Array.ext'; rw [hz, zeroCells_flat]
  by_cases h0 : m = 0
  · subst h0
    obtain ⟨a, cp, hv, hle, _⟩ := h.form
    refine ⟨v, w, ?_, by simpa using h, Bt.refl _ _, .inl rfl⟩
    rw [hv]
    have hw0 : IntKind.i64.wrap 0 = 0 := by rw [IntKind.wrap_i64]; omega
    cases a <;> simp [Builtin.append_, run_underlying ht, run_underlying hti, sizeOf, typeInfo, hi, hle, storeCells, asInt, asIntOf, hw0]
  · have hms : ¬ (m * i.size = 0) := by
      intro e; rcases Nat.mul_eq_zero.1 e with e | e <;> omega
    have hadd : ∀ (q p j : Nat), (⟨q, p, none⟩ : Addr).add j = ⟨q, p + j, none⟩ := by intro q p j; unfold Addr.add; split <;> simp_all
    have hb2 : (L.length + m) * i.bytes ≤ 1099511627776 * 64 := Nat.mul_le_mul hn hby
    have hs0 : ¬ (m = 0 ∨ i.size = 0) := by omega
    -- a new row
    have grown : ∀ old, Lst (w.drew.alloc (.cells (L.flatten.toArray ++ (List.replicate m z).flatten.toArray ++ Builtin.zeroCells zv.cells (grownCap w (L.length + m) old e - (L.length + m))) e)) base e i.size (.slice (some ⟨w.heap.size, 0, none⟩) (L.length + m) (grownCap w (L.length + m) old e)) (L ++ List.replicate m z) := by
      intro old
      have hge := grownCap_ge w (L.length + m) old e
      have hcm := grownCap_le_maxLen w (L.length + m) old e (by unfold maxLen; omega)
      have hE := hZ.replicate (grownCap w (L.length + m) old e - (L.length + m))
      refine ⟨h.1.append hX, .inr ⟨w.heap.size, 0, _, (L ++ List.replicate m z) ++ List.replicate (grownCap w (L.length + m) old e - (L.length + m)) z, ?_, hbase, ?_, (h.1.append hX).append hE, ?_, ?_, hcm, ?_⟩⟩
      · simp
      · show ((w.drew).heap.push _)[w.heap.size]? = _
        have e1 : L.flatten.toArray ++ (List.replicate m z).flatten.toArray ++ Builtin.zeroCells zv.cells (grownCap w (L.length + m) old e - (L.length + m)) = ((L ++ List.replicate m z) ++ List.replicate (grownCap w (L.length + m) old e - (L.length + m)) z).flatten.toArray := by
          have := zeroCells_flat z (grownCap w (L.length + m) old e - (L.length + m))
          apply Array.ext'
          rw [hz]
          simp only [List.append_toArray, Array.toList_append, List.toList_toArray, this, List.flatten_append]
        rw [e1]
        show (w.heap.push _)[w.heap.size]? = _
        simp
      · simp; omega
      · simp; omega
      · rw [List.drop_zero, List.take_append_of_le_length (Nat.le_refl _), List.take_of_length_le (Nat.le_refl _)]
    have bs : ∀ old : Nat, old ≤ maxLen → ¬ (L.length + m ≤ old) → ¬ (281474976710656 < Builtin.nextslicecap (L.length + m) old * i.bytes) := by
      intro old h1 h2
      have := growslice_fits (need := L.length + m) (old := old) (bytes := i.bytes) (by omega) (by omega)
      omega
    rcases h.2 with ⟨rfl, rfl⟩ | ⟨g, off, cap, C, rfl, h1, h2, h3, h4, h5, h6, h7⟩
    · have hg := grown 0
      have hn0 : ¬ (m ≤ 0) := by omega
      have hbs := bs 0 (by unfold maxLen; omega) (by simp; omega)
      simp only [List.length_nil, Nat.zero_add, List.flatten_nil, List.append_toArray, List.nil_append] at hg hbs hn
      have h63' : ¬ (9223372036854775807 < (m : Int)) := by omega
      refine ⟨_, _, ?_, hg, ((Bt.refl _ w).drew).alloc _, .inr rfl⟩
      simp [Builtin.append_, run_underlying ht, run_underlying hti, sizeOf, typeInfo, zeroValue, hi, hz0, asInt, asIntOf, hw, hneg, h48i, hn0, h0, h63', hbs, Question.forced, newRow, grownCap, hms, hzc, Builtin.firstCells]
    · by_cases hroom : L.length + m ≤ cap
      · -- there is room
        have hst := run_storeCells_at P g (off * i.size + L.length * i.size) e (List.replicate m z).flatten 0 C.flatten.toArray w h2 (by
          have : (off + L.length + m) * i.size ≤ C.length * i.size := Nat.mul_le_mul_right _ (by omega)
          rw [Nat.add_mul, Nat.add_mul] at this
          simp only [Nat.add_zero, List.size_toArray, hxl, h3.flat_len]; exact this) hX.one
        simp only [Nat.add_zero, ← Nat.add_mul] at hst
        have he := h3.flat_splice hX (off + L.length)
        simp only [List.append_assoc] at hst he
        rw [he] at hst
        have lc : (splice C (off + L.length) (List.replicate m z)).length = C.length := length_splice _ _ _ (by simp; omega)
        refine ⟨.slice (some ⟨g, off * i.size, none⟩) (L.length + m) cap, w.setRow g (splice C (off + L.length) (List.replicate m z)).flatten.toArray, ?_, ⟨h.1.append hX, .inr ⟨g, off, cap, splice C (off + L.length) (List.replicate m z), by simp, h1, h2.setRow _, h3.spl hX _, by omega, by simp; omega, h6, ?_⟩⟩, (bt_setRow w g _).mono (fun k _ hk => by subst hk; rfl), .inl rfl⟩
        · simp [Builtin.append_, run_underlying ht, run_underlying hti, sizeOf, typeInfo, zeroValue, hi, hz0, asInt, asIntOf, hw, hneg, h48i, hroom, hms, hzc, hadd, ← Nat.add_mul, hst, h0]
        · apply List.ext_getElem?
          intro j
          have hL : (C.drop off).take L.length = L := h7
          rw [List.getElem?_take, List.getElem?_drop, get_splice (by simp; omega), List.getElem?_append]
          simp only [List.length_append, List.length_replicate]
          by_cases hj : j < L.length + m
          · rw [if_pos hj]
            by_cases hj2 : j < L.length
            · rw [if_neg (by omega), if_pos hj2]
              have := congrArg (fun l => l[j]?) hL
              simp only [List.getElem?_take, if_pos hj2, List.getElem?_drop] at this
              exact this
            · rw [if_pos (by omega), if_neg hj2]; congr 1; omega
          · rw [if_neg hj, if_neg (by omega), List.getElem?_eq_none (by simp; omega)]
      · -- a new row is made
        have hso := h2.src h3 off L.length (some ⟨g, off * i.size, none⟩) (fun _ => rfl)
        rw [h7] at hso
        have holds : ∀ j u, L.flatten[j]? = some u → w.drew.cell? ((⟨g, off * i.size, none⟩ : Addr).add j) = some u := by
          intro j u hj
          have hpos : 0 < L.length := by
            rcases Nat.eq_zero_or_pos L.length with h0 | h0
            · rw [List.eq_nil_of_length_eq_zero h0] at hj; simp at hj
            · exact h0
          obtain ⟨b', o', e', hc⟩ := hso hpos
          simp at e'
          obtain ⟨rfl, rfl⟩ := e'
          rw [hadd]; exact hc j u hj
        have hold := run_firstCells_some (P := P) w.drew i.size L.length ⟨g, off * i.size, none⟩ L.length cap L.flatten h.1.flat_len holds
        have hbs := bs cap h6 hroom
        have h63' : ¬ (9223372036854775807 < (L.length : Int) + (m : Int)) := by omega
        refine ⟨_, _, ?_, grown cap, ((Bt.refl _ w).drew).alloc _, .inr rfl⟩
        simp [Builtin.append_, run_underlying ht, run_underlying hti, sizeOf, typeInfo, zeroValue, hi, hz0, asInt, asIntOf, hw, hneg, h48i, hroom, h0, h63', hbs, Question.forced, hold, newRow, grownCap, hms, hzc]
        congr 2
        apply Array.ext'
        simp

theorem wpList_append_run {ops : Array Oper} {rest : List Oper} {o : Oper} {a : Act} {Q : Exit → Act → World → Prop} (hgd : o.guard = none) (s x : Operand) (t tx : TypeId)
    (ho : o.op = .call { callee := .builtin .append, args := #[s, x], argTypes := #[t, tx] }) (v xv v' : Value) (w' : World) (hs : a.eval s = v) (hx : a.eval x = xv)
    (hr : (Builtin.append_ #[t, tx] o.type #[v, xv]).run P w = .ok v' w') (hK : wpList P ops Q rest (a.put o.dst v') w') : wpList P ops Q (o :: rest) a w := by
  refine wpList_plain hgd fun K hK' => ?_
  unfold Oper.wp execOp
  simp only [ho, resolve, invoke, builtin, Sem.run_bind, Sem.run_pure, Result.andThen_ok, List.map_toArray, List.map_cons, List.map_nil, hs, hx, hr]
  exact hK' _ _ hK
end

theorem step_app_run {P : Program} {ops : Array Oper} {o : Oper} {a : Act} {w : World} {K : Act → World → Prop} {Q : Exit → Act → World → Prop} {E : Prop}
    (hg : o.guard = none) (s x : Operand) (t tx : TypeId) (hop : o.op = Op.call { callee := Callee.builtin Builtin.append, args := #[s, x], argTypes := #[t, tx] })
    (v xv v' : Value) (w' : World) (hs : a.eval s = v) (hx : a.eval x = xv) (hr : (Builtin.append_ #[t, tx] o.type #[v, xv]).run P w = .ok v' w') (hK : K (a.put o.dst v') w') :
    if Region.wanted o (yielded ops a.tmps) = true then Oper.wp P o a w K Q else E := by
  have hw : Region.wanted o (yielded ops a.tmps) = true := by simp [Region.wanted, hg]
  rw [if_pos hw]
  unfold Oper.wp
  simp [execOp, hop, resolve, invoke, builtin, hs, hx, hr, Result.andThen]
  exact hK

/-- The document's filter at fb: an owner. -/
def RF (base fb : Nat) (s : FS) : Res := fun w F => ∃ vx vp tv, RefAt w base fb vx vp tv s ∧ ∀ k, F k ↔ rfoot fb vx vp tv k
theorem RF.fr (base fb : Nat) (s : FS) : Fr base (RF base fb s) := by
  refine ⟨fun h b hs _ => ?_, fun h hk => ?_⟩
  · obtain ⟨vx, vp, tv, h, hF⟩ := h
    exact ⟨vx, vp, tv, h.bt b (fun i hi => hs i ((hF i).2 hi)), hF⟩
  · obtain ⟨vx, vp, tv, h, hF⟩ := h
    exact h.lt ((hF _).1 hk)

theorem info_part : (Tryd.prog.info? 144).map (fun i => (i.zero, i.size, i.bytes)) = some (some (.agg #[.int .i64 0, .slice none 0 0]), 2, 32) := by kernel_rfl
theorem info_num : (Tryd.prog.info? 3).map (fun i => (i.zero, i.size, i.bytes)) = some (some (.int .i64 0), 1, 8) := by kernel_rfl
theorem zel_num : El 1 [[Value.int .i64 0]] := fun e he => by simp at he; subst he; exact ⟨rfl, fun v hv => by simp at hv; subst hv; rfl⟩
theorem zel_part : El 2 [[Value.int .i64 0, Value.slice none 0 0]] := fun e he => by simp at he; subst he; exact ⟨rfl, fun v hv => by simp at hv; rcases hv with rfl | rfl <;> rfl⟩

/-- append of numbers to a list of numbers. -/
theorem append_nums {w : World} (ty : TypeId) (base : Nat) (v : Value) (X : List Int) (h : Lst w base 3 1 v (ints X)) (sp : Option Addr) (m c : Nat) (l : List Int) (hl : l.length = m) (hs : Src w sp (ints l)) (hn : X.length + m ≤ 1099511627776) (hbase : base ≤ w.heap.size) :
    ∃ v' w', (Builtin.append_ #[22, 22] ty #[v, .slice sp m c]).run Tryd.prog w = .ok v' w' ∧ Lst w' base 3 1 v' (ints (X ++ l)) ∧ Bt (fun k => v.ownBlock = some k) w w' ∧ (v'.ownBlock = v.ownBlock ∨ v'.ownBlock = some w.heap.size) := by
  rw [ints_app]
  exact append_lst (P := Tryd.prog) base 22 ty 3 (.int .i64 0) [.int .i64 0] 1 8 Tryd.underlying22 info_num rfl zel_num (by decide) v _ h sp m c (ints l) (by rw [ints_len]; exact hl) (ints_el l) hs (by rw [ints_len]; exact hn) (by decide) hbase
theorem append_nulls {w : World} (ty : TypeId) (base : Nat) (v : Value) (X : List Int) (h : Lst w base 3 1 v (ints X)) (m : Nat) (hn : X.length + m ≤ 1099511627776) (hbase : base ≤ w.heap.size) :
    ∃ v' w', (Builtin.append_ #[22, 3] ty #[v, .int .i64 m]).run Tryd.prog w = .ok v' w' ∧ Lst w' base 3 1 v' (ints (X ++ List.replicate m 0)) ∧ Bt (fun k => v.ownBlock = some k) w w' ∧ (v'.ownBlock = v.ownBlock ∨ v'.ownBlock = some w.heap.size) := by
  have e : ints (X ++ List.replicate m 0) = ints X ++ List.replicate m [.int .i64 0] := by rw [ints_app]; simp [ints]
  rw [e]
  exact append_zeros (P := Tryd.prog) base 22 3 ty 3 .i64 (.int .i64 0) [.int .i64 0] 1 8 Tryd.underlying22 (by kernel_rfl) info_num rfl zel_num (by decide) v _ h m (by rw [ints_len]; exact hn) (by decide) hbase
end Go.Proofs.YtddpcjgekfmhkaaDoor
