/- line.take, walked. -/
import Derived.Test.YtddpcjgekfmhkaaGk
import Derived.Test.YtddpcjgekfmhkaaGd
namespace Go.Proofs.Ytddpcjgekfmhkaa
open Go.RowKit Go.Maps
set_option linter.unusedSimpArgs false
set_option linter.unusedVariables false

/-- While what was taken is written over: block ob, k things, from u on. -/
def LtQ (u wr : World) (ob k : Nat) (L : List (List Value)) (m : Int) (i : Nat) : Prop :=
  Bt (fun q => q = ob) u wr ∧ (∀ j, i ≤ j → j < k → wr.cell? ⟨ob, j * 2, none⟩ = L.flatten[j * 2]? ∧ wr.cell? ⟨ob, j * 2 + 1, none⟩ = L.flatten[j * 2 + 1]?) ∧
    (∀ j, j < i → wr.cell? ⟨ob, j * 2, none⟩ = some (.int .i64 m) ∧ wr.cell? ⟨ob, j * 2 + 1, none⟩ = some (.string kept)) ∧ ∀ q, wr.frozen? ⟨ob, q, none⟩ = false

theorem taken_cells {w1 : World} {ob k : Nat} {L : List (List Value)} (h : Rw w1 ob 44 (L.take k)) (hT : Thg L) (hk : k ≤ L.length) : ∀ j, j < k → w1.cell? ⟨ob, j * 2, none⟩ = L.flatten[j * 2]? ∧ w1.cell? ⟨ob, j * 2 + 1, none⟩ = L.flatten[j * 2 + 1]? := by
  intro j hj
  have e : (L.take k).flatten = L.flatten.take (k * 2) := (hT.el.flat_take k).symm
  unfold Rw at h
  rw [e] at h
  have hfl : L.flatten.length = L.length * 2 := hT.el.flat_len
  constructor
  · simp only [World.cell?, h]; simp [List.getElem?_take]; omega
  · simp only [World.cell?, h]; simp [List.getElem?_take]; omega

theorem slice_cut {wr : World} {base : Nat} {al : Option Addr} {cl k : Nat} {L : List (List Value)} (h : Lst wr base 44 2 (.slice al L.length cl) L) (hk : k ≤ L.length) :
    ∃ a5 n5 c5, (Instr.slice 45 (.slice al L.length cl) (some (.int .i64 (k : Int))) none none).run Try.prog wr = .ok (.slice a5 n5 c5) wr ∧ Lst wr base 44 2 (.slice a5 n5 c5) (L.drop k) ∧ (Value.slice a5 n5 c5).ownBlock = (Value.slice al L.length cl).ownBlock := by
  have hr : (Instr.slice 45 (.slice al L.length cl) (some (.int .i64 (k : Int))) none none).run Try.prog wr = .ok (.slice (if cl = k then al else al.map (·.add (k * 2))) (L.length - k) (cl - k)) wr := by
    have h1 : (k : Int) ≤ L.length := by omega
    simp [go_sem, h1]
  refine ⟨_, _, _, hr, ?_, ?_⟩
  · have hc := h.cut rfl hk
    cases al with
    | none =>
      obtain ⟨rfl, rfl, rfl⟩ := hc.1 rfl
      simpa using h
    | some ad =>
      rcases h.2 with ⟨he, _⟩ | ⟨g, off, cap, C, he, _⟩
      · cases he
      · simp only [Value.slice.injEq, Option.some.injEq] at he
        obtain ⟨rfl, _, rfl⟩ := he
        have h2 := hc.2 g (off * 2) rfl
        have hle : L.length ≤ cl := by rcases h.2 with ⟨he, _⟩ | ⟨g', off', cap', C', he, _, _, _, _, q5, _⟩; cases he; (simp only [Value.slice.injEq] at he; omega)
        by_cases hck : cl = k
        · rw [if_pos hck]
          have := h2.2 hck.symm
          have e1 : L.length - k = 0 := by omega
          have e2 : cl - k = 0 := by omega
          rw [e1, e2]; exact this
        · rw [if_neg hck]
          have := h2.1 (by omega)
          have e3 : Option.map (fun x : Addr => x.add (k * 2)) (some ⟨g, off * 2, none⟩) = some ⟨g, off * 2 + k * 2, none⟩ := by simp [Addr.add]
          rw [e3]; exact this
  · cases al with
    | none => simp [Value.ownBlock]
    | some ad => split <;> simp [Value.ownBlock, Addr.add]; split <;> rfl

/-- Ahead of the statement that keeps what came out. -/
structure T5Q (u5 : World) (base xb rb : Nat) (room : Int) (ao : Option Addr) (q co : Nat) (a5 : Option Addr) (n5 c5 : Nat) (rows : List Value) (mb ob k : Nat) (m : Int) : Prop where
  blk : LB u5 xb rb room (.slice a5 n5 c5) (.slice ao q co)
  out : u5.ownsRow base 45 1 (.slice ao q co) q rows
  base : base ≤ u5.heap.size
  m0 : u5.cell? ⟨mb, 0, none⟩ = some (.int .i64 m)
  m1 : u5.cell? ⟨mb, 1, none⟩ = some (.string kept)
  taken : ∀ j, j < k → u5.cell? ⟨ob, j * 2, none⟩ = some (.int .i64 m) ∧ u5.cell? ⟨ob, j * 2 + 1, none⟩ = some (.string kept)
  nx : (Value.slice ao q co).ownBlock ≠ some xb
  nm : (Value.slice ao q co).ownBlock ≠ some mb
  no : (Value.slice ao q co).ownBlock ≠ some ob

section
variable {w w1 u wr u5 : World} {base xb rb gb : Nat} {room : Int} {al ao a5 : Option Addr} {cl co n5 c5 q r k mb : Nat} {m : Int} {L : List (List Value)} {rows : List Value}
theorem take_bt (hL : Ln w base xb rb gb room (.slice al L.length cl) (.slice ao (4 * r) co) L r rows) (h1 : TakeQT 1099511627776 w w1 rb gb room L k)
    (hU : Bt (fun _ => False) w1 u ∧ u.heap.size = w1.heap.size + 1 ∧ u.cell? ⟨mb, 0, none⟩ = some (.int .i64 m) ∧ u.cell? ⟨mb, 1, none⟩ = some (.string kept) ∧ mb = w1.heap.size) (hR : LtQ u wr w.heap.size k L m k) : Bt (fun p => p = rb ∨ p = gb) w wr :=
  (h1.2.2.trans hU.1 (fun _ _ x => x.elim)).trans hR.1 (fun p hp e => by omega)
theorem take_mid (hL : Ln w base xb rb gb room (.slice al L.length cl) (.slice ao (4 * r) co) L r rows) (hq : 4 * r = q) (h1 : TakeQT 1099511627776 w w1 rb gb room L k)
    (hU : Bt (fun _ => False) w1 u ∧ u.heap.size = w1.heap.size + 1 ∧ u.cell? ⟨mb, 0, none⟩ = some (.int .i64 m) ∧ u.cell? ⟨mb, 1, none⟩ = some (.string kept) ∧ mb = w1.heap.size) (hR : LtQ u wr w.heap.size k L m k)
    (h5 : Lst wr base 44 2 (.slice a5 n5 c5) (L.drop k) ∧ (Value.slice a5 n5 c5).ownBlock = (Value.slice al L.length cl).ownBlock ∧ LB wr xb rb room (.slice al L.length cl) (.slice ao q co)) (hu5 : u5 = wr.setCell ⟨xb, 2, none⟩ (.slice a5 n5 c5)) :
    T5Q u5 base xb rb room ao q co a5 n5 c5 rows mb w.heap.size k m := by
  subst hq
  have b1 := take_bt hL h1 hU hR
  have bs : Bt (fun p => p = xb) wr u5 := by rw [hu5]; exact (Bt.refl (fun p => p = xb) wr).setCell (fun _ => rfl) _
  have lx := hL.blk.lt
  have hob : w.heap.size < w1.heap.size := h1.2.1.lt
  have hmb := hU.2.2.2.2
  have n1 := hL.n1
  have gg := hL.ge
  have z1 := b1.size
  have z5 := bs.size
  have hvo : ∀ p, (Value.slice ao (4 * r) co).ownBlock = some p → p < w.heap.size := fun p hp => (own_ge hL.out hp).2
  refine ⟨by rw [hu5]; exact h5.2.2.set2 _, own_bt (own_bt hL.out b1 (fun p hp => by have := hL.n3 p hp; omega)) bs (fun p hp e => (hL.n3 p hp).1 e), by omega, bs.cell (by omega) (hR.1.cell (by omega) hU.2.2.1), bs.cell (by omega) (hR.1.cell (by omega) hU.2.2.2.1), fun j hj => ⟨bs.cell (by omega) (hR.2.2.1 j hj).1, bs.cell (by omega) (hR.2.2.1 j hj).2⟩, fun e => (hL.n3 xb e).1 rfl, fun e => by have := hvo _ e; omega, fun e => by have := hvo _ e; omega⟩

theorem take_fin {w0 w2 w9 : World} {n : Nat} {F : Nat → Prop} {v9 : Value} (hL : Ln w base xb rb gb room (.slice al L.length cl) (.slice ao (4 * r) co) L r rows) (hF : ∀ p, F p ↔ foot xb rb gb (.slice al L.length cl) (.slice ao (4 * r) co) rows p) (hLn : L.length ≤ 400 * n) (hrn : r ≤ n) (hq : 4 * r = q) (hm : -1000 - (q : Int) = m)
    (h1 : TakeQT 1099511627776 w w1 rb gb room L k) (hU : Bt (fun _ => False) w1 u ∧ u.heap.size = w1.heap.size + 1 ∧ u.cell? ⟨mb, 0, none⟩ = some (.int .i64 m) ∧ u.cell? ⟨mb, 1, none⟩ = some (.string kept) ∧ mb = w1.heap.size) (hR : LtQ u wr w.heap.size k L m k)
    (h5 : Lst wr base 44 2 (.slice a5 n5 c5) (L.drop k) ∧ (Value.slice a5 n5 c5).ownBlock = (Value.slice al L.length cl).ownBlock ∧ LB wr xb rb room (.slice al L.length cl) (.slice ao q co)) (hu5 : u5 = wr.setCell ⟨xb, 2, none⟩ (.slice a5 n5 c5))
    (h6 : T5Q u5 base xb rb room ao q co a5 n5 c5 rows mb w.heap.size k m) (hw0 : w0 = { u5 with drawn := u5.drawn + 1 }) (hg : w0.grownBy w9 (Value.slice ao q co).ownBlock)
    (hO : kt.Own base 45 w0.heap.size k q (.slice (some ⟨w.heap.size, 0, none⟩) k k) (.slice ao q co) m rows v9 w9) (hw2 : w2 = w9.setCell ⟨xb, 3, none⟩ v9) (hkl : k ≤ L.length) (hkb : k ≤ 1000000000) :
    ∃ F', Line w2 base xb F' (n + 1) room (L.length - k) ∧ (∀ p, F' p → F p ∨ w.heap.size ≤ p) ∧ Bt F w w2 := by
  subst hq
  obtain ⟨g, cap, v1, v2, v3, rfl, ho, hF4, hat, s1, s2, s3⟩ := hO
  obtain ⟨g1, c1, e1, a1, l1⟩ := hF4.r1.lt (by omega)
  obtain ⟨g2, c2, e2, a2, l2⟩ := hF4.r2.lt (by omega)
  obtain ⟨g3, c3, e3, a3, l3⟩ := hF4.r3.lt (by omega)
  have b1 := take_bt hL h1 hU hR
  have bs : Bt (fun p => p = xb) wr u5 := by rw [hu5]; exact (Bt.refl (fun p => p = xb) wr).setCell (fun _ => rfl) _
  have bd : Bt (fun _ => False) u5 w0 := by rw [hw0]; exact ⟨rfl, rfl, rfl, Nat.le_refl _, fun _ _ _ => rfl⟩
  have bg := Bt.grownBy hg
  have b2 : Bt (fun p => p = xb) w9 w2 := by rw [hw2]; exact (Bt.refl (fun p => p = xb) w9).setCell (fun _ => rfl) _
  have z1 := b1.size
  have zs := bs.size
  have zd := bd.size
  have zg := bg.size
  have z2 := b2.size
  have zu : u5.heap.size = wr.heap.size := by rw [hu5]; simp [World.setCell]
  have z0 : w0.heap.size = u5.heap.size := by rw [hw0]
  have hob : w.heap.size < w1.heap.size := h1.2.1.lt
  have z11 := hU.2.1
  have zr := hR.1.size
  have lx := hL.blk.lt
  have lr := hL.ring.lt
  have gg := hL.ge
  have n1 := hL.n1
  have hvo : ∀ p, (Value.slice ao (4 * r) co).ownBlock = some p → p < w.heap.size ∧ p ≠ xb ∧ p ≠ rb ∧ p ≠ gb := fun p hp => ⟨(own_ge hL.out hp).2, (hL.n3 p hp).1, (hL.n3 p hp).2.1, (hL.n3 p hp).2.2⟩
  have hvl : ∀ p, (Value.slice a5 n5 c5).ownBlock = some p → (Value.slice al L.length cl).ownBlock = some p := fun p hp => h5.2.1 ▸ hp
  have hvl2 : ∀ p, (Value.slice a5 n5 c5).ownBlock = some p → p < w.heap.size ∧ p ≠ xb ∧ p ≠ rb ∧ p ≠ gb ∧ (Value.slice ao (4 * r) co).ownBlock ≠ some p := fun p hp => ⟨(hL.lst.ge (hvl p hp)).2, hL.n2 p (hvl p hp)⟩
  -- from wr to the end: xb and the old row of what came out
  have bw : Bt (fun p => p = xb ∨ (Value.slice ao (4 * r) co).ownBlock = some p) wr w2 :=
    (((bs.mono (T := fun p => p = xb ∨ (Value.slice ao (4 * r) co).ownBlock = some p) (fun _ _ x => .inl x)).trans bd (fun _ _ x => x.elim)).trans bg (fun _ _ x => .inr x)).trans b2 (fun _ _ x => .inl x)
  have ba : Bt (fun p => (p = rb ∨ p = gb) ∨ (p = xb ∨ (Value.slice ao (4 * r) co).ownBlock = some p)) w w2 := (b1.mono (T := fun p => (p = rb ∨ p = gb) ∨ (p = xb ∨ (Value.slice ao (4 * r) co).ownBlock = some p)) (fun _ _ x => .inl x)).trans bw (fun _ _ x => .inr x)
  have hgn : g ≠ xb ∧ g ≠ rb ∧ g ≠ gb ∧ (∀ p, (Value.slice a5 n5 c5).ownBlock = some p → p ≠ g) ∧ g ≠ w.heap.size ∧ base ≤ g := by
    have hbg : base ≤ g := (own_ge ho rfl).1
    rcases hat with h | h
    · have := hvo g h
      exact ⟨this.2.1, this.2.2.1, this.2.2.2, fun p hp e => (hvl2 p hp).2.2.2.2 (by rw [e]; exact h), by omega, hbg⟩
    · exact ⟨by omega, by omega, by omega, fun p hp e => by have := (hvl2 p hp).1; omega, by omega, hbg⟩
  have hrows : ∀ v ∈ rows ++ [.slice (some ⟨w.heap.size, 0, none⟩) k k, v1, v2, v3], ∀ p, v.ownBlock = some p → (v ∈ rows ∧ p < w.heap.size) ∨ (w.heap.size ≤ p ∧ p < w9.heap.size ∧ p ≠ g) := by
    intro v hv p hp
    rcases List.mem_append.1 hv with h | h
    · exact .inl ⟨h, (hL.rowge v h p hp).2⟩
    · right
      simp only [List.mem_cons, List.not_mem_nil, or_false] at h
      rcases h with rfl | rfl | rfl | rfl
      · have : w.heap.size = p := Option.some.inj hp
        exact ⟨by omega, by omega, fun e => hgn.2.2.2.2.1 (by omega)⟩
      · rw [e1] at hp s1
        have : g1 = p := Option.some.inj hp
        exact ⟨by omega, by omega, fun e => s1 (by rw [← e, ← this]; rfl)⟩
      · rw [e2] at hp s2
        have : g2 = p := Option.some.inj hp
        exact ⟨by omega, by omega, fun e => s2 (by rw [← e, ← this]; rfl)⟩
      · rw [e3] at hp s3
        have : g3 = p := Option.some.inj hp
        exact ⟨by omega, by omega, fun e => s3 (by rw [← e, ← this]; rfl)⟩
  refine ⟨foot xb rb gb (.slice a5 n5 c5) (.slice (some ⟨g, 0, none⟩) (4 * r + 4) cap) (rows ++ [.slice (some ⟨w.heap.size, 0, none⟩) k k, v1, v2, v3]), ⟨rb, gb, _, _, L.drop k, r + 1, _, ⟨?_, ?_, ?_, ?_, ?_, hL.thg.drop k, gg, ?_, n1, ?_, ?_, ?_⟩, fun p => Iff.rfl, by simp; omega, by omega, by simp⟩, ?_, ?_⟩
  · rw [hw2]; exact ((h6.blk.bt bd (fun x => x)).bt bg h6.nx).set3 _
  · exact ((h1.1.bt hU.1 (fun x => x) (fun x => x)).bt hR.1 (by omega) (by omega)).bt bw (by rintro (h | h); omega; exact (hvo _ h).2.2.1 rfl) (by rintro (h | h); omega; exact (hvo _ h).2.2.2 rfl)
  · refine h5.1.bt bw (fun p hp => ?_)
    have := hvl2 p hp
    rintro (h | h)
    · exact this.2.1 h
    · exact this.2.2.2.2 h
  · rw [show 4 * (r + 1) = 4 * r + 4 by omega]
    exact own_bt ho b2 (fun p hp e => hgn.1 (by have : g = p := Option.some.inj hp; omega))
  · have hmk : ∀ j, j < 4 → mk (4 * r + j) = m := by
      intro j hj
      unfold mk
      have : (4 * r + j) / 4 * 4 = 4 * r := by omega
      rw [this]; exact hm
    have hl : rows.length = 4 * r := by have := hL.out.1; omega
    have four : ∀ (c : Nat) (v : Value), c ≤ 1000000003 → kt.Marks w0.heap.size m c v w9 → RowT w2 m v := by
      intro c v hc hM
      obtain ⟨p, cp, rfl, hp, hcells⟩ := hM
      exact ⟨_, _, _, rfl, by omega, fun h0 => ⟨p, rfl, fun j hj => ⟨b2.cell (by omega) (hcells j hj).1, b2.cell (by omega) (hcells j hj).2⟩⟩⟩
    intro i v hv
    by_cases hi : i < 4 * r
    · rw [List.getElem?_append_left (by omega)] at hv
      refine (hL.marks i v hv).bt ba (fun p hp => ?_)
      have h4 := hL.n4 v (List.mem_of_getElem? hv) p hp
      rintro ((h | h) | (h | h))
      · exact h4.2.1 h
      · exact h4.2.2.1 h
      · exact h4.1 h
      · exact h4.2.2.2.2 h
    · rw [List.getElem?_append_right (by omega), hl] at hv
      obtain ⟨j, rfl⟩ : ∃ j, i = 4 * r + j := ⟨i - 4 * r, by omega⟩
      rw [show 4 * r + j - 4 * r = j by omega] at hv
      match j, hv with
      | 0, hv =>
        obtain rfl : Value.slice (some ⟨w.heap.size, 0, none⟩) k k = v := by simpa using hv
        rw [hmk 0 (by omega)]
        refine ⟨_, _, _, rfl, by omega, fun h0 => ⟨w.heap.size, rfl, fun j hj => ?_⟩⟩
        have b59 : Bt (fun p => p = xb ∨ (Value.slice ao (4 * r) co).ownBlock = some p) u5 w2 := ((bd.mono (T := fun p => p = xb ∨ (Value.slice ao (4 * r) co).ownBlock = some p) (fun _ _ x => x.elim)).trans bg (fun _ _ x => .inr x)).trans b2 (fun _ _ x => .inl x)
        have hno : ¬ (w.heap.size = xb ∨ (Value.slice ao (4 * r) co).ownBlock = some w.heap.size) := by rintro (h | h); omega; exact h6.no h
        exact ⟨b59.cell hno (h6.taken j hj).1, b59.cell hno (h6.taken j hj).2⟩
      | 1, hv =>
        obtain rfl : v1 = v := by simpa using hv
        rw [hmk 1 (by omega)]; exact four _ _ (by omega) hF4.r1
      | 2, hv =>
        obtain rfl : v2 = v := by simpa using hv
        rw [hmk 2 (by omega)]; exact four _ _ (by omega) hF4.r2
      | 3, hv =>
        obtain rfl : v3 = v := by simpa using hv
        rw [hmk 3 (by omega)]; exact four _ _ (by omega) hF4.r3
      | j + 4, hv => simp at hv
  · intro v hv p hp
    rcases hrows v hv p hp with ⟨h, h'⟩ | h
    · have := (hL.rowge v h p hp).1; omega
    · omega
  · intro p hp
    have := hvl2 p hp
    refine ⟨this.2.1, this.2.2.1, this.2.2.2.1, fun e => hgn.2.2.2.1 p hp ?_⟩
    exact (Option.some.inj e).symm
  · intro p hp
    have : g = p := Option.some.inj hp
    subst this
    exact ⟨hgn.1, hgn.2.1, hgn.2.2.1⟩
  · intro v hv p hp
    rcases hrows v hv p hp with ⟨h, h'⟩ | ⟨h, h', h''⟩
    · have h4 := hL.n4 v h p hp
      refine ⟨h4.1, h4.2.1, h4.2.2.1, fun e => h4.2.2.2.1 (hvl p e), fun e => ?_⟩
      have hgp : g = p := Option.some.inj e
      rcases hat with q1 | q1
      · exact h4.2.2.2.2 (hgp ▸ q1)
      · omega
    · exact ⟨by omega, by omega, by omega, fun e => by have := (hvl2 p e).1; omega, fun e => h'' (Option.some.inj e).symm⟩
  · rintro p (h | h | h | h | h | ⟨v, hv, h⟩)
    · exact .inl ((hF p).2 (.inl h))
    · exact .inl ((hF p).2 (.inr (.inl h)))
    · exact .inl ((hF p).2 (.inr (.inr (.inl h))))
    · exact .inl ((hF p).2 (.inr (.inr (.inr (.inl (hvl p h))))))
    · have hgp : g = p := Option.some.inj h
      rcases hat with q1 | q1
      · exact .inl ((hF p).2 (.inr (.inr (.inr (.inr (.inl (hgp ▸ q1)))))))
      · exact .inr (by omega)
    · rcases hrows v hv p h with ⟨h', _⟩ | ⟨h', _⟩
      · exact .inl ((hF p).2 (.inr (.inr (.inr (.inr (.inr ⟨v, h', h⟩))))))
      · exact .inr h'
  · refine ba.mono (fun p hp h => (hF p).2 ?_)
    rcases h with (h | h) | (h | h)
    · exact .inr (.inl h)
    · exact .inr (.inr (.inl h))
    · exact .inl h
    · exact .inr (.inr (.inr (.inr (.inl h))))
end

set_option maxHeartbeats 4000000 in
set_option maxRecDepth 20000 in
theorem take_line (base xb n : Nat) (F : Nat → Prop) (v : Int) (room : Int) (ln : Nat) (w : World) (h : Line w base xb F n room ln) (hn : n ≤ 2097151) (hv1 : -9223372036854775808 ≤ v) (hv2 : v ≤ 9223372036854775807) :
    Calls Try.prog 30 #[.pointer (some ⟨xb, 0, none⟩), .int .i64 v] w fun e w' => e = .returned (.bool true) ∧ ∃ F', Line w' base xb F' (n + 1) room (ln - (max 0 (min v ln)).toNat) ∧ (∀ k, F' k → F k ∨ w.heap.size ≤ k) ∧ Bt F w w' := by
  obtain ⟨rb, gb, vl, vo, L, r, rows, h1, h2, h3, h4, h5⟩ := h
  subst h5
  obtain ⟨al, cl, rfl, hcl, _⟩ := h1.lst.form
  obtain ⟨ao, co, rfl, hco, _⟩ := own_rows h1.out
  have HL : Hid (Ln w base xb rb gb room (.slice al L.length cl) (.slice ao (4 * r) co) L r rows ∧ (∀ k, F k ↔ foot xb rb gb (.slice al L.length cl) (.slice ao (4 * r) co) rows k) ∧ L.length ≤ 400 * n ∧ r ≤ n) := ⟨h1, h2, h3, h4⟩
  have hLl : L.length ≤ 1000000000 := by omega
  have hrl : r ≤ 2097151 := by omega
  obtain ⟨k, hk⟩ : ∃ k : Nat, (k : Int) = max 0 (min v L.length) := ⟨(max 0 (min v L.length)).toNat, by omega⟩
  have hkl : k ≤ L.length := by omega
  obtain ⟨kv, hkv⟩ : ∃ kv, kv = (max 0 (min v (L.length : Int))).toNat := ⟨_, rfl⟩
  rw [← hkv]
  have HKK : Hid (kv = k) := by show kv = k; omega
  clear hkv
  have CT := takeT rb gb 1099511627776 room L v k w h1.ring (by omega) hk
  have c0 := h1.blk.c0
  have CL : ∀ w1, Hid (TakeQT 1099511627776 w w1 rb gb room L k) → LB w1 xb rb room (.slice al L.length cl) (.slice ao (4 * r) co) := by
    intro w1 H1
    have := HL.out.1.n1
    exact HL.out.1.blk.bt H1.out.2.2 (by omega)
  have hcase : (v < 0 ∧ (k : Int) = 0) ∨ (¬ v < 0 ∧ v > L.length ∧ (L.length : Int) = (k : Int)) ∨ (¬ v < 0 ∧ ¬ v > L.length ∧ v = (k : Int)) := by
    rcases Int.lt_or_le v 0 with hh | hh
    · exact .inl ⟨hh, by omega⟩
    · rcases Int.lt_or_le (L.length : Int) v with h5 | h5
      · exact .inr (.inl ⟨by omega, h5, by omega⟩)
      · exact .inr (.inr ⟨by omega, by omega, by omega⟩)
  obtain ⟨q, hq⟩ : ∃ q, 4 * r = q := ⟨_, rfl⟩
  have HQ : Hid (4 * r = q) := hq
  rw [hq] at CL
  have hqb : q ≤ 8388604 := by omega
  clear h1 h2 h3 h4 hk hq
  rcases hcase with ⟨hv, hk0⟩ | ⟨hv, hv3, hk0⟩ | ⟨hv, hv3, rfl⟩
  · obtain rfl : k = 0 := by omega
    go_enter Try.func30, Try.ntmps30
    go_wp2_with (first
      | (go_at_call 53; refine CT.mono ?_; rintro e w1 ⟨rfl, H1'⟩; have H1 : Hid (TakeQT 1099511627776 w w1 rb gb room L 0) := H1'; clear H1' CT; have d2 := (CL w1 H1).c2; have d3 := (CL w1 H1).c3))
    obtain ⟨u, hu⟩ : ∃ u, u = w1.alloc (.cells #[.int .i64 (-1000 - (q : Int)), .string { data := #[107, 101, 112, 116] }] 44) := ⟨_, rfl⟩
    obtain ⟨mb, hmb⟩ : ∃ mb, mb = w1.heap.size := ⟨_, rfl⟩
    have HU : Hid (Bt (fun _ => False) w1 u ∧ u.heap.size = w1.heap.size + 1 ∧ u.cell? ⟨mb, 0, none⟩ = some (.int .i64 (-1000 - (q : Int))) ∧ u.cell? ⟨mb, 1, none⟩ = some (.string kept) ∧ mb = w1.heap.size) := by
      rw [hu, hmb]
      refine ⟨(Bt.refl _ _).alloc _, by simp, ?_, ?_, rfl⟩ <;> (rw [World.cell?_alloc_at _ _ _ _ rfl]; rfl)
    rw [← hu, ← hmb]
    have H0 : Hid (LtQ u u w.heap.size 0 L (-1000 - (q : Int)) 0) := by
      have hr := H1.out.2.1
      have b := HU.out.1
      refine ⟨Bt.refl _ _, fun j _ hj => ?_, fun j hj => by omega, fun p => ?_⟩
      · exact taken_cells (hr.bt b (fun x => x)) HL.out.1.thg hkl j hj
      · have := hr.bt b (fun x => x)
        unfold Rw at this
        simp [World.frozen?, this]
    obtain ⟨m, hm⟩ : ∃ m : Int, -1000 - (q : Int) = m := ⟨_, rfl⟩
    have HM : Hid (-1000 - (q : Int) = m) := hm
    rw [hm] at H0 HU
    clear hu hmb hm CL c0 d2 d3
    go_loopw [7] (fun ti wr => ∃ i : Nat, i ≤ 0 ∧ ti = .int .i64 i ∧ Hid (LtQ u wr w.heap.size 0 L m i)) (fun ti _ => 0 - (intOf ti).toNat)
    case atStart => exact ⟨0, Nat.zero_le _, rfl, H0⟩
    case round =>
      obtain ⟨i, hi, rfl, HR⟩ := hrel
      by_cases hlt : i < 0
      · omega
      · obtain rfl : i = 0 := by omega
        have LBr : LB wr xb rb room (.slice al L.length cl) (.slice ao q co) := by
          have hx := HL.out.1.n1
          have lx := HL.out.1.blk.lt
          have := ((HL.out.1.blk.bt H1.out.2.2 (by omega)).bt HU.out.1 (fun x => x)).bt HR.out.1 (by omega)
          rw [HQ.out] at this
          exact this
        have HLr : Lst wr base 44 2 (.slice al L.length cl) L := by
          have := (HL.out.1.lst.bt H1.out.2.2 (fun g hg => by have := HL.out.1.n2 g hg; omega)).bt HU.out.1 (fun _ _ x => x)
          exact this.bt HR.out.1 (fun g hg => by have := (HL.out.1.lst.ge hg).2; omega)
        obtain ⟨a5, n5, c5, hsl, hL5, hb5⟩ := slice_cut HLr hkl
        obtain ⟨vlx, hvlx⟩ : ∃ x, x = Value.slice al L.length cl := ⟨_, rfl⟩
        have xx2 := LBr.c2
        have yy2 := LBr.fr 2
        rw [← hvlx] at xx2 hsl
        try rw [show ((0 : Nat) : Int) = 0 from rfl] at hsl
        have H5 : Hid (Lst wr base 44 2 (.slice a5 n5 c5) (L.drop 0) ∧ (Value.slice a5 n5 c5).ownBlock = (Value.slice al L.length cl).ownBlock ∧ LB wr xb rb room (.slice al L.length cl) (.slice ao q co)) := ⟨hL5, hb5, LBr⟩
        clear hL5 hb5 LBr HLr hvlx
        go_wp2
        obtain ⟨u5, hu5⟩ : ∃ u5, u5 = wr.setCell ⟨xb, 2, none⟩ (.slice a5 n5 c5) := ⟨_, rfl⟩
        have H6 : Hid (T5Q u5 base xb rb room ao q co a5 n5 c5 rows mb w.heap.size 0 m) := take_mid HL.out.1 HQ.out H1.out HU.out HR.out H5.out hu5
        rw [← hu5]
        obtain ⟨w0, hw0⟩ : ∃ w0 : World, w0 = { u5 with drawn := u5.drawn + 1 } := ⟨_, rfl⟩
        have hO0 : w0.ownsRow base 45 1 (.slice ao q co) q rows := by rw [hw0]; exact H6.out.out
        have hsz : w0.heap.size = u5.heap.size := by rw [hw0]
        have hbase0 : base ≤ w0.heap.size := by rw [hsz]; exact H6.out.base
        have hrow : ∀ j, (Value.slice ao q co).ownBlock = some j → j < w0.heap.size := fun j hj => (own_ge hO0 hj).2
        have hbb : ∀ w' : World, w0.grownBy w' (Value.slice ao q co).ownBlock → w'.cell? ⟨xb, 3, none⟩ = some (.slice ao q co) ∧ w'.frozen? ⟨xb, 3, none⟩ = false := by
          intro w2 hg
          have c0 : w0.cell? ⟨xb, 3, none⟩ = some (.slice ao q co) := by rw [hw0]; exact H6.out.blk.c3
          have f0 : w0.frozen? ⟨xb, 3, none⟩ = false := by rw [hw0]; exact H6.out.blk.fr 3
          exact ⟨hg.cell c0 (fun e => H6.out.nx e.symm), (hg.frozen_far _ (World.block_lt_of_cell? w0 _ c0) (fun e => H6.out.nx e.symm)).trans f0⟩
        have hmm : ∀ w' : World, w0.grownBy w' (Value.slice ao q co).ownBlock → w'.cell? ⟨mb, 0, none⟩ = some (.int .i64 m) ∧ w'.cell? ⟨mb, 1, none⟩ = some (.string kept) := by
          intro w2 hg
          have c0 : w0.cell? ⟨mb, 0, none⟩ = some (.int .i64 m) := by rw [hw0]; exact H6.out.m0
          have c1 : w0.cell? ⟨mb, 1, none⟩ = some (.string kept) := by rw [hw0]; exact H6.out.m1
          exact ⟨hg.cell c0 (fun e => H6.out.nm e.symm), hg.cell c1 (fun e => H6.out.nm e.symm)⟩
        have hlc : ∀ w' : World, w0.grownBy w' (Value.slice ao q co).ownBlock → ∀ b, (some ⟨w.heap.size, 0, none⟩ : Option Addr) = some b → ∀ (j : Nat) v, (kt.marksL m 0)[j]? = some v → w'.cell? (b.add j) = some v := by
          intro w2 hg b hb j v hv
          obtain rfl := Option.some.inj hb
          rw [add_at]
          obtain ⟨i, hi, ⟨rfl, rfl⟩ | ⟨rfl, rfl⟩⟩ := kt.marksL_some hv
          · have c0 : w0.cell? ⟨w.heap.size, i * 2, none⟩ = some (.int .i64 m) := by rw [hw0]; exact (H6.out.taken i hi).1
            exact hg.cell c0 (fun e => H6.out.no e.symm)
          · have c0 : w0.cell? ⟨w.heap.size, i * 2 + 1, none⟩ = some (.string kept) := by rw [hw0]; exact (H6.out.taken i hi).2
            exact hg.cell c0 (fun e => H6.out.no e.symm)
        have hkb : 0 ≤ 1000000000 := by omega
        have HU5 : Hid (u5 = wr.setCell ⟨xb, 2, none⟩ (.slice a5 n5 c5)) := hu5
        clear hsl xx2 yy2 hu5
        refine wp_region_inv (by kernel_rfl) (kt.KK base 45 q rows w0 mb xb 0 (.slice (some ⟨w.heap.size, 0, none⟩) 0 0) (.slice ao q co) m) ?_ ?_ ?_
        · refine .inl ⟨rep_false _ _, ⟨by simp, rfl, rfl, rfl, rfl, rfl, fun j hj h => ?_, fun h => ?_, fun h => ?_, ?_, ?_⟩, fun h => ?_⟩
          · rw [rep_false] at h; cases h
          · rw [rep_false] at h; cases h
          · rw [rep_false] at h; cases h
          · rw [← hw0]; exact World.grownBy.refl _ _
          · intro _; rw [← hw0]; exact World.grownBy.refl _ _
          · rw [rep_false] at h; cases h
        · intro listed a wx i hdown hKK hi
          have hun := (mem_ready.mp hi).1
          have hlt : i < 26 := by obtain ⟨_, o, ho, _⟩ := mem_ready.mp hi; exact (Array.getElem?_eq_some_iff.mp ho).1
          rcases hKK with ⟨h25, hJ, hown⟩ | ⟨hall, _⟩
          case inr => exact absurd (hall i hlt) (fun h => getD_tt h hun)
          rcases (show i = 0 ∨ i = 1 ∨ i = 2 ∨ i = 3 ∨ i = 4 ∨ i = 5 ∨ i = 6 ∨ i = 7 ∨ i = 8 ∨ i = 9 ∨ i = 10 ∨ i = 11 ∨ i = 12 ∨ i = 13 ∨ i = 14 ∨ i = 15 ∨ i = 16 ∨ i = 17 ∨ i = 18 ∨ i = 19 ∨ i = 20 ∨ i = 21 ∨ i = 22 ∨ i = 23 ∨ i = 24 ∨ i = 25 by omega) with rfl | rfl | rfl | rfl | rfl | rfl | rfl | rfl | rfl | rfl | rfl | rfl | rfl | rfl | rfl | rfl | rfl | rfl | rfl | rfl | rfl | rfl | rfl | rfl | rfl | rfl
          · exact step_move (.tmp 0) rfl (kt.KK.same hJ hrow h25 hown 0 (by omega) (by omega) _ hJ.t0 (fun e => by omega))
          · exact step_move (.tmp 0) rfl (kt.KK.same hJ hrow h25 hown 1 (by omega) (by omega) _ hJ.t0 (fun e => by omega))
          · exact step_nil (.tmp 70) ⟨xb, 0, none⟩ (hJ.vals 1 (by omega) (dep 1 hi (by kernel_rfl))) rfl (kt.KK.same hJ hrow h25 hown 2 (by omega) (by omega) _ rfl (fun e => by omega))
          · exact kt.step_field (.tmp 71) xb (hJ.vals 2 (by omega) (dep 2 hi (by kernel_rfl))) rfl (kt.KK.same hJ hrow h25 hown 3 (by omega) (by omega) _ rfl (fun e => by omega))
          · exact kt.step_load (.tmp 72) xb _ (hJ.vals 3 (by omega) (dep 3 hi (by kernel_rfl))) (hbb wx hJ.grown).1 rfl (kt.KK.same hJ hrow h25 hown 4 (by omega) (by omega) _ rfl (fun e => by omega))
          · exact step_move (.tmp 5) rfl (kt.KK.same hJ hrow h25 hown 5 (by omega) (by omega) _ hJ.t1 (fun e => by omega))
          · exact step_move (.tmp 5) rfl (kt.KK.same hJ hrow h25 hown 6 (by omega) (by omega) _ hJ.t1 (fun e => by omega))
          · exact kt.step_loadM (.tmp 6) mb m hJ.t4 (hmm wx hJ.grown).1 (hmm wx hJ.grown).2 rfl (kt.KK.same hJ hrow h25 hown 7 (by omega) (by omega) _ rfl (fun e => by omega))
          · exact kt.step_build1 (.tmp 76) m (hJ.vals 7 (by omega) (dep 7 hi (by kernel_rfl))) rfl (kt.KK.grow hJ hrow h25 8 (by omega) (by omega) hun _ _ (World.grownBy_alloc wx _ _) (kt.marks_new rfl rfl hJ.grown.size))
          · obtain ⟨gn, cn, hv, hH, hcn⟩ := (hJ.vals 8 (by omega) (dep 8 hi (by kernel_rfl)))
            refine kt.step_grow (.tmp 75) (.tmp 77) (some ⟨w.heap.size, 0, none⟩) 0 (kt.marksL m 0) (kt.marksL m 1) ⟨gn, 0, none⟩ 1 cn (hJ.vals 6 (by omega) (dep 6 hi (by kernel_rfl))) hv (by omega) (by omega) (fun h => by cases h) (kt.marksL_len m _) (hlc wx hJ.grown) (kt.marksL_len m 1) ?_ (kt.marksL_one m 1) rfl ?_
            · intro j v hv
              rw [add_at]
              obtain ⟨i, hi, ⟨rfl, rfl⟩ | ⟨rfl, rfl⟩⟩ := kt.marksL_some hv
              · exact (hcn i hi).1
              · exact (hcn i hi).2
            · intro v' w' ho hg
              exact kt.KK.grow hJ hrow h25 9 (by omega) (by omega) hun v' w' hg (kt.marks_of_own ho (by omega) hJ.grown.size)
          · exact step_move (.tmp 5) rfl (kt.KK.same hJ hrow h25 hown 10 (by omega) (by omega) _ hJ.t1 (fun e => by omega))
          · exact kt.step_loadM (.tmp 6) mb m hJ.t4 (hmm wx hJ.grown).1 (hmm wx hJ.grown).2 rfl (kt.KK.same hJ hrow h25 hown 11 (by omega) (by omega) _ rfl (fun e => by omega))
          · exact kt.step_loadM (.tmp 6) mb m hJ.t4 (hmm wx hJ.grown).1 (hmm wx hJ.grown).2 rfl (kt.KK.same hJ hrow h25 hown 12 (by omega) (by omega) _ rfl (fun e => by omega))
          · exact kt.step_build2 (.tmp 80) (.tmp 81) m (hJ.vals 11 (by omega) (dep 11 hi (by kernel_rfl))) (hJ.vals 12 (by omega) (dep 12 hi (by kernel_rfl))) rfl (kt.KK.grow hJ hrow h25 13 (by omega) (by omega) hun _ _ (World.grownBy_alloc wx _ _) (kt.marks_new rfl rfl hJ.grown.size))
          · obtain ⟨gn, cn, hv, hH, hcn⟩ := (hJ.vals 13 (by omega) (dep 13 hi (by kernel_rfl)))
            refine kt.step_grow (.tmp 79) (.tmp 82) (some ⟨w.heap.size, 0, none⟩) 0 (kt.marksL m 0) (kt.marksL m 2) ⟨gn, 0, none⟩ 2 cn (hJ.vals 10 (by omega) (dep 10 hi (by kernel_rfl))) hv (by omega) (by omega) (fun h => by cases h) (kt.marksL_len m _) (hlc wx hJ.grown) (kt.marksL_len m 2) ?_ (kt.marksL_one m 2) rfl ?_
            · intro j v hv
              rw [add_at]
              obtain ⟨i, hi, ⟨rfl, rfl⟩ | ⟨rfl, rfl⟩⟩ := kt.marksL_some hv
              · exact (hcn i hi).1
              · exact (hcn i hi).2
            · intro v' w' ho hg
              exact kt.KK.grow hJ hrow h25 14 (by omega) (by omega) hun v' w' hg (kt.marks_of_own ho (by omega) hJ.grown.size)
          · exact step_move (.tmp 5) rfl (kt.KK.same hJ hrow h25 hown 15 (by omega) (by omega) _ hJ.t1 (fun e => by omega))
          · exact kt.step_loadM (.tmp 6) mb m hJ.t4 (hmm wx hJ.grown).1 (hmm wx hJ.grown).2 rfl (kt.KK.same hJ hrow h25 hown 16 (by omega) (by omega) _ rfl (fun e => by omega))
          · exact kt.step_loadM (.tmp 6) mb m hJ.t4 (hmm wx hJ.grown).1 (hmm wx hJ.grown).2 rfl (kt.KK.same hJ hrow h25 hown 17 (by omega) (by omega) _ rfl (fun e => by omega))
          · exact kt.step_loadM (.tmp 6) mb m hJ.t4 (hmm wx hJ.grown).1 (hmm wx hJ.grown).2 rfl (kt.KK.same hJ hrow h25 hown 18 (by omega) (by omega) _ rfl (fun e => by omega))
          · exact kt.step_build3 (.tmp 85) (.tmp 86) (.tmp 87) m (hJ.vals 16 (by omega) (dep 16 hi (by kernel_rfl))) (hJ.vals 17 (by omega) (dep 17 hi (by kernel_rfl))) (hJ.vals 18 (by omega) (dep 18 hi (by kernel_rfl))) rfl (kt.KK.grow hJ hrow h25 19 (by omega) (by omega) hun _ _ (World.grownBy_alloc wx _ _) (kt.marks_new rfl rfl hJ.grown.size))
          · obtain ⟨gn, cn, hv, hH, hcn⟩ := (hJ.vals 19 (by omega) (dep 19 hi (by kernel_rfl)))
            refine kt.step_grow (.tmp 84) (.tmp 88) (some ⟨w.heap.size, 0, none⟩) 0 (kt.marksL m 0) (kt.marksL m 3) ⟨gn, 0, none⟩ 3 cn (hJ.vals 15 (by omega) (dep 15 hi (by kernel_rfl))) hv (by omega) (by omega) (fun h => by cases h) (kt.marksL_len m _) (hlc wx hJ.grown) (kt.marksL_len m 3) ?_ (kt.marksL_one m 3) rfl ?_
            · intro j v hv
              rw [add_at]
              obtain ⟨i, hi, ⟨rfl, rfl⟩ | ⟨rfl, rfl⟩⟩ := kt.marksL_some hv
              · exact (hcn i hi).1
              · exact (hcn i hi).2
            · intro v' w' ho hg
              exact kt.KK.grow hJ hrow h25 20 (by omega) (by omega) hun v' w' hg (kt.marks_of_own ho (by omega) hJ.grown.size)
          · obtain ⟨g1, c1, hv1, hH1, hc1⟩ := (show kt.Marks w0.heap.size m (0 + 1) (a.tmps.getD 78 undef) wx from hJ.vals 9 (by omega) (dep 9 hi (by kernel_rfl)))
            obtain ⟨g2, c2, hv2, hH2, hc2⟩ := (show kt.Marks w0.heap.size m (0 + 2) (a.tmps.getD 83 undef) wx from hJ.vals 14 (by omega) (dep 14 hi (by kernel_rfl)))
            obtain ⟨g3, c3, hv3, hH3, hc3⟩ := (show kt.Marks w0.heap.size m (0 + 3) (a.tmps.getD 89 undef) wx from hJ.vals 20 (by omega) (dep 20 hi (by kernel_rfl)))
            refine kt.step_build4 (.tmp 74) (.tmp 78) (.tmp 83) (.tmp 89) _ _ _ _ _ _ _ _ _ _ _ _ (hJ.vals 5 (by omega) (dep 5 hi (by kernel_rfl))) hv1 hv2 hv3 rfl (kt.KK.grow hJ hrow h25 21 (by omega) (by omega) hun _ _ (World.grownBy_alloc wx _ _) ⟨wx.heap.size, .slice (some ⟨g1, 0, none⟩) (0 + 1) c1, .slice (some ⟨g2, 0, none⟩) (0 + 2) c2, .slice (some ⟨g3, 0, none⟩) (0 + 3) c3, rfl, hJ.grown.size, ?_, ?_⟩)
            · have F : kt.Fours w0.heap.size 0 (.slice (some ⟨w.heap.size, 0, none⟩) 0 0) m (.slice (some ⟨g1, 0, none⟩) (0 + 1) c1) (.slice (some ⟨g2, 0, none⟩) (0 + 2) c2) (.slice (some ⟨g3, 0, none⟩) (0 + 3) c3) wx := ⟨⟨g1, c1, rfl, hH1, hc1⟩, ⟨g2, c2, rfl, hH2, hc2⟩, ⟨g3, c3, rfl, hH3, hc3⟩⟩
              exact F.mono (World.grownBy_alloc wx _ none) (fun _ h => by cases h)
            · intro j u hu
              exact alloc_at wx _ _ j u (by simpa using hu)
          · obtain ⟨gn, v1, v2, v3, hv, hH, hF, hcn⟩ := (hJ.vals 21 (by omega) (dep 21 hi (by kernel_rfl)))
            have hall : ∀ j, 1 ≤ j → j < 22 → listed.getD j false = true := ready_reach hdown hi 12 22 1 (by kernel_rfl)
            have h22 : listed.getD 22 false = false := by
              cases e : listed.getD 22 false with
              | false => rfl
              | true => exact (getD_tt e hun).elim
            refine kt.step_lies (.tmp 73) (.tmp 90) base (.slice ao q co) q rows [.slice (some ⟨w.heap.size, 0, none⟩) 0 0, v1, v2, v3] ⟨gn, 0, none⟩ (hJ.vals 4 (by omega) (dep 4 hi (by kernel_rfl))) (own_mono hO0 (hJ.pure h22)) hv (by omega) rfl ?_ ?_ (Nat.le_trans hbase0 hJ.grown.size) rfl ?_
            · intro j u hu
              rw [add_at]; exact hcn j u hu
            · intro u hu
              obtain ⟨g1, c1, e1, _⟩ := hF.r1
              obtain ⟨g2, c2, e2, _⟩ := hF.r2
              obtain ⟨g3, c3, e3, _⟩ := hF.r3
              subst e1 e2 e3
              simp at hu
              rcases hu with rfl | rfl | rfl | rfl <;> rfl
            · intro g cap w' ho hg hat
              obtain ⟨g1, c1, e1, b1, l1⟩ := hF.r1.lt (by omega)
              obtain ⟨g2, c2, e2, b2, l2⟩ := hF.r2.lt (by omega)
              obtain ⟨g3, c3, e3, b3, l3⟩ := hF.r3.lt (by omega)
              have hsep : ∀ x, w0.heap.size ≤ x → x < wx.heap.size → x ≠ g := by
                intro x h1 h2 e
                subst e
                rcases hat with h | h
                · have := hrow _ h; omega
                · omega
              refine kt.KK.own hJ hrow h25 hall _ w' hg ⟨g, cap, v1, v2, v3, rfl, ho, hF.mono hg hrow, hat.imp id (fun h => by have := hJ.grown.size; omega), ?_, ?_, ?_⟩
              · rw [e1]; intro h; exact hsep g1 b1 l1 (Option.some.inj h)
              · rw [e2]; intro h; exact hsep g2 b2 l2 (Option.some.inj h)
              · rw [e3]; intro h; exact hsep g3 b3 l3 (Option.some.inj h)
          · exact step_nil (.tmp 69) ⟨xb, 0, none⟩ (hJ.vals 0 (by omega) (dep 0 hi (by kernel_rfl))) rfl (kt.KK.same hJ hrow h25 hown 23 (by omega) (by omega) _ rfl (fun e => by omega))
          · exact kt.step_field (.tmp 92) xb (hJ.vals 23 (by omega) (dep 23 hi (by kernel_rfl))) rfl (kt.KK.same hJ hrow h25 hown 24 (by omega) (by omega) _ rfl (fun e => dep 23 hi (by kernel_rfl)))
          · have h22 := dep 22 hi (by kernel_rfl)
            have h24 := dep 24 hi (by kernel_rfl)
            have hO := hown h22
            obtain ⟨g, cap, v1, v2, v3, hv, hrest⟩ := hO
            refine kt.step_store (.tmp 93) (.tmp 91) xb _ _ _ _ (hJ.vals 24 (by omega) h24) hv (hbb wx hJ.grown).1 (hbb wx hJ.grown).2 rfl ?_
            exact kt.KK.stored hJ ⟨g, cap, v1, v2, v3, rfl, hv ▸ hrest⟩ (fun j hj => ready_reach hdown hi 2 25 0 (by kernel_rfl) j (Nat.zero_le _) hj)
        · intro listed a w2 hKK hr
          rcases hKK with ⟨h25, hJ, _⟩ | ⟨_, hd, hts, w9, v9, hg, hO, hw2⟩
          · exfalso
            have := all_listed hJ.lsize hr (low_of (by kernel_rfl)) 25 (by decide)
            rw [this] at h25; cases h25
          · have HF : Hid (∃ F', Line w2 base xb F' (n + 1) room (L.length - kv) ∧ (∀ k, F' k → F k ∨ w.heap.size ≤ k) ∧ Bt F w w2) := by
              rw [HKK.out]
              exact take_fin HL.out.1 HL.out.2.1 HL.out.2.2.1 HL.out.2.2.2 HQ.out HM.out H1.out HU.out HR.out H5.out HU5.out H6.out hw0 hg hO hw2 hkl hkb
            clear hO hg hw2 hr H6 hO0 hsz hbase0 hrow hbb hmm hlc HL H1 HU HR H5 HU5 HM HQ H0
            obtain ⟨tm, df⟩ := a
            simp only at hd hts
            subst hd
            go_wp2
            go_ret
            refine ⟨?_, HF.out⟩
            simp [hts]
  all_goals
    go_enter Try.func30, Try.ntmps30
    go_wp2_with (first
      | (go_at_call 53; refine CT.mono ?_; rintro e w1 ⟨rfl, H1'⟩; have H1 : Hid (TakeQT 1099511627776 w w1 rb gb room L k) := H1'; clear H1' CT; have d2 := (CL w1 H1).c2; have d3 := (CL w1 H1).c3))
    obtain ⟨u, hu⟩ : ∃ u, u = w1.alloc (.cells #[.int .i64 (-1000 - (q : Int)), .string { data := #[107, 101, 112, 116] }] 44) := ⟨_, rfl⟩
    obtain ⟨mb, hmb⟩ : ∃ mb, mb = w1.heap.size := ⟨_, rfl⟩
    have HU : Hid (Bt (fun _ => False) w1 u ∧ u.heap.size = w1.heap.size + 1 ∧ u.cell? ⟨mb, 0, none⟩ = some (.int .i64 (-1000 - (q : Int))) ∧ u.cell? ⟨mb, 1, none⟩ = some (.string kept) ∧ mb = w1.heap.size) := by
      rw [hu, hmb]
      refine ⟨(Bt.refl _ _).alloc _, by simp, ?_, ?_, rfl⟩ <;> (rw [World.cell?_alloc_at _ _ _ _ rfl]; rfl)
    rw [← hu, ← hmb]
    have H0 : Hid (LtQ u u w.heap.size k L (-1000 - (q : Int)) 0) := by
      have hr := H1.out.2.1
      have b := HU.out.1
      refine ⟨Bt.refl _ _, fun j _ hj => ?_, fun j hj => by omega, fun p => ?_⟩
      · exact taken_cells (hr.bt b (fun x => x)) HL.out.1.thg hkl j hj
      · have := hr.bt b (fun x => x)
        unfold Rw at this
        simp [World.frozen?, this]
    obtain ⟨m, hm⟩ : ∃ m : Int, -1000 - (q : Int) = m := ⟨_, rfl⟩
    have HM : Hid (-1000 - (q : Int) = m) := hm
    rw [hm] at H0 HU
    clear hu hmb hm CL c0 d2 d3
    go_loopw [7] (fun ti wr => ∃ i : Nat, i ≤ k ∧ ti = .int .i64 i ∧ Hid (LtQ u wr w.heap.size k L m i)) (fun ti _ => k - (intOf ti).toNat)
    case atStart => exact ⟨0, Nat.zero_le _, rfl, H0⟩
    case round =>
      obtain ⟨i, hi, rfl, HR⟩ := hrel
      by_cases hlt : i < k
      · obtain ⟨nn, ss, f0, f1⟩ := HL.out.1.thg.flat (i := i) (by omega)
        have m0 := (HR.out.2.1 i (Nat.le_refl _) hlt).1.trans f0
        have m1 := (HR.out.2.1 i (Nat.le_refl _) hlt).2.trans f1
        obtain ⟨b, oo, cc, hvl, _, _, hbge, hblt, hlc, _⟩ := HL.out.1.lst.some_ (by omega)
        simp only [Value.slice.injEq] at hvl
        obtain ⟨rfl, _, rfl⟩ := hvl
        have hbr := HL.out.1.n2 b rfl
        have hbw : b < w.heap.size := hblt
        have kk0 := HR.out.1.cell (b := b) (by omega) (HU.out.1.cell (fun x => x) (H1.out.2.2.cell (by omega) (hlc _ _ f0)))
        have kk1 := HR.out.1.cell (b := b) (by omega) (HU.out.1.cell (fun x => x) (H1.out.2.2.cell (by omega) (hlc _ _ f1)))
        rw [← Nat.add_assoc] at kk1
        have sz1 := H1.out.2.2.size
        have hob : w.heap.size < w1.heap.size := H1.out.2.1.lt
        have bb0 := HR.out.1.cell (b := mb) (by have := HU.out.2.2.2.2; omega) HU.out.2.2.1
        have bb1 := HR.out.1.cell (b := mb) (by have := HU.out.2.2.2.2; omega) HU.out.2.2.2.1
        have hmo : ¬ mb = w.heap.size := by have := HU.out.2.2.2.2; omega
        have xx2 : wr.cell? ⟨xb, 2, none⟩ = some (.slice (some ⟨b, oo, none⟩) L.length cl) := by
          have hx := HL.out.1.n1
          have lx := HL.out.1.blk.lt
          exact HR.out.1.cell (by omega) (HU.out.1.cell (fun x => x) (H1.out.2.2.cell (by omega) HL.out.1.blk.c2))
        have fr0 := HR.out.2.2.2 (i * 2)
        have fr1 := HR.out.2.2.2 (i * 2 + 1)
        have i1 : (i : Int) < ((k : Nat) : Int) := by omega
        have i2 : (i : Int) < (L.length : Int) := by omega
        unfold kept at bb1
        clear f0 f1 hbge hblt hlc hbr hbw
        go_wp2
        go_quiet (fail)
        go_wp2
        go_roundw
        case rel =>
          refine ⟨i + 1, by omega, by go_num, ((HR.out.1.drewN _).setCell (fun _ => rfl) _).setCell (fun _ => rfl) _, fun j hj hjl => ?_, fun j hj => ?_, fun p => ?_⟩
          · have := HR.out.2.1 j (by omega) hjl
            constructor
            · rw [World.cell?_setCell_other _ _ _ _ (by intro he; injection he with _ e2 _; omega), World.cell?_setCell_other _ _ _ _ (by intro he; injection he with _ e2 _; omega)]; exact this.1
            · rw [World.cell?_setCell_other _ _ _ _ (by intro he; injection he with _ e2 _; omega), World.cell?_setCell_other _ _ _ _ (by intro he; injection he with _ e2 _; omega)]; exact this.2
          · by_cases hji : j = i
            · subst hji
              constructor
              · rw [World.cell?_setCell_other _ _ _ _ (by intro he; injection he with _ e2 _; omega)]; exact World.cell?_setCell_same _ _ _ m0
              · exact World.cell?_setCell_same _ _ _ ((World.cell?_setCell_other _ _ _ _ (by intro he; injection he with _ e2 _; omega)).trans m1)
            · have := HR.out.2.2.1 j (by omega)
              constructor
              · rw [World.cell?_setCell_other _ _ _ _ (by intro he; injection he with _ e2 _; omega), World.cell?_setCell_other _ _ _ _ (by intro he; injection he with _ e2 _; omega)]; exact this.1
              · rw [World.cell?_setCell_other _ _ _ _ (by intro he; injection he with _ e2 _; omega), World.cell?_setCell_other _ _ _ _ (by intro he; injection he with _ e2 _; omega)]; exact this.2
          · rw [World.frozen?_setCell, World.frozen?_setCell]; exact HR.out.2.2.2 p
        case measure => simp [intOf]; omega
      · obtain rfl : k = i := by omega
        have LBr : LB wr xb rb room (.slice al L.length cl) (.slice ao q co) := by
          have hx := HL.out.1.n1
          have lx := HL.out.1.blk.lt
          have := ((HL.out.1.blk.bt H1.out.2.2 (by omega)).bt HU.out.1 (fun x => x)).bt HR.out.1 (by omega)
          rw [HQ.out] at this
          exact this
        have HLr : Lst wr base 44 2 (.slice al L.length cl) L := by
          have := (HL.out.1.lst.bt H1.out.2.2 (fun g hg => by have := HL.out.1.n2 g hg; omega)).bt HU.out.1 (fun _ _ x => x)
          exact this.bt HR.out.1 (fun g hg => by have := (HL.out.1.lst.ge hg).2; omega)
        obtain ⟨a5, n5, c5, hsl, hL5, hb5⟩ := slice_cut HLr hkl
        obtain ⟨vlx, hvlx⟩ : ∃ x, x = Value.slice al L.length cl := ⟨_, rfl⟩
        have xx2 := LBr.c2
        have yy2 := LBr.fr 2
        rw [← hvlx] at xx2 hsl
        try rw [show ((0 : Nat) : Int) = 0 from rfl] at hsl
        have H5 : Hid (Lst wr base 44 2 (.slice a5 n5 c5) (L.drop k) ∧ (Value.slice a5 n5 c5).ownBlock = (Value.slice al L.length cl).ownBlock ∧ LB wr xb rb room (.slice al L.length cl) (.slice ao q co)) := ⟨hL5, hb5, LBr⟩
        clear hL5 hb5 LBr HLr hvlx
        go_wp2
        obtain ⟨u5, hu5⟩ : ∃ u5, u5 = wr.setCell ⟨xb, 2, none⟩ (.slice a5 n5 c5) := ⟨_, rfl⟩
        have H6 : Hid (T5Q u5 base xb rb room ao q co a5 n5 c5 rows mb w.heap.size k m) := take_mid HL.out.1 HQ.out H1.out HU.out HR.out H5.out hu5
        rw [← hu5]
        obtain ⟨w0, hw0⟩ : ∃ w0 : World, w0 = { u5 with drawn := u5.drawn + 1 } := ⟨_, rfl⟩
        have hO0 : w0.ownsRow base 45 1 (.slice ao q co) q rows := by rw [hw0]; exact H6.out.out
        have hsz : w0.heap.size = u5.heap.size := by rw [hw0]
        have hbase0 : base ≤ w0.heap.size := by rw [hsz]; exact H6.out.base
        have hrow : ∀ j, (Value.slice ao q co).ownBlock = some j → j < w0.heap.size := fun j hj => (own_ge hO0 hj).2
        have hbb : ∀ w' : World, w0.grownBy w' (Value.slice ao q co).ownBlock → w'.cell? ⟨xb, 3, none⟩ = some (.slice ao q co) ∧ w'.frozen? ⟨xb, 3, none⟩ = false := by
          intro w2 hg
          have c0 : w0.cell? ⟨xb, 3, none⟩ = some (.slice ao q co) := by rw [hw0]; exact H6.out.blk.c3
          have f0 : w0.frozen? ⟨xb, 3, none⟩ = false := by rw [hw0]; exact H6.out.blk.fr 3
          exact ⟨hg.cell c0 (fun e => H6.out.nx e.symm), (hg.frozen_far _ (World.block_lt_of_cell? w0 _ c0) (fun e => H6.out.nx e.symm)).trans f0⟩
        have hmm : ∀ w' : World, w0.grownBy w' (Value.slice ao q co).ownBlock → w'.cell? ⟨mb, 0, none⟩ = some (.int .i64 m) ∧ w'.cell? ⟨mb, 1, none⟩ = some (.string kept) := by
          intro w2 hg
          have c0 : w0.cell? ⟨mb, 0, none⟩ = some (.int .i64 m) := by rw [hw0]; exact H6.out.m0
          have c1 : w0.cell? ⟨mb, 1, none⟩ = some (.string kept) := by rw [hw0]; exact H6.out.m1
          exact ⟨hg.cell c0 (fun e => H6.out.nm e.symm), hg.cell c1 (fun e => H6.out.nm e.symm)⟩
        have hlc : ∀ w' : World, w0.grownBy w' (Value.slice ao q co).ownBlock → ∀ b, (some ⟨w.heap.size, 0, none⟩ : Option Addr) = some b → ∀ (j : Nat) v, (kt.marksL m k)[j]? = some v → w'.cell? (b.add j) = some v := by
          intro w2 hg b hb j v hv
          obtain rfl := Option.some.inj hb
          rw [add_at]
          obtain ⟨i, hi, ⟨rfl, rfl⟩ | ⟨rfl, rfl⟩⟩ := kt.marksL_some hv
          · have c0 : w0.cell? ⟨w.heap.size, i * 2, none⟩ = some (.int .i64 m) := by rw [hw0]; exact (H6.out.taken i hi).1
            exact hg.cell c0 (fun e => H6.out.no e.symm)
          · have c0 : w0.cell? ⟨w.heap.size, i * 2 + 1, none⟩ = some (.string kept) := by rw [hw0]; exact (H6.out.taken i hi).2
            exact hg.cell c0 (fun e => H6.out.no e.symm)
        have hkb : k ≤ 1000000000 := by omega
        have HU5 : Hid (u5 = wr.setCell ⟨xb, 2, none⟩ (.slice a5 n5 c5)) := hu5
        clear hsl xx2 yy2 hu5
        refine wp_region_inv (by kernel_rfl) (kt.KK base 45 q rows w0 mb xb k (.slice (some ⟨w.heap.size, 0, none⟩) k k) (.slice ao q co) m) ?_ ?_ ?_
        · refine .inl ⟨rep_false _ _, ⟨by simp, rfl, rfl, rfl, rfl, rfl, fun j hj h => ?_, fun h => ?_, fun h => ?_, ?_, ?_⟩, fun h => ?_⟩
          · rw [rep_false] at h; cases h
          · rw [rep_false] at h; cases h
          · rw [rep_false] at h; cases h
          · rw [← hw0]; exact World.grownBy.refl _ _
          · intro _; rw [← hw0]; exact World.grownBy.refl _ _
          · rw [rep_false] at h; cases h
        · intro listed a wx i hdown hKK hi
          have hun := (mem_ready.mp hi).1
          have hlt : i < 26 := by obtain ⟨_, o, ho, _⟩ := mem_ready.mp hi; exact (Array.getElem?_eq_some_iff.mp ho).1
          rcases hKK with ⟨h25, hJ, hown⟩ | ⟨hall, _⟩
          case inr => exact absurd (hall i hlt) (fun h => getD_tt h hun)
          rcases (show i = 0 ∨ i = 1 ∨ i = 2 ∨ i = 3 ∨ i = 4 ∨ i = 5 ∨ i = 6 ∨ i = 7 ∨ i = 8 ∨ i = 9 ∨ i = 10 ∨ i = 11 ∨ i = 12 ∨ i = 13 ∨ i = 14 ∨ i = 15 ∨ i = 16 ∨ i = 17 ∨ i = 18 ∨ i = 19 ∨ i = 20 ∨ i = 21 ∨ i = 22 ∨ i = 23 ∨ i = 24 ∨ i = 25 by omega) with rfl | rfl | rfl | rfl | rfl | rfl | rfl | rfl | rfl | rfl | rfl | rfl | rfl | rfl | rfl | rfl | rfl | rfl | rfl | rfl | rfl | rfl | rfl | rfl | rfl | rfl
          · exact step_move (.tmp 0) rfl (kt.KK.same hJ hrow h25 hown 0 (by omega) (by omega) _ hJ.t0 (fun e => by omega))
          · exact step_move (.tmp 0) rfl (kt.KK.same hJ hrow h25 hown 1 (by omega) (by omega) _ hJ.t0 (fun e => by omega))
          · exact step_nil (.tmp 70) ⟨xb, 0, none⟩ (hJ.vals 1 (by omega) (dep 1 hi (by kernel_rfl))) rfl (kt.KK.same hJ hrow h25 hown 2 (by omega) (by omega) _ rfl (fun e => by omega))
          · exact kt.step_field (.tmp 71) xb (hJ.vals 2 (by omega) (dep 2 hi (by kernel_rfl))) rfl (kt.KK.same hJ hrow h25 hown 3 (by omega) (by omega) _ rfl (fun e => by omega))
          · exact kt.step_load (.tmp 72) xb _ (hJ.vals 3 (by omega) (dep 3 hi (by kernel_rfl))) (hbb wx hJ.grown).1 rfl (kt.KK.same hJ hrow h25 hown 4 (by omega) (by omega) _ rfl (fun e => by omega))
          · exact step_move (.tmp 5) rfl (kt.KK.same hJ hrow h25 hown 5 (by omega) (by omega) _ hJ.t1 (fun e => by omega))
          · exact step_move (.tmp 5) rfl (kt.KK.same hJ hrow h25 hown 6 (by omega) (by omega) _ hJ.t1 (fun e => by omega))
          · exact kt.step_loadM (.tmp 6) mb m hJ.t4 (hmm wx hJ.grown).1 (hmm wx hJ.grown).2 rfl (kt.KK.same hJ hrow h25 hown 7 (by omega) (by omega) _ rfl (fun e => by omega))
          · exact kt.step_build1 (.tmp 76) m (hJ.vals 7 (by omega) (dep 7 hi (by kernel_rfl))) rfl (kt.KK.grow hJ hrow h25 8 (by omega) (by omega) hun _ _ (World.grownBy_alloc wx _ _) (kt.marks_new rfl rfl hJ.grown.size))
          · obtain ⟨gn, cn, hv, hH, hcn⟩ := (hJ.vals 8 (by omega) (dep 8 hi (by kernel_rfl)))
            refine kt.step_grow (.tmp 75) (.tmp 77) (some ⟨w.heap.size, 0, none⟩) k (kt.marksL m k) (kt.marksL m 1) ⟨gn, 0, none⟩ 1 cn (hJ.vals 6 (by omega) (dep 6 hi (by kernel_rfl))) hv (by omega) (by omega) (fun h => by cases h) (kt.marksL_len m _) (hlc wx hJ.grown) (kt.marksL_len m 1) ?_ (kt.marksL_one m 1) rfl ?_
            · intro j v hv
              rw [add_at]
              obtain ⟨i, hi, ⟨rfl, rfl⟩ | ⟨rfl, rfl⟩⟩ := kt.marksL_some hv
              · exact (hcn i hi).1
              · exact (hcn i hi).2
            · intro v' w' ho hg
              exact kt.KK.grow hJ hrow h25 9 (by omega) (by omega) hun v' w' hg (kt.marks_of_own ho (by omega) hJ.grown.size)
          · exact step_move (.tmp 5) rfl (kt.KK.same hJ hrow h25 hown 10 (by omega) (by omega) _ hJ.t1 (fun e => by omega))
          · exact kt.step_loadM (.tmp 6) mb m hJ.t4 (hmm wx hJ.grown).1 (hmm wx hJ.grown).2 rfl (kt.KK.same hJ hrow h25 hown 11 (by omega) (by omega) _ rfl (fun e => by omega))
          · exact kt.step_loadM (.tmp 6) mb m hJ.t4 (hmm wx hJ.grown).1 (hmm wx hJ.grown).2 rfl (kt.KK.same hJ hrow h25 hown 12 (by omega) (by omega) _ rfl (fun e => by omega))
          · exact kt.step_build2 (.tmp 80) (.tmp 81) m (hJ.vals 11 (by omega) (dep 11 hi (by kernel_rfl))) (hJ.vals 12 (by omega) (dep 12 hi (by kernel_rfl))) rfl (kt.KK.grow hJ hrow h25 13 (by omega) (by omega) hun _ _ (World.grownBy_alloc wx _ _) (kt.marks_new rfl rfl hJ.grown.size))
          · obtain ⟨gn, cn, hv, hH, hcn⟩ := (hJ.vals 13 (by omega) (dep 13 hi (by kernel_rfl)))
            refine kt.step_grow (.tmp 79) (.tmp 82) (some ⟨w.heap.size, 0, none⟩) k (kt.marksL m k) (kt.marksL m 2) ⟨gn, 0, none⟩ 2 cn (hJ.vals 10 (by omega) (dep 10 hi (by kernel_rfl))) hv (by omega) (by omega) (fun h => by cases h) (kt.marksL_len m _) (hlc wx hJ.grown) (kt.marksL_len m 2) ?_ (kt.marksL_one m 2) rfl ?_
            · intro j v hv
              rw [add_at]
              obtain ⟨i, hi, ⟨rfl, rfl⟩ | ⟨rfl, rfl⟩⟩ := kt.marksL_some hv
              · exact (hcn i hi).1
              · exact (hcn i hi).2
            · intro v' w' ho hg
              exact kt.KK.grow hJ hrow h25 14 (by omega) (by omega) hun v' w' hg (kt.marks_of_own ho (by omega) hJ.grown.size)
          · exact step_move (.tmp 5) rfl (kt.KK.same hJ hrow h25 hown 15 (by omega) (by omega) _ hJ.t1 (fun e => by omega))
          · exact kt.step_loadM (.tmp 6) mb m hJ.t4 (hmm wx hJ.grown).1 (hmm wx hJ.grown).2 rfl (kt.KK.same hJ hrow h25 hown 16 (by omega) (by omega) _ rfl (fun e => by omega))
          · exact kt.step_loadM (.tmp 6) mb m hJ.t4 (hmm wx hJ.grown).1 (hmm wx hJ.grown).2 rfl (kt.KK.same hJ hrow h25 hown 17 (by omega) (by omega) _ rfl (fun e => by omega))
          · exact kt.step_loadM (.tmp 6) mb m hJ.t4 (hmm wx hJ.grown).1 (hmm wx hJ.grown).2 rfl (kt.KK.same hJ hrow h25 hown 18 (by omega) (by omega) _ rfl (fun e => by omega))
          · exact kt.step_build3 (.tmp 85) (.tmp 86) (.tmp 87) m (hJ.vals 16 (by omega) (dep 16 hi (by kernel_rfl))) (hJ.vals 17 (by omega) (dep 17 hi (by kernel_rfl))) (hJ.vals 18 (by omega) (dep 18 hi (by kernel_rfl))) rfl (kt.KK.grow hJ hrow h25 19 (by omega) (by omega) hun _ _ (World.grownBy_alloc wx _ _) (kt.marks_new rfl rfl hJ.grown.size))
          · obtain ⟨gn, cn, hv, hH, hcn⟩ := (hJ.vals 19 (by omega) (dep 19 hi (by kernel_rfl)))
            refine kt.step_grow (.tmp 84) (.tmp 88) (some ⟨w.heap.size, 0, none⟩) k (kt.marksL m k) (kt.marksL m 3) ⟨gn, 0, none⟩ 3 cn (hJ.vals 15 (by omega) (dep 15 hi (by kernel_rfl))) hv (by omega) (by omega) (fun h => by cases h) (kt.marksL_len m _) (hlc wx hJ.grown) (kt.marksL_len m 3) ?_ (kt.marksL_one m 3) rfl ?_
            · intro j v hv
              rw [add_at]
              obtain ⟨i, hi, ⟨rfl, rfl⟩ | ⟨rfl, rfl⟩⟩ := kt.marksL_some hv
              · exact (hcn i hi).1
              · exact (hcn i hi).2
            · intro v' w' ho hg
              exact kt.KK.grow hJ hrow h25 20 (by omega) (by omega) hun v' w' hg (kt.marks_of_own ho (by omega) hJ.grown.size)
          · obtain ⟨g1, c1, hv1, hH1, hc1⟩ := (show kt.Marks w0.heap.size m (k + 1) (a.tmps.getD 78 undef) wx from hJ.vals 9 (by omega) (dep 9 hi (by kernel_rfl)))
            obtain ⟨g2, c2, hv2, hH2, hc2⟩ := (show kt.Marks w0.heap.size m (k + 2) (a.tmps.getD 83 undef) wx from hJ.vals 14 (by omega) (dep 14 hi (by kernel_rfl)))
            obtain ⟨g3, c3, hv3, hH3, hc3⟩ := (show kt.Marks w0.heap.size m (k + 3) (a.tmps.getD 89 undef) wx from hJ.vals 20 (by omega) (dep 20 hi (by kernel_rfl)))
            refine kt.step_build4 (.tmp 74) (.tmp 78) (.tmp 83) (.tmp 89) _ _ _ _ _ _ _ _ _ _ _ _ (hJ.vals 5 (by omega) (dep 5 hi (by kernel_rfl))) hv1 hv2 hv3 rfl (kt.KK.grow hJ hrow h25 21 (by omega) (by omega) hun _ _ (World.grownBy_alloc wx _ _) ⟨wx.heap.size, .slice (some ⟨g1, 0, none⟩) (k + 1) c1, .slice (some ⟨g2, 0, none⟩) (k + 2) c2, .slice (some ⟨g3, 0, none⟩) (k + 3) c3, rfl, hJ.grown.size, ?_, ?_⟩)
            · have F : kt.Fours w0.heap.size k (.slice (some ⟨w.heap.size, 0, none⟩) k k) m (.slice (some ⟨g1, 0, none⟩) (k + 1) c1) (.slice (some ⟨g2, 0, none⟩) (k + 2) c2) (.slice (some ⟨g3, 0, none⟩) (k + 3) c3) wx := ⟨⟨g1, c1, rfl, hH1, hc1⟩, ⟨g2, c2, rfl, hH2, hc2⟩, ⟨g3, c3, rfl, hH3, hc3⟩⟩
              exact F.mono (World.grownBy_alloc wx _ none) (fun _ h => by cases h)
            · intro j u hu
              exact alloc_at wx _ _ j u (by simpa using hu)
          · obtain ⟨gn, v1, v2, v3, hv, hH, hF, hcn⟩ := (hJ.vals 21 (by omega) (dep 21 hi (by kernel_rfl)))
            have hall : ∀ j, 1 ≤ j → j < 22 → listed.getD j false = true := ready_reach hdown hi 12 22 1 (by kernel_rfl)
            have h22 : listed.getD 22 false = false := by
              cases e : listed.getD 22 false with
              | false => rfl
              | true => exact (getD_tt e hun).elim
            refine kt.step_lies (.tmp 73) (.tmp 90) base (.slice ao q co) q rows [.slice (some ⟨w.heap.size, 0, none⟩) k k, v1, v2, v3] ⟨gn, 0, none⟩ (hJ.vals 4 (by omega) (dep 4 hi (by kernel_rfl))) (own_mono hO0 (hJ.pure h22)) hv (by omega) rfl ?_ ?_ (Nat.le_trans hbase0 hJ.grown.size) rfl ?_
            · intro j u hu
              rw [add_at]; exact hcn j u hu
            · intro u hu
              obtain ⟨g1, c1, e1, _⟩ := hF.r1
              obtain ⟨g2, c2, e2, _⟩ := hF.r2
              obtain ⟨g3, c3, e3, _⟩ := hF.r3
              subst e1 e2 e3
              simp at hu
              rcases hu with rfl | rfl | rfl | rfl <;> rfl
            · intro g cap w' ho hg hat
              obtain ⟨g1, c1, e1, b1, l1⟩ := hF.r1.lt (by omega)
              obtain ⟨g2, c2, e2, b2, l2⟩ := hF.r2.lt (by omega)
              obtain ⟨g3, c3, e3, b3, l3⟩ := hF.r3.lt (by omega)
              have hsep : ∀ x, w0.heap.size ≤ x → x < wx.heap.size → x ≠ g := by
                intro x h1 h2 e
                subst e
                rcases hat with h | h
                · have := hrow _ h; omega
                · omega
              refine kt.KK.own hJ hrow h25 hall _ w' hg ⟨g, cap, v1, v2, v3, rfl, ho, hF.mono hg hrow, hat.imp id (fun h => by have := hJ.grown.size; omega), ?_, ?_, ?_⟩
              · rw [e1]; intro h; exact hsep g1 b1 l1 (Option.some.inj h)
              · rw [e2]; intro h; exact hsep g2 b2 l2 (Option.some.inj h)
              · rw [e3]; intro h; exact hsep g3 b3 l3 (Option.some.inj h)
          · exact step_nil (.tmp 69) ⟨xb, 0, none⟩ (hJ.vals 0 (by omega) (dep 0 hi (by kernel_rfl))) rfl (kt.KK.same hJ hrow h25 hown 23 (by omega) (by omega) _ rfl (fun e => by omega))
          · exact kt.step_field (.tmp 92) xb (hJ.vals 23 (by omega) (dep 23 hi (by kernel_rfl))) rfl (kt.KK.same hJ hrow h25 hown 24 (by omega) (by omega) _ rfl (fun e => dep 23 hi (by kernel_rfl)))
          · have h22 := dep 22 hi (by kernel_rfl)
            have h24 := dep 24 hi (by kernel_rfl)
            have hO := hown h22
            obtain ⟨g, cap, v1, v2, v3, hv, hrest⟩ := hO
            refine kt.step_store (.tmp 93) (.tmp 91) xb _ _ _ _ (hJ.vals 24 (by omega) h24) hv (hbb wx hJ.grown).1 (hbb wx hJ.grown).2 rfl ?_
            exact kt.KK.stored hJ ⟨g, cap, v1, v2, v3, rfl, hv ▸ hrest⟩ (fun j hj => ready_reach hdown hi 2 25 0 (by kernel_rfl) j (Nat.zero_le _) hj)
        · intro listed a w2 hKK hr
          rcases hKK with ⟨h25, hJ, _⟩ | ⟨_, hd, hts, w9, v9, hg, hO, hw2⟩
          · exfalso
            have := all_listed hJ.lsize hr (low_of (by kernel_rfl)) 25 (by decide)
            rw [this] at h25; cases h25
          · have HF : Hid (∃ F', Line w2 base xb F' (n + 1) room (L.length - kv) ∧ (∀ k, F' k → F k ∨ w.heap.size ≤ k) ∧ Bt F w w2) := by
              rw [HKK.out]
              exact take_fin HL.out.1 HL.out.2.1 HL.out.2.2.1 HL.out.2.2.2 HQ.out HM.out H1.out HU.out HR.out H5.out HU5.out H6.out hw0 hg hO hw2 hkl hkb
            clear hO hg hw2 hr H6 hO0 hsz hbase0 hrow hbb hmm hlc HL H1 HU HR H5 HU5 HM HQ H0
            obtain ⟨tm, df⟩ := a
            simp only at hd hts
            subst hd
            go_wp2
            go_ret
            refine ⟨?_, HF.out⟩
            simp [hts]

end Go.Proofs.Ytddpcjgekfmhkaa
