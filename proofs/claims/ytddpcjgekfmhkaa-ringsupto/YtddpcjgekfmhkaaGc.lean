/- A law's line: what it keeps; newLine; whole. -/
import Derived.Test.YtddpcjgekfmhkaaGb
namespace Go.Proofs.Ytddpcjgekfmhkaa
open Go.RowKit
set_option linter.unusedSimpArgs false
set_option linter.unusedVariables false

def kept : ByteArray := { data := #[107, 101, 112, 116] }
/-- A row of marks. -/
def RowT (w : World) (m : Int) (v : Value) : Prop := ∃ a len cap, v = .slice a len cap ∧ len ≤ 1099511627776 ∧ (0 < len → ∃ g, a = some ⟨g, 0, none⟩ ∧ ∀ j, j < len → w.cell? ⟨g, j * 2, none⟩ = some (.int .i64 m) ∧ w.cell? ⟨g, j * 2 + 1, none⟩ = some (.string kept))
def mk (i : Nat) : Int := -1000 - ((i / 4 * 4 : Nat) : Int)
theorem RowT.bt {w w' : World} {m : Int} {v : Value} {S : Nat → Prop} (h : RowT w m v) (k : Bt S w w') (hs : ∀ g, v.ownBlock = some g → ¬ S g) : RowT w' m v := by
  obtain ⟨a, len, cap, rfl, h1, h2⟩ := h
  refine ⟨a, len, cap, rfl, h1, fun h0 => ?_⟩
  obtain ⟨g, rfl, hc⟩ := h2 h0
  exact ⟨g, rfl, fun j hj => ⟨k.cell (hs g rfl) (hc j hj).1, k.cell (hs g rfl) (hc j hj).2⟩⟩

/-- A line's block. -/
def LB (w : World) (xb rb : Nat) (room : Int) (vl vo : Value) : Prop := w.heap[xb]? = some (.cells #[.pointer (some ⟨rb, 0, none⟩), .int .i64 room, vl, vo] 49 (0, 0))
section
variable {w : World} {xb rb : Nat} {room : Int} {vl vo : Value}
theorem LB.c0 (h : LB w xb rb room vl vo) : w.cell? ⟨xb, 0, none⟩ = some (.pointer (some ⟨rb, 0, none⟩)) := by unfold LB at h; simp [World.cell?, h]
theorem LB.c1 (h : LB w xb rb room vl vo) : w.cell? ⟨xb, 1, none⟩ = some (.int .i64 room) := by unfold LB at h; simp [World.cell?, h]
theorem LB.c2 (h : LB w xb rb room vl vo) : w.cell? ⟨xb, 2, none⟩ = some vl := by unfold LB at h; simp [World.cell?, h]
theorem LB.c3 (h : LB w xb rb room vl vo) : w.cell? ⟨xb, 3, none⟩ = some vo := by unfold LB at h; simp [World.cell?, h]
theorem LB.fr (h : LB w xb rb room vl vo) (o : Nat) : w.frozen? ⟨xb, o, none⟩ = false := by unfold LB at h; simp [World.frozen?, h]
theorem LB.lt (h : LB w xb rb room vl vo) : xb < w.heap.size := lt_of_some h
theorem LB.bt {w' : World} {S : Nat → Prop} (h : LB w xb rb room vl vo) (k : Bt S w w') (hs : ¬ S xb) : LB w' xb rb room vl vo := k.heap hs h
theorem LB.set2 (h : LB w xb rb room vl vo) (v : Value) : LB (w.setCell ⟨xb, 2, none⟩ v) xb rb room v vo := by
  unfold LB at h ⊢; rw [setCell_eq_setRow w xb 2 _ _ (0, 0) _ h]; exact setRow_heap w xb _ _ _ _ h
theorem LB.set3 (h : LB w xb rb room vl vo) (v : Value) : LB (w.setCell ⟨xb, 3, none⟩ v) xb rb room vl v := by
  unfold LB at h ⊢; rw [setCell_eq_setRow w xb 3 _ _ (0, 0) _ h]; exact setRow_heap w xb _ _ _ _ h
end

/-- The blocks of a line. -/
def foot (xb rb gb : Nat) (vl vo : Value) (rows : List Value) (k : Nat) : Prop := k = xb ∨ k = rb ∨ k = gb ∨ vl.ownBlock = some k ∨ vo.ownBlock = some k ∨ ∃ v ∈ rows, v.ownBlock = some k

/-- A line: a ring at rb, its slots at gb, what must be in it (vl), what came out (vo): r times four rows, each with its mark. -/
structure Ln (w : World) (base xb rb gb : Nat) (room : Int) (vl vo : Value) (L : List (List Value)) (r : Nat) (rows : List Value) : Prop where
  blk : LB w xb rb room vl vo
  ring : Ring 76 44 2 1099511627776 w rb gb room L
  lst : Lst w base 44 2 vl L
  out : w.ownsRow base 45 1 vo (4 * r) rows
  marks : ∀ i v, rows[i]? = some v → RowT w (mk i) v
  thg : Thg L
  ge : base ≤ xb ∧ base ≤ rb ∧ base ≤ gb
  rowge : ∀ v ∈ rows, ∀ k, v.ownBlock = some k → base ≤ k ∧ k < w.heap.size
  n1 : xb ≠ rb ∧ xb ≠ gb
  n2 : ∀ k, vl.ownBlock = some k → k ≠ xb ∧ k ≠ rb ∧ k ≠ gb ∧ vo.ownBlock ≠ some k
  n3 : ∀ k, vo.ownBlock = some k → k ≠ xb ∧ k ≠ rb ∧ k ≠ gb
  n4 : ∀ v ∈ rows, ∀ k, v.ownBlock = some k → k ≠ xb ∧ k ≠ rb ∧ k ≠ gb ∧ vl.ownBlock ≠ some k ∧ vo.ownBlock ≠ some k
section
variable {w w' : World} {base xb rb gb : Nat} {room : Int} {vl vo : Value} {L : List (List Value)} {r : Nat} {rows : List Value}
theorem Ln.bt {S : Nat → Prop} (h : Ln w base xb rb gb room vl vo L r rows) (k : Bt S w w') (hs : ∀ i, foot xb rb gb vl vo rows i → ¬ S i) : Ln w' base xb rb gb room vl vo L r rows :=
  ⟨h.blk.bt k (hs _ (.inl rfl)), h.ring.bt k (hs _ (.inr (.inl rfl))) (hs _ (.inr (.inr (.inl rfl)))), h.lst.bt k (fun g hg => hs _ (.inr (.inr (.inr (.inl hg))))), own_bt h.out k (fun g hg => hs _ (.inr (.inr (.inr (.inr (.inl hg)))))),
    fun i v hv => (h.marks i v hv).bt k (fun g hg => hs _ (.inr (.inr (.inr (.inr (.inr ⟨v, List.mem_of_getElem? hv, hg⟩)))))), h.thg, h.ge, fun v hv q hq => ⟨(h.rowge v hv q hq).1, Nat.lt_of_lt_of_le (h.rowge v hv q hq).2 k.size⟩, h.n1, h.n2, h.n3, h.n4⟩
theorem Ln.lt (h : Ln w base xb rb gb room vl vo L r rows) {k : Nat} (hk : foot xb rb gb vl vo rows k) : base ≤ k ∧ k < w.heap.size := by
  have g := h.ge
  have l1 := h.blk.lt
  have l2 := h.ring.lt
  rcases hk with rfl | rfl | rfl | hk | hk | ⟨v, hv, hk⟩
  · exact ⟨g.1, l1⟩
  · exact ⟨g.2.1, l2.1⟩
  · exact ⟨g.2.2, l2.2⟩
  · exact h.lst.ge hk
  · exact own_ge h.out hk
  · exact h.rowge v hv k hk
end
/-- A line at xb whose blocks are those of F, after at most n deeds. -/
def Line (w : World) (base xb : Nat) (F : Nat → Prop) (n : Nat) (room : Int) (ln : Nat) : Prop :=
  ∃ rb gb vl vo L r rows, Ln w base xb rb gb room vl vo L r rows ∧ (∀ k, F k ↔ foot xb rb gb vl vo rows k) ∧ L.length ≤ 400 * n ∧ r ≤ n ∧ L.length = ln
theorem Line.bt {w w' : World} {base xb n : Nat} {F S : Nat → Prop} {room : Int} {ln : Nat} (h : Line w base xb F n room ln) (k : Bt S w w') (hs : ∀ i, F i → ¬ S i) : Line w' base xb F n room ln := by
  obtain ⟨rb, gb, vl, vo, L, r, rows, h1, h2, h3, h4⟩ := h
  exact ⟨rb, gb, vl, vo, L, r, rows, h1.bt k (fun i hi => hs i ((h2 i).2 hi)), h2, h3, h4⟩
theorem Line.lt {w : World} {base xb n : Nat} {F : Nat → Prop} {room : Int} {ln : Nat} (h : Line w base xb F n room ln) {k : Nat} (hk : F k) : base ≤ k ∧ k < w.heap.size := by
  obtain ⟨rb, gb, vl, vo, L, r, rows, h1, h2, _⟩ := h
  exact h1.lt ((h2 k).1 hk)
theorem Line.mono {w : World} {base xb n m : Nat} {F : Nat → Prop} {room : Int} {ln : Nat} (h : Line w base xb F n room ln) (hm : n ≤ m) : Line w base xb F m room ln := by
  obtain ⟨rb, gb, vl, vo, L, r, rows, h1, h2, h3, h4, h5⟩ := h
  exact ⟨rb, gb, vl, vo, L, r, rows, h1, h2, Nat.le_trans h3 (Nat.mul_le_mul_left _ hm), Nat.le_trans h4 hm, h5⟩

set_option maxHeartbeats 1000000 in
theorem newLine_any (room : Int) (base : Nat) (w : World) (h1 : -9223372036854775808 ≤ room) (h2 : room ≤ 9223372036854775807) (hb : base ≤ w.heap.size) :
    Calls Try.prog 28 #[.int .i64 room] w fun e w' => e = .returned (.pointer (some ⟨w.heap.size + 1, 0, none⟩)) ∧ Line w' base (w.heap.size + 1) (fun k => k = w.heap.size + 1 ∨ k = w.heap.size) 0 (max room 0) 0 ∧ Bt (fun _ => False) w w' ∧ w'.heap.size = w.heap.size + 2 := by
  have cn := newT 1099511627776 room w h2
  have HE : ∀ (w1 w2 : World) (rm : Int), Ring 76 44 2 1099511627776 w1 w.heap.size w.heap.size rm [] ∧ Bt (fun _ => False) w w1 ∧ w1.heap.size = w.heap.size + 1 → LB w2 (w.heap.size + 1) w.heap.size rm (.slice none 0 0) (.slice none 0 0) → Bt (fun _ => False) w1 w2 → w2.heap.size = w1.heap.size + 1 →
      Line w2 base (w.heap.size + 1) (fun k => k = w.heap.size + 1 ∨ k = w.heap.size) 0 rm 0 ∧ Bt (fun _ => False) w w2 ∧ w2.heap.size = w.heap.size + 2 := by
    rintro w1 w2 rm ⟨q1, q2, q3⟩ hl hb2 hz
    refine ⟨⟨w.heap.size, w.heap.size, _, _, [], 0, [], ⟨hl, q1.bt hb2 (fun x => x) (fun x => x), Lst.nil _ _ _ _, ⟨rfl, .inl ⟨rfl, rfl⟩⟩, fun i v hv => by simp at hv, fun e he => by simp at he, by omega, fun v hv => by simp at hv, by omega, fun k hk => (by cases hk), fun k hk => (by cases hk), fun v hv => by simp at hv⟩, fun k => ?_, by simp, Nat.le_refl _, rfl⟩, q2.trans hb2 (fun _ _ x => x), by omega⟩
    constructor
    · rintro (rfl | rfl)
      · exact .inl rfl
      · exact .inr (.inl rfl)
    · rintro (rfl | rfl | rfl | hk | hk | ⟨v, hv, _⟩)
      · exact .inl rfl
      · exact .inr rfl
      · exact .inr rfl
      · cases hk
      · cases hk
      · simp at hv
  by_cases h0 : 0 ≤ room
  · have e : max room 0 = room := by omega
    rw [e] at cn ⊢
    clear e
    go_enter Try.func28, Try.ntmps28
    go_wp2_with (go_at_call 51; refine cn.mono ?_; rintro e w1 ⟨rfl, R1, B1, Z1⟩; have H1 : Hid (Ring 76 44 2 1099511627776 w1 w.heap.size w.heap.size room [] ∧ Bt (fun _ => False) w w1 ∧ w1.heap.size = w.heap.size + 1) := ⟨R1, B1, Z1⟩; clear R1 B1)
    go_ret
    refine ⟨by simp [Z1], HE w1 _ room H1.out ?_ ((Bt.refl _ _).alloc _) (by simp)⟩
    rw [← Z1]
    show (w1.heap.push _)[w1.heap.size]? = _
    simp
  · have e : max room 0 = 0 := by omega
    rw [e] at cn ⊢
    clear e
    go_enter Try.func28, Try.ntmps28
    go_wp2_with (go_at_call 51; refine cn.mono ?_; rintro e w1 ⟨rfl, R1, B1, Z1⟩; have H1 : Hid (Ring 76 44 2 1099511627776 w1 w.heap.size w.heap.size 0 [] ∧ Bt (fun _ => False) w w1 ∧ w1.heap.size = w.heap.size + 1) := ⟨R1, B1, Z1⟩; clear R1 B1)
    go_ret
    refine ⟨by simp [Z1], HE w1 _ 0 H1.out ?_ ((Bt.refl _ _).alloc _) (by simp)⟩
    rw [← Z1]
    show (w1.heap.push _)[w1.heap.size]? = _
    simp

theorem own_rows {w : World} {base : Nat} {e : TypeId} {v : Value} {n : Nat} {xs : List Value} (h : w.ownsRow base e 1 v n xs) : ∃ a c, v = .slice a n c ∧ n ≤ c ∧ (0 < n → ∃ g, a = some ⟨g, 0, none⟩ ∧ ∀ j u, xs[j]? = some u → w.cell? ⟨g, j, none⟩ = some u) := by
  obtain ⟨hl, h⟩ := h
  rcases h with ⟨rfl, rfl⟩ | ⟨g, cap, cur, rfl, h1, h2, h3, h4, h5, h6⟩
  · exact ⟨none, 0, rfl, Nat.le_refl _, fun h => by omega⟩
  · refine ⟨_, _, rfl, h3, fun _ => ⟨g, rfl, fun j u hj => ?_⟩⟩
    rw [← h6, List.getElem?_take] at hj
    split at hj
    · simp [World.cell?, h2]; simpa using hj
    · cases hj

set_option maxHeartbeats 2000000 in
set_option maxRecDepth 20000 in
theorem whole_line (base xb n : Nat) (F : Nat → Prop) (room : Int) (ln : Nat) (w : World) (h : Line w base xb F n room ln) (hn : n ≤ 4194304) :
    Calls Try.prog 33 #[.pointer (some ⟨xb, 0, none⟩)] w fun e w' => e = .returned (.bool true) ∧ w' = w := by
  obtain ⟨rb, gb, vl, vo, L, r, rows, h1, h2, h3, h4, _⟩ := h
  obtain ⟨ao, co, rfl, hc, hr⟩ := own_rows h1.out
  have c3 := h1.blk.c3
  obtain ⟨q, hq⟩ : ∃ q, 4 * r = q := ⟨_, rfl⟩
  have HR : Hid (rows.length = q ∧ (∀ i v, rows[i]? = some v → RowT w (mk i) v) ∧ (0 < q → ∃ g, ao = some ⟨g, 0, none⟩ ∧ ∀ j u, rows[j]? = some u → w.cell? ⟨g, j, none⟩ = some u)) := ⟨by have := h1.out.1; omega, h1.marks, hq ▸ hr⟩
  rw [hq] at c3
  have hq2 : q ≤ 16777216 := by omega
  clear h1 h2 h3 hr hc hq
  go_enter Try.func33, Try.ntmps33
  go_wp2
  go_loop [3] (fun ti => ∃ i : Nat, i ≤ q ∧ ti = .int .i64 i) (fun ti => q - (intOf ti).toNat)
  case atStart => exact ⟨0, Nat.zero_le _, rfl⟩
  case round =>
    obtain ⟨i, hi, rfl⟩ := hrel
    by_cases hlt : i < q
    · obtain ⟨g, rfl, hg⟩ := HR.out.2.2 (by omega)
      have hi1 : (i : Int) < (q : Int) := by omega
      have hil : i < rows.length := by rw [HR.out.1]; exact hlt
      have cr := hg i rows[i] (List.getElem?_eq_getElem hil)
      obtain ⟨ra, rl, rc, hv, hl2, hrow⟩ := HR.out.2.1 i rows[i] (List.getElem?_eq_getElem hil)
      rw [hv] at cr
      obtain ⟨q4, hq4⟩ : ∃ q4, i / 4 = q4 := ⟨_, rfl⟩
      have HM : Hid (0 < rl → ∃ g, ra = some ⟨g, 0, none⟩ ∧ ∀ j, j < rl → w.cell? ⟨g, j * 2, none⟩ = some (.int .i64 (-1000 - (q4 : Int) * 4)) ∧ w.cell? ⟨g, j * 2 + 1, none⟩ = some (.string { data := #[107, 101, 112, 116] })) := by
        intro h0
        obtain ⟨g, e, hj⟩ := hrow h0
        refine ⟨g, e, fun j hjl => ?_⟩
        have := hj j hjl
        unfold mk at this
        rw [hq4] at this
        refine ⟨by rw [this.1]; simp, this.2⟩
      have d1 : (i : Int).tdiv 4 = (q4 : Int) := by rw [Int.tdiv_eq_ediv_of_nonneg (by omega)]; omega
      have d2 : (i : Int) / 4 = (q4 : Int) := by omega
      have hqb : q4 ≤ 16777216 := by omega
      clear hg hv hrow hq4 hil
      go_wp2
      go_loop [4] (fun tj => ∃ j : Nat, j ≤ rl ∧ tj = .int .i64 j) (fun tj => rl - (intOf tj).toNat)
      case atStart => exact ⟨0, Nat.zero_le _, rfl⟩
      case round =>
        obtain ⟨j, hj, rfl⟩ := hrel
        by_cases hjl : j < rl
        · obtain ⟨g2, rfl, hg2⟩ := HM.out (by omega)
          have hj1 : (j : Int) < (rl : Int) := by omega
          obtain ⟨cm0, cm1⟩ := hg2 j hjl
          clear hg2
          go_wp2
          go_round
          case rel => exact ⟨j + 1, by omega, by go_num⟩
          case measure => simp [intOf]; omega
        · obtain rfl : j = rl := by omega
          go_wp2
          go_round
          case rel => exact ⟨i + 1, by omega, by go_num⟩
          case measure => simp [intOf]; omega
    · obtain rfl : i = q := by omega
      go_wp2
      go_ret
      exact ⟨rfl, rfl⟩

end Go.Proofs.Ytddpcjgekfmhkaa
