/- line.put, walked. -/
import Derived.Test.YtddpcjgekfmhkaaGc
namespace Go.Proofs.Ytddpcjgekfmhkaa
open Go.RowKit
set_option linter.unusedSimpArgs false
set_option linter.unusedVariables false

theorem Lst.some_ {w : World} {base : Nat} {e : TypeId} {sz : Nat} {v : Value} {L : List (List Value)} (h : Lst w base e sz v L) (h0 : 0 < L.length) :
    ∃ g o c, v = .slice (some ⟨g, o, none⟩) L.length c ∧ L.length ≤ c ∧ c ≤ maxLen ∧ base ≤ g ∧ g < w.heap.size ∧ (∀ j u, L.flatten[j]? = some u → w.cell? ⟨g, o + j, none⟩ = some u) ∧ ∀ q, w.frozen? ⟨g, q, none⟩ = false := by
  rcases h.2 with ⟨rfl, rfl⟩ | ⟨g, off, cap, C, rfl, h1, h2, h3, h4, h5, h6, h7⟩
  · simp at h0
  · refine ⟨g, off * sz, cap, rfl, h5, h6, h1, h2.lt, ?_, fun q => ?_⟩
    · have := h2.src h3 off L.length (some ⟨g, off * sz, none⟩) (fun _ => rfl)
      rw [h7] at this
      obtain ⟨b, o, e, hc⟩ := this h0
      simp at e
      obtain ⟨rfl, rfl⟩ := e
      exact hc
    · unfold Rw at h2; simp [World.frozen?, h2]

def t77 : List Value := [.int .i64 77, .string .empty]
theorem t77_thg : Thg [t77] := fun e he => ⟨77, .empty, by simpa [t77] using he⟩

/-- The list that is handed in, its copy, and its end. -/
structure PuQ (w w2 : World) (g o c len : Nat) (X : List (List Value)) : Prop where
  bel : Bt (fun _ => False) w w2
  ge : w.heap.size ≤ g
  lt : g < w2.heap.size
  le : len + 1 ≤ c
  cmax : c ≤ maxLen
  cells : ∀ j u, (X ++ [t77]).flatten[j]? = some u → w2.cell? ⟨g, o + j, none⟩ = some u
  fr : ∀ q, w2.frozen? ⟨g, q, none⟩ = false

theorem pu_of {w w1 w2 : World} {c1 c2 : Array Value} {t1 t2 : TypeId} {X : List (List Value)} {v1 v2 : Value} {len : Nat} (hl : X.length = len)
    (H1 : Lst w1 w.heap.size 44 2 v1 ([] ++ X) ∧ Bt (fun k => (Value.slice (some ⟨w.heap.size, 0, none⟩) 0 0).ownBlock = some k) (w.alloc (.cells c1 t1)) w1 ∧ (v1.ownBlock = (Value.slice (some ⟨w.heap.size, 0, none⟩) 0 0).ownBlock ∨ v1.ownBlock = some (w.alloc (.cells c1 t1)).heap.size))
    (H2 : Lst w2 w.heap.size 44 2 v2 (([] ++ X) ++ [t77]) ∧ Bt (fun k => v1.ownBlock = some k) (w1.alloc (.cells c2 t2)) w2 ∧ (v2.ownBlock = v1.ownBlock ∨ v2.ownBlock = some (w1.alloc (.cells c2 t2)).heap.size)) :
    ∃ g o c, .slice (some ⟨g, o, none⟩) (len + 1) c = v2 ∧ len + 1 ≤ c ∧ Hid (PuQ w w2 g o c len X) := by
  have b1 : Bt (fun _ => False) w w1 := ((Bt.refl (fun _ => False) w).alloc _).trans H1.2.1 (fun k hk e => by have e2 : w.heap.size = k := Option.some.inj e; omega)
  have b2 : Bt (fun _ => False) w w2 := (b1.alloc _).trans H2.2.1 (fun k hk e => by have := H1.1.ge e; omega)
  obtain ⟨g, o, c, hv, h1, h2, h3, h4, h5, h6⟩ := H2.1.some_ (by simp)
  have e : (([] ++ X) ++ [t77]).length = len + 1 := by simp [hl]
  rw [e] at hv h1
  exact ⟨g, o, c, hv.symm, h1, b2, h3, h4, h1, h2, h5, h6⟩
theorem PuQ.src {w w2 : World} {g o c len : Nat} {X : List (List Value)} (h : PuQ w w2 g o c len X) (hT : Thg X) : Src w2 (some ⟨g, o, none⟩) X := by
  intro h0
  refine ⟨g, o, rfl, fun j u hj => h.cells j u ?_⟩
  rw [List.flatten_append, List.getElem?_append_left (List.getElem?_eq_some_iff.1 hj).1]
  exact hj

theorem lst_empty (w : World) (t : TypeId) (sz : Nat) : Lst (w.alloc (.cells #[] t)) w.heap.size t sz (.slice (some ⟨w.heap.size, 0, none⟩) 0 0) [] := by
  refine ⟨fun e he => by simp at he, .inr ⟨w.heap.size, 0, 0, [], by simp, Nat.le_refl _, ?_, fun e he => by simp at he, by simp, by simp, by unfold maxLen; omega, by simp⟩⟩
  show (w.heap.push _)[w.heap.size]? = _
  simp

/-- While the copy is written over. -/
def LoQ (w3 wr : World) (g o len : Nat) (X : List (List Value)) (i : Nat) : Prop :=
  Bt (fun q => q = g) w3 wr ∧ (∀ j, i ≤ j → j < len → wr.cell? ⟨g, o + j * 2, none⟩ = X.flatten[j * 2]? ∧ wr.cell? ⟨g, o + j * 2 + 1, none⟩ = X.flatten[j * 2 + 1]?) ∧ ∀ q, wr.frozen? ⟨g, q, none⟩ = false

theorem step_append_run {P : Program} {ops : Array Oper} {o : Oper} {a : Act} {w : World} {K : Act → World → Prop} {Q : Exit → Act → World → Prop} {E : Prop}
    (hg : o.guard = none) (s x : Operand) (t : TypeId) (hop : o.op = Op.call { callee := Callee.builtin Builtin.append, args := #[s, x], argTypes := #[t, t] })
    (v xv v' : Value) (w' : World) (hs : a.eval s = v) (hx : a.eval x = xv) (hr : (Builtin.append_ #[t, t] o.type #[v, xv]).run P w = .ok v' w') (hK : K (a.put o.dst v') w') :
    if Region.wanted o (yielded ops a.tmps) = true then Oper.wp P o a w K Q else E := by
  have hw : Region.wanted o (yielded ops a.tmps) = true := by simp [Region.wanted, hg]
  rw [if_pos hw]
  unfold Oper.wp
  simp [execOp, hop, resolve, invoke, builtin, hs, hx, hr, Result.andThen]
  exact hK

theorem put_mid {w w2 w3 wr : World} {base xb rb gb : Nat} {room : Int} {vl vo : Value} {L X Y : List (List Value)} {r : Nat} {rows : List Value} {g o c len i : Nat} {a : Option Addr} (hL : Ln w base xb rb gb room vl vo L r rows) (hP : PuQ w w2 g o c len X) (h3 : PutQT 1099511627776 w2 w3 rb gb room Y) (hR : LoQ w3 wr g o len X i) (hS : Src w a X)
    (hnb : ∀ k, (∃ o s, a = some ⟨k, o, s⟩) → k ≠ rb ∧ k ≠ gb ∧ k < w.heap.size) :
    Bt (fun q => q = rb ∨ q = gb) w wr ∧ LB wr xb rb room vl vo ∧ Lst wr base 44 2 vl L ∧ Src wr a X := by
  obtain ⟨gb', q1, q2, q3⟩ := h3
  have hge := hP.ge
  have b2 : Bt (fun q => q = rb ∨ q = gb) w wr := ((hP.bel.mono (T := fun q => q = rb ∨ q = gb) (fun _ _ x => x.elim)).trans q3 (fun _ _ x => x)).trans hR.1 (fun k hk e => by omega)
  have n1 := hL.n1
  refine ⟨b2, hL.blk.bt b2 (by omega), hL.lst.bt b2 (fun k hk e => by have := hL.n2 k hk; omega), hS.bt b2 (fun b o e he => ?_)⟩
  have := hnb b ⟨o, none, e⟩
  omega

theorem put_fin {w w2 w3 wr w8 : World} {base xb rb gb n : Nat} {F : Nat → Prop} {room : Int} {vl vo v8 : Value} {L X Y : List (List Value)} {r : Nat} {rows : List Value} {g o c len i : Nat} (hL : Ln w base xb rb gb room vl vo L r rows) (hF : ∀ k, F k ↔ foot xb rb gb vl vo rows k) (hLn : L.length ≤ 400 * n) (hrn : r ≤ n)
    (hP : PuQ w w2 g o c len X) (h3 : PutQT 1099511627776 w2 w3 rb gb room (L ++ Y)) (hR : LoQ w3 wr g o len X i) (hY : Thg Y) (hYl : Y.length ≤ 400)
    (L8 : Lst w8 base 44 2 v8 (L ++ Y)) (B8 : Bt (fun k => vl.ownBlock = some k) wr.drew w8) (V8 : v8.ownBlock = vl.ownBlock ∨ v8.ownBlock = some wr.drew.heap.size) :
    ∃ F', Line (w8.setCell ⟨xb, 2, none⟩ v8) base xb F' (n + 1) room (L.length + Y.length) ∧ (∀ q, F' q → F q ∨ w.heap.size ≤ q) ∧ Bt F w (w8.setCell ⟨xb, 2, none⟩ v8) := by
  obtain ⟨gb', q1, q2, q3⟩ := h3
  have hge := hP.ge
  have z2 := hP.bel.size
  have z3 := q3.size
  have zr := hR.1.size
  have n1 := hL.n1
  have lx := hL.blk.lt
  have lr := hL.ring.lt
  have lr3 := q1.lt
  have wdr : wr.drew.heap.size = wr.heap.size := rfl
  have bA : Bt (fun q => q = rb ∨ q = gb) w wr := ((hP.bel.mono (T := fun q => q = rb ∨ q = gb) (fun _ _ x => x.elim)).trans q3 (fun _ _ x => x)).trans hR.1 (fun k hk e => by omega)
  have bB : Bt (fun q => (q = rb ∨ q = gb) ∨ vl.ownBlock = some q) w w8 := ((bA.drew).mono (T := fun q => (q = rb ∨ q = gb) ∨ vl.ownBlock = some q) (fun _ _ x => .inl x)).trans B8 (fun _ _ x => .inr x)
  have bC : Bt (fun q => ((q = rb ∨ q = gb) ∨ vl.ownBlock = some q) ∨ q = xb) w (w8.setCell ⟨xb, 2, none⟩ v8) := (bB.mono (T := fun q => ((q = rb ∨ q = gb) ∨ vl.ownBlock = some q) ∨ q = xb) (fun _ _ x => .inl x)).setCell (fun _ => .inr rfl) _
  have bD : Bt (fun q => q = xb) w8 (w8.setCell ⟨xb, 2, none⟩ v8) := (Bt.refl (fun q => q = xb) w8).setCell (fun _ => rfl) _
  have b38 : Bt (fun q => (q = g ∨ vl.ownBlock = some q) ∨ q = xb) w3 (w8.setCell ⟨xb, 2, none⟩ v8) := (((hR.1.drew.mono (T := fun q => (q = g ∨ vl.ownBlock = some q) ∨ q = xb) (fun _ _ x => .inl (.inl x))).trans B8 (fun _ _ x => .inl (.inr x))).setCell (fun _ => .inr rfl) _)
  have hv8 : ∀ k, v8.ownBlock = some k → vl.ownBlock = some k ∨ k = wr.heap.size := by
    intro k hk
    rcases V8 with e | e
    · exact .inl (e ▸ hk)
    · exact .inr (by rw [e] at hk; exact (Option.some.inj hk).symm)
  have hgb : gb' = gb ∨ w.heap.size ≤ gb' := by omega
  have hvl : ∀ k, vl.ownBlock = some k → k < w.heap.size := fun k hk => (hL.lst.ge hk).2
  have hvo : ∀ k, vo.ownBlock = some k → k < w.heap.size := fun k hk => (own_ge hL.out hk).2
  have yb : LB w8 xb rb room vl vo := hL.blk.bt bB (by rintro (h | h); omega; exact (hL.n2 xb h).1 rfl)
  have hrg : gb' ≠ g := by
    rcases q2 with e | e
    · omega
    · intro e2; subst e2; have := hP.lt; omega
  refine ⟨foot xb rb gb' v8 vo rows, ⟨rb, gb', v8, vo, L ++ Y, r, rows, ⟨yb.set2 v8, q1.bt b38 ?_ ?_, L8.bt bD ?_, own_bt hL.out bC ?_, fun i v hv => (hL.marks i v hv).bt bC ?_, hL.thg.append hY, ?_, ?_, by omega, ?_, ?_, ?_⟩, fun k => Iff.rfl, by simp; omega, by omega, by simp⟩, ?_, ?_⟩
  · rintro ((h | h) | h)
    · omega
    · exact (hL.n2 rb h).2.1 rfl
    · omega
  · rintro ((h | h) | h)
    · exact hrg h
    · rcases hgb with e | e
      · subst e; exact (hL.n2 _ h).2.2.1 rfl
      · have := hvl _ h; omega
    · omega
  · intro k hk e
    subst e
    rcases hv8 _ hk with h | h
    · exact (hL.n2 _ h).1 rfl
    · omega
  · rintro k hk (((h | h) | h) | h)
    · exact (hL.n3 k hk).2.1 h
    · exact (hL.n3 k hk).2.2 h
    · exact (hL.n2 k h).2.2.2 hk
    · exact (hL.n3 k hk).1 h
  · intro k hk
    have := hL.n4 v (List.mem_of_getElem? hv) k hk
    rintro (((h | h) | h) | h)
    · exact this.2.1 h
    · exact this.2.2.1 h
    · exact this.2.2.2.1 h
    · exact this.1 h
  · have := hL.ge; omega
  · intro v hv k hk
    have := hL.rowge v hv k hk
    have z8 := bC.size
    omega
  · intro k hk
    have hvk : ∀ q, q < w.heap.size → k = wr.heap.size → k ≠ q := fun q h1 h2 => by omega
    rcases hv8 k hk with h | h
    · have t1 := hL.n2 k h
      have t2 := hvl k h
      exact ⟨t1.1, t1.2.1, by omega, t1.2.2.2⟩
    · refine ⟨by omega, by omega, by omega, fun e => ?_⟩
      have := hvo k e; omega
  · intro k hk
    have t1 := hL.n3 k hk
    have t2 := hvo k hk
    exact ⟨t1.1, t1.2.1, by omega⟩
  · intro v hv k hk
    have h4 := hL.n4 v hv k hk
    have h5 := hL.rowge v hv k hk
    refine ⟨h4.1, h4.2.1, by omega, fun e => ?_, h4.2.2.2.2⟩
    rcases hv8 k e with h | h
    · exact h4.2.2.2.1 h
    · omega
  · rintro k (h | h | h | h | h | ⟨v, hv, h⟩)
    · exact .inl ((hF k).2 (.inl h))
    · exact .inl ((hF k).2 (.inr (.inl h)))
    · rcases hgb with e | e
      · exact .inl ((hF k).2 (.inr (.inr (.inl (h.trans e)))))
      · exact .inr (by omega)
    · rcases hv8 k h with e | e
      · exact .inl ((hF k).2 (.inr (.inr (.inr (.inl e)))))
      · exact .inr (by omega)
    · exact .inl ((hF k).2 (.inr (.inr (.inr (.inr (.inl h))))))
    · exact .inl ((hF k).2 (.inr (.inr (.inr (.inr (.inr ⟨v, hv, h⟩))))))
  · refine bC.mono (fun k hk h => (hF k).2 ?_)
    rcases h with ((h | h) | h) | h
    · exact .inr (.inl h)
    · exact .inr (.inr (.inl h))
    · exact .inr (.inr (.inr (.inl h)))
    · exact .inl h

set_option maxHeartbeats 2000000 in
set_option maxRecDepth 20000 in
theorem put_line (base xb n : Nat) (F : Nat → Prop) (a : Option Addr) (len c : Nat) (X : List (List Value)) (room : Int) (ln : Nat) (w : World) (h : Line w base xb F n room ln) (hn : n ≤ 2097151) (hX : Src w a X) (hT : Thg X) (hl : X.length = len) (hlen : len ≤ 300) (hc : len ≤ c) (hnil : a = none → len = 0 ∧ c = 0)
    (hnb : ∀ k, (Value.slice a len c).ownBlock = some k → ¬ F k ∧ k < w.heap.size) :
    Calls Try.prog 29 #[.pointer (some ⟨xb, 0, none⟩), .slice a len c] w fun e w' => e = .returned (.bool true) ∧ ∃ F', Line w' base xb F' (n + 1) room (ln + min len (room.toNat - ln)) ∧ (∀ k, F' k → F k ∨ w.heap.size ≤ k) ∧ Bt F w w' := by
  obtain ⟨rb, gb, vl, vo, L, r, rows, h1, h2, h3, h4, h5⟩ := h
  subst h5
  obtain ⟨al, cl, rfl, hcl, _⟩ := h1.lst.form
  have HS : Hid (Src w a X ∧ Thg X ∧ X.length = len ∧ (∀ k, (Value.slice a len c).ownBlock = some k → ¬ F k ∧ k < w.heap.size)) := ⟨hX, hT, hl, hnb⟩
  have HL : Hid (Ln w base xb rb gb room (.slice al L.length cl) vo L r rows ∧ (∀ k, F k ↔ foot xb rb gb (.slice al L.length cl) vo rows k) ∧ L.length ≤ 400 * n ∧ r ≤ n) := ⟨h1, h2, h3, h4⟩
  have hLl : L.length ≤ 1000000000 := by omega
  have hbase : base ≤ w.heap.size := by have := h1.ge; have := h1.blk.lt; omega
  obtain ⟨k, hk⟩ : ∃ k : Nat, k = min len (room.toNat - L.length) := ⟨_, rfl⟩
  have CP : ∀ w2 g o c2, Hid (PuQ w w2 g o c2 len X) → Calls Try.prog 52 #[.pointer (some ⟨rb, 0, none⟩), .slice (some ⟨g, o, none⟩) len c2] w2 fun e w' => e = .returned (.int .i64 k) ∧ Hid (PutQT 1099511627776 w2 w' rb gb room (L ++ X.take k)) := by
    intro w2 g o c2 H
    have hp := H.out
    have hln := HL.out.1.bt hp.bel (fun _ _ x => x)
    have l1 := HL.out.1.ring.lt
    have hcm := hp.cmax
    unfold maxLen at hcm
    have hle := hp.le
    have hge := hp.ge
    refine (putT rb gb 1099511627776 room L X g o len c2 k w2 hln.ring (by omega) (hp.src HS.out.2.1) HS.out.2.1.el HS.out.2.2.1 (by omega) (by omega) (by omega) ⟨by omega, by omega, hp.lt⟩ hk (by omega)).mono ?_
    rintro e w' ⟨rfl, q⟩
    exact ⟨rfl, q⟩
  have CL : ∀ w2 g o c2, Hid (PuQ w w2 g o c2 len X) → ∀ w3, Hid (PutQT 1099511627776 w2 w3 rb gb room (L ++ X.take k)) → LB w2 xb rb room (.slice al L.length cl) vo ∧ LB w3 xb rb room (.slice al L.length cl) vo := by
    intro w2 g o c2 H w3 H3
    have hln := HL.out.1.bt H.out.bel (fun _ _ x => x)
    obtain ⟨gb', q1, q2, q3⟩ := H3.out
    have := hln.n1
    exact ⟨hln.blk, hln.blk.bt q3 (by omega)⟩
  have CB : ∀ w2 g o c2, Hid (PuQ w w2 g o c2 len X) → LB w2 xb rb room (.slice al L.length cl) vo := fun w2 g o c2 H => (HL.out.1.bt H.out.bel (fun _ _ x => x)).blk
  have CE : ∀ w2 g o c2, Hid (PuQ w w2 g o c2 len X) → ∀ w3, Hid (PutQT 1099511627776 w2 w3 rb gb room (L ++ X.take k)) → w3.cell? ⟨g, o + len * 2, none⟩ = some (.int .i64 77) ∧ w3.cell? ⟨g, o + len * 2 + 1, none⟩ = some (.string { data := #[] }) := by
    intro w2 g o c2 H w3 H3
    obtain ⟨gb', q1, q2, q3⟩ := H3.out
    have l1 := HL.out.1.ring.lt
    have hge := H.out.ge
    have hfl : X.flatten.length = len * 2 := by rw [HS.out.2.1.el.flat_len, HS.out.2.2.1]
    refine ⟨q3.cell (by omega) (H.out.cells (len * 2) _ ?_), ?_⟩
    · rw [List.flatten_append, List.getElem?_append_right (by omega), hfl]; simp [t77]
    · rw [Nat.add_assoc]
      refine q3.cell (by omega) (H.out.cells (len * 2 + 1) _ ?_)
      rw [List.flatten_append, List.getElem?_append_right (by omega), hfl]; simp [t77]; rfl
  have hroom : (L.length : Int) ≤ room := HL.out.1.ring.le
  have hroomM : room ≤ 9223372036854775807 := by obtain ⟨C, f, q, _⟩ := HL.out.1.ring; exact q.roomM
  have HK : Hid (k = min len (room.toNat - L.length)) := hk
  have hkle : k ≤ len := by omega
  have tok : True := trivial
  clear h1 h2 h3 h4 hX hT hl hnb hk
  go_enter Try.func29, Try.ntmps29
  go_wp2_with (first
    | (at_builtin; have _t := tok; refine wpList_append_lst rfl _ _ 45 rfl w.heap.size 44 (.agg #[.int .i64 0, .string .empty]) [.int .i64 0, .string .empty] 2 24 Try.underlying45 infoT zcellsT zelT (by decide) (.slice (some ⟨w.heap.size, 0, none⟩) 0 0) [] rfl (lst_empty w _ 2) a len c X rfl HS.out.2.2.1 HS.out.2.1.el (HS.out.1.bt ((Bt.refl (fun _ => False) w).alloc _) (fun _ _ _ x => x)) (by simp; omega) (by decide) (by simp) ?_; intro v1 w1 H1; clear tok)
    | (at_builtin; refine wpList_append_lst rfl _ _ 45 rfl w.heap.size 44 (.agg #[.int .i64 0, .string .empty]) [.int .i64 0, .string .empty] 2 24 Try.underlying45 infoT zcellsT zelT (by decide) v1 ([] ++ X) rfl (H1.out.1.bt ((Bt.refl (fun _ => False) w1).alloc _) (fun _ _ x => x)) (some ⟨w1.heap.size, 0, none⟩) 1 1 [t77] rfl rfl t77_thg.el (src_thing w1 77 .empty _) (by rw [List.nil_append, HS.out.2.2.1]; omega) (by decide) (by have := H1.out.2.1.size; simp at this ⊢; omega) ?_; intro v2 w2 H2; obtain ⟨g, o, c2, e2, hc2, HP⟩ := pu_of HS.out.2.2.1 H1.out H2.out; subst e2; clear H1 H2; have b0 := (CB w2 g o c2 HP).c0)
    | (go_at_call 52; refine (CP w2 g o c2 HP).mono ?_; rintro e w3 ⟨rfl, H3⟩; have d1 := (CL w2 g o c2 HP w3 H3).2.c1; have d2 := (CL w2 g o c2 HP w3 H3).2.c2; obtain ⟨e1, e2⟩ := CE w2 g o c2 HP w3 H3))
  have H0 : Hid (LoQ w3 w3 g o len X 0) := by
    obtain ⟨gb', q1, q2, q3⟩ := H3.out
    have l1 := HL.out.1.ring.lt
    have hge := HP.out.ge
    refine ⟨Bt.refl _ _, fun j _ hj => ?_, fun q => (World.frozen?_of_block (a := ⟨g, q, none⟩) (q3.block g HP.out.lt (by omega))).trans (HP.out.fr q)⟩
    have hfl : X.flatten.length = len * 2 := by rw [HS.out.2.1.el.flat_len, HS.out.2.2.1]
    have e0 : X.flatten[j * 2]? = some (X.flatten[j * 2]'(by omega)) := List.getElem?_eq_getElem _
    have e1 : X.flatten[j * 2 + 1]? = some (X.flatten[j * 2 + 1]'(by omega)) := List.getElem?_eq_getElem _
    constructor
    · rw [e0]; refine q3.cell (by omega) (HP.out.cells (j * 2) _ ?_)
      rw [List.flatten_append, List.getElem?_append_left (by omega), e0]
    · rw [e1, Nat.add_assoc]; refine q3.cell (by omega) (HP.out.cells (j * 2 + 1) _ ?_)
      rw [List.flatten_append, List.getElem?_append_left (by omega), e1]
  have hcase : ((len : Int) > room - L.length ∧ room - (L.length : Int) = (k : Int)) ∨ (¬ (len : Int) > room - L.length ∧ (k : Int) = (len : Int)) := by have := HK.out; omega
  clear CP CL CB CE b0
  rcases hcase with ⟨hw, hk2⟩ | ⟨hw, hk2⟩
  all_goals go_quiet (fail)
  all_goals go_wp2
  all_goals try go_quiet (fail)
  all_goals try go_wp2
  all_goals
    go_loopw [8, 9] (fun tk ti wr => ∃ i : Nat, i ≤ len ∧ tk = .bool true ∧ ti = .int .i64 i ∧ Hid (LoQ w3 wr g o len X i)) (fun _ ti _ => len - (intOf ti).toNat)
    case atStart => exact ⟨0, Nat.zero_le _, rfl, rfl, H0.out.1.drewN _, H0.out.2⟩
    case round =>
      obtain ⟨i, hi, rfl, rfl, HR⟩ := hrel
      by_cases hlt : i < len
      · obtain ⟨nn, ss, f0, f1⟩ := HS.out.2.1.flat (i := i) (by rw [HS.out.2.2.1]; exact hlt)
        obtain ⟨b, oo, ea, hsrc⟩ := HS.out.1 (by rw [HS.out.2.2.1]; omega)
        obtain ⟨gb', q1, q2, q3⟩ := H3.out
        have hnb := HS.out.2.2.2 b (by rw [ea]; rfl)
        have hnf := hnb.1
        have hnr : b ≠ rb ∧ b ≠ gb := ⟨fun e => hnf ((HL.out.2.1 b).2 (.inr (.inl e))), fun e => hnf ((HL.out.2.1 b).2 (.inr (.inr (.inl e))))⟩
        have hge := HP.out.ge
        have k0 := HR.out.1.cell (b := b) (by have := hnb.2; omega) (q3.cell (by omega) (HP.out.bel.cell (fun x => x) (hsrc _ _ f0)))
        have k1 := HR.out.1.cell (b := b) (by have := hnb.2; omega) (q3.cell (by omega) (HP.out.bel.cell (fun x => x) (hsrc _ _ f1)))
        rw [← Nat.add_assoc] at k1
        have m0 := (HR.out.2.1 i (Nat.le_refl _) hlt).1.trans f0
        have m1 := (HR.out.2.1 i (Nat.le_refl _) hlt).2.trans f1
        have fr0 := HR.out.2.2 (o + i * 2)
        have fr1 := HR.out.2.2 (o + i * 2 + 1)
        have hbg : ¬ b = g := by have := hnb.2; omega
        have i1 : (i : Int) < (len : Int) := by omega
        subst ea
        clear f0 f1 hsrc q1 q2 q3 hnb hnf hnr
        go_wp2
        go_quiet (fail)
        go_wp2
        go_roundw
        case rel =>
          refine ⟨i + 1, by omega, rfl, by go_num, ((HR.out.1.drewN _).setCell (fun _ => rfl) _).setCell (fun _ => rfl) _, fun j hj hjl => ?_, fun q => ?_⟩
          · have := HR.out.2.1 j (by omega) hjl
            constructor
            · rw [World.cell?_setCell_other _ _ _ _ (by intro he; injection he with _ e2 _; omega), World.cell?_setCell_other _ _ _ _ (by intro he; injection he with _ e2 _; omega)]; exact this.1
            · rw [World.cell?_setCell_other _ _ _ _ (by intro he; injection he with _ e2 _; omega), World.cell?_setCell_other _ _ _ _ (by intro he; injection he with _ e2 _; omega)]; exact this.2
          · rw [World.frozen?_setCell, World.frozen?_setCell]; exact HR.out.2.2 q
        case measure => simp [intOf]; omega
      · obtain rfl : len = i := by omega
        have hB : Bt (fun q => q = rb ∨ q = gb) w wr ∧ LB wr xb rb room (.slice al L.length cl) vo ∧ Lst wr base 44 2 (.slice al L.length cl) L ∧ Src wr a X := put_mid HL.out.1 HP.out H3.out HR.out HS.out.1 (fun k hk => ⟨fun e => (HS.out.2.2.2 k (by obtain ⟨b, oo, ea⟩ := hk; rw [ea]; rfl)).1 ((HL.out.2.1 k).2 (.inr (.inl e))), fun e => (HS.out.2.2.2 k (by obtain ⟨b, oo, ea⟩ := hk; rw [ea]; rfl)).1 ((HL.out.2.1 k).2 (.inr (.inr (.inl e)))), (HS.out.2.2.2 k (by obtain ⟨b, oo, ea⟩ := hk; rw [ea]; rfl)).2⟩)
        have hXt : (X.take k).length = k := by rw [List.length_take, HS.out.2.2.1]; omega
        obtain ⟨v8, w8, hr, L8, B8, V8⟩ := append_lst (P := Try.prog) (w := wr.drew) base 45 45 44 (.agg #[.int .i64 0, .string .empty]) [.int .i64 0, .string .empty] 2 24 Try.underlying45 infoT zcellsT zelT (by decide) (.slice al L.length cl) L (hB.2.2.1.bt ((Bt.refl (fun _ => False) wr).drew) (fun _ _ x => x)) a k c (X.take k) hXt (HS.out.2.1.take k).el ((hB.2.2.2.bt ((Bt.refl (fun _ => False) wr).drew) (fun _ _ _ x => x)).take HS.out.2.1.el k) (by omega) (by decide) (by have := hB.1.size; show base ≤ wr.heap.size; omega)
        obtain ⟨a8, c8, rfl, _, _⟩ := L8.form
        have x2 := hB.2.1.c2
        have hxv : ¬ (Value.slice al L.length cl).ownBlock = some xb := fun e => (HL.out.1.n2 xb e).1 rfl
        have y2 : LB w8 xb rb room (.slice al L.length cl) vo := (hB.2.1.bt ((Bt.refl (fun _ => False) wr).drew) (fun x => x)).bt B8 hxv
        have z2 := y2.c2
        have z3 := y2.fr 2
        have HF : Hid (∃ F', Line (w8.setCell ⟨xb, 2, none⟩ (.slice a8 (L ++ X.take k).length c8)) base xb F' (n + 1) room (L.length + min len (room.toNat - L.length)) ∧ (∀ q, F' q → F q ∨ w.heap.size ≤ q) ∧ Bt F w (w8.setCell ⟨xb, 2, none⟩ (.slice a8 (L ++ X.take k).length c8))) := by
          have hpf := put_fin HL.out.1 HL.out.2.1 HL.out.2.2.1 HL.out.2.2.2 HP.out H3.out HR.out (HS.out.2.1.take k) (by rw [hXt]; omega) L8 B8 V8
          rw [hXt] at hpf
          rw [← HK.out]
          exact hpf
        obtain ⟨nl, hnl⟩ : ∃ nl, (L ++ X.take k).length = nl := ⟨_, rfl⟩
        rw [hnl] at HF hr
        clear hB L8 B8 V8 y2 HR hnl hXt
        have hkc : k ≤ c := by omega
        try (have hkn : k = len := by omega)
        try (rw [hkn] at hr)
        try clear hkn
        cases a with
        | none =>
          obtain ⟨rfl, rfl⟩ := hnil rfl
          obtain rfl : k = 0 := by omega
          go_wp2
          go_region_law (refine step_append_run rfl _ _ 45 rfl _ _ _ _ rfl rfl hr ?_)
          go_wp2
          go_ret
          exact ⟨rfl, HF.out⟩
        | some ad =>
          go_wp2
          go_region_law (refine step_append_run rfl _ _ 45 rfl _ _ _ _ rfl rfl hr ?_)
          go_wp2
          go_ret
          exact ⟨rfl, HF.out⟩

end Go.Proofs.Ytddpcjgekfmhkaa
