/- Queue: what it keeps in memory, and its calls. -/
import Derived.Test.YtddpcjgekfmhkaaQb
namespace Go.Proofs.Ytddpcjgekfmhkaa
open Go.RowKit
set_option linter.unusedSimpArgs false
set_option linter.unusedVariables false

theorem pick_keep (c n : Int) (w : World) (h1 : -9223372036854775808 ≤ c) (h2 : c ≤ 9223372036854775807) (h3 : 0 < n) (h4 : n ≤ 1000) :
    Calls Try.prog 27 #[.int .i64 c, .int .i64 n] w fun e w' => e = .returned (.int .i64 (pickv c n)) ∧ w' = w := by
  have hr := pickv_range c n h3
  have hn0 : ¬ n = 0 := by omega
  by_cases hc : c < 0
  · have e1 : Hid (pickv c n = Int.tmod (-(c + 1)) n) := by show pickv c n = _; unfold pickv; rw [if_pos hc, Int.tmod_eq_emod_of_nonneg (by omega)]
    have e2 : Hid (pickv c n = (-(c + 1)) % n) := by show pickv c n = _; unfold pickv; rw [if_pos hc]
    rw [e1.out] at hr
    go_enter Try.func27, Try.ntmps27
    go_wp2
    go_ret
    exact ⟨by first | (rw [e1.out]; rfl) | (rw [e1.out, Int.neg_tmod]; rfl) | (rw [e2.out]; rfl), rfl⟩
  · have e1 : Hid (pickv c n = Int.tmod c n) := by show pickv c n = _; unfold pickv; rw [if_neg hc, Int.tmod_eq_emod_of_nonneg (by omega)]
    have e2 : Hid (pickv c n = c % n) := by show pickv c n = _; unfold pickv; rw [if_neg hc]
    rw [e1.out] at hr
    go_enter Try.func27, Try.ntmps27
    go_wp2
    go_ret
    exact ⟨by first | (rw [e1.out]; rfl) | (rw [e2.out]; rfl), rfl⟩

/-- What Queue keeps in memory. -/
structure QW (w0 w : World) (rb gb qb gq : Nat) (room : Int) (M : Nat) (L In Out : List (List Value)) (vi vo : Value) : Prop where
  ring : Ring 78 9 1 M w rb gb room L
  qring : Ring 80 3 1 2 w qb gq 2 [[.int .i64 5], [.int .i64 6]]
  own1 : w.ownsRow w0.heap.size 9 1 vi In.length In.flatten
  own2 : w.ownsRow w0.heap.size 9 1 vo Out.length Out.flatten
  bel : Bt (fun _ => False) w0 w
  ge : w0.heap.size ≤ rb ∧ w0.heap.size ≤ gb ∧ w0.heap.size ≤ qb ∧ w0.heap.size ≤ gq
  ne1 : qb ≠ rb ∧ qb ≠ gb ∧ gq ≠ rb ∧ gq ≠ gb
  ne2 : ∀ g, vi.ownBlock = some g → g ≠ rb ∧ g ≠ gb ∧ g ≠ qb ∧ g ≠ gq
  ne3 : ∀ g, vo.ownBlock = some g → g ≠ rb ∧ g ≠ gb ∧ g ≠ qb ∧ g ≠ gq
  ne4 : ∀ g, vi.ownBlock = some g → vo.ownBlock ≠ some g
section
variable {w0 w w' : World} {rb gb qb gq : Nat} {room : Int} {M : Nat} {L In Out : List (List Value)} {vi vo : Value}

theorem QW.put (h : QW w0 w rb gb qb gq room M L In Out vi vo) {L' : List (List Value)} (p : PutQS M w w' rb gb room L') : ∃ gb', QW w0 w' rb gb' qb gq room M L' In Out vi vo := by
  obtain ⟨gb', hr, hg, hb⟩ := p
  have q1 := h.qring.lt
  have r1 := h.ring.lt
  obtain ⟨a1, a2, a3, a4⟩ := h.ge
  obtain ⟨n1, n2, n3, n4⟩ := h.ne1
  have hsz := h.bel.size
  refine ⟨gb', hr, h.qring.bt hb (by omega) (by omega), own_bt h.own1 hb (fun g hg => by have := h.ne2 g hg; omega), own_bt h.own2 hb (fun g hg => by have := h.ne3 g hg; omega),
    h.bel.trans hb (by intro i hi hx; omega), ⟨a1, by omega, a3, a4⟩, ⟨n1, by omega, n3, by omega⟩, fun g hg' => ?_, fun g hg' => ?_, h.ne4⟩
  · have := h.ne2 g hg'; have := own_ge h.own1 hg'; omega
  · have := h.ne3 g hg'; have := own_ge h.own2 hg'; omega
theorem QW.take (h : QW w0 w rb gb qb gq room M L In Out vi vo) {k : Nat} (p : TakeQS M w w' rb gb room L k) : QW w0 w' rb gb qb gq room M (L.drop k) In Out vi vo := by
  obtain ⟨hr, hrow, hb⟩ := p
  obtain ⟨a1, a2, a3, a4⟩ := h.ge
  obtain ⟨n1, n2, n3, n4⟩ := h.ne1
  exact ⟨hr, h.qring.bt hb (by omega) (by omega), own_bt h.own1 hb (fun g hg => by have := h.ne2 g hg; omega), own_bt h.own2 hb (fun g hg => by have := h.ne3 g hg; omega),
    h.bel.trans hb (by intro i hi hx; omega), h.ge, h.ne1, h.ne2, h.ne3, h.ne4⟩
/-- What append gives. -/
def ApQ (w0 w w' : World) (v v' : Value) (n : Nat) (xs : List (List Value)) : Prop := w'.ownsRow w0.heap.size 9 1 v' n xs.flatten ∧ w.grownBy w' v.ownBlock ∧ (v'.ownBlock = v.ownBlock ∨ v'.ownBlock = some w.heap.size)
theorem QW.app1 (h : QW w0 w rb gb qb gq room M L In Out vi vo) {v' : Value} {xs : List (List Value)} {n : Nat} (p : ApQ w0 w w' vi v' n xs) (hn : n = xs.length) : QW w0 w' rb gb qb gq room M L xs Out v' vo := by
  subst hn
  obtain ⟨ho, hg, he⟩ := p
  have hb := Bt.grownBy hg
  have q1 := h.qring.lt
  have r1 := h.ring.lt
  have hne : ∀ k, k = rb ∨ k = gb ∨ k = qb ∨ k = gq → ¬ vi.ownBlock = some k := fun k hk e => by have := h.ne2 k e; omega
  have hnew : ∀ g, v'.ownBlock = some g → vi.ownBlock = some g ∨ g = w.heap.size := by
    intro g hg'
    rcases he with e | e
    · exact .inl (e ▸ hg')
    · exact .inr (by rw [e] at hg'; exact (Option.some.inj hg').symm)
  refine ⟨h.ring.bt hb (hne _ (by omega)) (hne _ (by omega)), h.qring.bt hb (hne _ (by omega)) (hne _ (by omega)), ho, own_bt h.own2 hb (fun g hg' e => h.ne4 g e hg'),
    h.bel.trans hb (fun i hi e => by have := own_ge h.own1 e; omega), h.ge, h.ne1, fun g hg' => ?_, h.ne3, fun g hg' e => ?_⟩
  · rcases hnew g hg' with e | rfl
    · exact h.ne2 g e
    · omega
  · rcases hnew g hg' with e' | rfl
    · exact h.ne4 g e' e
    · have := own_ge h.own2 e; omega
theorem QW.app2 (h : QW w0 w rb gb qb gq room M L In Out vi vo) {v' : Value} {xs : List (List Value)} {n : Nat} (p : ApQ w0 w w' vo v' n xs) (hn : n = xs.length) : QW w0 w' rb gb qb gq room M L In xs vi v' := by
  subst hn
  obtain ⟨ho, hg, he⟩ := p
  have hb := Bt.grownBy hg
  have q1 := h.qring.lt
  have r1 := h.ring.lt
  have hne : ∀ k, k = rb ∨ k = gb ∨ k = qb ∨ k = gq → ¬ vo.ownBlock = some k := fun k hk e => by have := h.ne3 k e; omega
  have hnew : ∀ g, v'.ownBlock = some g → vo.ownBlock = some g ∨ g = w.heap.size := by
    intro g hg'
    rcases he with e | e
    · exact .inl (e ▸ hg')
    · exact .inr (by rw [e] at hg'; exact (Option.some.inj hg').symm)
  refine ⟨h.ring.bt hb (hne _ (by omega)) (hne _ (by omega)), h.qring.bt hb (hne _ (by omega)) (hne _ (by omega)), own_bt h.own1 hb (fun g hg' e => h.ne4 g hg' e), ho,
    h.bel.trans hb (fun i hi e => by have := own_ge h.own2 e; omega), h.ge, h.ne1, h.ne2, fun g hg' => ?_, fun g hg' e => ?_⟩
  · rcases hnew g hg' with e | rfl
    · exact h.ne3 g e
    · omega
  · rcases hnew g e with e' | rfl
    · exact h.ne4 g hg' e'
    · have := own_ge h.own1 hg'; omega

/-- Texts. -/
def Str (C : List (List Value)) : Prop := ∀ e ∈ C, ∃ s : ByteArray, e = [.string s]
theorem Str.el {C : List (List Value)} (h : Str C) : El 1 C := by
  intro e he
  obtain ⟨s, rfl⟩ := h e he
  exact ⟨rfl, by intro v hv; simp at hv; subst hv; rfl⟩
theorem Str.flat : ∀ {C : List (List Value)}, Str C → ∀ {i : Nat}, i < C.length → ∃ s : ByteArray, C.flatten[i]? = some (.string s)
  | [], _, i, hi => by simp at hi
  | e :: C, h, 0, _ => by obtain ⟨s, rfl⟩ := h e (by simp); exact ⟨s, by simp⟩
  | e :: C, h, i + 1, hi => by
    obtain ⟨s, rfl⟩ := h e (by simp)
    obtain ⟨s', hs'⟩ := Str.flat (C := C) (fun x hx => h x (by simp [hx])) (i := i) (by simpa using hi)
    exact ⟨s', by simpa using hs'⟩
/-- The list that came in. -/
structure QL (w0 : World) (lb lo len lcap : Nat) (S : List (List Value)) : Prop where
  src : Src w0 (some ⟨lb, lo, none⟩) S
  str : Str S
  length : S.length = len
  cap : len ≤ lcap
  cap2 : lcap ≤ 8796093021952
  lt : lb < w0.heap.size
/-- Between two rounds. -/
def QR (w0 w : World) (rb qb gq : Nat) (room : Int) (M at_ : Nat) (S : List (List Value)) (vi vo : Value) (L In Out : List (List Value)) : Prop :=
  (∃ gb, QW w0 w rb gb qb gq room M L In Out vi vo) ∧ In = Out ++ L ∧ In.length ≤ at_ ∧ Str In
theorem QL.piece {lb lo len lcap : Nat} {S : List (List Value)} (l : QL w0 lb lo len lcap S) (hb : Bt (fun _ => False) w0 w) {at_ n : Nat} (ha : at_ < len) (hn : at_ + n ≤ len) :
    Src w (some ⟨lb, lo + at_, none⟩) ((S.drop at_).take n) ∧ Str ((S.drop at_).take n) ∧ ((S.drop at_).take n).length = n := by
  have hl := l.length
  have h1 : Src w (some ⟨lb, lo + at_, none⟩) (S.drop at_) := (l.src.bt hb (fun _ _ _ x => x)).drop l.str.el at_ (by intro _ b o e; simp at e; obtain ⟨rfl, rfl⟩ := e; simp)
  exact ⟨h1.take (l.str.el.drop at_) n, fun e he => l.str e (List.mem_of_mem_drop (List.mem_of_mem_take he)), by simp; omega⟩

theorem q_put {lb lo len lcap : Nat} {S : List (List Value)} (l : QL w0 lb lo len lcap S) {at_ : Nat} (h : QR w0 w rb qb gq room len at_ S vi vo L In Out) {n : Nat} (ha : at_ < len) (hn : at_ + n ≤ len) (nn : Nat) (hnn : nn = n) :
    Calls Try.prog 37 #[.pointer (some ⟨rb, 0, none⟩), .slice (some ⟨lb, lo + at_, none⟩) nn (lcap - at_)] w
      fun e w' => ∃ (k : Nat) (X : List (List Value)), e = .returned (.int .i64 k) ∧ k ≤ n ∧ Hid ((∃ gb, QW w0 w' rb gb qb gq room len (L ++ X) In Out vi vo) ∧ Src w' (some ⟨lb, lo + at_, none⟩) X ∧ Str X ∧ X.length = k) := by
  subst hnn
  obtain ⟨⟨gb, hw⟩, hin, hle, hstr⟩ := h
  obtain ⟨s1, s2, s3⟩ := l.piece hw.bel ha hn
  obtain ⟨a1, a2, a3, a4⟩ := hw.ge
  have h1 := l.lt
  have h2 := hw.bel.size
  have h3 := l.cap
  have h4 := l.cap2
  have hL : L.length ≤ at_ := by rw [hin] at hle; simp at hle; omega
  refine (putS rb gb len room L _ lb (lo + at_) nn (lcap - at_) (min nn (room.toNat - L.length)) w hw.ring (by omega) s1 s2.el s3 (by omega) (by omega) (by omega) (by omega) rfl (by omega)).mono ?_
  rintro e w' ⟨rfl, p⟩
  obtain ⟨gb', hw'⟩ := hw.put p
  obtain ⟨t1, t2, t3⟩ := l.piece hw'.bel ha hn
  exact ⟨_, _, rfl, by omega, ⟨gb', hw'⟩, t1.take t2.el _, fun e he => t2 e (List.mem_of_mem_take he), by rw [List.length_take, t3]; omega⟩
theorem q_take (h : ∃ gb, QW w0 w rb gb qb gq room M L In Out vi vo) (hM : M ≤ 8796093021952) (v : Int) (k : Nat) (hk : (k : Int) = max 0 (min v L.length)) :
    Calls Try.prog 38 #[.pointer (some ⟨rb, 0, none⟩), .int .i64 v] w
      fun e w' => e = .returned (.slice (some ⟨w.heap.size, 0, none⟩) k k) ∧ Hid ((∃ gb, QW w0 w' rb gb qb gq room M (L.drop k) In Out vi vo) ∧ Src w' (some ⟨w.heap.size, 0, none⟩) (L.take k)) := by
  obtain ⟨gb, hw⟩ := h
  refine (takeS rb gb M room L v k w hw.ring (by omega) hk).mono ?_
  rintro e w' ⟨rfl, p⟩
  refine ⟨rfl, ⟨gb, hw.take p⟩, ?_⟩
  have := p.2.1.src (hw.ring.el.take k) 0 k (some ⟨w.heap.size, 0, none⟩) (fun _ => by simp)
  simpa [List.take_take] using this
theorem q_len (h : ∃ gb, QW w0 w rb gb qb gq room M L In Out vi vo) :
    Calls Try.prog 39 #[.pointer (some ⟨rb, 0, none⟩)] w fun e w' => e = .returned (.int .i64 L.length) ∧ w' = w := by
  obtain ⟨gb, hw⟩ := h
  exact lenS M rb gb room L w hw.ring
theorem q_qlen (h : ∃ gb, QW w0 w rb gb qb gq room M L In Out vi vo) :
    Calls Try.prog 40 #[.pointer (some ⟨qb, 0, none⟩)] w fun e w' => e = .returned (.int .i64 2) ∧ w' = w := by
  obtain ⟨gb, hw⟩ := h
  exact lenI 2 qb gq 2 _ w hw.qring
theorem q_round {at_ n k : Nat} {X S : List (List Value)} {v5 v7 : Value} (hq : ∃ gb, QW w0 w' rb gb qb gq room M ((L ++ X).drop k) (In ++ X) (Out ++ (L ++ X).take k) v5 v7) (h : In = Out ++ L ∧ In.length ≤ at_ ∧ Str In) (hX : Str X) (hl : X.length ≤ n) :
    QR w0 w' rb qb gq room M (at_ + n) S v5 v7 ((L ++ X).drop k) (In ++ X) (Out ++ (L ++ X).take k) := by
  obtain ⟨h1, h2, h3⟩ := h
  refine ⟨hq, ?_, by simp; omega, fun e he => (List.mem_append.1 he).elim (h3 e) (hX e)⟩
  rw [List.append_assoc, List.take_append_drop, h1, List.append_assoc]
/-- What an owned row looks like. -/
theorem own_form {base : Nat} {e : TypeId} {v : Value} {n : Nat} {xs : List Value} (h : w.ownsRow base e 1 v n xs) : ∃ a c, v = .slice a n c ∧ n ≤ c ∧ (0 < n → ∃ g, a = some ⟨g, 0, none⟩ ∧ ∀ j u, xs[j]? = some u → w.cell? ⟨g, j, none⟩ = some u) := by
  obtain ⟨hl, h⟩ := h
  rcases h with ⟨rfl, rfl⟩ | ⟨g, cap, cur, rfl, h1, h2, h3, h4, h5, h6⟩
  · exact ⟨none, 0, rfl, Nat.le_refl _, fun h => by omega⟩
  · refine ⟨_, _, rfl, h3, fun _ => ⟨g, rfl, fun j u hj => ?_⟩⟩
    rw [← h6, List.getElem?_take] at hj
    split at hj
    · simp [World.cell?, h2]; simpa using hj
    · cases hj
end

end Go.Proofs.Ytddpcjgekfmhkaa
