/- Texts joined: Fh Fi Fj Fk. -/
import Derived.Test.YtddpcjgekfmhkaaDoorM04

/- The document's filter: put. -/
namespace Go.Proofs.YtddpcjgekfmhkaaDoor
open Go.RowKit
set_option linter.unusedSimpArgs false
set_option linter.unusedVariables false

def FS.plus (s : FS) (f : Nat) (l : List Int) : FS := { s with parts := s.parts ++ [(f, l)] }
/-- An owner's step: what is there behind it. -/
def Steps (w : World) (F : Nat → Prop) (R : Res) (w' : World) : Prop := ∃ F', R w' F' ∧ Stp w F w' F'

theorem put_fin {w w8 w9 w10 : World} {base fb : Nat} {vx vp v8 v10 : Value} {tv : List Value} {s : FS} {F : Nat → Prop} {f : Nat} {l : List Int} {t : TypeId} (h : RefAt w base fb vx vp tv s) (hF : ∀ k, F k ↔ rfoot fb vx vp tv k)
    (h8 : Lst w8 w.heap.size 3 1 v8 (ints l)) (b8 : Bt (fun _ => False) w w8) (b9 : Bt (fun _ => False) w8 w9)
    (h10 : Lst w10 base 144 2 v10 (partRows s.parts tv ++ [[.int .i64 (f : Int), v8]])) (b10 : Bt (fun k => vp.ownBlock = some k) w9 w10) (o10 : v10.ownBlock = vp.ownBlock ∨ v10.ownBlock = some w9.heap.size) (hz : w8.heap.size < w9.heap.size) :
    Steps w F (RF base fb (s.plus f l)) (w10.setCell ⟨fb, 4, none⟩ v10) := by
  have b1 : Bt (fun k => vp.ownBlock = some k) w w10 := ((b8.trans b9 (fun _ _ x => x)).mono (fun _ _ x => x.elim)).trans b10 (fun _ _ x => x)
  have s8 := b8.size
  have s10 := b10.size
  have hbase : base ≤ w.heap.size := by have := h.ge; have := h.blk.lt; omega
  have hlt : ∀ k, v8.ownBlock = some k → w.heap.size ≤ k ∧ k < w8.heap.size := fun k hk => h8.ge hk
  have hv10 : ∀ k, v10.ownBlock = some k → vp.ownBlock = some k ∨ k = w9.heap.size := fun k hk => by
    rcases o10 with e | e
    · exact .inl (e ▸ hk)
    · rw [e] at hk; exact .inr (Option.some.inj hk).symm
  have hlo : ∀ k, rfoot fb vx vp tv k → k < w.heap.size := fun k hk => (h.lt hk).2
  have hsz9 : w.heap.size < w9.heap.size := by omega
  have bc : Bt (fun k => k = fb) w10 (w10.setCell ⟨fb, 4, none⟩ v10) := (Bt.refl (fun k => k = fb) w10).setCell (p := ⟨fb, 4, none⟩) (fun _ => rfl) _
  have nfb10 : v10.ownBlock ≠ some fb := fun e => by
    rcases hv10 fb e with q | q
    · exact h.n1.2 q
    · have := h.blk.lt; omega
  refine ⟨rfoot fb vx v10 (tv ++ [v8]), ⟨vx, v10, tv ++ [v8], ⟨?_, ?_, ?_, ?_, ?_, h.ge, ⟨h.n1.1, nfb10⟩, ?_, ?_⟩, fun _ => Iff.rfl⟩, ?_, ?_⟩
  · exact (h.blk.bt b1 (fun e => h.n1.2 e)).set4 v10
  · exact (h.x.bt b1 (fun g hg e => h.n2 g hg e)).bt bc (fun g hg e => h.n1.1 (e ▸ hg))
  · have e : partRows (s.plus f l).parts (tv ++ [v8]) = partRows s.parts tv ++ [[.int .i64 (f : Int), v8]] := by
      unfold partRows FS.plus
      show List.zipWith _ (s.parts ++ [(f, l)]) (tv ++ [v8]) = _
      rw [List.zipWith_append h.len.symm]; rfl
    rw [e]
    exact h10.bt bc (fun g hg e => nfb10 (e ▸ hg))
  · simp [FS.plus, h.len]
  · intro i p v hp hv
    have hp' : (s.parts ++ [(f, l)])[i]? = some p := hp
    by_cases hi : i < s.parts.length
    · rw [List.getElem?_append_left hi] at hp'
      rw [List.getElem?_append_left (by rw [h.len]; exact hi)] at hv
      have hm := List.mem_of_getElem? hv
      exact ((h.taps i p v hp' hv).bt b1 (fun g hg e => (h.n3 v hm g hg).2.2 e)).bt bc (fun g hg e => (h.n3 v hm g hg).1 e)
    · rw [List.getElem?_append_right (by omega)] at hp'
      rw [List.getElem?_append_right (by rw [h.len]; omega)] at hv
      have hi0 : i - s.parts.length = 0 := by
        rcases Nat.eq_zero_or_pos (i - s.parts.length) with e | e
        · exact e
        · rw [List.getElem?_eq_none (by simp; omega)] at hp'; cases hp'
      rw [h.len] at hv
      rw [hi0] at hp' hv
      simp at hp' hv
      subst hp' hv
      have q : Lst w10 w.heap.size 3 1 v8 (ints l) := (h8.bt b9 (fun _ _ x => x)).bt b10 (fun g hg e => by have := hlt g hg; have := hlo g (.inr (.inr (.inl e))); omega)
      exact (q.mono hbase).bt bc (fun g hg e => by have := hlt g hg; have := h.blk.lt; omega)
  · intro k hk e
    rcases hv10 k e with q | q
    · exact h.n2 k hk q
    · have := hlo k (.inr (.inl hk)); omega
  · intro v hv k hk
    rcases List.mem_append.1 hv with hv | hv
    · have q := h.n3 v hv k hk
      refine ⟨q.1, q.2.1, fun e => ?_⟩
      rcases hv10 k e with e | e
      · exact q.2.2 e
      · have := hlo k (.inr (.inr (.inr ⟨v, hv, hk⟩))); omega
    · simp at hv
      subst hv
      have q := hlt k hk
      refine ⟨fun e => ?_, fun e => ?_, fun e => ?_⟩
      · have := h.blk.lt; omega
      · have := hlo k (.inr (.inl e)); omega
      · rcases hv10 k e with e | e
        · have := hlo k (.inr (.inr (.inl e))); omega
        · omega
  · exact (b1.mono (fun k _ hk => (hF k).2 (.inr (.inr (.inl hk))))).trans bc (fun k _ e => (hF k).2 (.inl e))
  · rintro k (rfl | hk | hk | ⟨v, hv, hk⟩)
    · exact .inl ((hF _).2 (.inl rfl))
    · exact .inl ((hF k).2 (.inr (.inl hk)))
    · rcases hv10 k hk with e | e
      · exact .inl ((hF k).2 (.inr (.inr (.inl e))))
      · exact .inr (by omega)
    · rcases List.mem_append.1 hv with hv | hv
      · exact .inl ((hF k).2 (.inr (.inr (.inr ⟨v, hv, hk⟩))))
      · simp at hv
        subst hv
        exact .inr (hlt k hk).1

set_option maxHeartbeats 1000000 in
set_option maxRecDepth 20000 in
theorem put_ref {w : World} {base fb : Nat} {s : FS} {F : Nat → Prop} (h : RF base fb s w F) (a : Option Addr) (c : Nat) (l : List Int) (f : Nat) (hs : Src w a (ints l)) (hl : l.length ≤ 1048576) (hp : s.parts.length ≤ 1099511627) :
    Calls Tryd.prog 96 #[.pointer (some ⟨fb, 0, none⟩), .int .i64 f, .slice a l.length c] w fun e w' => e = .returned (.tuple #[]) ∧ Steps w F (RF base fb (s.plus f l)) w' := by
  obtain ⟨vx, vp, tv, h, hF⟩ := h
  have HH : Hid (RefAt w base fb vx vp tv s ∧ ∀ k, F k ↔ rfoot fb vx vp tv k) := ⟨h, hF⟩
  have hplen : (partRows s.parts tv).length = s.parts.length := by simp [partRows, h.len]
  obtain ⟨v8, w8, hr8, h8, b8, o8⟩ := append_nums (w := w) 22 w.heap.size (.slice none 0 0) [] (Lst.nil _ _ _ _) a l.length c l rfl hs (by simp; omega) (Nat.le_refl _)
  have B8 : Bt (fun _ => False) w w8 := b8.mono (fun k _ hk => by cases hk)
  obtain ⟨a8, c8, rfl, _, _⟩ := h8.form
  rw [List.nil_append, ints_len] at h8
  rw [List.nil_append, ints_len] at hr8
  obtain ⟨w9, hw9⟩ : ∃ w9, w9 = w8.alloc (.cells #[.int .i64 (f : Int), .slice a8 l.length c8] 144) := ⟨_, rfl⟩
  have B9 : Bt (fun _ => False) w8 w9 := by rw [hw9]; exact (Bt.refl _ _).alloc _
  have Z9 : w8.heap.size < w9.heap.size := by rw [hw9]; simp
  have S9 : Src w9 (some ⟨w8.heap.size, 0, none⟩) [[.int .i64 (f : Int), .slice a8 l.length c8]] := by
    rw [hw9]
    intro _
    refine ⟨_, _, rfl, fun j u hj => ?_⟩
    rw [World.cell?_alloc_at _ _ _ _ rfl]
    simpa using hj
  have c4 := (h.blk.bt B8 (fun x => x)).c4
  have d4 := (h.blk.bt (B8.trans B9 (fun _ _ x => x)) (fun x => x))
  obtain ⟨v10, w10, hr10, h10, b10, o10⟩ := append_lst (P := Tryd.prog) (w := w9) base 126 126 144 (.agg #[.int .i64 0, .slice none 0 0]) [.int .i64 0, .slice none 0 0] 2 32 Tryd.underlying126 info_part rfl zel_part (by decide) vp (partRows s.parts tv) (h.p.bt (B8.trans B9 (fun _ _ x => x)) (fun _ _ x => x)) (some ⟨w8.heap.size, 0, none⟩) 1 1 [[.int .i64 (f : Int), .slice a8 l.length c8]] rfl (fun e he => by simp at he; subst he; exact ⟨rfl, fun v hv => by simp at hv; rcases hv with rfl | rfl <;> rfl⟩) S9 (by rw [hplen]; omega) (by decide) (by have := h.ge; have := h.blk.lt; have := B8.size; omega)
  have e10 := (d4.bt b10 (fun e => h.n1.2 e)).c4
  have f10 := (d4.bt b10 (fun e => h.n1.2 e)).fr 4
  have HF : Hid (Steps w F (RF base fb (s.plus f l)) (w10.setCell ⟨fb, 4, none⟩ v10)) := put_fin (t := 144) h hF h8 B8 B9 h10 b10 o10 Z9
  obtain ⟨a10, c10, hv10, _, _⟩ := h10.form
  obtain ⟨ap, cp, hvp, _, _⟩ := h.p.form
  rw [hw9] at hr10
  rw [hv10] at hr10 HF
  rw [hvp] at c4 e10 hr10
  generalize (partRows s.parts tv ++ [[Value.int .i64 (f : Int), .slice a8 l.length c8]]).length = n10 at *
  generalize (partRows s.parts tv).length = np at *
  generalize l.length = ll at *
  clear hplen h hF h8 B8 B9 h10 b10 o10 hs d4 S9 b8 o8 HH hw9 Z9 hv10 hvp
  go_enter Tryd.func96, Tryd.ntmps96
  go_wp2_with (first
    | (at_builtin; refine wpList_append_run rfl _ _ 22 22 rfl _ _ _ _ rfl rfl hr8 ?_)
    | (at_builtin; refine wpList_append_run rfl _ _ 126 126 rfl _ _ _ _ rfl rfl hr10 ?_))
  go_end0
  exact ⟨rfl, HF.out⟩
end Go.Proofs.YtddpcjgekfmhkaaDoor

/- The document's filter: Push, Flush. -/
namespace Go.Proofs.YtddpcjgekfmhkaaDoor
open Go.RowKit
set_option linter.unusedSimpArgs false
set_option linter.unusedVariables false

theorem more_fin {w w8 : World} {base fb : Nat} {vx vp v8 : Value} {tv : List Value} {s : FS} {F : Nat → Prop} {l : List Int} (h : RefAt w base fb vx vp tv s) (hF : ∀ k, F k ↔ rfoot fb vx vp tv k)
    (h8 : Lst w8 base 3 1 v8 (ints (s.X ++ l))) (b8 : Bt (fun k => vx.ownBlock = some k) w w8) (o8 : v8.ownBlock = vx.ownBlock ∨ v8.ownBlock = some w.heap.size) :
    Steps w F (RF base fb (s.more l)) (w8.setCell ⟨fb, 3, none⟩ v8) := by
  have hlo : ∀ k, rfoot fb vx vp tv k → k < w.heap.size := fun k hk => (h.lt hk).2
  have hv8 : ∀ k, v8.ownBlock = some k → vx.ownBlock = some k ∨ k = w.heap.size := fun k hk => by
    rcases o8 with e | e
    · exact .inl (e ▸ hk)
    · rw [e] at hk; exact .inr (Option.some.inj hk).symm
  have bc : Bt (fun k => k = fb) w8 (w8.setCell ⟨fb, 3, none⟩ v8) := (Bt.refl (fun k => k = fb) w8).setCell (p := ⟨fb, 3, none⟩) (fun _ => rfl) _
  have nfb : v8.ownBlock ≠ some fb := fun e => by
    rcases hv8 fb e with q | q
    · exact h.n1.1 q
    · have := h.blk.lt; omega
  refine ⟨rfoot fb v8 vp tv, ⟨v8, vp, tv, ⟨?_, ?_, ?_, h.len, ?_, h.ge, ⟨nfb, h.n1.2⟩, ?_, ?_⟩, fun _ => Iff.rfl⟩, ?_, ?_⟩
  · exact (h.blk.bt b8 (fun e => h.n1.1 e)).set3 v8
  · exact h8.bt bc (fun g hg e => nfb (e ▸ hg))
  · exact (h.p.bt b8 (fun g hg e => h.n2 g e hg)).bt bc (fun g hg e => h.n1.2 (e ▸ hg))
  · intro i p v hp hv
    have hm := List.mem_of_getElem? hv
    exact ((h.taps i p v hp hv).bt b8 (fun g hg e => (h.n3 v hm g hg).2.1 e)).bt bc (fun g hg e => (h.n3 v hm g hg).1 e)
  · intro k hk e
    rcases hv8 k hk with q | q
    · exact h.n2 k q e
    · have := hlo k (.inr (.inr (.inl e))); omega
  · intro v hv k hk
    have q := h.n3 v hv k hk
    refine ⟨q.1, fun e => ?_, q.2.2⟩
    rcases hv8 k e with e | e
    · exact q.2.1 e
    · have := hlo k (.inr (.inr (.inr ⟨v, hv, hk⟩))); omega
  · exact (b8.mono (fun k _ hk => (hF k).2 (.inr (.inl hk)))).trans bc (fun k _ e => (hF k).2 (.inl e))
  · rintro k (rfl | hk | hk | ⟨v, hv, hk⟩)
    · exact .inl ((hF _).2 (.inl rfl))
    · rcases hv8 k hk with e | e
      · exact .inl ((hF k).2 (.inr (.inl e)))
      · exact .inr (by omega)
    · exact .inl ((hF k).2 (.inr (.inr (.inl hk))))
    · exact .inl ((hF k).2 (.inr (.inr (.inr ⟨v, hv, hk⟩))))

theorem Stp.drewN {w : World} {F : Nat → Prop} (m : Nat) : Stp w F (w.drewN m) F := ⟨(Bt.refl _ _).drewN m, fun _ h => .inl h⟩

/-- What Push tells and leaves. -/
def pushN (s : FS) (l : List Int) : Nat := min l.length s.room
instance (l : List Int) : Decidable (∀ v ∈ l, okSample v) := by unfold okSample; infer_instance
def pushS (s : FS) (l : List Int) : FS := if ∀ v ∈ l, okSample v then s.more (l.take (pushN s l)) else s
def pushR (s : FS) (l : List Int) : Int := if ∀ v ∈ l, okSample v then pushN s l else 0
def pushE (s : FS) (l : List Int) : Int := if ∀ v ∈ l, okSample v then 0 else 5

set_option maxHeartbeats 2000000 in
set_option maxRecDepth 20000 in
theorem push_ref {w : World} {base fb : Nat} {s : FS} {F : Nat → Prop} (h : RF base fb s w F) (a : Option Addr) (c : Nat) (l : List Int) (hs : Src w a (ints l)) (hl : l.length ≤ 1099511627776) (hlc : l.length ≤ c) (hnil : a = none → c = 0)
    (hx : s.X.length ≤ 549755813888) (h1 : s.pulled ≤ s.X.length) (h2 : s.X.length ≤ s.pulled + s.R) (h3 : s.R ≤ 65536) :
    Calls Tryd.prog 97 #[.pointer (some ⟨fb, 0, none⟩), .slice a l.length c] w fun e w' => e = .returned (.tuple #[.int .i64 (pushR s l), .int .i64 (pushE s l)]) ∧ Steps w F (RF base fb (pushS s l)) w' := by
  obtain ⟨vx, vp, tv, h, hF⟩ := h
  have HH : Hid (RefAt w base fb vx vp tv s ∧ ∀ k, F k ↔ rfoot fb vx vp tv k) := ⟨h, hF⟩
  have CR : ∀ w', Bt (fun _ => False) w w' → Calls Tryd.prog 99 #[.pointer (some ⟨fb, 0, none⟩)] w' fun e w'' => e = .returned (.int .i64 (s.room : Nat)) ∧ ∃ m : Nat, w'' = w'.drewN m :=
    fun w' b => room_any (h.bt b (fun _ _ x => x)) (by omega) h1 h2 h3
  have HS : Hid (∀ i, i < l.length → ∃ b o, a = some ⟨b, o, none⟩ ∧ w.cell? ⟨b, o + i, none⟩ = some (.int .i64 (at0 l i))) := fun i hi => hs.int (at0_some hi)
  have HSr : Hid (Src w a (ints l)) := hs
  have hroom : s.room ≤ 65536 := by unfold FS.room; omega
  obtain ⟨N, hN⟩ : ∃ N, l.length = N := ⟨_, rfl⟩
  have HN : Hid (l.length = N) := hN
  have c3 := h.blk.c3
  obtain ⟨ax, cx, hvx, _, _⟩ := h.x.form
  rw [hvx, ints_len] at c3
  -- the end, with k samples more
  have HE : Hid (∀ (m k : Nat), (∀ v ∈ l, okSample v) → k = pushN s l → ∃ a8 n8 c8 w8, (Builtin.append_ #[22, 22] 22 #[.slice ax s.X.length cx, .slice a k c]).run Tryd.prog (w.drewN m).drew = .ok (.slice a8 n8 c8) w8 ∧ w8.cell? ⟨fb, 3, none⟩ = some (.slice ax s.X.length cx) ∧ w8.frozen? ⟨fb, 3, none⟩ = false ∧ Steps w F (RF base fb (pushS s l)) (w8.setCell ⟨fb, 3, none⟩ (.slice a8 n8 c8))) := by
    intro m k hall hk
    have b0 : Bt (fun _ => False) w (w.drewN m).drew := ((Bt.refl _ _).drewN m).drew
    have hk2 : (l.take k).length = k := by rw [List.length_take, hk]; unfold pushN; omega
    have hs2 : Src (w.drewN m).drew a (ints (l.take k)) := by rw [ints_take]; exact (hs.bt b0 (fun _ _ _ x => x)).take (ints_el l) k
    obtain ⟨v8, w8, hr, h8, b8, o8⟩ := append_nums (w := (w.drewN m).drew) 22 base vx s.X (h.x.bt b0 (fun _ _ x => x)) a k c (l.take k) hk2 hs2 (by rw [hk]; unfold pushN; omega) (by have := h.ge; have := h.blk.lt; show base ≤ w.heap.size; omega)
    obtain ⟨a8, c8, hv8, _, _⟩ := h8.form
    have hb := (h.blk.bt b0 (fun x => x)).bt b8 (fun e => h.n1.1 e)
    refine ⟨a8, _, c8, w8, by rw [← hv8, ← hr, hvx, ints_len], by rw [hb.c3, hvx, ints_len], hb.fr 3, ?_⟩
    have e : pushS s l = s.more (l.take k) := by unfold pushS; rw [if_pos hall, hk]
    rw [e, ← hv8]
    have := more_fin (h.bt b0 (fun _ _ x => x)) hF h8 b8 o8
    obtain ⟨F', q1, q2⟩ := this
    exact ⟨F', q1, (show Stp w F (w.drewN m).drew F from ⟨((Bt.refl _ _).drewN m).drew, fun _ h => .inl h⟩).trans q2⟩
  have HB : Hid (∀ v, v ∈ l → ¬ okSample v → pushR s l = 0 ∧ pushE s l = 5 ∧ pushS s l = s) := by
    intro v hv hb
    have hn : ¬ ∀ v ∈ l, okSample v := fun q => hb (q v hv)
    unfold pushR pushE pushS
    rw [if_neg hn, if_neg hn, if_neg hn]; exact ⟨rfl, rfl, rfl⟩
  have HG : Hid ((∀ v ∈ l, okSample v) → pushR s l = (pushN s l : Nat) ∧ pushE s l = 0) := by
    intro hall
    unfold pushR pushE
    rw [if_pos hall, if_pos hall]; exact ⟨rfl, rfl⟩
  have HP : Hid (pushN s l = min N s.room) := by unfold pushN; rw [hN]; exact rfl
  generalize hR : pushR s l = R0 at *
  generalize hEE : pushE s l = E0 at *
  rw [hN] at HS hl hlc ⊢
  generalize s.X.length = NX at *
  generalize s.room = r at *
  clear h hF hs hN hvx hR hEE
  go_enter Tryd.func97, Tryd.ntmps97
  go_wp2
  go_loop [6] (fun ti => ∃ i : Nat, ti = .int .i64 i ∧ i ≤ N ∧ Hid (∀ j, j < i → okSample (at0 l j))) (fun ti => N - (intOf ti).toNat)
  case atStart => exact ⟨0, rfl, Nat.zero_le _, fun j hj => by omega⟩
  case round =>
    obtain ⟨i, rfl, hi, HI⟩ := hrel
    by_cases hlt : i < N
    · obtain ⟨b, o, rfl, ci⟩ := HS.out i hlt
      have hlt1 : (i : Int) < (N : Int) := by omega
      have hmem : at0 l i ∈ l := List.mem_of_getElem? (at0_some (by rw [HN.out]; exact hlt))
      obtain ⟨x, hx⟩ : ∃ x, at0 l i = x := ⟨_, rfl⟩
      have HX : Hid (at0 l i = x) := hx
      rw [hx] at ci
      clear hx
      by_cases e1 : x < -2147483648
      · have hbad : Hid (R0 = 0 ∧ E0 = 5 ∧ pushS s l = s) := HB.out _ hmem (fun q => by unfold okSample at q; rw [HX.out] at q; omega)
        clear hmem
        go_wp2
        go_ret2
        refine ⟨by rw [hbad.out.1, hbad.out.2.1]; rfl, ?_⟩
        rw [hbad.out.2.2]
        exact ⟨F, ⟨vx, vp, tv, HH.out⟩, Stp.refl _ _⟩
      · have p1 : decide (x < -2147483648) = false := decide_eq_false e1
        by_cases e2 : 2147483647 < x
        · have hbad : Hid (R0 = 0 ∧ E0 = 5 ∧ pushS s l = s) := HB.out _ hmem (fun q => by unfold okSample at q; rw [HX.out] at q; omega)
          clear hmem
          go_wp2
          go_ret2
          refine ⟨by rw [hbad.out.1, hbad.out.2.1]; rfl, ?_⟩
          rw [hbad.out.2.2]
          exact ⟨F, ⟨vx, vp, tv, HH.out⟩, Stp.refl _ _⟩
        · have p2 : decide (2147483647 < x) = false := decide_eq_false e2
          clear hmem
          go_wp2
          go_round
          case rel =>
            refine ⟨i + 1, by go_num, by omega, fun j hj => ?_⟩
            by_cases e : j = i
            · subst e; rw [HX.out]; exact ⟨by omega, by omega⟩
            · exact HI.out j (by omega)
          case measure => simp [intOf]; omega
    · obtain rfl : i = N := by omega
      have hall : ∀ v ∈ l, okSample v := by
        intro v hv
        obtain ⟨j, hj⟩ := List.getElem?_of_mem hv
        have hjl : j < l.length := by
          rcases Nat.lt_or_ge j l.length with e | e
          · exact e
          · rw [List.getElem?_eq_none e] at hj; cases hj
        rw [at0_some hjl] at hj
        rw [← Option.some.inj hj]
        exact HI.out j (by rw [← HN.out]; exact hjl)
      have HALL : Hid ((∀ v ∈ l, okSample v) ∧ R0 = (pushN s l : Nat) ∧ E0 = 0) := ⟨hall, HG.out hall⟩
      clear hall
      by_cases hr : r < i
      · have hr1 : (r : Int) < (i : Int) := by omega
        have hk : r = pushN s l := by rw [HP.out]; omega
        have HK : Hid (r = pushN s l) := hk
        clear hk
        have hrc : r ≤ c := by omega
        cases a with
        | none => have := hnil rfl; omega
        | some ad =>
          clear hnil
          go_wp2_with (first
            | (go_at_call 99; have _t := CR; refine (CR _ (Bt.refl _ _)).mono ?_; rintro e w' ⟨rfl, m, hw⟩; subst hw)
            | (go_at_call 99; refine (CR _ ((Bt.refl _ _).drewN _)).mono ?_; rintro e w' ⟨rfl, m2, hw⟩; rw [drewN_add] at hw; subst hw))
          obtain ⟨a8, n8, c8, w8, hr8, c8', f8, HF⟩ := HE.out (m + m2) r HALL.out.1 HK.out
          have HF' : Hid (Steps w F (RF base fb (pushS s l)) (w8.setCell ⟨fb, 3, none⟩ (.slice a8 n8 c8))) := HF
          clear HF
          go_region_law (refine step_app_run rfl _ _ 22 22 rfl _ _ _ _ rfl rfl hr8 ?_)
          go_wp2
          go_ret2
          exact ⟨by rw [HALL.out.2.1, HALL.out.2.2, ← HK.out]; rfl, HF'.out⟩
      · have hr1 : ¬ (r : Int) < (i : Int) := by omega
        have hk : i = pushN s l := by rw [HP.out]; omega
        have HK : Hid (i = pushN s l) := hk
        clear hk
        cases a with
        | none =>
          have hc0 := hnil rfl
          subst hc0
          obtain rfl : i = 0 := by omega
          clear hnil
          go_wp2_with (go_at_call 99; refine (CR _ (Bt.refl _ _)).mono ?_; rintro e w' ⟨rfl, m, hw⟩; subst hw)
          obtain ⟨a8, n8, c8, w8, hr8, c8', f8, HF⟩ := HE.out m 0 HALL.out.1 HK.out
          have HF' : Hid (Steps w F (RF base fb (pushS s l)) (w8.setCell ⟨fb, 3, none⟩ (.slice a8 n8 c8))) := HF
          clear HF
          go_region_law (refine step_app_run rfl _ _ 22 22 rfl _ _ _ _ rfl rfl hr8 ?_)
          go_wp2
          go_ret2
          exact ⟨by rw [HALL.out.2.1, HALL.out.2.2, ← HK.out]; rfl, HF'.out⟩
        | some ad =>
          clear hnil
          go_wp2_with (go_at_call 99; refine (CR _ (Bt.refl _ _)).mono ?_; rintro e w' ⟨rfl, m, hw⟩; subst hw)
          obtain ⟨a8, n8, c8, w8, hr8, c8', f8, HF⟩ := HE.out m i HALL.out.1 HK.out
          have HF' : Hid (Steps w F (RF base fb (pushS s l)) (w8.setCell ⟨fb, 3, none⟩ (.slice a8 n8 c8))) := HF
          clear HF
          go_region_law (refine step_app_run rfl _ _ 22 22 rfl _ _ _ _ rfl rfl hr8 ?_)
          go_wp2
          go_ret2
          exact ⟨by rw [HALL.out.2.1, HALL.out.2.2, ← HK.out]; rfl, HF'.out⟩

/-- What Flush tells and leaves. -/
def flushS (s : FS) : FS := if s.room < s.missing then s else s.more (List.replicate s.missing 0)
def flushR (s : FS) : Int := if s.room < s.missing then 0 else s.missing
def flushE (s : FS) : Int := if s.room < s.missing then 7 else 0

theorem missing_at {n B k : Nat} (h0 : 0 < B) (hk : k ≤ (B - n % B) % B) : (n + k) % B = 0 ↔ k = (B - n % B) % B := by
  have hn := Nat.div_add_mod n B
  have hl := Nat.mod_lt n h0
  generalize n % B = r at *
  by_cases hr : r = 0
  · subst hr
    rw [Nat.sub_zero, Nat.mod_self] at hk ⊢
    obtain rfl : k = 0 := by omega
    rw [Nat.add_zero, ← hn, Nat.add_zero, Nat.mul_mod_right]
  · have e2 : (B - r) % B = B - r := Nat.mod_eq_of_lt (by omega)
    rw [e2] at hk ⊢
    have e : n + k = (r + k) + B * (n / B) := by omega
    rw [e, Nat.add_mul_mod_self_left]
    by_cases h : r + k = B
    · rw [h, Nat.mod_self]; exact ⟨fun _ => by omega, fun _ => rfl⟩
    · rw [Nat.mod_eq_of_lt (by omega)]; omega

set_option maxHeartbeats 2000000 in
set_option maxRecDepth 20000 in
theorem flush_ref {w : World} {base fb : Nat} {s : FS} {F : Nat → Prop} (h : RF base fb s w F)
    (hx : s.X.length ≤ 549755813888) (h1 : s.pulled ≤ s.X.length) (h2 : s.X.length ≤ s.pulled + s.R) (h3 : s.R ≤ 65536) (hB0 : 0 < s.B) (hB : s.B ≤ 256) :
    Calls Tryd.prog 72 #[.pointer (some ⟨fb, 0, none⟩)] w fun e w' => e = .returned (.tuple #[.int .i64 (flushR s), .int .i64 (flushE s)]) ∧ Steps w F (RF base fb (flushS s)) w' := by
  obtain ⟨vx, vp, tv, h, hF⟩ := h
  have HH : Hid (RefAt w base fb vx vp tv s ∧ ∀ k, F k ↔ rfoot fb vx vp tv k) := ⟨h, hF⟩
  have CR : ∀ w', Bt (fun _ => False) w w' → Calls Tryd.prog 99 #[.pointer (some ⟨fb, 0, none⟩)] w' fun e w'' => e = .returned (.int .i64 (s.room : Nat)) ∧ ∃ m : Nat, w'' = w'.drewN m :=
    fun w' b => room_any (h.bt b (fun _ _ x => x)) (by omega) h1 h2 h3
  have hroom : s.room ≤ 65536 := by unfold FS.room; omega
  have hmis : s.missing < s.B := Nat.mod_lt _ hB0
  have c3 := h.blk.c3
  have c0 := h.blk.c0
  obtain ⟨ax, cx, hvx, _, _⟩ := h.x.form
  rw [hvx, ints_len] at c3
  have HE : Hid (∀ (m : Nat), ¬ s.room < s.missing → ∃ a8 n8 c8 w8, (Builtin.append_ #[22, 3] 22 #[.slice ax s.X.length cx, .int .i64 (s.missing : Nat)]).run Tryd.prog (w.drewN m) = .ok (.slice a8 n8 c8) w8 ∧ w8.cell? ⟨fb, 3, none⟩ = some (.slice ax s.X.length cx) ∧ w8.frozen? ⟨fb, 3, none⟩ = false ∧ Steps w F (RF base fb (flushS s)) (w8.setCell ⟨fb, 3, none⟩ (.slice a8 n8 c8))) := by
    intro m hr
    have b0 : Bt (fun _ => False) w (w.drewN m) := (Bt.refl _ _).drewN m
    obtain ⟨v8, w8, hr8, h8, b8, o8⟩ := append_nulls (w := w.drewN m) 22 base vx s.X (h.x.bt b0 (fun _ _ x => x)) s.missing (by omega) (by have := h.ge; have := h.blk.lt; show base ≤ w.heap.size; omega)
    obtain ⟨a8, c8, hv8, _, _⟩ := h8.form
    have hb := (h.blk.bt b0 (fun x => x)).bt b8 (fun e => h.n1.1 e)
    refine ⟨a8, _, c8, w8, by rw [← hv8, ← hr8, hvx, ints_len], by rw [hb.c3, hvx, ints_len], hb.fr 3, ?_⟩
    have e : flushS s = s.more (List.replicate s.missing 0) := by unfold flushS; rw [if_neg hr]
    rw [e, ← hv8]
    obtain ⟨F', q1, q2⟩ := more_fin (h.bt b0 (fun _ _ x => x)) hF h8 b8 o8
    exact ⟨F', q1, (Stp.drewN m).trans q2⟩
  have HM : Hid (∀ k, k ≤ s.missing → ((s.X.length + k) % s.B = 0 ↔ k = s.missing)) := fun k hk => missing_at hB0 hk
  have HV : Hid ((s.room < s.missing → flushR s = 0 ∧ flushE s = 7 ∧ flushS s = s) ∧ (¬ s.room < s.missing → flushR s = (s.missing : Nat) ∧ flushE s = 0)) := by
    unfold flushR flushE flushS
    exact ⟨fun hr => by rw [if_pos hr, if_pos hr, if_pos hr]; exact ⟨rfl, rfl, rfl⟩, fun hr => by rw [if_neg hr, if_neg hr]; exact ⟨rfl, rfl⟩⟩
  generalize flushR s = R0 at *
  generalize flushE s = E0 at *
  generalize s.missing = M at *
  generalize s.room = r at *
  generalize s.X.length = NX at *
  generalize s.B = B at *
  clear h hF hvx
  go_enter Tryd.func72, Tryd.ntmps72
  go_wp2
  go_loopw [4] (fun ti wr => ∃ (i m : Nat), ti = .int .i64 i ∧ i ≤ M ∧ wr = w.drewN m) (fun ti _ => M - (intOf ti).toNat)
  case atStart => exact ⟨0, 0, rfl, Nat.zero_le _, rfl⟩
  case round =>
    obtain ⟨i, m, rfl, hi, rfl⟩ := hrel
    obtain ⟨q, hq⟩ : ∃ q : Nat, (NX + i) % B = q := ⟨_, rfl⟩
    have hq2 : q < B := by rw [← hq]; exact Nat.mod_lt _ hB0
    have d1 : ((NX : Int) + (i : Int)).tmod (B : Int) = (q : Int) := by rw [Int.tmod_eq_emod_of_nonneg (by omega), ← hq]; rfl
    have d2 : ((NX : Int) + (i : Int)) % (B : Int) = (q : Int) := by rw [← hq]; rfl
    have hBi : ¬ ((B : Int) = 0) := by omega
    have HQ : Hid (q = 0 ↔ i = M) := by rw [← hq]; exact HM.out i hi
    clear hq
    by_cases hlt : i < M
    · have q0 : (0 : Int) < (q : Int) := by have := HQ.out; omega
      go_wp2
      go_quiet (fail)
      go_wp2
      go_roundw
      case rel => exact ⟨i + 1, _, by go_num, by omega, rfl⟩
      case measure => simp [intOf]; omega
    · obtain rfl : i = M := by omega
      have q0 : ¬ (0 : Int) < (q : Int) := by have := HQ.out.2 rfl; omega
      by_cases hr : r < i
      · have hr1 : (r : Int) < (i : Int) := by omega
        have HX : Hid (R0 = 0 ∧ E0 = 7 ∧ flushS s = s) := HV.out.1 hr
        go_wp2
        go_quiet (fail)
        go_wp2_with (go_at_call 99; refine (CR _ ((Bt.refl _ _).drewN _)).mono ?_; rintro e w' ⟨rfl, m2, hw⟩; rw [drewN_add] at hw; subst hw)
        go_ret2
        refine ⟨by rw [HX.out.1, HX.out.2.1]; rfl, ?_⟩
        rw [HX.out.2.2]
        exact ⟨F, ⟨vx, vp, tv, HH.out.1.bt ((Bt.refl (fun _ => False) w).drewN _) (fun _ _ x => x), HH.out.2⟩, Stp.drewN _⟩
      · have hr1 : ¬ (r : Int) < (i : Int) := by omega
        have HX : Hid (R0 = (i : Nat) ∧ E0 = 0) := HV.out.2 hr
        go_wp2
        go_quiet (fail)
        go_wp2_with (first
          | (go_at_call 99; refine (CR _ ((Bt.refl _ _).drewN _)).mono ?_; rintro e w' ⟨rfl, m2, hw⟩; rw [drewN_add] at hw; subst hw; obtain ⟨a8, n8, c8, w8, hr8, c8', f8, HF⟩ := HE.out _ hr; have HF' : Hid (Steps w F (RF base fb (flushS s)) (w8.setCell ⟨fb, 3, none⟩ (.slice a8 n8 c8))) := HF; clear HF)
          | (at_builtin; refine wpList_append_run rfl _ _ 22 3 rfl _ _ _ _ rfl rfl hr8 ?_))
        go_ret2
        exact ⟨by rw [HX.out.1, HX.out.2]; rfl, HF'.out⟩
end Go.Proofs.YtddpcjgekfmhkaaDoor

/- The document's filter: Swap, NewFilter. -/
namespace Go.Proofs.YtddpcjgekfmhkaaDoor
open Go.RowKit
set_option linter.unusedSimpArgs false
set_option linter.unusedVariables false

instance (l : List Int) : Decidable (okTaps l) := by unfold okTaps; infer_instance
/-- What Swap tells and leaves. -/
def swapS (s : FS) (l : List Int) : FS := if 0 ≤ s.pending then s else if okTaps l then s.swapped l else s
def swapR (s : FS) (l : List Int) : Int := if 0 ≤ s.pending then 0 else if okTaps l then s.place else 0
def swapE (s : FS) (l : List Int) : Int := if 0 ≤ s.pending then 6 else if okTaps l then 0 else 4

theorem bool_call {prog : Program} {f : FuncId} {args : Array Value} {w : World} {P : Prop} [Decidable P] (h : Calls prog f args w fun e w' => BoolIs P e ∧ w' = w) : Calls prog f args w fun e w' => e = .returned (.bool (decide P)) ∧ w' = w := by
  refine h.mono ?_
  rintro e w' ⟨⟨ok, rfl, hk⟩, hw⟩
  refine ⟨?_, hw⟩
  congr 2
  by_cases hp : P
  · rw [decide_eq_true hp]; exact hk.2 hp
  · rw [decide_eq_false hp]
    cases ok
    · rfl
    · exact absurd (hk.1 rfl) hp

set_option maxHeartbeats 2000000 in
set_option maxRecDepth 20000 in
theorem swap_ref {w : World} {base fb : Nat} {s : FS} {F : Nat → Prop} (h : RF base fb s w F) (a : Option Addr) (c : Nat) (l : List Int) (hs : Src w a (ints l)) (hr : Rng l) (hl : l.length ≤ 1048576)
    (hx : s.X.length ≤ 549755813888) (h0 : 0 < s.parts.length) (hp : s.parts.length ≤ 1099511627) (hfr : s.from ≤ 2199023255552) (hB0 : 0 < s.B) (hB : s.B ≤ 256) (hW : s.W ≤ 64) :
    Calls Tryd.prog 101 #[.pointer (some ⟨fb, 0, none⟩), .slice a l.length c] w fun e w' => e = .returned (.tuple #[.int .i64 (swapR s l), .int .i64 (swapE s l)]) ∧ Steps w F (RF base fb (swapS s l)) w' := by
  have CPU : ∀ m : Nat, Calls Tryd.prog 96 #[.pointer (some ⟨fb, 0, none⟩), .int .i64 (s.place : Nat), .slice a l.length c] (w.drewN m) fun e w' => e = .returned (.tuple #[]) ∧ Hid (Steps (w.drewN m) F (RF base fb (s.swapped l)) w') := by
    intro m
    have b0 : Bt (fun _ => False) w (w.drewN m) := (Bt.refl _ _).drewN m
    exact put_ref ((RF.fr base fb s).bt h b0 (fun _ _ x => x)) a c l s.place (hs.bt b0 (fun _ _ _ x => x)) hl hp
  have HR : Hid (RF base fb s w F) := h
  obtain ⟨vx, vp, tv, h, hF⟩ := h
  have CPE := pending_ref h (by omega) h0 (by omega) hfr
  have CTA : ∀ m : Nat, Calls Tryd.prog 95 #[.slice a l.length c] (w.drewN m) fun e w' => e = .returned (.bool (decide (okTaps l))) ∧ w' = w.drewN m := fun m => bool_call (taps_ref a c l (w.drewN m) (hs.bt ((Bt.refl (fun _ => False) w).drewN m) (fun _ _ _ x => x)) hr (by omega))
  have c3 := h.blk.c3
  have c0 := h.blk.c0
  have c2 := h.blk.c2
  obtain ⟨ax, cx, hvx, _, _⟩ := h.x.form
  rw [hvx, ints_len] at c3
  have HV : Hid ((0 ≤ s.pending → swapR s l = 0 ∧ swapE s l = 6 ∧ swapS s l = s) ∧ (¬ 0 ≤ s.pending → ¬ okTaps l → swapR s l = 0 ∧ swapE s l = 4 ∧ swapS s l = s) ∧ (¬ 0 ≤ s.pending → okTaps l → swapR s l = (s.place : Nat) ∧ swapE s l = 0 ∧ swapS s l = s.swapped l)) := by
    unfold swapR swapE swapS
    refine ⟨fun q => ?_, fun q q2 => ?_, fun q q2 => ?_⟩
    · rw [if_pos q, if_pos q, if_pos q]; exact ⟨rfl, rfl, rfl⟩
    · rw [if_neg q, if_neg q, if_neg q, if_neg q2, if_neg q2, if_neg q2]; exact ⟨rfl, rfl, rfl⟩
    · rw [if_neg q, if_neg q, if_neg q, if_pos q2, if_pos q2, if_pos q2]; exact ⟨rfl, rfl, rfl⟩
  have hpl : s.place = (s.X.length / s.B + s.W) * s.B := rfl
  have hple : s.place ≤ s.X.length + 16384 := by
    rw [hpl, Nat.add_mul]
    have := Nat.div_mul_le_self s.X.length s.B
    have : s.W * s.B ≤ 64 * 256 := Nat.mul_le_mul hW hB
    omega
  generalize swapR s l = R0 at *
  generalize swapE s l = E0 at *
  generalize s.place = M at *
  generalize s.X.length = NX at *
  generalize s.pending = pe at *
  obtain ⟨q, hq⟩ : ∃ q : Nat, NX / s.B = q := ⟨_, rfl⟩
  have hq2 : q ≤ NX := by rw [← hq]; exact Nat.div_le_self _ _
  rw [hq] at hpl
  generalize s.B = B at *
  generalize s.W = W at *
  have d1 : (NX : Int).tdiv (B : Int) = (q : Int) := by rw [Int.tdiv_eq_ediv_of_nonneg (by omega), ← hq]; rfl
  have d2 : (NX : Int) / (B : Int) = (q : Int) := by rw [← hq]; rfl
  have hBi : ¬ ((B : Int) = 0) := by omega
  have m1 : ((q : Int) + (W : Int)) * (B : Int) = (M : Int) := by rw [hpl]; push_cast; rfl
  have w1 : IntKind.i64.wrap (((q : Int) + (W : Int)) * (B : Int)) = (M : Int) := by rw [m1, IntKind.wrap_i64]; omega
  have w2 : IntKind.i64.wrap (q : Int) = (q : Int) := by rw [IntKind.wrap_i64]; omega
  have w3 : IntKind.i64.wrap ((q : Int) + (W : Int)) = (q : Int) + (W : Int) := by rw [IntKind.wrap_i64]; omega
  generalize l.length = ll at *
  clear h hF hvx hs hr hq hpl
  by_cases hpe : 0 ≤ pe
  · have HX : Hid (R0 = 0 ∧ E0 = 6 ∧ swapS s l = s) := HV.out.1 hpe
    go_enter Tryd.func101, Tryd.ntmps101
    go_wp2_with (go_at_call 104; refine CPE.mono ?_; rintro e w' ⟨rfl, m, hw⟩; subst hw)
    go_ret2
    refine ⟨by rw [HX.out.1, HX.out.2.1]; rfl, ?_⟩
    rw [HX.out.2.2]
    exact ⟨F, (RF.fr base fb s).bt HR.out ((Bt.refl (fun _ => False) w).drewN _) (fun _ _ x => x), Stp.drewN _⟩
  · by_cases hok : okTaps l
    · have HX : Hid (R0 = (M : Nat) ∧ E0 = 0 ∧ swapS s l = s.swapped l) := HV.out.2.2 hpe hok
      rw [decide_eq_true hok] at CTA
      go_enter Tryd.func101, Tryd.ntmps101
      go_wp2_with (first
        | (go_at_call 104; refine CPE.mono ?_; rintro e w' ⟨rfl, m, hw⟩; subst hw)
        | (go_at_call 95; refine (CTA _).mono ?_; rintro e w' ⟨rfl, hw⟩; subst w'))
      go_quiet (fail)
      go_wp2_with (go_at_call 96; refine (CPU _).mono ?_; rintro e w' ⟨rfl, HF⟩)
      go_ret2
      refine ⟨by rw [HX.out.1, HX.out.2.1]; rfl, ?_⟩
      rw [HX.out.2.2]
      obtain ⟨F', q1, q2⟩ := HF.out
      exact ⟨F', q1, (Stp.drewN _).trans q2⟩
    · have HX : Hid (R0 = 0 ∧ E0 = 4 ∧ swapS s l = s) := HV.out.2.1 hpe hok
      rw [decide_eq_false hok] at CTA
      go_enter Tryd.func101, Tryd.ntmps101
      go_wp2_with (first
        | (go_at_call 104; refine CPE.mono ?_; rintro e w' ⟨rfl, m, hw⟩; subst hw)
        | (go_at_call 95; refine (CTA _).mono ?_; rintro e w' ⟨rfl, hw⟩; subst w'))
      go_ret2
      refine ⟨by rw [HX.out.1, HX.out.2.1]; rfl, ?_⟩
      rw [HX.out.2.2]
      exact ⟨F, (RF.fr base fb s).bt HR.out ((Bt.refl (fun _ => False) w).drewN _) (fun _ _ x => x), Stp.drewN _⟩
end Go.Proofs.YtddpcjgekfmhkaaDoor

/- The document's filter: NewFilter, Pull. -/
namespace Go.Proofs.YtddpcjgekfmhkaaDoor
open Go.RowKit
set_option linter.unusedSimpArgs false
set_option linter.unusedVariables false

def okConf (B R W : Int) : Prop := okBlock B ∧ 2 * B ≤ R ∧ R ≤ 65536 ∧ 1 ≤ W ∧ W ≤ 64
instance (B : Int) : Decidable (okBlock B) := by unfold okBlock; infer_instance
instance (B R W : Int) : Decidable (okConf B R W) := by unfold okConf; infer_instance

/-- What NewFilter gives. -/
def NewQ (base : Nat) (B R W : Int) (l : List Int) (w : World) (e : Ending) (w' : World) : Prop :=
  if okConf B R W then
    if okTaps l then ∃ fb F, e = .returned (.tuple #[.pointer (some ⟨fb, 0, none⟩), .int .i64 0]) ∧ RF base fb (FS.fresh B.toNat R.toNat W.toNat l) w' F ∧ (∀ k, F k → w.heap.size ≤ k) ∧ Bt (fun _ => False) w w'
    else e = .returned (.tuple #[.pointer none, .int .i64 4]) ∧ Bt (fun _ => False) w w'
  else e = .returned (.tuple #[.pointer none, .int .i64 3]) ∧ Bt (fun _ => False) w w'

theorem fresh_ref (w : World) (base B R W : Nat) (hb : base ≤ w.heap.size) : RF base w.heap.size ⟨B, R, W, [], [], 0⟩ (w.alloc (.cells #[.int .i64 B, .int .i64 R, .int .i64 W, .slice none 0 0, .slice none 0 0, .int .i64 0] 128)) (fun k => k = w.heap.size) := by
  refine ⟨.slice none 0 0, .slice none 0 0, [], ⟨?_, Lst.nil _ _ _ _, Lst.nil _ _ _ _, rfl, fun i p v hp hv => by simp at hv, hb, ⟨by simp [Value.ownBlock], by simp [Value.ownBlock]⟩, fun k hk => (by cases hk), fun v hv => by simp at hv⟩, fun k => ?_⟩
  · show (w.heap.push _)[w.heap.size]? = _
    simp
  · constructor
    · intro e; exact .inl e
    · rintro (e | e | e | ⟨v, hv, _⟩)
      · exact e
      · cases e
      · cases e
      · simp at hv

set_option maxHeartbeats 2000000 in
set_option maxRecDepth 20000 in
theorem new_ref (base : Nat) (B R W : Int) (a : Option Addr) (c : Nat) (l : List Int) (w : World) (hb : base ≤ w.heap.size) (hs : Src w a (ints l)) (hr : Rng l) (hl : l.length ≤ 1048576) :
    Calls Tryd.prog 69 #[.agg #[.int .i64 B, .int .i64 R, .int .i64 W], .slice a l.length c] w fun e w' => NewQ base B R W l w e w' := by
  have CTA : ∀ w', Bt (fun _ => False) w w' → Calls Tryd.prog 95 #[.slice a l.length c] w' fun e w'' => e = .returned (.bool (decide (okTaps l))) ∧ w'' = w' := fun w' b => bool_call (taps_ref a c l w' (hs.bt b (fun _ _ _ x => x)) hr (by omega))
  have CPW : ∀ w', Calls Tryd.prog 29 #[.int .i64 B, .int .i64 16, .int .i64 256] w' fun e w'' => e = .returned (.bool (decide (okBlock B))) ∧ w'' = w' := fun w' => bool_call (power_ref B w')
  have CPU : ∀ (w1 : World) (fb : Nat), fb = w1.heap.size → Bt (fun _ => False) w w1 → okConf B R W → Calls Tryd.prog 96 #[.pointer (some ⟨fb, 0, none⟩), .int .i64 0, .slice a l.length c] (w1.alloc (.cells #[.int .i64 B, .int .i64 R, .int .i64 W, .slice none 0 0, .slice none 0 0, .int .i64 0] 128)) fun e w' => e = .returned (.tuple #[]) ∧ Hid (∃ F, RF base fb (FS.fresh B.toNat R.toNat W.toNat l) w' F ∧ (∀ k, F k → w.heap.size ≤ k) ∧ Bt (fun _ => False) w w') := by
    intro w1 fb hfb b1 hc
    subst hfb
    have hc' := hc
    unfold okConf okBlock at hc'
    have e1 : B = (B.toNat : Int) := by omega
    have e2 : R = (R.toNat : Int) := by omega
    have e3 : W = (W.toNat : Int) := by omega
    have hf := fresh_ref w1 base B.toNat R.toNat W.toNat (Nat.le_trans hb b1.size)
    rw [← e1, ← e2, ← e3] at hf
    have b2 : Bt (fun _ => False) w (w1.alloc (.cells #[.int .i64 B, .int .i64 R, .int .i64 W, .slice none 0 0, .slice none 0 0, .int .i64 0] 128)) := b1.alloc _
    refine (put_ref hf a c l 0 (hs.bt b2 (fun _ _ _ x => x)) hl (by simp)).mono ?_
    rintro e w' ⟨rfl, F', q1, q2⟩
    have s1 := b1.size
    refine ⟨rfl, F', q1, fun k hk => ?_, b2.trans q2.bt (fun k hk e => by subst e; omega)⟩
    rcases q2.new k hk with e | e
    · subst e; exact s1
    · have := b2.size; omega
  have HPOST : Hid ((¬ okConf B R W → ∀ w', Bt (fun _ => False) w w' → NewQ base B R W l w (.returned (.tuple #[.pointer none, .int .i64 3])) w') ∧ (okConf B R W → ¬ okTaps l → ∀ w', Bt (fun _ => False) w w' → NewQ base B R W l w (.returned (.tuple #[.pointer none, .int .i64 4])) w') ∧
      (okConf B R W → okTaps l → ∀ fb w', (∃ F, RF base fb (FS.fresh B.toNat R.toNat W.toNat l) w' F ∧ (∀ k, F k → w.heap.size ≤ k) ∧ Bt (fun _ => False) w w') → NewQ base B R W l w (.returned (.tuple #[.pointer (some ⟨fb, 0, none⟩), .int .i64 0])) w')) := by
    unfold NewQ
    refine ⟨fun h w' b => ?_, fun h h2 w' b => ?_, fun h h2 fb w' hf => ?_⟩
    · rw [if_neg h]; exact ⟨rfl, b⟩
    · rw [if_pos h, if_neg h2]; exact ⟨rfl, b⟩
    · rw [if_pos h, if_pos h2]
      obtain ⟨F, q⟩ := hf
      exact ⟨fb, F, rfl, q⟩
  generalize l.length = ll at *
  clear hs hr
  have BA : ∀ o, Bt (fun _ => False) w (w.alloc o) := fun o => (Bt.refl _ _).alloc o
  by_cases hk : okBlock B
  · rw [decide_eq_true hk] at CPW
    have hB : 16 ≤ B ∧ B ≤ 256 := by unfold okBlock at hk; omega
    have HK : Hid (okBlock B) := hk
    clear hk
    by_cases h1 : R < 2 * B
    · have HN : Hid (¬ okConf B R W) := fun q => by unfold okConf at q; omega
      go_enter Tryd.func69, Tryd.ntmps69
      go_wp2_with (go_at_call 29; refine (CPW _).mono ?_; rintro e w' ⟨rfl, hw⟩; subst w')
      go_ret2
      exact HPOST.out.1 HN.out _ (BA _)
    · have p1 : decide (R < 2 * B) = false := decide_eq_false h1
      by_cases h2 : 65536 < R
      · have HN : Hid (¬ okConf B R W) := fun q => by unfold okConf at q; omega
        go_enter Tryd.func69, Tryd.ntmps69
        go_wp2_with (go_at_call 29; refine (CPW _).mono ?_; rintro e w' ⟨rfl, hw⟩; subst w')
        go_ret2
        exact HPOST.out.1 HN.out _ (BA _)
      · have p2 : decide (65536 < R) = false := decide_eq_false h2
        by_cases h3 : W < 1
        · have HN : Hid (¬ okConf B R W) := fun q => by unfold okConf at q; omega
          go_enter Tryd.func69, Tryd.ntmps69
          go_wp2_with (go_at_call 29; refine (CPW _).mono ?_; rintro e w' ⟨rfl, hw⟩; subst w')
          go_ret2
          exact HPOST.out.1 HN.out _ (BA _)
        · have p3 : decide (W < 1) = false := decide_eq_false h3
          by_cases h4 : 64 < W
          · have HN : Hid (¬ okConf B R W) := fun q => by unfold okConf at q; omega
            go_enter Tryd.func69, Tryd.ntmps69
            go_wp2_with (go_at_call 29; refine (CPW _).mono ?_; rintro e w' ⟨rfl, hw⟩; subst w')
            go_ret2
            exact HPOST.out.1 HN.out _ (BA _)
          · have p4 : decide (64 < W) = false := decide_eq_false h4
            have HC : Hid (okConf B R W) := ⟨HK.out, by omega, by omega, by omega, by omega⟩
            by_cases ht : okTaps l
            · rw [decide_eq_true ht] at CTA
              have HT : Hid (okTaps l) := ht
              clear ht
              go_enter Tryd.func69, Tryd.ntmps69
              go_wp2_with (first
                | (go_at_call 29; refine (CPW _).mono ?_; rintro e w' ⟨rfl, hw⟩; subst w')
                | (go_at_call 95; refine (CTA _ (BA _)).mono ?_; rintro e w' ⟨rfl, hw⟩; subst w')
                | (go_at_call 96; refine (CPU (w.alloc (.cells #[.int .i64 B, .int .i64 R, .int .i64 W] 56)) _ (by simp) (BA _) HC.out).mono ?_; rintro e w' ⟨rfl, HF⟩))
              go_ret2
              exact HPOST.out.2.2 HC.out HT.out _ _ HF.out
            · rw [decide_eq_false ht] at CTA
              have HT : Hid (¬ okTaps l) := ht
              clear ht
              go_enter Tryd.func69, Tryd.ntmps69
              go_wp2_with (first
                | (go_at_call 29; refine (CPW _).mono ?_; rintro e w' ⟨rfl, hw⟩; subst w')
                | (go_at_call 95; refine (CTA _ (BA _)).mono ?_; rintro e w' ⟨rfl, hw⟩; subst w'))
              go_ret2
              exact HPOST.out.2.1 HC.out HT.out _ (BA _)
  · rw [decide_eq_false hk] at CPW
    have HN : Hid (¬ okConf B R W) := fun q => hk q.1
    clear hk
    go_enter Tryd.func69, Tryd.ntmps69
    go_wp2_with (go_at_call 29; refine (CPW _).mono ?_; rintro e w' ⟨rfl, hw⟩; subst w')
    go_ret2
    exact HPOST.out.1 HN.out _ (BA _)
end Go.Proofs.YtddpcjgekfmhkaaDoor
