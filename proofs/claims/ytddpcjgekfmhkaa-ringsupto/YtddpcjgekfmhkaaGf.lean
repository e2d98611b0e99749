/- Rings, walked. -/
import Derived.Test.YtddpcjgekfmhkaaGe
namespace Go.Proofs.Ytddpcjgekfmhkaa
open Go.RowKit Go.Maps
set_option linter.unusedSimpArgs false
set_option linter.unusedVariables false

/-- What the three lines keep. -/
structure G3 (w0 w : World) (x1 x2 : Nat) (F1 F2 : Nat → Prop) (n : Nat) : Prop where
  l1 : ∃ room ln, Line w w0.heap.size x1 F1 n room ln
  l2 : ∃ room ln, Line w w0.heap.size x2 F2 n room ln
  dis : ∀ k, F1 k → ¬ F2 k
  bel : Bt (fun _ => False) w0 w
theorem G3.bt {w0 w w' : World} {x1 x2 n : Nat} {F1 F2 : Nat → Prop} (h : G3 w0 w x1 x2 F1 F2 n) (b : Bt (fun _ => False) w w') : G3 w0 w' x1 x2 F1 F2 n := by
  obtain ⟨⟨r1, m1, h1⟩, ⟨r2, m2, h2⟩, hd, hb⟩ := h
  exact ⟨⟨r1, m1, h1.bt b (fun _ _ x => x)⟩, ⟨r2, m2, h2.bt b (fun _ _ x => x)⟩, hd, hb.trans b (fun _ _ x => x)⟩
theorem G3.one {w0 w w' : World} {x1 x2 n : Nat} {F1 F2 F : Nat → Prop} (h : G3 w0 w x1 x2 F1 F2 n) {room : Int} {ln : Nat} (l : Line w' w0.heap.size x1 F (n + 1) room ln) (hF : ∀ k, F k → F1 k ∨ w.heap.size ≤ k) (b : Bt F1 w w') : G3 w0 w' x1 x2 F F2 (n + 1) := by
  obtain ⟨⟨r1, m1, h1⟩, ⟨r2, m2, h2⟩, hd, hb⟩ := h
  refine ⟨⟨room, ln, l⟩, ⟨r2, m2, (h2.bt b (fun k hk e => hd k e hk)).mono (by omega)⟩, fun k hk e => ?_, hb.trans b (fun k hk e => by have := h1.lt e; omega)⟩
  rcases hF k hk with h | h
  · exact hd k h e
  · have := h2.lt e; omega
theorem G3.two {w0 w w' : World} {x1 x2 n : Nat} {F1 F2 F : Nat → Prop} (h : G3 w0 w x1 x2 F1 F2 n) {room : Int} {ln : Nat} (l : Line w' w0.heap.size x2 F (n + 1) room ln) (hF : ∀ k, F k → F2 k ∨ w.heap.size ≤ k) (b : Bt F2 w w') : G3 w0 w' x1 x2 F1 F (n + 1) := by
  obtain ⟨⟨r1, m1, h1⟩, ⟨r2, m2, h2⟩, hd, hb⟩ := h
  refine ⟨⟨r1, m1, (h1.bt b (fun k hk e => hd k hk e)).mono (by omega)⟩, ⟨room, ln, l⟩, fun k hk e => ?_, hb.trans b (fun k hk e => by have := h2.lt e; omega)⟩
  rcases hF k e with h | h
  · exact hd k hk h
  · have := h1.lt hk; omega
theorem G3.mono {w0 w : World} {x1 x2 n m : Nat} {F1 F2 : Nat → Prop} (h : G3 w0 w x1 x2 F1 F2 n) (hm : n ≤ m) : G3 w0 w x1 x2 F1 F2 m := by
  obtain ⟨⟨r1, m1, h1⟩, ⟨r2, m2, h2⟩, hd, hb⟩ := h
  exact ⟨⟨r1, m1, h1.mono hm⟩, ⟨r2, m2, h2.mono hm⟩, hd, hb⟩

/-- What Len tells of a line's ring, and how long its list is. -/
theorem line_len {w : World} {base xb n : Nat} {F : Nat → Prop} {room : Int} {ln : Nat} (h : Line w base xb F n room ln) :
    ∃ rb al cl, w.cell? ⟨xb, 0, none⟩ = some (.pointer (some ⟨rb, 0, none⟩)) ∧ w.cell? ⟨xb, 2, none⟩ = some (.slice al ln cl) ∧ ∀ w', Bt (fun _ => False) w w' → Calls Try.prog 31 #[.pointer (some ⟨rb, 0, none⟩)] w' fun e w'' => e = .returned (.int .i64 ln) ∧ w'' = w' := by
  obtain ⟨rb, gb, vl, vo, L, r, rows, h1, h2, h3, h4, rfl⟩ := h
  obtain ⟨al, cl, rfl, _, _⟩ := h1.lst.form
  exact ⟨rb, al, cl, h1.blk.c0, h1.blk.c2, fun w' b => lenT 1099511627776 rb gb room L w' (h1.ring.bt b (fun x => x) (fun x => x))⟩

theorem G3.far {w0 w w' : World} {x1 x2 n : Nat} {F1 F2 S : Nat → Prop} (h : G3 w0 w x1 x2 F1 F2 n) (b : Bt S w w') (h1 : ∀ k, F1 k → ¬ S k) (h2 : ∀ k, F2 k → ¬ S k) (h3 : ∀ k, S k → w0.heap.size ≤ k) : G3 w0 w' x1 x2 F1 F2 n := by
  obtain ⟨⟨r1, m1, q1⟩, ⟨r2, m2, q2⟩, hd, hb⟩ := h
  exact ⟨⟨r1, m1, q1.bt b h1⟩, ⟨r2, m2, q2.bt b h2⟩, hd, hb.trans b (fun k hk e => by have := h3 k e; omega)⟩

def G3x (w0 w : World) (x1 x2 n : Nat) : Prop := ∃ F1 F2, G3 w0 w x1 x2 F1 F2 n
theorem G3x.bt {w0 w w' : World} {x1 x2 n : Nat} (h : G3x w0 w x1 x2 n) (b : Bt (fun _ => False) w w') : G3x w0 w' x1 x2 n := by
  obtain ⟨F1, F2, h⟩ := h; exact ⟨F1, F2, h.bt b⟩
theorem G3x.mono {w0 w : World} {x1 x2 n m : Nat} (h : G3x w0 w x1 x2 n) (hm : n ≤ m) : G3x w0 w x1 x2 m := by
  obtain ⟨F1, F2, h⟩ := h; exact ⟨F1, F2, h.mono hm⟩
theorem g3_put {w0 w1 w : World} {x1 x2 n : Nat} (h : G3x w0 w1 x1 x2 n) (hn : n ≤ 2097151) {v : Value} {len : Nat} (t : TgQ w1 w v len) (hlen : len ≤ 300) (x : Nat) (hx : x = x1 ∨ x = x2) :
    Calls Try.prog 29 #[.pointer (some ⟨x, 0, none⟩), v] w fun e w' => e = .returned (.bool true) ∧ Hid (G3x w0 w' x1 x2 (n + 1)) := by
  obtain ⟨F1, F2, h⟩ := h
  obtain ⟨X, tl, rfl, tt, tb⟩ := t
  have h' := h.bt tb
  obtain ⟨⟨r1, m1, q1⟩, ⟨r2, m2, q2⟩, hd, hb⟩ := id h
  obtain ⟨a, c, rfl, hc, hs⟩ := tl.form
  have hnil : a = none → X.length = 0 ∧ c = 0 := by
    intro ha
    subst ha
    rcases tl.2 with ⟨e, rfl⟩ | ⟨g, off, cap, C, e, _⟩
    · simp only [Value.slice.injEq] at e
      exact ⟨rfl, e.2.2⟩
    · cases e
  rcases hx with rfl | rfl
  · obtain ⟨r1', m1', q1'⟩ := h'.l1
    refine (put_line w0.heap.size x n F1 a X.length c X r1' m1' w q1' hn hs tt rfl hlen hc hnil (fun k hk => ⟨fun e => by have := tl.ge hk; have := q1.lt e; omega, (tl.ge hk).2⟩)).mono ?_
    rintro e w' ⟨rfl, F', l', hF, b'⟩
    exact ⟨rfl, F', F2, h'.one l' hF b'⟩
  · obtain ⟨r2', m2', q2'⟩ := h'.l2
    refine (put_line w0.heap.size x n F2 a X.length c X r2' m2' w q2' hn hs tt rfl hlen hc hnil (fun k hk => ⟨fun e => by have := tl.ge hk; have := q2.lt e; omega, (tl.ge hk).2⟩)).mono ?_
    rintro e w' ⟨rfl, F', l', hF, b'⟩
    exact ⟨rfl, F1, F', h'.two l' hF b'⟩
theorem g3_take {w0 w : World} {x1 x2 n : Nat} (h : G3x w0 w x1 x2 n) (hn : n ≤ 2097151) (v : Int) (h1 : -9223372036854775808 ≤ v) (h2 : v ≤ 9223372036854775807) (x : Nat) (hx : x = x1 ∨ x = x2) :
    Calls Try.prog 30 #[.pointer (some ⟨x, 0, none⟩), .int .i64 v] w fun e w' => e = .returned (.bool true) ∧ Hid (G3x w0 w' x1 x2 (n + 1)) := by
  obtain ⟨F1, F2, h⟩ := h
  obtain ⟨⟨r1, m1, q1⟩, ⟨r2, m2, q2⟩, hd, hb⟩ := id h
  rcases hx with rfl | rfl
  · refine (take_line w0.heap.size x n F1 v r1 m1 w q1 hn h1 h2).mono ?_
    rintro e w' ⟨rfl, F', l', hF, b'⟩
    exact ⟨rfl, F', F2, h.one l' hF b'⟩
  · refine (take_line w0.heap.size x n F2 v r2 m2 w q2 hn h1 h2).mono ?_
    rintro e w' ⟨rfl, F', l', hF, b'⟩
    exact ⟨rfl, F1, F', h.two l' hF b'⟩
theorem g3_whole {w0 w : World} {x1 x2 n : Nat} (h : G3x w0 w x1 x2 n) (hn : n ≤ 4194304) (x : Nat) (hx : x = x1 ∨ x = x2) :
    Calls Try.prog 33 #[.pointer (some ⟨x, 0, none⟩)] w fun e w' => e = .returned (.bool true) ∧ w' = w := by
  obtain ⟨F1, F2, h⟩ := h
  obtain ⟨⟨r1, m1, q1⟩, ⟨r2, m2, q2⟩, hd, hb⟩ := h
  rcases hx with rfl | rfl
  · exact whole_line _ x n F1 r1 m1 w q1 hn
  · exact whole_line _ x n F2 r2 m2 w q2 hn
theorem g3_len {w0 w : World} {x1 x2 n : Nat} (h : G3x w0 w x1 x2 n) (x : Nat) (hx : x = x1 ∨ x = x2) :
    ∃ rb ln al cl, w.cell? ⟨x, 0, none⟩ = some (.pointer (some ⟨rb, 0, none⟩)) ∧ w.cell? ⟨x, 2, none⟩ = some (.slice al ln cl) ∧ ∀ w', Bt (fun _ => False) w w' → Calls Try.prog 31 #[.pointer (some ⟨rb, 0, none⟩)] w' fun e w'' => e = .returned (.int .i64 ln) ∧ w'' = w' := by
  obtain ⟨F1, F2, h⟩ := h
  obtain ⟨⟨r1, m1, q1⟩, ⟨r2, m2, q2⟩, hd, hb⟩ := h
  rcases hx with rfl | rfl
  · obtain ⟨rb, al, cl, h1, h2, h3⟩ := line_len q1; exact ⟨rb, m1, al, cl, h1, h2, h3⟩
  · obtain ⟨rb, al, cl, h1, h2, h3⟩ := line_len q2; exact ⟨rb, m2, al, cl, h1, h2, h3⟩

def X4 : List (List Value) := [[.int .i64 1, .string .empty], [.int .i64 2, .string .empty], [.int .i64 3, .string .empty], [.int .i64 4, .string .empty]]
theorem X4_thg : Thg X4 := by
  intro e he
  simp [X4] at he
  rcases he with rfl | rfl | rfl | rfl <;> exact ⟨_, _, rfl⟩

/-- The deeds of a script. -/
def DArr (w : World) (sb so len : Nat) (W K N U : Nat → Int) (T : Nat → ByteArray) : Prop := ∀ i, i < len → w.cell? ⟨sb, so + i * 5, none⟩ = some (.int .i64 (W i)) ∧ w.cell? ⟨sb, so + i * 5 + 1, none⟩ = some (.int .i64 (K i)) ∧ w.cell? ⟨sb, so + i * 5 + 2, none⟩ = some (.int .i64 (N i)) ∧ w.cell? ⟨sb, so + i * 5 + 3, none⟩ = some (.int .i64 (U i)) ∧ w.cell? ⟨sb, so + i * 5 + 4, none⟩ = some (.string (T i)) ∧ -9223372036854775808 ≤ N i ∧ N i ≤ 9223372036854775807

/-- The three lines, and the first one filled. -/
theorem g3_start (w w1 w2 w3 : World) (r1 r2 : Int) (H1 : Line w1 w.heap.size (w.heap.size + 1) (fun k => k = w.heap.size + 1 ∨ k = w.heap.size) 0 r1 0 ∧ Bt (fun _ => False) w w1 ∧ w1.heap.size = w.heap.size + 2)
    (H2 : Line w2 w.heap.size (w1.heap.size + 1) (fun k => k = w1.heap.size + 1 ∨ k = w1.heap.size) 0 r2 0 ∧ Bt (fun _ => False) w1 w2 ∧ w2.heap.size = w1.heap.size + 2)
    (H3 : Line w3 w.heap.size (w2.heap.size + 1) (fun k => k = w2.heap.size + 1 ∨ k = w2.heap.size) 0 3 0 ∧ Bt (fun _ => False) w2 w3 ∧ w3.heap.size = w2.heap.size + 2) (t : TypeId) :
    Calls Try.prog 29 #[.pointer (some ⟨w2.heap.size + 1, 0, none⟩), .slice (some ⟨w3.heap.size, 0, none⟩) 4 4] (w3.alloc (.cells #[.int .i64 1, .string .empty, .int .i64 2, .string .empty, .int .i64 3, .string .empty, .int .i64 4, .string .empty] t))
      fun e w4 => e = .returned (.bool true) ∧ Hid (Calls Try.prog 30 #[.pointer (some ⟨w2.heap.size + 1, 0, none⟩), .int .i64 2] w4 fun e w5 => e = .returned (.bool true) ∧ (∃ rb, w5.cell? ⟨w2.heap.size + 1, 0, none⟩ = some (.pointer (some ⟨rb, 0, none⟩)) ∧ Hid (Calls Try.prog 31 #[.pointer (some ⟨rb, 0, none⟩)] w5 fun e w'' => e = .returned (.int .i64 1) ∧ w'' = w5)) ∧ Hid (G3x w w5 (w.heap.size + 1) (w1.heap.size + 1) 0)) := by
  obtain ⟨l1, b1, z1⟩ := H1
  obtain ⟨l2, b2, z2⟩ := H2
  obtain ⟨l3, b3, z3⟩ := H3
  have ba : Bt (fun _ => False) w3 (w3.alloc (.cells #[.int .i64 1, .string .empty, .int .i64 2, .string .empty, .int .i64 3, .string .empty, .int .i64 4, .string .empty] t)) := (Bt.refl _ _).alloc _
  have hrow : Rw (w3.alloc (.cells #[.int .i64 1, .string .empty, .int .i64 2, .string .empty, .int .i64 3, .string .empty, .int .i64 4, .string .empty] t)) w3.heap.size t X4 := by
    show (w3.heap.push _)[w3.heap.size]? = _
    simp [X4]
  have hsrc := hrow.src X4_thg.el 0 4 (some ⟨w3.heap.size, 0, none⟩) (fun _ => by simp)
  have g0 : G3 w (w3.alloc (.cells #[.int .i64 1, .string .empty, .int .i64 2, .string .empty, .int .i64 3, .string .empty, .int .i64 4, .string .empty] t)) (w.heap.size + 1) (w1.heap.size + 1) (fun k => k = w.heap.size + 1 ∨ k = w.heap.size) (fun k => k = w1.heap.size + 1 ∨ k = w1.heap.size) 0 :=
    ⟨⟨r1, 0, ((l1.bt b2 (fun _ _ x => x)).bt b3 (fun _ _ x => x)).bt ba (fun _ _ x => x)⟩, ⟨r2, 0, (l2.bt b3 (fun _ _ x => x)).bt ba (fun _ _ x => x)⟩, fun k hk e => by omega, ((b1.trans b2 (fun _ _ x => x)).trans b3 (fun _ _ x => x)).trans ba (fun _ _ x => x)⟩
  refine (put_line w.heap.size (w2.heap.size + 1) 0 _ (some ⟨w3.heap.size, 0, none⟩) 4 4 X4 3 0 _ (l3.bt ba (fun _ _ x => x)) (by omega) (by simpa [X4] using hsrc) X4_thg rfl (by omega) (by omega) (fun h => by cases h) (fun k hk => ?_)).mono ?_
  · have : w3.heap.size = k := Option.some.inj hk
    refine ⟨by omega, by simp; omega⟩
  rintro e w4 ⟨rfl, F', l4, hF4, b4⟩
  have z4 := b4.size
  simp at z4
  have g4 : G3 w w4 _ _ _ _ 0 := g0.far b4 (fun k hk e => by omega) (fun k hk e => by omega) (fun k e => by omega)
  refine ⟨rfl, (take_line w.heap.size (w2.heap.size + 1) 1 F' 2 3 3 w4 l4 (by omega) (by omega) (by omega)).mono ?_⟩
  rintro e w5 ⟨rfl, F'', l5, hF5, b5⟩
  have hd : ∀ k, F' k → k = w2.heap.size + 1 ∨ k = w2.heap.size ∨ w3.heap.size + 1 ≤ k := fun k hk => by
    rcases hF4 k hk with (h | h) | h
    · exact .inl h
    · exact .inr (.inl h)
    · simp at h; omega
  have g5 : G3 w w5 _ _ _ _ 0 := g4.far b5 (fun k hk e => by have := hd k e; omega) (fun k hk e => by have := hd k e; omega) (fun k e => by have := hd k e; omega)
  obtain ⟨rb, al, cl, q1, q2, q3⟩ := line_len l5
  exact ⟨rfl, ⟨rb, q1, q3 w5 (Bt.refl _ _)⟩, _, _, g5⟩

end Go.Proofs.Ytddpcjgekfmhkaa
