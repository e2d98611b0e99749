/- A law's line: a ring, what must be in it, what came out; things; newLine; whole. -/
import Derived.Test.YtddpcjgekfmhkaaRingDT
import Derived.Test.YtddpcjgekfmhkaaGa
namespace Go.Proofs.Ytddpcjgekfmhkaa
open Go.RowKit
set_option linter.unusedSimpArgs false
set_option linter.unusedVariables false

theorem pick_law (c n : Int) (w : World) (h1 : -9223372036854775808 ≤ c) (h2 : c ≤ 9223372036854775807) (h3 : 0 < n) (h4 : n ≤ 1000) :
    Calls Try.prog 54 #[.int .i64 c, .int .i64 n] w fun e w' => e = .returned (.int .i64 (pickv c n)) ∧ w' = w := by
  have hr := pickv_range c n h3
  have hn0 : ¬ n = 0 := by omega
  by_cases hc : c < 0
  · have e1 : Hid (pickv c n = Int.tmod (-(c + 1)) n) := by show pickv c n = _; unfold pickv; rw [if_pos hc, Int.tmod_eq_emod_of_nonneg (by omega)]
    have e2 : Hid (pickv c n = (-(c + 1)) % n) := by show pickv c n = _; unfold pickv; rw [if_pos hc]
    rw [e1.out] at hr
    go_enter Try.func54, Try.ntmps54
    go_wp2
    go_ret
    exact ⟨by first | (rw [e1.out]; rfl) | (rw [e1.out, Int.neg_tmod]; rfl) | (rw [e2.out]; rfl), rfl⟩
  · have e1 : Hid (pickv c n = Int.tmod c n) := by show pickv c n = _; unfold pickv; rw [if_neg hc, Int.tmod_eq_emod_of_nonneg (by omega)]
    have e2 : Hid (pickv c n = c % n) := by show pickv c n = _; unfold pickv; rw [if_neg hc]
    rw [e1.out] at hr
    go_enter Try.func54, Try.ntmps54
    go_wp2
    go_ret
    exact ⟨by first | (rw [e1.out]; rfl) | (rw [e2.out]; rfl), rfl⟩

/-- Things: a number and a text each. -/
def Thg (C : List (List Value)) : Prop := ∀ e ∈ C, ∃ (n : Int) (s : ByteArray), e = [.int .i64 n, .string s]
theorem Thg.el {C : List (List Value)} (h : Thg C) : El 2 C := by
  intro e he
  obtain ⟨n, s, rfl⟩ := h e he
  exact ⟨rfl, by intro v hv; simp at hv; rcases hv with rfl | rfl <;> rfl⟩
theorem Thg.append {C D : List (List Value)} (h : Thg C) (k : Thg D) : Thg (C ++ D) := fun e he => (List.mem_append.1 he).elim (h e) (k e)
theorem Thg.take {C : List (List Value)} (h : Thg C) (k : Nat) : Thg (C.take k) := fun e he => h e (List.mem_of_mem_take he)
theorem Thg.drop {C : List (List Value)} (h : Thg C) (k : Nat) : Thg (C.drop k) := fun e he => h e (List.mem_of_mem_drop he)
theorem Thg.flat : ∀ {C : List (List Value)}, Thg C → ∀ {i : Nat}, i < C.length → ∃ (n : Int) (s : ByteArray), C.flatten[i * 2]? = some (.int .i64 n) ∧ C.flatten[i * 2 + 1]? = some (.string s)
  | [], _, i, hi => by simp at hi
  | e :: C, h, 0, _ => by obtain ⟨n, s, rfl⟩ := h e (by simp); exact ⟨n, s, by simp, by simp⟩
  | e :: C, h, i + 1, hi => by
    obtain ⟨n, s, rfl⟩ := h e (by simp)
    obtain ⟨n', s', h1, h2⟩ := Thg.flat (C := C) (fun x hx => h x (by simp [hx])) (i := i) (by simpa using hi)
    refine ⟨n', s', ?_, ?_⟩
    · rw [List.flatten_cons, List.getElem?_append_right (by simp; omega)]
      rw [← h1]; congr 1; simp; omega
    · rw [List.flatten_cons, List.getElem?_append_right (by simp; omega)]
      rw [← h2]; congr 1; simp; omega

theorem src_thing (w : World) (n : Int) (s : ByteArray) (t : TypeId) : Src (w.alloc (.cells #[.int .i64 n, .string s] t)) (some ⟨w.heap.size, 0, none⟩) [[.int .i64 n, .string s]] := by
  intro _
  refine ⟨_, _, rfl, fun j u hj => ?_⟩
  rw [World.cell?_alloc_at _ _ _ _ rfl]
  simpa using hj

/-- The things that are made. -/
def TgQ (w w' : World) (v : Value) (n : Nat) : Prop := ∃ X, Lst w' w.heap.size 44 2 v X ∧ X.length = n ∧ Thg X ∧ Bt (fun _ => False) w w'
theorem TgQ.bt {w w1 w2 : World} {v : Value} {n : Nat} (h : TgQ w w1 v n) (k : Bt (fun _ => False) w1 w2) : TgQ w w2 v n := by
  obtain ⟨X, h1, h2, h3, h4⟩ := h
  exact ⟨X, h1.bt k (fun _ _ x => x), h2, h3, h4.trans k (fun _ _ x => x)⟩

set_option maxHeartbeats 1000000 in
set_option maxRecDepth 20000 in
theorem things_any (c1 c2 N u : Int) (s : ByteArray) (w : World) (h1 : -9223372036854775808 ≤ N) (h2 : N ≤ 9223372036854775807) :
    Calls Try.prog 32 #[.agg #[.int .i64 c1, .int .i64 c2, .int .i64 N, .int .i64 u, .string s]] w fun e w' => ∃ v n, e = .returned v ∧ n ≤ 300 ∧ TgQ w w' v n := by
  obtain ⟨p, hp⟩ : ∃ p : Nat, pickv N 301 = p := ⟨(pickv N 301).toNat, by have := (pickv_range N 301 (by omega)).1; omega⟩
  have hp5 : p < 301 := by have := (pickv_range N 301 (by omega)).2; omega
  have CK := fun w => pick_law N 301 w h1 h2 (by omega) (by omega)
  simp only [hp] at CK
  clear hp h1 h2
  go_enter Try.func32, Try.ntmps32
  go_wp2
  obtain ⟨w1, hw1⟩ : ∃ w1, w1 = w.alloc (.cells #[.int .i64 c1, .int .i64 c2, .int .i64 N, .int .i64 u, .string s] 52) := ⟨_, rfl⟩
  have H1 : Hid (w1.cell? ⟨w.heap.size, 2, none⟩ = some (.int .i64 N) ∧ w1.cell? ⟨w.heap.size, 3, none⟩ = some (.int .i64 u) ∧ w1.cell? ⟨w.heap.size, 4, none⟩ = some (.string s) ∧ Bt (fun _ => False) w w1) := by
    rw [hw1]
    refine ⟨?_, ?_, ?_, (Bt.refl _ _).alloc _⟩ <;> (rw [World.cell?_alloc_at _ _ _ _ rfl]; rfl)
  rw [← hw1]
  clear hw1
  go_loopw [3, 4] (fun tv ti wr => ∃ (i : Nat) (vx : Value), vx = tv ∧ i ≤ p ∧ ti = .int .i64 i ∧ Hid (TgQ w1 wr vx i)) (fun _ ti _ => p - (intOf ti).toNat)
  case atStart => exact ⟨0, _, rfl, Nat.zero_le _, rfl, [], Lst.nil _ _ _ _, rfl, fun e he => by simp at he, Bt.refl _ _⟩
  case round =>
    obtain ⟨i, vx, e3, hi, rfl, HR⟩ := hrel
    subst e3
    obtain ⟨X, hL, hXl, hT, hB⟩ := HR.out
    have d2 := hB.cell (fun x => x) H1.out.1
    have d3 := hB.cell (fun x => x) H1.out.2.1
    have d4 := hB.cell (fun x => x) H1.out.2.2.1
    have HX : Hid (Lst wr w1.heap.size 44 2 vx X ∧ X.length = i ∧ Thg X ∧ Bt (fun _ => False) w1 wr) := ⟨hL, hXl, hT, hB⟩
    clear hL hXl hT hB HR
    by_cases hlt : i < p
    · have i1 : (i : Int) < (p : Int) := by omega
      obtain ⟨m, hm⟩ : ∃ m, IntKind.i64.wrap (u + (i : Int)) = m := ⟨_, rfl⟩
      have HM : Hid (IntKind.i64.wrap (u + (i : Int)) = m) := hm
      clear hm
      go_wp2_with (first
        | (go_at_call 54; refine (CK _).mono ?_; rintro e w' ⟨rfl, hw⟩; subst w')
        | (at_builtin; refine wpList_append_lst rfl _ _ 45 rfl w1.heap.size 44 (.agg #[.int .i64 0, .string .empty]) [.int .i64 0, .string .empty] 2 24 Try.underlying45 infoT zcellsT zelT (by decide) vx X rfl (HX.out.1.bt ((Bt.refl (fun _ => False) wr).alloc _) (fun _ _ x => x)) (some ⟨wr.heap.size, 0, none⟩) 1 1 [[.int .i64 _, .string s]] rfl rfl (Thg.el (fun e he => ⟨_, s, by simpa using he⟩)) (src_thing wr _ s _) (by rw [HX.out.2.1]; omega) (by decide) (Nat.le_trans HX.out.2.2.2.size ((Bt.refl (fun _ => False) wr).alloc _).size) ?_; intro v8 w8 H8))
      go_roundw
      case rel =>
        refine ⟨i + 1, v8, rfl, by omega, by go_num, _, H8.out.1, by rw [List.length_append, HX.out.2.1]; rfl, HX.out.2.2.1.append (fun e he => ⟨_, s, by simpa using he⟩), ?_⟩
        exact (HX.out.2.2.2.trans ((Bt.refl (fun _ => False) wr).alloc _) (fun _ _ x => x)).trans H8.out.2.1 (fun k hk e => by have := HX.out.1.ge e; omega)
      case measure => simp [intOf]; omega
    · obtain rfl : p = i := by omega
      go_wp2_with (first | (go_at_call 54; refine (CK _).mono ?_; rintro e w' ⟨rfl, hw⟩; subst w'))
      go_ret
      have hs := H1.out.2.2.2.size
      exact ⟨_, p, rfl, by omega, X, HX.out.1.mono hs, HX.out.2.1, HX.out.2.2.1, H1.out.2.2.2.trans HX.out.2.2.2 (fun _ _ x => x)⟩

end Go.Proofs.Ytddpcjgekfmhkaa
