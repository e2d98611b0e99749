/- A ring of string: place, pieces, join, walked. -/
import Derived.Test.YtddpcjgekfmhkaaQa
import Derived.Test.YtddpcjgekfmhkaaProg
namespace Go.Proofs.Ytddpcjgekfmhkaa
open Go.RowKit
set_option linter.unusedSimpArgs false
set_option linter.unusedVariables false

theorem placeS (rb : Nat) (t : TypeId) (room : Int) (sp : Option Addr) (n f c skip : Nat) (w : World) (h : RB w rb t room sp n f c) (hn : n ≤ 281474976710656) (hf : f ≤ n) (hs : skip ≤ n) :
    Calls Try.prog 60 #[.pointer (some ⟨rb, 0, none⟩), .int .i64 skip] w fun e w' => e = .returned (.int .i64 (pos f n skip : Nat)) ∧ ∃ m : Nat, w' = w.drewN m := by
  have c1 := h.c1
  have c2 := h.c2
  clear h
  by_cases hlt : (skip : Int) < (n : Int) - f
  · have e : ((pos f n skip : Nat) : Int) = (f : Int) + skip := by unfold pos; rw [if_pos (by omega)]; omega
    rw [e]; clear e
    go_enter Try.func60, Try.ntmps60
    go_wp2
    go_quiet (fail)
    go_wp2
    go_ret
    exact ⟨by go_num, _, rfl⟩
  · have e : ((pos f n skip : Nat) : Int) = (skip : Int) - ((n : Int) - f) := by unfold pos; rw [if_neg (by omega)]; omega
    rw [e]; clear e
    go_enter Try.func60, Try.ntmps60
    go_wp2
    go_quiet (fail)
    go_wp2
    go_ret
    exact ⟨by go_num, _, rfl⟩

theorem pieces_nilS (rb : Nat) (t : TypeId) (room : Int) (c : Nat) (w : World) (h : RB w rb t room none 0 0 c) :
    Calls Try.prog 58 #[.pointer (some ⟨rb, 0, none⟩), .int .i64 0, .int .i64 0] w fun e w' => e = .returned (.tuple #[.slice none 0 0, .slice none 0 0]) ∧ ∃ m : Nat, w' = w.drewN m := by
  have cp := placeS rb t room none 0 0 c 0 w h (by omega) (by omega) (by omega)
  have ez : pos 0 0 0 = 0 := rfl
  rw [ez] at cp
  have c1 := h.c1
  have c2 := h.c2
  clear h
  go_enter Try.func58, Try.ntmps58
  go_wp2_with (go_at_call 60; refine cp.mono ?_; rintro e w' ⟨rfl, m, hw⟩; subst w')
  go_wp2
  go_quiet (fail)
  go_wp2
  go_ret2
  exact ⟨rfl, _, drewN_add _ _ _⟩

set_option maxRecDepth 20000 in
theorem pieces_someS (rb gb : Nat) (t : TypeId) (room : Int) (n f c skip k s st : Nat) (w : World) (h : RB w rb t room (some ⟨gb, 0, none⟩) n f c) (hn : n ≤ 281474976710656) (hf : f ≤ n) (hs : skip ≤ n) (hk : k ≤ n) (hp : pos f n skip = s) (hs1 : s < n) (hst : st = Nat.min k (n - s)) :
    Calls Try.prog 58 #[.pointer (some ⟨rb, 0, none⟩), .int .i64 skip, .int .i64 k] w fun e w' => e = .returned (.tuple #[.slice (some ⟨gb, s * 1, none⟩) st (n - s), .slice (some ⟨gb, 0, none⟩) (k - st) n]) ∧ ∃ m : Nat, w' = w.drewN m := by
  have cp := placeS rb t room (some ⟨gb, 0, none⟩) n f c skip w h hn hf hs
  rw [hp] at cp
  have c1 := h.c1
  have c2 := h.c2
  have hst' : st = min k (n - s) := hst
  clear h hp hst
  by_cases hlt : k ≤ n - s
  · obtain rfl : st = k := by omega
    have i1 : (st : Int) ≤ (n : Int) - s := by omega
    clear hst'
    go_enter Try.func58, Try.ntmps58
    go_wp2_with (go_at_call 60; refine cp.mono ?_; rintro e w' ⟨rfl, m, hw⟩; subst w')
    go_wp2
    go_quiet (fail)
    go_wp2
    go_ret2
    refine ⟨?_, _, drewN_add _ _ _⟩
    first | rfl | (simp; done) | (simp; omega)
  · obtain rfl : st = n - s := by omega
    have i1 : ¬ (k : Int) ≤ (n : Int) - s := by omega
    clear hst'
    go_enter Try.func58, Try.ntmps58
    go_wp2_with (go_at_call 60; refine cp.mono ?_; rintro e w' ⟨rfl, m, hw⟩; subst w')
    go_wp2
    go_quiet (fail)
    go_wp2
    go_ret2
    refine ⟨?_, _, drewN_add _ _ _⟩
    first | rfl | (simp; done) | (simp; omega)

theorem infoS : (Try.prog.info? 9).map (fun i => (i.zero, i.size, i.bytes)) = some (some (.string .empty), 1, 16) := by kernel_rfl
theorem sizeS : (Try.prog.info? 9).map (·.size) = some 1 := by kernel_rfl
theorem zeroS (w : World) : (zeroValue 9).run Try.prog w = .ok (.string .empty) w := by kernel_rfl
theorem zcellsS : (.string .empty : Value).cells = ([.string .empty] : List Value).toArray := rfl
theorem zelS : El 1 [([.string .empty] : List Value)] := by
  intro e he
  obtain rfl : e = [.string .empty] := by simpa using he
  exact ⟨rfl, by intro v hv; simp at hv; rcases hv with rfl | rfl <;> rfl⟩

theorem joinS (ob N : Nat) (t : TypeId) (hp tp : Option Addr) (st c0 tl c1 : Nat) (O A B : List (List Value)) (w : World) (hO : Rw w ob t O) (eO : El 1 O) (lO : O.length = N) (hA : Src w hp A) (eA : El 1 A) (lA : A.length = st)
    (hB : Src w tp B) (eB : El 1 B) (lB : B.length = tl) (hfit : st + tl ≤ N) (hN : N ≤ 281474976710656) (hnb : ∀ b o, tp = some ⟨b, o, none⟩ → b ≠ ob) :
    Calls Try.prog 59 #[.slice (some ⟨ob, 0, none⟩) N N, .slice hp st c0, .slice tp tl c1] w
      fun e w' => e = .returned (.tuple #[]) ∧ Rw w' ob t (splice (splice O 0 A) st B) ∧ Bt (fun k => k = ob) w w' ∧ w'.heap.size = w.heap.size := by
  obtain ⟨w1, r1, k1, b1, z1⟩ := copy_ex (P := Try.prog) 56 56 3 9 1 Try.underlying56 sizeS (some ⟨ob, 0, none⟩) hp N N st c0 ob 0 O t hO eO A eA (by rw [lA]; exact (Nat.min_eq_left (by omega)).symm) (fun _ => by simp) hA (by omega)
  have l1 : (splice O 0 A).length = N := (length_splice _ _ _ (by omega)).trans lO
  have s1 : Src w1 tp B := hB.bt b1 hnb
  have e1 := eO.spl eA 0
  rw [lA] at r1
  by_cases hlt : st < N
  · obtain ⟨w2, r2, k2, b2, z2⟩ := copy_ex (P := Try.prog) 56 56 3 9 1 Try.underlying56 sizeS (some ⟨ob, st * 1, none⟩) tp (N - st) (N - st) tl c1 ob st _ t k1 e1 B eB (by rw [lB]; exact (Nat.min_eq_left (by omega)).symm) (fun _ => rfl) s1 (by omega)
    rw [lB] at r2
    have HX : Hid (Rw w2 ob t (splice (splice O 0 A) st B) ∧ Bt (fun k => k = ob) w w2 ∧ w2.heap.size = w.heap.size) := ⟨k2, b1.trans b2 (fun _ _ h => h), z2.trans z1⟩
    clear hO eO hA eA hB eB hnb lO lA lB k1 b1 z1 l1 s1 e1 k2 b2 z2
    try simp only [Nat.mul_one] at r2
    go_enter Try.func59, Try.ntmps59
    go_wp2
    go_end0
    exact ⟨rfl, HX.out⟩
  · obtain rfl : st = N := by omega
    obtain rfl : tl = 0 := by omega
    obtain ⟨w2, r2, k2, b2, z2⟩ := copy_ex (P := Try.prog) 56 56 3 9 1 Try.underlying56 sizeS (some ⟨ob, 0, none⟩) tp 0 0 0 c1 ob st _ t k1 e1 B eB (by rw [lB]; rfl) (fun h => by omega) s1 (by omega)
    rw [lB] at r2
    have HX : Hid (Rw w2 ob t (splice (splice O 0 A) st B) ∧ Bt (fun k => k = ob) w w2 ∧ w2.heap.size = w.heap.size) := ⟨k2, b1.trans b2 (fun _ _ h => h), z2.trans z1⟩
    clear hO eO hA eA hB eB hnb lO lA lB k1 b1 z1 l1 s1 e1 k2 b2 z2
    go_enter Try.func59, Try.ntmps59
    go_wp2
    go_end0
    exact ⟨rfl, HX.out⟩

end Go.Proofs.Ytddpcjgekfmhkaa
