/- Texts joined: Om On RingAI RingBI RingCI. -/
import Derived.Test.YtddpcjgekfmhkabDoorM08
import Derived.Test.YtddpcjgekfmhkabDoorM03
import Derived.Test.YtddpcjgekfmhkabDoorM01
import Derived.Test.YtddpcjgekfmhkabDoorProg

/- Overlap and save: the mathematics of a filter by blocks. -/
namespace Go.Proofs.YtddpcjgekfmhkabDoor
set_option linter.unusedVariables false

/-- A product of two rows that goes round. -/
def cc (N : Nat) (x h : Nat → Int) (c : Nat) : Int := sm (fun i => sm (fun j => if (i + j) % N = c then x i * h j else 0) N) N

theorem pw_root_mod {K : Nat} (hK : K ≤ 32) (i k : Nat) : pw (rootk K) (i % 2 ^ K * k) = pw (rootk K) (i * k) := by
  have e : i * k = 2 ^ K * (i / 2 ^ K * k) + i % 2 ^ K * k := by
    conv => lhs; rw [← Nat.div_add_mod i (2 ^ K)]
    rw [Nat.add_mul, Nat.mul_assoc]
  rw [e, pw_add, pw_mul _ (2 ^ K), rootk_pw hK, pw_one_l, Int.one_mul, pw_pw_md]

theorem dft_cc {K : Nat} (hK : K ≤ 32) (x h : Nat → Int) (k : Nat) : dft K (cc (2 ^ K) x h) k = (dft K x k * dft K h k) % PP := by
  have hp : 0 < 2 ^ K := Nat.two_pow_pos K
  unfold dft cc
  rw [md_mul]
  have s1 : ∀ c, sm (fun i => sm (fun j => if (i + j) % 2 ^ K = c then x i * h j else 0) (2 ^ K)) (2 ^ K) * pw (rootk K) (c * k) = sm (fun a => sm (fun b => (if (a + b) % 2 ^ K = c then x a * h b else 0) * pw (rootk K) (c * k)) (2 ^ K)) (2 ^ K) := by
    intro c
    rw [sm_mul_r]
    exact sm_congr _ fun a _ => sm_mul_r _ _ _
  rw [sm_congr _ (fun c _ => s1 c), sm_swap (fun c a => sm (fun b => (if (a + b) % 2 ^ K = c then x a * h b else 0) * pw (rootk K) (c * k)) (2 ^ K)), sm_mul_r]
  refine sm_md _ fun a ha => ?_
  rw [sm_swap (fun c b => (if (a + b) % 2 ^ K = c then x a * h b else 0) * pw (rootk K) (c * k)), sm_mul]
  refine sm_md _ fun b hb => ?_
  rw [sm_one ((a + b) % 2 ^ K) _ _ (Nat.mod_lt _ hp) (fun c _ hne => by rw [if_neg (fun e => hne e.symm), Int.zero_mul]; rfl)]
  rw [if_pos rfl, pw_root_mod hK, Nat.add_mul, pw_add, md_mul_r]
  congr 1; grind

theorem dft_sum {K : Nat} (f : Nat → Nat → Int) (P : Nat) (k : Nat) : dft K (fun c => sm (fun p => f p c) P) k = sm (fun p => dft K (f p) k) P % PP := by
  unfold dft
  rw [sm_congr _ (fun c _ => sm_mul_r _ _ _), sm_swap (fun c p => f p c * pw (rootk K) (c * k))]
  exact sm_md _ fun p _ => (md_md _).symm

/-- What is in the spectrum of a block. -/
def spec (K : Nat) (X H : Nat → Nat → Int) (P : Nat) (k : Nat) : Int := sm (fun p => dft K (X p) k * dft K (H p) k) P % PP

theorem spec_eq {K : Nat} (hK : K ≤ 32) (X H : Nat → Nat → Int) (P k : Nat) : dft K (fun c => sm (fun p => cc (2 ^ K) (X p) (H p) c) P) k = spec K X H P k := by
  rw [dft_sum]
  unfold spec
  refine sm_md _ fun p _ => ?_
  rw [dft_cc hK, md_md]

theorem spec_back {K : Nat} (hK : K ≤ 32) (X H : Nat → Nat → Int) (P : Nat) (g : Nat → Int) (hg : ∀ k, k < 2 ^ K → g k = spec K X H P k) (c : Nat) (hc : c < 2 ^ K) :
    trans K true g c = sm (fun p => cc (2 ^ K) (X p) (H p) c) P % PP := by
  rw [← dft_back hK (fun c => sm (fun p => cc (2 ^ K) (X p) (H p) c) P) c hc]
  have e : idft K (dft K (fun c => sm (fun p => cc (2 ^ K) (X p) (H p) c) P)) c = idft K g c := by
    unfold idft
    rw [sm_congr _ (fun i hi => by rw [spec_eq hK, ← hg i hi])]
  rw [e]
  unfold trans
  rfl

theorem sm_pick (j : Nat) (f : Nat → Int) : ∀ n, j < n → (∀ i, i < n → i ≠ j → f i = 0) → sm f n = f j
  | 0, h, _ => by omega
  | n + 1, h, hz => by
    show sm f n + f n = f j
    by_cases e : j = n
    · subst e
      rw [sm_ext f 0 j (by omega) (fun i _ hi => hz i (by omega) (by omega))]
      show 0 + f j = f j
      omega
    · rw [hz n (by omega) (fun e' => e e'.symm), Int.add_zero]
      exact sm_pick j f n (by omega) (fun i hi hne => hz i (by omega) hne)

theorem sm_split (f : Nat → Int) (m : Nat) : ∀ n, sm f (m + n) = sm f m + sm (fun i => f (m + i)) n
  | 0 => by show sm f m = sm f m + 0; omega
  | n + 1 => by
    show sm f (m + n) + f (m + n) = sm f m + (sm (fun i => f (m + i)) n + f (m + n))
    rw [sm_split f m n]; omega

theorem sm_blocks (g : Nat → Int) (B : Nat) : ∀ P, sm (fun p => sm (fun j => g (p * B + j)) B) P = sm g (P * B)
  | 0 => by rw [Nat.zero_mul]; rfl
  | P + 1 => by
    show sm (fun p => sm (fun j => g (p * B + j)) B) P + sm (fun j => g (P * B + j)) B = _
    rw [sm_blocks g B P, Nat.add_mul, Nat.one_mul, sm_split]

theorem cc_half {B N : Nat} (hN : N = 2 * B) (x h : Nat → Int) (hz : ∀ j, B ≤ j → j < N → h j = 0) (c : Nat) (h0 : B ≤ c) (h1 : c < N) : cc N x h c = sm (fun j => x (c - j) * h j) B := by
  unfold cc
  rw [sm_swap (fun i j => if (i + j) % N = c then x i * h j else 0)]
  rw [sm_ext _ B N (by omega) (fun j hj hj' => by
    rw [sm_ext _ 0 N (by omega) (fun i _ _ => by rw [hz j hj hj', Int.mul_zero]; split <;> rfl)]; rfl)]
  refine sm_congr _ fun j hj => ?_
  rw [sm_pick (c - j) _ N (by omega) (fun i hi hne => by
    rw [if_neg]
    intro e
    by_cases hl : i + j < N
    · rw [Nat.mod_eq_of_lt hl] at e; omega
    · rw [Nat.mod_eq_sub_mod (by omega), Nat.mod_eq_of_lt (by omega)] at e; omega)]
  rw [if_pos (by rw [Nat.sub_add_cancel (by omega), Nat.mod_eq_of_lt h1])]

/-- The two blocks that the p-th piece of the taps meets in block b. -/
def two (B : Nat) (z : Nat → Int) (b p i : Nat) : Int := if B + p * B ≤ b * B + i then z (b * B + i - (B + p * B)) else 0
/-- The p-th piece of the taps. -/
def piece (B : Nat) (h : Nat → Int) (p j : Nat) : Int := if j < B then h (p * B + j) else 0

theorem over_save {B N : Nat} (hN : N = 2 * B) (h z : Nat → Int) (P b c : Nat) (hc : c < B) :
    sm (fun p => cc N (two B z b p) (piece B h p) (B + c)) P = flt (P * B) h z (b * B + c) := by
  unfold flt
  rw [← sm_blocks]
  refine sm_congr _ fun p _ => ?_
  rw [cc_half hN _ _ (fun j hj _ => by unfold piece; rw [if_neg (by omega)]) _ (by omega) (by omega)]
  refine sm_congr _ fun j hj => ?_
  unfold two piece
  rw [if_pos hj]
  generalize p * B = q
  generalize b * B = m
  by_cases e : q + j ≤ m + c
  · rw [if_pos (by omega), if_pos e, Int.mul_comm]
    congr 2; omega
  · rw [if_neg (by omega), if_neg e, Int.zero_mul]

theorem flt_more {L L' : Nat} (h z : Nat → Int) (n : Nat) (hl : L ≤ L') (hz : ∀ k, L ≤ k → k < L' → h k = 0) : flt L' h z n = flt L h z n := by
  unfold flt
  exact sm_ext _ L L' hl fun k h0 h1 => by rw [hz k h0 h1, Int.zero_mul]; split <;> rfl

theorem flt_less (L : Nat) (h z : Nat → Int) (n : Nat) (hl : n + 1 ≤ L) : flt L h z n = sm (fun k => h k * z (n - k)) (n + 1) := by
  unfold flt
  rw [sm_ext _ (n + 1) L hl fun k h0 h1 => by rw [if_neg (by omega)]]
  exact sm_congr _ fun k hk => by rw [if_pos (by omega)]

theorem liftv_62 {v : Int} (h0 : -4611686018427387904 ≤ v) (h1 : v ≤ 4611686018427387904) : liftv (v % PP) = v := by
  unfold liftv
  rw [md_md, PP_eq]
  by_cases h : 0 ≤ v
  · rw [Int.emod_eq_of_lt h (by omega), if_pos (by omega)]
  · have e : v % 18446744069414584321 = v + 18446744069414584321 := by omega
    rw [e, if_neg (by omega)]; omega

end Go.Proofs.YtddpcjgekfmhkabDoor

/- Blocks against windows of taps: the mathematics of the landed filter. -/
namespace Go.Proofs.YtddpcjgekfmhkabDoor
set_option linter.unusedVariables false

theorem dft_md {K : Nat} {x y : Nat → Int} (h : ∀ i, i < 2 ^ K → x i % PP = y i % PP) (j : Nat) : dft K x j = dft K y j := by
  unfold dft
  refine sm_md _ fun i hi => ?_
  rw [← md_mul_l (x i), h i hi, md_mul_l]
theorem cc_comm (N : Nat) (x h : Nat → Int) (c : Nat) : cc N x h c = cc N h x c := by
  unfold cc
  rw [sm_swap (fun i j => if (i + j) % N = c then x i * h j else 0)]
  refine sm_congr _ fun i _ => sm_congr _ fun j _ => ?_
  rw [Nat.add_comm j i, Int.mul_comm]
theorem sm_rev (f : Nat → Int) : ∀ n, sm f n = sm (fun i => f (n - 1 - i)) n
  | 0 => rfl
  | n + 1 => by
    rw [sm_first (fun i => f (n + 1 - 1 - i)) n]
    show sm f n + f n = f (n + 1 - 1 - 0) + _
    rw [sm_rev f n, Int.add_comm]
    congr 1
    exact sm_congr _ fun i hi => by congr 1; omega

/-- Block q of the samples, with as many 0 behind it. -/
def blk (B : Nat) (z : Nat → Int) (q i : Nat) : Int := if i < B then z (q * B + i) else 0
/-- Window j of the taps: it begins a block ahead. -/
def win (B : Nat) (h : Nat → Int) (j i : Nat) : Int := if B ≤ j * B + i then h (j * B + i - B) else 0

theorem win_term {B N : Nat} (hN : N = 2 * B) (h z : Nat → Int) (q j c : Nat) (hc : c < B) :
    cc N (blk B z q) (win B h j) (B + c) = sm (fun p => if p ≤ j * B + c then h (j * B + c - p) * z (q * B + p) else 0) B := by
  rw [cc_comm, cc_half hN _ _ (fun i hi _ => by unfold blk; rw [if_neg (by omega)]) _ (by omega) (by omega)]
  refine sm_congr _ fun p hp => ?_
  unfold blk win
  rw [if_pos hp]
  generalize j * B = m
  by_cases e : p ≤ m + c
  · rw [if_pos (by omega), if_pos e]
    congr 2; omega
  · rw [if_neg (by omega), if_neg e, Int.zero_mul]

theorem win_sum {B N : Nat} (hN : N = 2 * B) (h z : Nat → Int) (L n c J : Nat) (hz : ∀ k, L ≤ k → h k = 0) (hc : c < B) (hJ : J ≤ n + 1) (hL : J = n + 1 ∨ L + B ≤ J * B + 1) :
    sm (fun j => cc N (blk B z (n - j)) (win B h j) (B + c)) J = flt L h z (n * B + c) := by
  rw [sm_congr _ (fun j _ => win_term hN h z (n - j) j c hc)]
  -- windows that reach no block
  have s2 : sm (fun j => sm (fun p => if p ≤ j * B + c then h (j * B + c - p) * z ((n - j) * B + p) else 0) B) (n + 1) = sm (fun j => sm (fun p => if p ≤ j * B + c then h (j * B + c - p) * z ((n - j) * B + p) else 0) B) J := by
    refine sm_ext _ J (n + 1) hJ fun j h0 h1 => ?_
    have h2 : L + B ≤ J * B + 1 := by rcases hL with e | e <;> omega
    have h3 : J * B ≤ j * B := Nat.mul_le_mul_right _ h0
    rw [sm_ext _ 0 B (by omega) fun p _ hp => by
      split
      · rw [hz _ (by omega), Int.zero_mul]
      · rfl]
    rfl
  obtain ⟨g, hg⟩ : ∃ g : Nat → Int, ∀ i, g i = if i ≤ n * B + c then h (n * B + c - i) * z i else 0 := ⟨fun i => _, fun i => rfl⟩
  rw [← s2, sm_rev, sm_congr (g := fun j => sm (fun p => g (j * B + p)) B) _ (fun j hj => by
    refine sm_congr _ fun p hp => ?_
    have e1 : n + 1 - 1 - j = n - j := by omega
    have e2 : n - (n - j) = j := by omega
    have e3 : (n - j) * B = n * B - j * B := Nat.sub_mul _ _ _
    have e4 : j * B ≤ n * B := Nat.mul_le_mul_right _ (by omega)
    rw [e1, e2, e3, hg]
    show (if p ≤ n * B - j * B + c then h (n * B - j * B + c - p) * z (j * B + p) else 0) = if j * B + p ≤ n * B + c then h (n * B + c - (j * B + p)) * z (j * B + p) else 0
    by_cases e : p ≤ n * B - j * B + c
    · rw [if_pos e, if_pos (by omega)]
      congr 2; omega
    · rw [if_neg e, if_neg (by omega)]), sm_blocks]
  have e5 : (n + 1) * B = n * B + B := by rw [Nat.add_mul, Nat.one_mul]
  rw [sm_ext _ (n * B + c + 1) _ (by omega) (fun i h0 _ => by rw [hg, if_neg (by omega)]), sm_rev]
  generalize n * B + c = m at *
  rw [sm_congr (g := fun k => h k * z (m - k)) _ (fun k hk => by
    rw [hg, if_pos (by omega)]
    congr 2; omega)]
  rw [← flt_less (max L (m + 1)) h z m (by omega), flt_more (L := L) h z m (by omega) (fun k h0 _ => hz k h0)]

/-- What comes back of the sum of products: the answers, in its second half. -/
theorem win_back {K B : Nat} (hK : K ≤ 32) (hN : 2 ^ K = 2 * B) (h z : Nat → Int) (L n J : Nat) (hz : ∀ k, L ≤ k → h k = 0) (hJ : J ≤ n + 1) (hL : J = n + 1 ∨ L + B ≤ J * B + 1)
    (g : Nat → Int) (hg : ∀ k, k < 2 ^ K → g k = spec K (fun j => blk B z (n - j)) (win B h) J k) (c : Nat) (hc : c < B) : trans K true g (B + c) = flt L h z (n * B + c) % PP := by
  rw [spec_back hK _ _ J g hg _ (by omega), win_sum hN h z L n c J hz hc hJ hL]
theorem win_lift {K B : Nat} (hK : K ≤ 32) (hN : 2 ^ K = 2 * B) (h z : Nat → Int) (L n J : Nat) (hz : ∀ k, L ≤ k → h k = 0) (hJ : J ≤ n + 1) (hL : J = n + 1 ∨ L + B ≤ J * B + 1) (hn : norm h L ≤ 2147483648) (hs : ∀ i, -2147483648 ≤ z i ∧ z i ≤ 2147483647)
    (g : Nat → Int) (hg : ∀ k, k < 2 ^ K → g k = spec K (fun j => blk B z (n - j)) (win B h) J k) (c : Nat) (hc : c < B) : liftv (trans K true g (B + c)) = flt L h z (n * B + c) := by
  rw [win_back hK hN h z L n J hz hJ hL g hg c hc]
  have := flt_62 (h := h) (z := z) (n := n * B + c) (L := L) hn (fun i _ => hs i)
  exact liftv_62 this.1 this.2
theorem spec_zero {K : Nat} (X H : Nat → Nat → Int) (k : Nat) : spec K X H 0 k = 0 := rfl
theorem spec_succ {K : Nat} (X H : Nat → Nat → Int) (J k : Nat) : spec K X H (J + 1) k = (spec K X H J k + (dft K (X J) k * dft K (H J) k) % PP) % PP := by
  unfold spec
  show (sm _ J + _) % PP = _
  rw [md_add]
end Go.Proofs.YtddpcjgekfmhkabDoor

/- A ring of int: place, pieces, join, walked. -/
namespace Go.Proofs.YtddpcjgekfmhkabDoor
open Go.RowKit
set_option linter.unusedSimpArgs false
set_option linter.unusedVariables false

theorem placeI (rb : Nat) (t : TypeId) (room : Int) (sp : Option Addr) (n f c skip : Nat) (w : World) (h : RB w rb t room sp n f c) (hn : n ≤ 281474976710656) (hf : f ≤ n) (hs : skip ≤ n) :
    Calls Tryd.prog 52 #[.pointer (some ⟨rb, 0, none⟩), .int .i64 skip] w fun e w' => e = .returned (.int .i64 (pos f n skip : Nat)) ∧ ∃ m : Nat, w' = w.drewN m := by
  have c1 := h.c1
  have c2 := h.c2
  clear h
  by_cases hlt : (skip : Int) < (n : Int) - f
  · have e : ((pos f n skip : Nat) : Int) = (f : Int) + skip := by unfold pos; rw [if_pos (by omega)]; omega
    rw [e]; clear e
    go_enter Tryd.func52, Tryd.ntmps52
    go_wp2
    go_quiet (fail)
    go_wp2
    go_ret
    exact ⟨by go_num, _, rfl⟩
  · have e : ((pos f n skip : Nat) : Int) = (skip : Int) - ((n : Int) - f) := by unfold pos; rw [if_neg (by omega)]; omega
    rw [e]; clear e
    go_enter Tryd.func52, Tryd.ntmps52
    go_wp2
    go_quiet (fail)
    go_wp2
    go_ret
    exact ⟨by go_num, _, rfl⟩

theorem pieces_nilI (rb : Nat) (t : TypeId) (room : Int) (c : Nat) (w : World) (h : RB w rb t room none 0 0 c) :
    Calls Tryd.prog 50 #[.pointer (some ⟨rb, 0, none⟩), .int .i64 0, .int .i64 0] w fun e w' => e = .returned (.tuple #[.slice none 0 0, .slice none 0 0]) ∧ ∃ m : Nat, w' = w.drewN m := by
  have cp := placeI rb t room none 0 0 c 0 w h (by omega) (by omega) (by omega)
  have ez : pos 0 0 0 = 0 := rfl
  rw [ez] at cp
  have c1 := h.c1
  have c2 := h.c2
  clear h
  go_enter Tryd.func50, Tryd.ntmps50
  go_wp2_with (go_at_call 52; refine cp.mono ?_; rintro e w' ⟨rfl, m, hw⟩; subst w')
  go_wp2
  go_quiet (fail)
  go_wp2
  go_ret2
  exact ⟨rfl, _, drewN_add _ _ _⟩

set_option maxRecDepth 20000 in
theorem pieces_someI (rb gb : Nat) (t : TypeId) (room : Int) (n f c skip k s st : Nat) (w : World) (h : RB w rb t room (some ⟨gb, 0, none⟩) n f c) (hn : n ≤ 281474976710656) (hf : f ≤ n) (hs : skip ≤ n) (hk : k ≤ n) (hp : pos f n skip = s) (hs1 : s < n) (hst : st = Nat.min k (n - s)) :
    Calls Tryd.prog 50 #[.pointer (some ⟨rb, 0, none⟩), .int .i64 skip, .int .i64 k] w fun e w' => e = .returned (.tuple #[.slice (some ⟨gb, s * 1, none⟩) st (n - s), .slice (some ⟨gb, 0, none⟩) (k - st) n]) ∧ ∃ m : Nat, w' = w.drewN m := by
  have cp := placeI rb t room (some ⟨gb, 0, none⟩) n f c skip w h hn hf hs
  rw [hp] at cp
  have c1 := h.c1
  have c2 := h.c2
  have hst' : st = min k (n - s) := hst
  clear h hp hst
  by_cases hlt : k ≤ n - s
  · obtain rfl : st = k := by omega
    have i1 : (st : Int) ≤ (n : Int) - s := by omega
    clear hst'
    go_enter Tryd.func50, Tryd.ntmps50
    go_wp2_with (go_at_call 52; refine cp.mono ?_; rintro e w' ⟨rfl, m, hw⟩; subst w')
    go_wp2
    go_quiet (fail)
    go_wp2
    go_ret2
    refine ⟨?_, _, drewN_add _ _ _⟩
    first | rfl | (simp; done) | (simp; omega)
  · obtain rfl : st = n - s := by omega
    have i1 : ¬ (k : Int) ≤ (n : Int) - s := by omega
    clear hst'
    go_enter Tryd.func50, Tryd.ntmps50
    go_wp2_with (go_at_call 52; refine cp.mono ?_; rintro e w' ⟨rfl, m, hw⟩; subst w')
    go_wp2
    go_quiet (fail)
    go_wp2
    go_ret2
    refine ⟨?_, _, drewN_add _ _ _⟩
    first | rfl | (simp; done) | (simp; omega)

theorem infoI : (Tryd.prog.info? 3).map (fun i => (i.zero, i.size, i.bytes)) = some (some (.int .i64 0), 1, 8) := by kernel_rfl
theorem sizeI : (Tryd.prog.info? 3).map (·.size) = some 1 := by kernel_rfl
theorem zeroI (w : World) : (zeroValue 3).run Tryd.prog w = .ok (.int .i64 0) w := by kernel_rfl
theorem zcellsI : (.int .i64 0 : Value).cells = ([.int .i64 0] : List Value).toArray := rfl
theorem zelI : El 1 [([.int .i64 0] : List Value)] := by
  intro e he
  obtain rfl : e = [.int .i64 0] := by simpa using he
  exact ⟨rfl, by intro v hv; simp at hv; rcases hv with rfl | rfl <;> rfl⟩

theorem joinI (ob N : Nat) (t : TypeId) (hp tp : Option Addr) (st c0 tl c1 : Nat) (O A B : List (List Value)) (w : World) (hO : Rw w ob t O) (eO : El 1 O) (lO : O.length = N) (hA : Src w hp A) (eA : El 1 A) (lA : A.length = st)
    (hB : Src w tp B) (eB : El 1 B) (lB : B.length = tl) (hfit : st + tl ≤ N) (hN : N ≤ 281474976710656) (hnb : ∀ b o, tp = some ⟨b, o, none⟩ → b ≠ ob) :
    Calls Tryd.prog 51 #[.slice (some ⟨ob, 0, none⟩) N N, .slice hp st c0, .slice tp tl c1] w
      fun e w' => e = .returned (.tuple #[]) ∧ Rw w' ob t (splice (splice O 0 A) st B) ∧ Bt (fun k => k = ob) w w' ∧ w'.heap.size = w.heap.size := by
  obtain ⟨w1, r1, k1, b1, z1⟩ := copy_ex (P := Tryd.prog) 24 24 3 3 1 Tryd.underlying24 sizeI (some ⟨ob, 0, none⟩) hp N N st c0 ob 0 O t hO eO A eA (by rw [lA]; exact (Nat.min_eq_left (by omega)).symm) (fun _ => by simp) hA (by omega)
  have l1 : (splice O 0 A).length = N := (length_splice _ _ _ (by omega)).trans lO
  have s1 : Src w1 tp B := hB.bt b1 hnb
  have e1 := eO.spl eA 0
  rw [lA] at r1
  by_cases hlt : st < N
  · obtain ⟨w2, r2, k2, b2, z2⟩ := copy_ex (P := Tryd.prog) 24 24 3 3 1 Tryd.underlying24 sizeI (some ⟨ob, st * 1, none⟩) tp (N - st) (N - st) tl c1 ob st _ t k1 e1 B eB (by rw [lB]; exact (Nat.min_eq_left (by omega)).symm) (fun _ => rfl) s1 (by omega)
    rw [lB] at r2
    have HX : Hid (Rw w2 ob t (splice (splice O 0 A) st B) ∧ Bt (fun k => k = ob) w w2 ∧ w2.heap.size = w.heap.size) := ⟨k2, b1.trans b2 (fun _ _ h => h), z2.trans z1⟩
    clear hO eO hA eA hB eB hnb lO lA lB k1 b1 z1 l1 s1 e1 k2 b2 z2
    try simp only [Nat.mul_one] at r2
    go_enter Tryd.func51, Tryd.ntmps51
    go_wp2
    go_end0
    exact ⟨rfl, HX.out⟩
  · obtain rfl : st = N := by omega
    obtain rfl : tl = 0 := by omega
    obtain ⟨w2, r2, k2, b2, z2⟩ := copy_ex (P := Tryd.prog) 24 24 3 3 1 Tryd.underlying24 sizeI (some ⟨ob, 0, none⟩) tp 0 0 0 c1 ob st _ t k1 e1 B eB (by rw [lB]; rfl) (fun h => by omega) s1 (by omega)
    rw [lB] at r2
    have HX : Hid (Rw w2 ob t (splice (splice O 0 A) st B) ∧ Bt (fun k => k = ob) w w2 ∧ w2.heap.size = w.heap.size) := ⟨k2, b1.trans b2 (fun _ _ h => h), z2.trans z1⟩
    clear hO eO hA eA hB eB hnb lO lA lB k1 b1 z1 l1 s1 e1 k2 b2 z2
    go_enter Tryd.func51, Tryd.ntmps51
    go_wp2
    go_end0
    exact ⟨rfl, HX.out⟩

end Go.Proofs.YtddpcjgekfmhkabDoor

/- A ring of int: grow, walked. -/
namespace Go.Proofs.YtddpcjgekfmhkabDoor
open Go.RowKit
set_option linter.unusedSimpArgs false
set_option linter.unusedVariables false

theorem piecesI (rb gb : Nat) (t : TypeId) (room : Int) (n f c skip k s st : Nat) (w : World) (h : RB w rb t room (if n = 0 then none else some ⟨gb, 0, none⟩) n f c) (hn : n ≤ 281474976710656) (hf : f < n ∨ (n = 0 ∧ f = 0)) (hs : skip ≤ n) (hk : k ≤ n) (hp : pos f n skip = s) (hst : st = Nat.min k (n - s)) :
    Calls Tryd.prog 50 #[.pointer (some ⟨rb, 0, none⟩), .int .i64 skip, .int .i64 k] w fun e w' => ∃ hp tp c0 c1, e = .returned (.tuple #[.slice hp st c0, .slice tp (k - st) c1]) ∧ (0 < n → hp = some ⟨gb, s * 1, none⟩ ∧ tp = some ⟨gb, 0, none⟩) ∧ (n = 0 → hp = none ∧ tp = none) ∧ ∃ m : Nat, w' = w.drewN m := by
  by_cases h0 : n = 0
  · subst h0
    obtain rfl : f = 0 := by omega
    obtain rfl : skip = 0 := by omega
    obtain rfl : k = 0 := by omega
    obtain rfl : st = 0 := by rw [hst]; exact Nat.min_eq_left (Nat.zero_le _)
    refine (pieces_nilI rb t room c w h).mono ?_
    rintro e w' ⟨rfl, hm⟩
    exact ⟨none, none, 0, 0, rfl, fun h => by omega, fun _ => ⟨rfl, rfl⟩, hm⟩
  · rw [if_neg h0] at h
    have hs1 : s < n := by rw [← hp]; unfold pos; split <;> omega
    refine (pieces_someI rb gb t room n f c skip k s st w h hn (by omega) hs hk hp hs1 hst).mono ?_
    rintro e w' ⟨rfl, hm⟩
    exact ⟨_, _, _, _, rfl, fun _ => ⟨rfl, rfl⟩, fun h => absurd h h0, hm⟩

/-- What the first k things are in the row's two pieces. -/
theorem pieces_srcI {RT : TypeId} {M : Nat} {w : World} {rb gb : Nat} {room : Int} {C : List (List Value)} {f : Nat} {L : List (List Value)} (h : RingAt RT 3 1 M w rb gb room C f L) {k s st : Nat} (hs : pos f C.length 0 = s) (hst : st = Nat.min k (C.length - s)) (hk : k ≤ L.length) {hp tp : Option Addr}
    (h1 : 0 < C.length → hp = some ⟨gb, s * 1, none⟩ ∧ tp = some ⟨gb, 0, none⟩) :
    ∃ A B, A ++ B = L.take k ∧ A.length = st ∧ B.length = k - st ∧ El 1 A ∧ El 1 B ∧ Src w hp A ∧ Src w tp B := by
  have hle := h.circ.le
  have hst' : st = min k (C.length - s) := hst
  have hf := h.circ.first
  have hs' : s = if 0 < C.length - f then f + 0 else 0 - (C.length - f) := hs.symm
  have hpc := h.circ.pieces hk
  rw [hs, ← hst] at hpc
  refine ⟨_, _, hpc, ?_, ?_, (h.elC.drop _).take _, h.elC.take _, ?_, ?_⟩
  · simp; split at hs' <;> omega
  · simp; omega
  · by_cases h0 : 0 < C.length
    · exact (h.row h0).1.src h.elC s st hp (fun _ => (h1 h0).1)
    · intro hx; simp at hx; omega
  · by_cases h0 : 0 < C.length
    · have := (h.row h0).1.src h.elC 0 (k - st) tp (fun _ => by rw [(h1 h0).2]; try simp)
      simpa using this
    · intro hx; simp at hx; omega

/-- Ways of a min and a max. -/
theorem ways (old : Nat) (cnt : Nat) (room : Int) (h1 : old < cnt) (h2 : (cnt : Int) ≤ room) : ∃ (tw N : Nat), ((old : Int) + min (old : Int) (room - old) = (tw : Int)) ∧ (max (cnt : Int) (tw : Int) = (N : Int)) ∧ cnt ≤ N ∧ (N = cnt ∨ N ≤ 2 * old) ∧ (N : Int) ≤ room :=
  ⟨old + min old (room.toNat - old), max cnt (old + min old (room.toNat - old)), by omega, by omega, by omega, by omega, by omega⟩

def MkQI (w w1 : World) (N : Nat) : Prop := Rw w1 w.heap.size 3 (List.replicate N [.int .i64 0]) ∧ Bt (fun _ => False) w w1 ∧ w1.heap.size = w.heap.size + 1
def GrowQI (M : Nat) (w w' : World) (rb gb : Nat) (room : Int) (L : List (List Value)) (cnt : Nat) : Prop :=
  ∃ gb' C f, RingAt 88 3 1 M w' rb gb' room C f L ∧ (C.length = 0 → gb' = rb) ∧ cnt ≤ C.length ∧ (gb' = gb ∨ w.heap.size ≤ gb') ∧ Bt (fun k => k = rb) w w'

set_option maxHeartbeats 1000000 in
set_option maxRecDepth 20000 in
theorem growI (rb gb M : Nat) (room : Int) (L : List (List Value)) (cnt : Nat) (w : World) (h : Ring 88 3 1 M w rb gb room L) (hM : M ≤ 8796093022208) (hc : L.length ≤ cnt) (hcM : cnt ≤ M) (hcr : (cnt : Int) ≤ room) :
    Calls Tryd.prog 79 #[.pointer (some ⟨rb, 0, none⟩), .int .i64 cnt] w fun e w' => e = .returned (.tuple #[]) ∧ GrowQI M w w' rb gb room L cnt := by
  obtain ⟨C, f, h, hgb⟩ := h
  obtain ⟨n, hn⟩ : ∃ n, n = C.length := ⟨_, rfl⟩
  have hblk := h.blk
  rw [← hn] at hblk
  have c0 := hblk.c0
  have c1 := hblk.c1
  have c3 := hblk.c3
  have hroom := h.roomM
  have hn2 : n ≤ 2 * M := by rw [hn]; exact h.small
  by_cases hle : cnt ≤ n
  · have HX : Hid (GrowQI M w w rb gb room L cnt) := ⟨gb, C, f, h, hgb, by omega, .inl rfl, Bt.refl _ _⟩
    generalize (if n = 0 then none else some (⟨gb, 0, none⟩ : Addr)) = sp at *
    clear h hblk hgb hn
    have i1 : (cnt : Int) ≤ (n : Int) := by omega
    go_enter Tryd.func79, Tryd.ntmps79
    go_wp2
    (try simp only [Exit.inBlock, Exit.then])
    refine bodyPost_ret (results_none rfl _ _ _) rfl ?_
    exact ⟨rfl, HX.out⟩
  · obtain ⟨tw, N, e1, e2, n1, n2, n3⟩ := ways n cnt room (by omega) hcr
    obtain ⟨s, hs⟩ : ∃ s, pos f n 0 = s := ⟨_, rfl⟩
    obtain ⟨st, hst⟩ : ∃ st, st = Nat.min L.length (n - s) := ⟨_, rfl⟩
    have hCf := h.circ.first
    have hCl := h.circ.le
    rw [← hn] at hCf hCl
    have hrb : rb < w.heap.size := h.blk.lt
    have hgl : gb < w.heap.size := (Ring.lt ⟨C, f, h, hgb⟩).2
    have CP : ∀ w1, Hid (MkQI w w1 N) → Calls Tryd.prog 50 #[.pointer (some ⟨rb, 0, none⟩), .int .i64 0, .int .i64 L.length] w1 fun e w' => ∃ hp tp d0 d1 m, e = .returned (.tuple #[.slice hp st d0, .slice tp (L.length - st) d1]) ∧ w' = w1.drewN m ∧ Hid (PcQ gb 1 n s hp tp) := by
      intro w1 H1
      obtain ⟨k1, b1, z1⟩ := H1.out
      have hblk1 := (h.bt b1 (fun x => x) (fun x => x)).blk
      rw [← hn] at hblk1
      refine (piecesI rb gb _ room n f L.length 0 L.length s st w1 hblk1 (by omega) hCf (by omega) hCl hs hst).mono ?_
      rintro e w' ⟨hp, tp, d0, d1, rfl, hq1, hq0, m, hw⟩
      exact ⟨hp, tp, d0, d1, m, rfl, hw, hq1, hq0⟩
    have CJ : ∀ w1, Hid (MkQI w w1 N) → ∀ hp tp d0 d1 m, Hid (PcQ gb 1 n s hp tp) → Calls Tryd.prog 51 #[.slice (some ⟨w.heap.size, 0, none⟩) N N, .slice hp st d0, .slice tp (L.length - st) d1] (w1.drewN m)
        fun e w3 => e = .returned (.tuple #[]) ∧ (∃ v, w3.cell? ⟨rb, 1, none⟩ = some v) ∧ w3.frozen? ⟨rb, 1, none⟩ = false ∧ (∃ v, w3.cell? ⟨rb, 2, none⟩ = some v) ∧ w3.frozen? ⟨rb, 2, none⟩ = false ∧ Hid (GrowQI M w ((w3.setCell ⟨rb, 1, none⟩ (.slice (some ⟨w.heap.size, 0, none⟩) N N)).setCell ⟨rb, 2, none⟩ (.int .i64 0)) rb gb room L cnt) := by
      intro w1 H1 hp tp d0 d1 m H2
      obtain ⟨k1, b1, z1⟩ := H1.out
      obtain ⟨q1, q0⟩ := H2.out
      have h1 := h.bt b1 (fun x => x) (fun x => x)
      obtain ⟨A, B, hAB, lA, lB, eA, eB, sA, sB⟩ := pieces_srcI (k := L.length) (s := s) (st := st) (hp := hp) (tp := tp) h1 (by rw [← hn]; exact hs) (by rw [← hn]; exact hst) (Nat.le_refl _) (by rw [← hn]; exact q1)
      have hst' : st = min L.length (n - s) := hst
      refine (joinI w.heap.size N 3 hp tp st d0 (L.length - st) d1 (List.replicate N [.int .i64 0]) A B (w1.drewN m) k1 (zelI.replicate N) (by simp) sA eA lA sB eB lB (by omega) (by omega) ?_).mono ?_
      · intro b o e
        by_cases h0 : 0 < n
        · rw [(q1 h0).2] at e; simp at e; omega
        · rw [(q0 (by omega)).2] at e; cases e
      · rintro e w3 ⟨rfl, k3, b3, z3⟩
        have b03 : Bt (fun k => k = w.heap.size) w w3 := (b1.drewN m |>.mono (fun _ _ h => h.elim)).trans b3 (fun _ _ h => h)
        have r3 : RB w3 rb 88 room (if n = 0 then none else some ⟨gb, 0, none⟩) n f L.length := hblk.bt b03 (by omega)
        refine ⟨rfl, ⟨_, r3.c1⟩, r3.fr 1, ⟨_, r3.c2⟩, r3.fr 2, ?_⟩
        have rr := (r3.set1 (some ⟨w.heap.size, 0, none⟩) N).set2 0
        have hL : A ++ B = L := by rw [hAB]; exact List.take_of_length_le (Nat.le_refl _)
        have hci := Circ.fresh (N := N) ([.int .i64 0] : List Value) hL (by omega) (by omega)
        rw [lA] at hci
        have l1 : (splice (List.replicate N ([.int .i64 0] : List Value)) 0 A).length = N := (length_splice _ _ _ (by simp; omega)).trans (by simp)
        have l2 : (splice (splice (List.replicate N ([.int .i64 0] : List Value)) 0 A) st B).length = N := (length_splice _ _ _ (by omega)).trans l1
        refine ⟨w.heap.size, _, 0, ⟨hci, ((zelI.replicate N).spl eA 0).spl eB st, h.elL, by rw [l2]; omega, ?_, fun _ => ⟨?_, by omega⟩, h.le, h.roomM⟩, fun e => by omega, by omega, .inr (Nat.le_refl _), ?_⟩
        · rw [l2, if_neg (by omega)]; exact rr
        · exact (Rw.bt k3 (((Bt.refl (fun k => k = rb) w3).setCell (fun _ => rfl) _).setCell (fun _ => rfl) _) (by omega))
        · exact ((b03.mono (T := fun k => k = rb) (fun i hi h => by omega)).setCell (fun _ => rfl) _).setCell (fun _ => rfl) _
    have hN2 : N * 8 ≤ 281474976710656 := by omega
    have hbt : ∀ w1, Hid (MkQI w w1 N) → w1.cell? ⟨rb, 0, none⟩ = some (.int .i64 room) ∧ w1.cell? ⟨rb, 3, none⟩ = some (.int .i64 L.length) := by
      intro w1 H1
      obtain ⟨k1, b1, z1⟩ := H1.out
      have r := hblk.bt b1 (fun x => x)
      exact ⟨r.c0, r.c3⟩
    generalize (if n = 0 then none else some (⟨gb, 0, none⟩ : Addr)) = sp at *
    clear h hn hs hst hblk hgb hCf n2
    have i1 : ¬ (cnt : Int) ≤ (n : Int) := by omega
    go_enter Tryd.func79, Tryd.ntmps79
    go_wp2_with (first
      | (at_make; refine wpList_make_el rfl _ _ 24 3 rfl Tryd.underlying24 (.int .i64 0) [.int .i64 0] 1 8 infoI zcellsI rfl N _ rfl rfl (by omega) hN2 (by omega) ?_; intro w1 H1; obtain ⟨d0, d3⟩ := hbt w1 H1)
      | (go_at_call 50; refine (CP w1 H1).mono ?_; rintro e w' ⟨hp, tp, d0, d1, m, rfl, hw, H2⟩; subst w')
      | (go_at_call 51; refine (CJ w1 H1 hp tp d0 d1 m H2).mono ?_; rintro e w3 ⟨rfl, ⟨v1, g1⟩, f1, ⟨v2, g2⟩, f2, HX⟩))
    all_goals go_end0
    all_goals exact ⟨rfl, HX.out⟩

end Go.Proofs.YtddpcjgekfmhkabDoor

/- A ring of int: New, Len, Put, walked. -/
namespace Go.Proofs.YtddpcjgekfmhkabDoor
open Go.RowKit
set_option linter.unusedSimpArgs false
set_option linter.unusedVariables false

theorem newI (M : Nat) (room : Int) (w : World) (h2 : room ≤ 9223372036854775807) :
    Calls Tryd.prog 24 #[.int .i64 room] w fun e w' => e = .returned (.pointer (some ⟨w.heap.size, 0, none⟩)) ∧ Ring 88 3 1 M w' w.heap.size w.heap.size (max room 0) [] ∧ Bt (fun _ => False) w w' ∧ w'.heap.size = w.heap.size + 1 := by
  have HR : ∀ r : Int, 0 ≤ r → r ≤ 9223372036854775807 → Hid (Ring 88 3 1 M (w.alloc (.cells #[.int .i64 r, .slice none 0 0, .int .i64 0, .int .i64 0] 88)) w.heap.size w.heap.size r []) := by
    intro r h0 h1
    refine ⟨[], 0, ⟨⟨Nat.le_refl _, .inr ⟨rfl, rfl⟩, fun i hi => by simp at hi⟩, fun e he => by simp at he, fun e he => by simp at he, Nat.zero_le _, ?_, fun h => by simp at h, h0, h1⟩, fun _ => rfl⟩
    show (w.heap.push _)[w.heap.size]? = _
    simp
  by_cases h0 : 0 ≤ room
  · have e : max room 0 = room := by omega
    rw [e]
    have HX := HR room h0 h2
    clear HR e
    go_enter Tryd.func24, Tryd.ntmps24
    go_wp2
    go_ret
    exact ⟨rfl, HX.out, (Bt.refl _ _).alloc _, by simp⟩
  · have e : max room 0 = 0 := by omega
    rw [e]
    have HX := HR 0 (Int.le_refl _) (by omega)
    clear HR e
    go_enter Tryd.func24, Tryd.ntmps24
    go_wp2
    go_ret
    exact ⟨rfl, HX.out, (Bt.refl _ _).alloc _, by simp⟩

theorem lenI (M rb gb : Nat) (room : Int) (L : List (List Value)) (w : World) (h : Ring 88 3 1 M w rb gb room L) :
    Calls Tryd.prog 31 #[.pointer (some ⟨rb, 0, none⟩)] w fun e w' => e = .returned (.int .i64 L.length) ∧ w' = w := by
  obtain ⟨C, f, h, hgb⟩ := h
  have c3 := h.blk.c3
  clear h hgb
  go_enter Tryd.func31, Tryd.ntmps31
  go_wp2
  go_ret
  exact ⟨rfl, rfl⟩

theorem run_copy_zeroI (w : World) (dp sp : Option Addr) (dLen dCap sLen sCap : Nat) (h0 : Nat.min sLen dLen = 0) :
    (Builtin.copy_ #[24, 24] 3 #[.slice dp dLen dCap, .slice sp sLen sCap]).run Tryd.prog w = .ok (goInt ((0 : Nat))) w := by
  obtain ⟨i, hq, hi⟩ : ∃ i, Tryd.prog.info? 3 = some i ∧ i.size = 1 := by
    have hsz := sizeI
    cases hq : Tryd.prog.info? 3 with
    | none => simp [hq] at hsz
    | some i => exact ⟨i, rfl, by simpa [hq] using hsz⟩
  cases dp <;> cases sp <;> simp [Builtin.copy_, run_underlying Tryd.underlying24, Builtin.lenOf, Builtin.firstCells, sizeOf, typeInfo, hq, h0, loadCells, loadCellsFrom, storeCells]

def PutQI (M : Nat) (w w' : World) (rb gb : Nat) (room : Int) (L : List (List Value)) : Prop :=
  ∃ gb', Ring 88 3 1 M w' rb gb' room L ∧ (gb' = gb ∨ w.heap.size ≤ gb') ∧ Bt (fun k => k = rb ∨ k = gb) w w'

/-- What lies behind grow, in Put. -/
def PgQI (M k : Nat) (w w2 : World) (rb gb gb' : Nat) (room : Int) (C : List (List Value)) (f : Nat) (L : List (List Value)) : Prop :=
  RingAt 88 3 1 M w2 rb gb' room C f L ∧ (C.length = 0 → gb' = rb) ∧ L.length + k ≤ C.length ∧ (gb' = gb ∨ w.heap.size ≤ gb') ∧ Bt (fun k => k = rb) w w2
/-- The list that is put in. -/
def SrQI (w : World) (rb gb b o len : Nat) (X : List (List Value)) : Prop := Src w (some ⟨b, o, none⟩) X ∧ El 1 X ∧ X.length = len ∧ b ≠ rb ∧ b ≠ gb ∧ b < w.heap.size

theorem put_copiesI {M k : Nat} {w w2 : World} {rb gb gb' : Nat} {room : Int} {C : List (List Value)} {f : Nat} {L X : List (List Value)} (H : PgQI M k w w2 rb gb gb' room C f L) {b o len : Nat} (HS : SrQI w rb gb b o len X) (hkl : k ≤ len) (hkr : (L.length : Int) + k ≤ room)
    {s st : Nat} (hs : pos f C.length L.length = s) (hst : st = Nat.min k (C.length - s)) {hp tp : Option Addr} (q : PcQ gb' 1 C.length s hp tp) (m d0 d1 cap cap' : Nat) (lp' : Option Addr) (hlp : st < len → lp' = some ⟨b, o + st * 1, none⟩) :
    ∃ w4 w5, (Builtin.copy_ #[24, 24] 3 #[.slice hp st d0, .slice (some ⟨b, o, none⟩) len cap]).run Tryd.prog (w2.drewN m) = .ok (goInt st) w4 ∧
      (Builtin.copy_ #[24, 24] 3 #[.slice tp (k - st) d1, .slice lp' (len - st) cap']).run Tryd.prog w4 = .ok (goInt ((k - st : Nat))) w5 ∧
      w5.cell? ⟨rb, 3, none⟩ = some (.int .i64 L.length) ∧ w5.frozen? ⟨rb, 3, none⟩ = false ∧ Hid (PutQI M w (w5.setCell ⟨rb, 3, none⟩ (.int .i64 ((L.length : Int) + k))) rb gb room (L ++ X.take k)) := by
  rw [← Int.natCast_add]
  obtain ⟨h, hgb', hfit, hg, bt⟩ := H
  obtain ⟨hX, eX, lX, b1, b2, b3⟩ := HS
  have hst' : st = min k (C.length - s) := hst
  have sX : Src (w2.drewN m) (some ⟨b, o, none⟩) X := hX.bt (bt.drewN m) (by intro b' o' e; simp at e; omega)
  have hCf := h.circ.first
  have hCl := h.circ.le
  have bg : gb' ≠ b := by rcases hg with rfl | hg <;> omega
  have hlen : (X.take k).length = k := by simp; omega
  have e1 : (X.take k).take st = X.take st := by rw [List.take_take]; congr 1; omega
  have l1 : (X.take st).length = st := by simp; omega
  have l2 : ((X.take k).drop st).length = k - st := by simp; omega
  by_cases h0 : C.length = 0
  · obtain rfl : k = 0 := by omega
    obtain rfl : st = 0 := by omega
    obtain ⟨rfl, rfl⟩ := q.2 h0
    have rr := h.blk
    refine ⟨w2.drewN m, w2.drewN m, ?_, ?_, rr.c3, rr.fr 3, gb', ⟨C, f, ?_, hgb'⟩, hg, ?_⟩
    · exact run_copy_zeroI _ _ _ _ _ _ _ (Nat.min_zero _)
    · exact run_copy_zeroI _ _ _ _ _ _ _ (Nat.min_zero _)
    · refine ⟨by simpa using h.circ, h.elC, by simpa using h.elL, h.small, by simpa using (rr.drewN m).set3 (L.length + 0), fun hc => by omega, by simpa using h.le, h.roomM⟩
    · exact ((bt.mono (T := fun k => k = rb ∨ k = gb) (fun _ _ x => .inl x)).drewN m).setCell (fun _ => .inl rfl) _
  · have h1 : 0 < C.length := by omega
    obtain ⟨rfl, rfl⟩ := q.1 h1
    obtain ⟨row, hne⟩ := h.row h1
    have hsl : s < C.length := by rw [← hs]; exact h.circ.pos_lt hCl h1
    obtain ⟨w4, r4, k4, b4, z4⟩ := copy_ex (P := Tryd.prog) (w := w2.drewN m) 24 24 3 3 1 Tryd.underlying24 sizeI (some ⟨gb', s * 1, none⟩) (some ⟨b, o, none⟩) st d0 len cap gb' s C 3 row h.elC (X.take st) (eX.take st) (by rw [l1]; exact (Nat.min_eq_right (by omega)).symm) (fun _ => rfl) (sX.take eX st) (by omega)
    have s4 : Src w4 lp' ((X.take k).drop st) := by
      have t1 : Src w4 (some ⟨b, o, none⟩) X := sX.bt b4 (by intro b' o' e; simp at e; omega)
      exact (t1.take eX k).drop (eX.take k) st (by
        intro hk b' o' e
        simp at e
        obtain ⟨rfl, rfl⟩ := e
        exact hlp (by omega))
    have lc : (splice C s (X.take st)).length = C.length := length_splice _ _ _ (by omega)
    obtain ⟨w5, r5, k5, b5, z5⟩ := copy_ex (P := Tryd.prog) (w := w4) 24 24 3 3 1 Tryd.underlying24 sizeI (some ⟨gb', 0, none⟩) lp' (k - st) d1 (len - st) cap' gb' 0 _ 3 k4 (h.elC.spl (eX.take st) s) ((X.take k).drop st) ((eX.take k).drop st) (by rw [l2]; exact (Nat.min_eq_right (by omega)).symm) (fun _ => by simp) s4 (by omega)
    rw [l1] at r4
    rw [l2] at r5
    have b25 : Bt (fun k => k = gb') w2 w5 := (((Bt.refl _ w2).drewN m).trans b4 (fun _ _ x => x)).trans b5 (fun _ _ x => x)
    have rr := h.blk.bt b25 (fun e => hne e.symm)
    have hci := h.circ.put (X := X.take k) (by omega)
    rw [hs, hlen, ← hst, e1] at hci
    have lcc : (splice (splice C s (X.take st)) 0 ((X.take k).drop st)).length = C.length := (length_splice _ _ _ (by omega)).trans lc
    have bfin : Bt (fun k => k = rb ∨ k = gb') w2 (w5.setCell ⟨rb, 3, none⟩ (.int .i64 ((L.length + k : Nat)))) := (b25.mono (T := fun k => k = rb ∨ k = gb') (fun _ _ x => .inr x)).setCell (fun _ => .inl rfl) _
    refine ⟨w4, w5, r4, r5, rr.c3, rr.fr 3, gb', ⟨_, f, ⟨hci, (h.elC.spl (eX.take st) s).spl ((eX.take k).drop st) 0, h.elL.append (eX.take k), by rw [lcc]; exact h.small, ?_, fun _ => ⟨?_, hne⟩, by simp; omega, h.roomM⟩, fun e => by omega⟩, hg, ?_⟩
    · rw [lcc, List.length_append, hlen]; exact rr.set3 (L.length + k)
    · exact Rw.bt k5 ((Bt.refl (fun k => k = rb) w5).setCell (fun _ => rfl) _) hne
    · exact (bt.mono (T := fun k => k = rb ∨ k = gb) (fun _ _ x => .inl x)).trans bfin (by intro i hi hx; rcases hg with rfl | hg; exact hx; omega)

set_option maxHeartbeats 1000000 in
set_option maxRecDepth 20000 in
theorem putCI (rb gb M : Nat) (room : Int) (L X : List (List Value)) (b o len cap k : Nat) (w : World) (h : Ring 88 3 1 M w rb gb room L) (hM : M ≤ 8796093022208) (hX : Src w (some ⟨b, o, none⟩) X) (eX : El 1 X) (lX : X.length = len) (hlen : len ≤ 281474976710656) (hcap : len ≤ cap)
    (hnb : b ≠ rb ∧ b ≠ gb ∧ b < w.heap.size) (hk : k = min len (room.toNat - L.length)) (hkM : L.length + k ≤ M) :
    Calls Tryd.prog 47 #[.pointer (some ⟨rb, 0, none⟩), .slice (some ⟨b, o, none⟩) len cap] w fun e w' => e = .returned (.int .i64 k) ∧ PutQI M w w' rb gb room (L ++ X.take k) := by
  have hle := h.le
  have hlt := h.lt
  obtain ⟨C, f, h0, hgb⟩ := id h
  have hroom := h0.roomM
  have c0 := h0.blk.c0
  have c3 := h0.blk.c3
  have hkr : (L.length : Int) + k ≤ room := by omega
  have CG : Calls Tryd.prog 79 #[.pointer (some ⟨rb, 0, none⟩), .int .i64 ((L.length : Int) + k)] w.drew fun e w' => e = .returned (.tuple #[]) ∧ ∃ gb' C f, w'.cell? ⟨rb, 3, none⟩ = some (.int .i64 L.length) ∧ Hid (PgQI M k w w' rb gb gb' room C f L) := by
    have hb : Bt (fun _ => False) w w.drew := (Bt.refl _ w).drew
    refine (growI rb gb M room L (L.length + k) w.drew (h.bt hb (fun x => x) (fun x => x)) hM (by omega) hkM (by omega)).mono ?_
    rintro e w' ⟨rfl, gb', C, f, hq, hg, hc, hg2, hbt⟩
    exact ⟨rfl, gb', C, f, hq.blk.c3, hq, hg, hc, hg2, hb.mono (T := fun k => k = rb) (fun _ _ x => x.elim) |>.trans hbt (fun _ _ x => x)⟩
  have CP : ∀ w2 gb' C f, Hid (PgQI M k w w2 rb gb gb' room C f L) → Calls Tryd.prog 50 #[.pointer (some ⟨rb, 0, none⟩), .int .i64 L.length, .int .i64 k] w2 fun e w' => ∃ hp tp d0 d1 m s st, e = .returned (.tuple #[.slice hp st d0, .slice tp (k - st) d1]) ∧ w' = w2.drewN m ∧ st ≤ k ∧ Hid (pos f C.length L.length = s ∧ st = Nat.min k (C.length - s) ∧ PcQ gb' 1 C.length s hp tp) := by
    intro w2 gb' C f H
    obtain ⟨h, hgb', hfit, hg, bt⟩ := H.out
    have hsm := h.small
    refine (piecesI rb gb' _ room C.length f L.length L.length k _ _ w2 h.blk (by omega) h.circ.first h.circ.le (by omega) rfl rfl).mono ?_
    rintro e w' ⟨hp, tp, d0, d1, rfl, hq1, hq0, m, hw⟩
    exact ⟨hp, tp, d0, d1, m, _, _, rfl, hw, Nat.min_le_left _ _, rfl, rfl, hq1, hq0⟩
  have HS : Hid (SrQI w rb gb b o len X) := ⟨hX, eX, lX, hnb⟩
  have hite : (if room - (L.length : Int) < (len : Int) then room - (L.length : Int) else (len : Int)) = (k : Int) := by split <;> omega
  have hkl : k ≤ len := by omega
  clear h h0 hX eX lX hnb hk hgb
  go_enter Tryd.func47, Tryd.ntmps47
  go_wp2
  go_region
  try simp only [hite]
  clear hite c0
  go_wp2_with (first
    | (go_at_call 79; refine CG.mono ?_; rintro e w2 ⟨rfl, gb', C', f', d3, HG⟩)
    | (go_at_call 50; refine (CP w2 gb' C' f' HG).mono ?_; rintro e w' ⟨hp, tp, d0, d1, m, s, st, rfl, hw, hsk, HP⟩; subst w'; obtain ⟨hs, hst, hq⟩ := HP.out; by_cases hsc : st < cap; (obtain ⟨w4, w5, r4, r5, g3, f3, HX⟩ := put_copiesI HG.out HS.out hkl hkr hs hst hq m d0 d1 cap (cap - st) (some ⟨b, o + st * 1, none⟩) (fun _ => rfl); clear hs hst hq HP HG HS CG CP; try simp only [Nat.mul_one] at r5); rotate_left; (obtain rfl : st = cap := by omega); (obtain rfl : len = st := by omega); (obtain rfl : k = len := by omega); (obtain ⟨w4, w5, r4, r5, g3, f3, HX⟩ := put_copiesI HG.out HS.out hkl hkr hs hst hq m d0 d1 k 0 (some ⟨b, o, none⟩) (fun h => by omega)); clear hs hst hq HP HG HS CG CP; simp only [Nat.sub_self] at r5))
  all_goals go_ret
  all_goals exact ⟨rfl, HX.out⟩
theorem putI (rb gb M : Nat) (room : Int) (L X : List (List Value)) (b o len cap k : Nat) (w : World) (h : Ring 88 3 1 M w rb gb room L) (hM : M ≤ 8796093022208) (hX : Src w (some ⟨b, o, none⟩) X) (eX : El 1 X) (lX : X.length = len) (hlen : len ≤ 281474976710656) (hcap : len ≤ cap) (hcap2 : cap ≤ 9223372036854775807)
    (hnb : b ≠ rb ∧ b ≠ gb ∧ b < w.heap.size) (hk : k = min len (room.toNat - L.length)) (hkM : L.length + k ≤ M) :
    Calls Tryd.prog 47 #[.pointer (some ⟨rb, 0, none⟩), .slice (some ⟨b, o, none⟩) len cap] w fun e w' => e = .returned (.int .i64 k) ∧ PutQI M w w' rb gb room (L ++ X.take k) :=
  putCI rb gb M room L X b o len cap k w h hM hX eX lX hlen hcap hnb hk hkM
end Go.Proofs.YtddpcjgekfmhkabDoor
