/- Texts joined: Pa Pb Pc Pd Pe Pf Pi Pk Pj Zr. -/
import Derived.Test.YtddpcjgekfmhkabDoorM17
import Derived.Test.YtddpcjgekfmhkabDoorM23
import Derived.Deep.RegionHeld3
import Derived.Test.YtddpcjgekfmhkabDoorM24
import Derived.Test.YtddpcjgekfmhkabDoorCards
import Derived.Test.YtddpcjgekfmhkabDoorTie
import Derived.Lib.LaidTab
import Derived.Deep.DeepHandedRow
import Derived.ProofKit
import Derived.OpenShut
import Derived.ChangeOld
import Derived.Below
import Derived.Test.YtddpcjgekfmhkabDoorM21

/- The laws without the document's answer: pick, fit, small. -/
namespace Go.Proofs.YtddpcjgekfmhkabDoor
open Go.RowKit
set_option linter.unusedSimpArgs false
set_option linter.unusedVariables false

theorem pick_keep (c n : Int) (w : World) (h1 : -9223372036854775808 ≤ c) (h2 : c ≤ 9223372036854775807) (h3 : 0 < n) (h4 : n ≤ 4294967296) :
    Calls Tryd.prog 11 #[.int .i64 c, .int .i64 n] w fun e w' => e = .returned (.int .i64 (pickv c n)) ∧ w' = w := by
  have hr := pickv_range c n h3
  have hn0 : ¬ n = 0 := by omega
  by_cases hc : c < 0
  · have e1 : Hid (pickv c n = Int.tmod (-(c + 1)) n) := by show pickv c n = _; unfold pickv; rw [if_pos hc, Int.tmod_eq_emod_of_nonneg (by omega)]
    have e2 : Hid (pickv c n = (-(c + 1)) % n) := by show pickv c n = _; unfold pickv; rw [if_pos hc]
    rw [e1.out] at hr
    go_enter Tryd.func11, Tryd.ntmps11
    go_wp2
    go_ret
    exact ⟨by first | (rw [e1.out]; rfl) | (rw [e1.out, Int.neg_tmod]; rfl) | (rw [e2.out]; rfl), rfl⟩
  · have e1 : Hid (pickv c n = Int.tmod c n) := by show pickv c n = _; unfold pickv; rw [if_neg hc, Int.tmod_eq_emod_of_nonneg (by omega)]
    have e2 : Hid (pickv c n = c % n) := by show pickv c n = _; unfold pickv; rw [if_neg hc]
    rw [e1.out] at hr
    go_enter Tryd.func11, Tryd.ntmps11
    go_wp2
    go_ret
    exact ⟨by first | (rw [e1.out]; rfl) | (rw [e2.out]; rfl), rfl⟩

/-- What fit gives: a configuration that is one. -/
def FitQ (w : World) (e : Ending) (w' : World) : Prop := ∃ B V : Int, e = .returned (.agg #[.int .i64 B, .int .i64 65536, .int .i64 V]) ∧ okBlock B ∧ 1 ≤ V ∧ V ≤ 64 ∧ Bt (fun _ => False) w w'

set_option maxHeartbeats 1000000 in
theorem fit_law (B R V : Int) (w : World) (hB : -9223372036854775808 ≤ B ∧ B ≤ 9223372036854775807) (hV : -9223372036854775808 ≤ V ∧ V ≤ 9223372036854775807) :
    Calls Tryd.prog 9 #[.agg #[.int .i64 B, .int .i64 R, .int .i64 V]] w fun e w' => FitQ w e w' := by
  have C5 := fun w => pick_keep B 5 w hB.1 hB.2 (by omega) (by omega)
  have C6 := fun w => pick_keep V 64 w hV.1 hV.2 (by omega) (by omega)
  have r5 := pickv_range B 5 (by omega)
  have r6 := pickv_range V 64 (by omega)
  generalize pickv B 5 = p at *
  generalize pickv V 64 = q at *
  have HE : Hid (∀ (b : Int) (w' : World), okBlock b → Bt (fun _ => False) w w' → FitQ w (.returned (.agg #[.int .i64 b, .int .i64 65536, .int .i64 (1 + q)])) w') := fun b w' h1 h2 => ⟨b, 1 + q, rfl, h1, by omega, by omega, h2⟩
  have hp : p = 0 ∨ p = 1 ∨ p = 2 ∨ p = 3 ∨ p = 4 := by omega
  rcases hp with rfl | rfl | rfl | rfl | rfl
  · go_enter Tryd.func9, Tryd.ntmps9
    go_wp2_with (first
      | (go_at_call 11; have _t := C5; refine (C5 _).mono ?_; clear C5; rintro e w' ⟨rfl, hw⟩; subst w')
      | (go_at_call 11; refine (C6 _).mono ?_; rintro e w' ⟨rfl, hw⟩; subst w'))
    exact bodyPost_ret (v := .agg #[.int .i64 16, .int .i64 65536, .int .i64 (1 + q)]) (by simp [results, Tryd.results9, go_sem]) rfl (HE.out 16 _ (by unfold okBlock; omega) (by repeat (first | exact Bt.refl _ _ | apply Bt.drewN | apply Bt.drew | apply Bt.alloc | refine Bt.setCell ?_ (by first | (simp; done) | (simp; omega) | (intro h; simp at h; omega)) _)))
  · go_enter Tryd.func9, Tryd.ntmps9
    go_wp2_with (first
      | (go_at_call 11; have _t := C5; refine (C5 _).mono ?_; clear C5; rintro e w' ⟨rfl, hw⟩; subst w')
      | (go_at_call 11; refine (C6 _).mono ?_; rintro e w' ⟨rfl, hw⟩; subst w'))
    exact bodyPost_ret (v := .agg #[.int .i64 32, .int .i64 65536, .int .i64 (1 + q)]) (by simp [results, Tryd.results9, go_sem]) rfl (HE.out 32 _ (by unfold okBlock; omega) (by repeat (first | exact Bt.refl _ _ | apply Bt.drewN | apply Bt.drew | apply Bt.alloc | refine Bt.setCell ?_ (by first | (simp; done) | (simp; omega) | (intro h; simp at h; omega)) _)))
  · go_enter Tryd.func9, Tryd.ntmps9
    go_wp2_with (first
      | (go_at_call 11; have _t := C5; refine (C5 _).mono ?_; clear C5; rintro e w' ⟨rfl, hw⟩; subst w')
      | (go_at_call 11; refine (C6 _).mono ?_; rintro e w' ⟨rfl, hw⟩; subst w'))
    exact bodyPost_ret (v := .agg #[.int .i64 64, .int .i64 65536, .int .i64 (1 + q)]) (by simp [results, Tryd.results9, go_sem]) rfl (HE.out 64 _ (by unfold okBlock; omega) (by repeat (first | exact Bt.refl _ _ | apply Bt.drewN | apply Bt.drew | apply Bt.alloc | refine Bt.setCell ?_ (by first | (simp; done) | (simp; omega) | (intro h; simp at h; omega)) _)))
  · go_enter Tryd.func9, Tryd.ntmps9
    go_wp2_with (first
      | (go_at_call 11; have _t := C5; refine (C5 _).mono ?_; clear C5; rintro e w' ⟨rfl, hw⟩; subst w')
      | (go_at_call 11; refine (C6 _).mono ?_; rintro e w' ⟨rfl, hw⟩; subst w'))
    exact bodyPost_ret (v := .agg #[.int .i64 128, .int .i64 65536, .int .i64 (1 + q)]) (by simp [results, Tryd.results9, go_sem]) rfl (HE.out 128 _ (by unfold okBlock; omega) (by repeat (first | exact Bt.refl _ _ | apply Bt.drewN | apply Bt.drew | apply Bt.alloc | refine Bt.setCell ?_ (by first | (simp; done) | (simp; omega) | (intro h; simp at h; omega)) _)))
  · go_enter Tryd.func9, Tryd.ntmps9
    go_wp2_with (first
      | (go_at_call 11; have _t := C5; refine (C5 _).mono ?_; clear C5; rintro e w' ⟨rfl, hw⟩; subst w')
      | (go_at_call 11; refine (C6 _).mono ?_; rintro e w' ⟨rfl, hw⟩; subst w'))
    exact bodyPost_ret (v := .agg #[.int .i64 256, .int .i64 65536, .int .i64 (1 + q)]) (by simp [results, Tryd.results9, go_sem]) rfl (HE.out 256 _ (by unfold okBlock; omega) (by repeat (first | exact Bt.refl _ _ | apply Bt.drewN | apply Bt.drew | apply Bt.alloc | refine Bt.setCell ?_ (by first | (simp; done) | (simp; omega) | (intro h; simp at h; omega)) _)))

/-- What small gives: up to so many numbers, one at least. -/
def SmallQ (w : World) (most : Nat) (e : Ending) (w' : World) : Prop := ∃ a c l, e = .returned (.slice a (List.length l) c) ∧ Lst w' w.heap.size 3 1 (.slice a l.length c) (ints l) ∧ 1 ≤ l.length ∧ l.length ≤ most ∧ (∀ x ∈ l, -30000 ≤ x ∧ x ≤ 30000) ∧ Bt (fun _ => False) w w'

set_option maxHeartbeats 2000000 in
theorem small_law (a : Option Addr) (c : Nat) (l : List Int) (most : Nat) (w : World) (src : Src w a (ints l)) (hr : Rng l) (hl : l.length ≤ 1099511627776) (hm : 1 ≤ most) (hm2 : most ≤ 1000) :
    Calls Tryd.prog 7 #[.slice a l.length c, .int .i64 most] w fun e w' => SmallQ w most e w' := by
  have HS : Hid (∀ i, i < l.length → (∃ b o, a = some ⟨b, o, none⟩ ∧ w.cell? ⟨b, o + i, none⟩ = some (.int .i64 (at0 l i))) ∧ -9223372036854775808 ≤ at0 l i ∧ at0 l i ≤ 9223372036854775807) := fun i hi => ⟨src.int (at0_some hi), hr.at (at0_some hi)⟩
  have HE : Hid (∀ v k w', Lst w' w.heap.size 3 1 v (ints k) → 1 ≤ k.length → k.length ≤ most → (∀ x ∈ k, -30000 ≤ x ∧ x ≤ 30000) → Bt (fun _ => False) w w' → SmallQ w most (.returned v) w') := by
    intro v k w' q1 q2 q3 q4 q5
    obtain ⟨a', c', hv, _, _⟩ := q1.form
    rw [ints_len] at hv
    exact ⟨a', c', k, by rw [hv], hv ▸ q1, q2, q3, q4, q5⟩
  have HAP : Hid (∀ (vo : Value) (wr : World) (y : Int) (l : List Int), Lst wr w.heap.size 3 1 vo (ints l) → Bt (fun _ => False) w wr → l.length < 1000 →
      ∃ v9 w9, (Builtin.append_ #[24, 24] 24 #[vo, .slice (some ⟨wr.heap.size, 0, none⟩) 1 1]).run Tryd.prog (wr.alloc (.cells #[.int .i64 y] 3)) = .ok v9 w9 ∧ Lst w9 w.heap.size 3 1 v9 (ints (l ++ [y])) ∧ Bt (fun _ => False) w w9) := by
    intro vo wr y l q b hlt
    have b1 : Bt (fun _ => False) wr (wr.alloc (.cells #[.int .i64 y] 3)) := (Bt.refl _ _).alloc _
    obtain ⟨v9, w9, hr, h9, b9, _⟩ := append_nums (w := wr.alloc (.cells #[.int .i64 y] 3)) 24 w.heap.size vo l (q.bt b1 (fun _ _ x => x)) (some ⟨wr.heap.size, 0, none⟩) 1 1 [y] rfl (Src.of_int (fun j x hj => by
      have hj0 : j = 0 := by
        rcases Nat.eq_zero_or_pos j with e | e
        · exact e
        · rw [List.getElem?_eq_none (by simp; omega)] at hj; cases hj
      subst hj0
      simp at hj
      subst hj
      exact World.cell?_alloc_at _ _ _ _ rfl)) (by omega) (Nat.le_trans b.size b1.size)
    exact ⟨v9, w9, hr, h9, (b.trans b1 (fun _ _ x => x)).trans b9 (fun k hk e => by have := (q.ge e).1; omega)⟩
  have HONE : Hid (∀ wr : World, Bt (fun _ => False) w wr → SmallQ w most (.returned (.slice (some ⟨wr.heap.size, 0, none⟩) 1 1)) (wr.alloc (.cells #[.int .i64 1] 3))) := by
    intro wr b
    refine ⟨_, _, [1], rfl, ⟨ints_el _, .inr ⟨wr.heap.size, 0, 1, [[.int .i64 1]], by simp [ints], b.size, ?_, fun e he => ?_, by simp, by simp [ints], by unfold maxLen; omega, by simp [ints]⟩⟩, by simp, by simpa using hm, fun x hx => by simp at hx; omega, b.alloc _⟩
    · show (wr.heap.push _)[wr.heap.size]? = _
      simp
    · simp at he; subst he; exact ⟨rfl, fun v hv => by simp at hv; subst hv; rfl⟩
  obtain ⟨n, hn⟩ : ∃ n, l.length = n := ⟨_, rfl⟩
  rw [hn] at HS hl ⊢
  clear src hr hn
  go_enter Tryd.func7, Tryd.ntmps7
  go_wp2
  go_loopw [5, 6] (fun to ti wr => ∃ (i : Nat) (vo : Value) (k : List Int), vo = to ∧ ti = .int .i64 i ∧ i ≤ n ∧ i ≤ most ∧ Hid (Lst wr w.heap.size 3 1 vo (ints k) ∧ k.length = i ∧ (∀ x ∈ k, -30000 ≤ x ∧ x ≤ 30000) ∧ Bt (fun _ => False) w wr)) (fun _ ti _ => n - (intOf ti).toNat)
  case atStart => exact ⟨0, _, [], rfl, rfl, Nat.zero_le _, Nat.zero_le _, Lst.nil _ _ _ _, rfl, fun x hx => by simp at hx, Bt.refl _ _⟩
  case round =>
    obtain ⟨i, vo, k, hvo, rfl, hi, him, HI⟩ := hrel
    subst hvo
    by_cases hgo : i < n ∧ i < most
    · obtain ⟨hlt, hlm⟩ := hgo
      have hlt1 : (i : Int) < (n : Int) := by omega
      have hlm1 : (i : Int) < (most : Int) := by omega
      obtain ⟨⟨b, o, rfl, ci⟩, r0, r1⟩ := HS.out i hlt
      have ci1 := HI.out.2.2.2.cell (fun x => x) ci
      generalize at0 l i = x at *
      have CK := fun w => pick_keep x 60001 w r0 r1 (by omega) (by omega)
      have hp := pickv_range x 60001 (by omega)
      generalize pickv x 60001 = p at *
      obtain ⟨v9, w9, hr9, h9, b9⟩ := HAP.out vo wr (p - 30000) k HI.out.1 HI.out.2.2.2 (by rw [HI.out.2.1]; omega)
      have H9 : Hid (Lst w9 w.heap.size 3 1 v9 (ints (k ++ [p - 30000])) ∧ Bt (fun _ => False) w w9) := ⟨h9, b9⟩
      clear h9 b9 ci
      go_wp2_with (first
        | (go_at_call 11; refine (CK _).mono ?_; rintro e w' ⟨rfl, hw⟩; subst w')
        | (at_builtin; refine wpList_append_run rfl _ _ 24 24 rfl _ _ _ _ rfl rfl hr9 ?_))
      go_roundw
      case rel =>
        refine ⟨i + 1, v9, k ++ [p - 30000], rfl, by go_num, by omega, by omega, H9.out.1, by rw [List.length_append, HI.out.2.1]; rfl, ?_, H9.out.2⟩
        intro y hy
        rcases List.mem_append.1 hy with hy | hy
        · exact HI.out.2.2.1 y hy
        · simp at hy; omega
      case measure => simp [intOf]; omega
    · obtain ⟨a5, c5, hv5, _, _⟩ := HI.out.1.form
      rw [ints_len, HI.out.2.1] at hv5
      by_cases hi0 : i = 0
      · subst hi0
        have hfor : ¬ ((0 : Nat) < n) := by omega
        obtain rfl : n = 0 := by omega
        subst hv5
        go_wp2
        go_ret
        exact HONE.out _ HI.out.2.2.2
      · have hi1 : ¬ (i : Int) = 0 := by omega
        by_cases hlt : i < n
        · have hlt1 : (i : Int) < (n : Int) := by omega
          have hlm1 : ¬ (i : Int) < (most : Int) := by omega
          have HI2 : Hid (SmallQ w most (.returned vo) wr) := HE.out vo k wr HI.out.1 (by rw [HI.out.2.1]; omega) (by rw [HI.out.2.1]; omega) HI.out.2.2.1 HI.out.2.2.2
          subst hv5
          go_wp2
          go_ret
          exact HI2.out
        · have hlt1 : ¬ (i : Int) < (n : Int) := by omega
          have HI2 : Hid (SmallQ w most (.returned vo) wr) := HE.out vo k wr HI.out.1 (by rw [HI.out.2.1]; omega) (by rw [HI.out.2.1]; omega) HI.out.2.2.1 HI.out.2.2.2
          subst hv5
          go_wp2
          go_ret
          exact HI2.out
end Go.Proofs.YtddpcjgekfmhkabDoor

/- What a filter gives for samples that are pushed in pieces: the mathematics. -/
namespace Go.Proofs.YtddpcjgekfmhkabDoor
set_option linter.unusedVariables false

def yv (h x : List Int) (n : Nat) : Int := flt h.length (at0 h) (at0 x) n
def gen (h x : List Int) (m : Nat) : List Int := (List.range m).map (yv h x)
theorem gen_len (h x : List Int) (m : Nat) : (gen h x m).length = m := by simp [gen]
theorem gen_at (h x : List Int) (m i : Nat) (hi : i < m) : at0 (gen h x m) i = yv h x i := by
  unfold at0 gen
  rw [List.getD_eq_getElem?_getD, List.getElem?_map, List.getElem?_range hi]; rfl
theorem flt_congr {L : Nat} {h z z' : Nat → Int} {n : Nat} (e : ∀ i, i ≤ n → z i = z' i) : flt L h z n = flt L h z' n := by
  induction L with
  | zero => rfl
  | succ L ih =>
    rw [flt_succ, flt_succ, ih]
    by_cases hl : L ≤ n
    · rw [if_pos hl, if_pos hl, e (n - L) (by omega)]
    · rw [if_neg hl, if_neg hl]
theorem at0_take (x : List Int) (k i : Nat) (hi : i < k) : at0 (x.take k) i = at0 x i := by
  unfold at0
  rw [List.getD_eq_getElem?_getD, List.getD_eq_getElem?_getD, List.getElem?_take, if_pos hi]
theorem at0_zeros (x : List Int) (m i : Nat) : at0 (x ++ List.replicate m 0) i = at0 x i := by
  unfold at0
  rw [List.getD_eq_getElem?_getD, List.getD_eq_getElem?_getD]
  by_cases h : i < x.length
  · rw [List.getElem?_append_left h]
  · rw [List.getElem?_append_right (by omega), List.getElem?_eq_none (by omega : x.length ≤ i), List.getElem?_replicate]
    split <;> rfl

/-- A filter with one list of taps, and samples of x up to some place. -/
structure Run (s : FlS) (bn : Nat) (h x : List Int) (P : Nat) : Prop where
  ok : s.Ok
  B : s.B = bn
  R : s.R = 65536
  parts : s.parts = [(0, h)]
  pulled : s.pulled = P
  y : ∀ n, n < s.X.length → s.y n = yv h x n

theorem run_y {s : FlS} {h x : List Int} (hp : s.parts = [(0, h)]) (hX : ∀ i, i < s.X.length → at0 s.X i = at0 x i) (n : Nat) (hn : n < s.X.length) : s.y n = yv h x n := by
  unfold FlS.y yv
  have e : tapsAt s.parts n [] = h := by rw [hp]; simp [tapsAt]
  rw [e]
  exact flt_congr (fun i hi => hX i (by omega))

theorem run_fresh {B V : Int} {h x : List Int} (hB : okBlock B) (hV : 1 ≤ V ∧ V ≤ 64) (ht : okTaps h) : Run (FlS.fresh B.toNat 65536 V.toNat h) B.toNat h x 0 ∧ (FlS.fresh B.toNat 65536 V.toNat h).X = [] := by
  have ok : okConf B 65536 V := ⟨hB, by unfold okBlock at hB; omega, by omega, hV.1, hV.2⟩
  have := FlS.Ok.fresh ok ht
  exact ⟨⟨this, rfl, rfl, rfl, rfl, fun n hn => by simp [FlS.fresh] at hn⟩, rfl⟩

theorem run_push {s : FlS} {bn P : Nat} {h x : List Int} {k n : Nat} (r : Run s bn h x P) (hX : s.X = x.take k) (hk : k + n ≤ x.length) (hx : x.length ≤ 1000) (hs : ∀ v ∈ x, okSample v) :
    pushR s ((x.drop k).take n) = n ∧ pushE s ((x.drop k).take n) = 0 ∧ Run (pushS s ((x.drop k).take n)) bn h x P ∧ (pushS s ((x.drop k).take n)).X = x.take (k + n) := by
  have hall : ∀ v ∈ (x.drop k).take n, okSample v := fun v hv => hs v (List.mem_of_mem_drop (List.mem_of_mem_take hv))
  have hl : ((x.drop k).take n).length = n := by rw [List.length_take, List.length_drop]; omega
  have hXl : s.X.length = k := by rw [hX, List.length_take]; omega
  have hN : pushN s ((x.drop k).take n) = n := by
    unfold pushN FlS.room
    rw [hl, r.R, hXl]; omega
  have hpS : pushS s ((x.drop k).take n) = s.more ((x.drop k).take n) := by
    unfold pushS
    rw [if_pos hall, hN, List.take_of_length_le (by omega)]
  have hX2 : (s.more ((x.drop k).take n)).X = x.take (k + n) := by
    show s.X ++ (x.drop k).take n = _
    rw [hX, List.take_add]
  refine ⟨by unfold pushR; rw [if_pos hall, hN], by unfold pushE; rw [if_pos hall], ?_, by rw [hpS]; exact hX2⟩
  have okp := (r.ok.push ((x.drop k).take n)).1
  rw [hpS] at okp ⊢
  refine ⟨okp, r.B, r.R, r.parts, r.pulled, fun m hm => run_y (s := s.more ((x.drop k).take n)) r.parts (fun i hi => ?_) m hm⟩
  rw [hX2] at hi ⊢
  exact at0_take x (k + n) i (by rw [List.length_take] at hi; omega)

/-- How many samples whole blocks have, filled up. -/
def upN (bn n : Nat) : Nat := n + (bn - n % bn) % bn
theorem upN_mod {bn n : Nat} (h : 0 < bn) : upN bn n % bn = 0 := (missing_at h (Nat.le_refl _)).2 rfl
theorem run_flush {s : FlS} {bn P : Nat} {h x : List Int} (r : Run s bn h x P) (hX : s.X = x) (hx : x.length ≤ 1000) :
    flushE s = 0 ∧ Run (flushS s) bn h x P ∧ (flushS s).whole = upN bn x.length ∧ (flushS s).X.length = upN bn x.length := by
  have hB0 := r.ok.B0
  have hB1 := r.ok.B1
  have hm : s.missing < s.B := Nat.mod_lt _ hB0
  have hroom : ¬ s.room < s.missing := by
    unfold FlS.room
    rw [r.R, hX]
    omega
  have hS : flushS s = s.more (List.replicate s.missing 0) := by unfold flushS; rw [if_neg hroom]
  have hlen : (s.more (List.replicate s.missing 0)).X.length = upN bn x.length := by
    show (s.X ++ List.replicate s.missing 0).length = _
    rw [List.length_append, List.length_replicate, hX]
    unfold FlS.missing upN
    rw [hX, r.B]
  have okf := r.ok.flush.1
  rw [hS] at okf ⊢
  refine ⟨by unfold flushE; rw [if_neg hroom], ⟨okf, r.B, r.R, r.parts, r.pulled, fun m hm => run_y (s := s.more (List.replicate s.missing 0)) r.parts (fun i _ => ?_) m hm⟩, ?_, hlen⟩
  · show at0 (s.X ++ List.replicate s.missing 0) i = at0 x i
    rw [at0_zeros, hX]
  · unfold FlS.whole
    rw [hlen]
    show upN bn x.length / s.B * s.B = _
    rw [r.B]
    have h1 := Nat.div_add_mod (upN bn x.length) bn
    rw [upN_mod (by rw [← r.B]; exact hB0)] at h1
    rw [Nat.mul_comm]; omega

theorem run_pull {s : FlS} {bn P : Nat} {h x : List Int} (r : Run s bn h x P) (n : Int) : s.outs (s.can n) = (List.range (s.can n)).map (fun i => yv h x (P + i)) ∧ Run (s.took (s.can n)) bn h x (P + s.can n) := by
  have hc : s.can n ≤ s.whole - s.pulled := Nat.min_le_right _ _
  have hw := s.whole_le
  have hp := r.pulled
  refine ⟨?_, r.ok.took n, r.B, r.R, r.parts, by show s.pulled + s.can n = _; rw [hp], fun m hm => r.y m hm⟩
  unfold FlS.outs
  refine List.map_congr_left fun i hi => ?_
  have hi' := List.mem_range.1 hi
  have := r.ok.pl
  rw [hp] at hc this ⊢
  exact r.y (P + i) (by omega)
theorem gen_add (h x : List Int) (P m : Nat) : gen h x (P + m) = gen h x P ++ (List.range m).map (fun i => yv h x (P + i)) := by
  unfold gen
  rw [List.range_add, List.map_append, List.map_map]; rfl
end Go.Proofs.YtddpcjgekfmhkabDoor

/- all: what a filter gives for samples that are pushed in pieces, and flushed. -/
namespace Go.Proofs.YtddpcjgekfmhkabDoor
open Go.RowKit
set_option linter.unusedSimpArgs false
set_option linter.unusedVariables false

/-- What is there while samples are pushed: the filter, and what came out of it. -/
def AllI (FI : Nat → Nat → FlS → Res) (w : World) (xb : Nat) (s : FlS) (vo : Value) (ol : List Int) (wr : World) : Prop :=
  ∃ F, FI w.heap.size xb s wr F ∧ Lst wr w.heap.size 3 1 vo (ints ol) ∧ (∀ g, vo.ownBlock = some g → ¬ F g) ∧ Bt (fun _ => False) w wr
section
variable {FI : Nat → Nat → FlS → Res} {w wr : World} {xb : Nat} {s : FlS} {vo : Value} {ol : List Int}
theorem AllI.push (ok : FltOk FI) (h : AllI FI w xb s vo ol wr) (hs : s.Small) (a : Option Addr) (c : Nat) (l : List Int) (src : Src wr a (ints l)) (hr : Rng l) (hl : l.length ≤ 1048576) (hlc : l.length ≤ c) (hnil : a = none → c = 0) (hb : ∀ b o, a = some ⟨b, o, none⟩ → b < w.heap.size) :
    Calls Tryd.prog 13 #[.pointer (some ⟨xb, 0, none⟩), .slice a l.length c] wr fun e w' => e = .returned (.tuple #[.int .i64 (pushR s l), .int .i64 (pushE s l)]) ∧ Hid (AllI FI w xb (pushS s l) vo ol w') := by
  obtain ⟨F, h1, h2, h3, h4⟩ := h
  have hF : ∀ k, F k → w.heap.size ≤ k := fun k hk => ((ok.fr _ _ _).lt h1 hk).1
  refine (ok.push h1 hs a c l src hr hl hlc hnil (fun b o e q => by have := hF b q; have := hb b o e; omega)).mono ?_
  rintro e w' ⟨rfl, F', q1, q2⟩
  exact ⟨rfl, F', q1, h2.bt q2.bt (fun g hg e => h3 g hg e), fun g hg => q2.out (h2.ge hg).2 (h3 g hg), h4.trans q2.bt (fun k hk e => by have := hF k e; omega)⟩
theorem AllI.flush (ok : FltOk FI) (h : AllI FI w xb s vo ol wr) (hs : s.Small) :
    Calls Tryd.prog 15 #[.pointer (some ⟨xb, 0, none⟩)] wr fun e w' => e = .returned (.tuple #[.int .i64 (flushR s), .int .i64 (flushE s)]) ∧ Hid (AllI FI w xb (flushS s) vo ol w') := by
  obtain ⟨F, h1, h2, h3, h4⟩ := h
  have hF : ∀ k, F k → w.heap.size ≤ k := fun k hk => ((ok.fr _ _ _).lt h1 hk).1
  refine (ok.flush h1 hs).mono ?_
  rintro e w' ⟨rfl, F', q1, q2⟩
  exact ⟨rfl, F', q1, h2.bt q2.bt (fun g hg e => h3 g hg e), fun g hg => q2.out (h2.ge hg).2 (h3 g hg), h4.trans q2.bt (fun k hk e => by have := hF k e; omega)⟩
/-- Pull, and append. -/
theorem AllI.pull (ok : FltOk FI) (h : AllI FI w xb s vo ol wr) (hs : s.Small) (n : Int) (hn0 : -9223372036854775808 ≤ n) (hn1 : n ≤ 9223372036854775807) (hol : ol.length ≤ 100000) :
    Calls Tryd.prog 16 #[.pointer (some ⟨xb, 0, none⟩), .int .i64 n] wr fun e w' => Hid (∃ a c m, e = .returned (.slice a m c) ∧ ∃ v' w'', (Builtin.append_ #[24, 24] 24 #[vo, .slice a m c]).run Tryd.prog w' = .ok v' w'' ∧ AllI FI w xb (s.took (s.can n)) v' (ol ++ s.outs (s.can n)) w'') := by
  obtain ⟨F, h1, h2, h3, h4⟩ := h
  have hF : ∀ k, F k → w.heap.size ≤ k := fun k hk => ((ok.fr _ _ _).lt h1 hk).1
  have hcan := hs.ok.can_le n
  refine (ok.pull h1 hs n hn0 hn1).mono ?_
  rintro e w' ⟨ao, lb, he, g1, g2, g3, g4, F', g5, g6, g7⟩
  have hb' : Bt (fun _ => False) w w' := h4.trans g6.bt (fun k hk e => by have := hF k e; omega)
  have h2' : Lst w' w.heap.size 3 1 vo (ints ol) := h2.bt g6.bt (fun g hg e => h3 g hg e)
  have hout := outs_len s (s.can n)
  have hsrc : Src w' ao (ints (s.outs (s.can n))) := by
    by_cases h0 : 0 < s.can n
    · rw [g1 h0]; exact g3.src _ (by rw [hout]; exact Nat.le_refl _) (fun _ _ => rfl)
    · rw [List.eq_nil_of_length_eq_zero (by rw [hout]; omega : (s.outs (s.can n)).length = 0)]; exact src_none _ _
  obtain ⟨v', w'', hr, hl, hb, hv⟩ := append_nums (w := w') 24 w.heap.size vo ol h2' ao (s.can n) (s.can n) (s.outs (s.can n)) hout hsrc (by omega) hb'.size
  have hF' : ∀ g, vo.ownBlock = some g → ¬ F' g := fun g hg => g6.out (h2.ge hg).2 (h3 g hg)
  refine ⟨ao, s.can n, s.can n, he, v', w'', hr, F', (ok.fr _ _ _).btw g5 hb (fun k hk e => hF' k e hk) (fun k e => (h2'.ge e).1), hl, fun g hg => ?_, hb'.trans hb (fun k hk e => by have := (h2'.ge e).1; omega)⟩
  rcases hv with e | e
  · exact hF' g (e ▸ hg)
  · rw [e] at hg
    have : w'.heap.size = g := Option.some.inj hg
    exact fun q => by have := ((ok.fr _ _ _).lt g5 q).2; omega
theorem AllI.drewN (ok : FltOk FI) (h : AllI FI w xb s vo ol wr) (m : Nat) : AllI FI w xb s vo ol (wr.drewN m) := by
  obtain ⟨F, h1, h2, h3, h4⟩ := h
  have b : Bt (fun _ => False) wr (wr.drewN m) := (Bt.refl _ _).drewN m
  exact ⟨F, (ok.fr _ _ _).bt h1 b (fun _ _ x => x), h2.bt b (fun _ _ x => x), h3, h4.drewN m⟩
end

/-- What all gives. -/
def AllQ (w : World) (h x : List Int) (N : Nat) (e : Ending) (w' : World) : Prop := ∃ vo, e = .returned (.tuple #[vo, .bool true]) ∧ Lst w' w.heap.size 3 1 vo (ints (gen h x N)) ∧ Bt (fun _ => False) w w'
end Go.Proofs.YtddpcjgekfmhkabDoor

/- all, walked. -/
namespace Go.Proofs.YtddpcjgekfmhkabDoor
open Go.RowKit
set_option linter.unusedSimpArgs false
set_option linter.unusedVariables false

theorem run_small {s : FlS} {bn P : Nat} {h x : List Int} (r : Run s bn h x P) (hx : s.X.length ≤ 2000) : s.Small := ⟨r.ok, by omega, by rw [r.parts]; simp⟩
/-- The state of a round. -/
def AllR (FI : Nat → Nat → FlS → Res) (w : World) (xb bn : Nat) (h x : List Int) (at_ : Nat) (vo : Value) (wr : World) : Prop := ∃ s P, AllI FI w xb s vo (gen h x P) wr ∧ Run s bn h x P ∧ s.X = x.take at_ ∧ P ≤ at_

set_option maxHeartbeats 4000000 in
set_option maxRecDepth 20000 in
theorem all_law {FI : Nat → Nat → FlS → Res} (ok : FltOk FI) (w : World) (B V : Int) (hB : okBlock B) (hV : 1 ≤ V ∧ V ≤ 64) (ah ax ac : Option Addr) (ch cx cc : Nat) (h x cuts : List Int) (ih : InL w ah ch h) (ix : InL w ax cx x) (ic : InL w ac cc cuts) (ht : okTaps h) (hs : ∀ v ∈ x, okSample v) (hx0 : 1 ≤ x.length) (hx1 : x.length ≤ 1000) :
    Calls Tryd.prog 8 #[.agg #[.int .i64 B, .int .i64 65536, .int .i64 V], .slice ah h.length ch, .slice ax x.length cx, .slice ac cuts.length cc] w fun e w' => AllQ w h x (upN B.toNat x.length) e w' := by
  obtain ⟨bx, ox, rfl, hxc⟩ := ix.src (by rw [ints_len]; omega)
  have hbx : bx < w.heap.size := by
    obtain ⟨b', o', e', q⟩ := ix.src.int (at0_some (l := x) (i := 0) (by omega))
    simp at e'
    obtain ⟨rfl, rfl⟩ := e'
    exact World.block_lt_of_cell? w _ q
  obtain ⟨w0, hw0⟩ : ∃ w0, w0 = w.alloc (.cells #[.int .i64 B, .int .i64 65536, .int .i64 V] 23) := ⟨_, rfl⟩
  have B0 : Bt (fun _ => False) w w0 := by rw [hw0]; exact (Bt.refl _ _).alloc _
  have hcell : w0.cell? ⟨w.heap.size, 0, none⟩ = some (.int .i64 B) := by rw [hw0, World.cell?_alloc_at _ _ _ _ rfl]; rfl
  obtain ⟨bn, hbn⟩ : ∃ bn, B.toNat = bn := ⟨_, rfl⟩
  have hBb : B = (bn : Int) ∧ 16 ≤ bn ∧ bn ≤ 256 := by unfold okBlock at hB; omega
  have C1 : Calls Tryd.prog 12 #[.agg #[.int .i64 B, .int .i64 65536, .int .i64 V], .slice ah h.length ch] w0 fun e w1 => Hid (∃ xb, e = .returned (.tuple #[.pointer (some ⟨xb, 0, none⟩), .int .i64 0]) ∧ AllR FI w0 xb bn h x 0 (.slice none 0 0) w1 ∧ w1.cell? ⟨w.heap.size, 0, none⟩ = some (.int .i64 B)) := by
    have okc : okConf B 65536 V := ⟨hB, by omega, by omega, hV.1, hV.2⟩
    refine (ok.new w0.heap.size B 65536 V ah ch h w0 (ih.tab.bt B0 (fun x => x)) (Nat.lt_of_lt_of_le ih.tab.lt B0.size) (Nat.le_refl _) (ih.src.bt B0 (fun _ _ _ x => x)) ih.rng ih.len ih.cap ih.nil (by omega) (by omega) (by omega)).mono ?_
    intro e w1 hq
    unfold NewP at hq
    rw [if_pos okc, if_pos ht] at hq
    obtain ⟨xb, F, h1, h2, h3, h4⟩ := hq
    have hr := run_fresh (x := x) hB hV ht
    rw [hbn] at hr h2
    exact ⟨xb, h1, ⟨_, 0, ⟨F, h2, Lst.nil _ _ _ _, fun g hg => (by cases hg), h4⟩, hr.1, by simp [FlS.fresh], Nat.le_refl _⟩, h4.cell (fun x => x) hcell⟩
  have CP : ∀ (xb at_ n : Nat) (vo : Value) (wr : World), AllR FI w0 xb bn h x at_ vo wr → at_ < x.length → at_ + n ≤ x.length → ∀ (o' k c' : Nat), o' = ox + at_ → k = n → c' = cx - at_ → Calls Tryd.prog 13 #[.pointer (some ⟨xb, 0, none⟩), .slice (some ⟨bx, o', none⟩) k c'] wr fun e w' => e = .returned (.tuple #[.int .i64 (n : Nat), .int .i64 0]) ∧ Hid (AllR FI w0 xb bn h x (at_ + n) vo w') := by
    rintro xb at_ n vo wr ⟨s, P, g1, g2, g3, g4⟩ hlt hle o' k c' rfl rfl rfl
    have hp := run_push g2 g3 hle hx1 hs
    have hlen : ((x.drop at_).take k).length = k := by rw [List.length_take, List.length_drop]; omega
    have hbt : Bt (fun _ => False) w0 wr := by obtain ⟨_, _, _, _, b⟩ := g1; exact b
    have hXl : s.X.length ≤ 2000 := by rw [g3, List.length_take]; omega
    have hsrc : Src wr (some ⟨bx, ox + at_, none⟩) (ints ((x.drop at_).take k)) := Src.of_int (fun i v hi => by
      rw [List.getElem?_take] at hi
      split at hi
      · rw [List.getElem?_drop] at hi
        obtain ⟨b', o', e', q⟩ := (ix.bt B0).src.int hi
        simp at e'
        obtain ⟨rfl, rfl⟩ := e'
        have := hbt.cell (fun x => x) q
        rw [← Nat.add_assoc] at this
        exact this
      · cases hi)
    have := g1.push ok (run_small g2 hXl) (some ⟨bx, ox + at_, none⟩) (cx - at_) ((x.drop at_).take k) hsrc (fun v hv => ix.rng v (List.mem_of_mem_drop (List.mem_of_mem_take hv))) (by omega) (by have := ix.cap; omega) (fun e => by cases e) (fun b o e => by simp at e; obtain ⟨rfl, _⟩ := e; have := B0.size; omega)
    rw [hlen, hp.1, hp.2.1] at this
    refine this.mono ?_
    rintro e w' ⟨rfl, q⟩
    exact ⟨rfl, _, P, q.out, hp.2.2.1, hp.2.2.2, by omega⟩
  have CL : ∀ (xb at_ : Nat) (n : Int) (vo : Value) (wr : World), AllR FI w0 xb bn h x at_ vo wr → at_ ≤ x.length → 0 ≤ n → n ≤ 300 → Calls Tryd.prog 16 #[.pointer (some ⟨xb, 0, none⟩), .int .i64 n] wr fun e w' => Hid (∃ a c m, e = .returned (.slice a m c) ∧ ∃ v' w'', (Builtin.append_ #[24, 24] 24 #[vo, .slice a m c]).run Tryd.prog w' = .ok v' w'' ∧ AllR FI w0 xb bn h x at_ v' w'') := by
    rintro xb at_ n vo wr ⟨s, P, g1, g2, g3, g4⟩ hle h0 h1
    have hXl : s.X.length = at_ := by rw [g3, List.length_take]; omega
    have hp := run_pull g2 n
    have hw := s.whole_le
    have hc : s.can n ≤ s.whole - s.pulled := Nat.min_le_right _ _
    have hpl := g2.ok.pl
    refine (g1.pull ok (run_small g2 (by omega)) n (by omega) (by omega) (by rw [gen_len]; omega)).mono ?_
    intro e w' hq
    obtain ⟨a, c, m, he, v', w'', hr, hi⟩ := hq.out
    refine ⟨a, c, m, he, v', w'', hr, _, P + s.can n, ?_, hp.2, g3, ?_⟩
    · rw [gen_add, ← hp.1]; exact hi
    · rw [g2.pulled] at hc hpl; omega
  have CF : ∀ (xb : Nat) (vo : Value) (wr : World), AllR FI w0 xb bn h x x.length vo wr → Calls Tryd.prog 15 #[.pointer (some ⟨xb, 0, none⟩)] wr fun e w' => Hid (∃ R : Int, e = .returned (.tuple #[.int .i64 R, .int .i64 0]) ∧ ∃ s P, AllI FI w0 xb s vo (gen h x P) w' ∧ Run s bn h x P ∧ s.whole = upN bn x.length ∧ s.X.length = upN bn x.length ∧ P ≤ x.length) := by
    rintro xb vo wr ⟨s, P, g1, g2, g3, g4⟩
    rw [List.take_of_length_le (Nat.le_refl _)] at g3
    have hf := run_flush g2 g3 hx1
    have := g1.flush ok (run_small g2 (by rw [g3]; omega))
    rw [hf.1] at this
    refine this.mono ?_
    rintro e w' ⟨rfl, q⟩
    exact ⟨_, rfl, _, P, q.out, hf.2.1, hf.2.2.1, hf.2.2.2, g4⟩
  have hup : x.length ≤ upN bn x.length ∧ upN bn x.length < x.length + bn := by
    unfold upN
    have := Nat.mod_lt (bn - x.length % bn) (by omega : 0 < bn)
    omega
  have CL2 : ∀ (xb : Nat) (vo : Value) (wr : World), (∃ s P, AllI FI w0 xb s vo (gen h x P) wr ∧ Run s bn h x P ∧ s.whole = upN bn x.length ∧ s.X.length = upN bn x.length ∧ P ≤ x.length) → Calls Tryd.prog 16 #[.pointer (some ⟨xb, 0, none⟩), .int .i64 65536] wr fun e w' => Hid (∃ a c m, e = .returned (.slice a m c) ∧ ∃ a' c' w'', (Builtin.append_ #[24, 24] 24 #[vo, .slice a m c]).run Tryd.prog w' = .ok (.slice a' (upN bn x.length) c') w'' ∧ Lst w'' w0.heap.size 3 1 (.slice a' (upN bn x.length) c') (ints (gen h x (upN bn x.length))) ∧ Bt (fun _ => False) w0 w'') := by
    rintro xb vo wr ⟨s, P, g1, g2, g3, g4, g5⟩
    have hp := run_pull g2 65536
    have hcan : P + s.can 65536 = upN bn x.length := by
      have := g2.ok.pl
      unfold FlS.can
      rw [g2.pulled, g3] at *
      have e : (65536 : Int).toNat = 65536 := rfl
      rw [e]
      omega
    refine (g1.pull ok (run_small g2 (by omega)) 65536 (by omega) (by omega) (by rw [gen_len]; omega)).mono ?_
    intro e w' hq
    obtain ⟨a, c, m, he, v', w'', hr, F', q1, q2, q3, q4⟩ := hq.out
    rw [hp.1, ← gen_add, hcan] at q2
    obtain ⟨a', c', hv, _, _⟩ := q2.form
    rw [ints_len, gen_len] at hv
    subst hv
    exact ⟨a, c, m, he, a', c', w'', hr, q2, q4⟩
  have HK : Hid (∀ i, i < cuts.length → (∃ b o, ac = some ⟨b, o, none⟩ ∧ w0.cell? ⟨b, o + i, none⟩ = some (.int .i64 (at0 cuts i))) ∧ -9223372036854775808 ≤ at0 cuts i ∧ at0 cuts i ≤ 9223372036854775807) := fun i hi => ⟨(ic.bt B0).src.int (at0_some hi), ic.rng.at (at0_some hi)⟩
  have HBT : Hid (∀ xb at_ vo wr, AllR FI w0 xb bn h x at_ vo wr → Bt (fun _ => False) w0 wr ∧ (∃ a m c, vo = .slice a m c) ∧ wr.cell? ⟨w.heap.size, 0, none⟩ = some (.int .i64 B)) := by
    rintro xb at_ vo wr ⟨s, P, ⟨F, _, q2, _, q4⟩, _⟩
    obtain ⟨a, c, e, _, _⟩ := q2.form
    exact ⟨q4, ⟨_, _, _, e⟩, q4.cell (fun x => x) hcell⟩
  have HE : Hid (∀ a' c' w'', Lst w'' w0.heap.size 3 1 (.slice a' (upN bn x.length) c') (ints (gen h x (upN bn x.length))) → Bt (fun _ => False) w0 w'' → AllQ w h x (upN bn x.length) (.returned (.tuple #[.slice a' (upN bn x.length) c', .bool true])) w'') := fun a' c' w'' q1 q2 => ⟨_, rfl, q1.mono B0.size, B0.trans q2 (fun _ _ x => x)⟩
  have HBC : Hid (∀ w'', Bt (fun _ => False) w0 w'' → w''.cell? ⟨w.heap.size, 0, none⟩ = some (.int .i64 B)) := fun w'' b => b.cell (fun x => x) hcell
  rw [hbn]
  have hcap := ix.cap
  have hclen := ic.len
  generalize upN bn x.length = N at *
  generalize hxl : x.length = xn at *
  generalize cuts.length = cn at *
  generalize h.length = hn at *
  have HW : Hid (w0 = w.alloc (.cells #[.int .i64 B, .int .i64 65536, .int .i64 V] 23)) := hw0
  have C1w : Calls Tryd.prog 12 #[.agg #[.int .i64 B, .int .i64 65536, .int .i64 V], .slice ah hn ch] (w.alloc (.cells #[.int .i64 B, .int .i64 65536, .int .i64 V] 23)) fun e w1 => Hid (∃ xb, e = .returned (.tuple #[.pointer (some ⟨xb, 0, none⟩), .int .i64 0]) ∧ AllR FI w0 xb bn h x 0 (.slice none 0 0) w1 ∧ w1.cell? ⟨w.heap.size, 0, none⟩ = some (.int .i64 B)) := by rw [← HW.out]; exact C1
  clear C1
  obtain ⟨hBi, _, _⟩ := hBb
  subst hBi
  clear ih ix ic hxc hcell hw0 B0 hbn
  go_enter Tryd.func8, Tryd.ntmps8
  go_wp2_with (go_at_call 12; refine C1w.mono ?_; rintro e w1 H1; obtain ⟨xb, rfl, HR, hbc⟩ := H1.out; have HR0 : Hid (AllR FI w0 xb bn h x 0 (.slice none 0 0) w1) := HR; clear H1 HR)
  go_loopw [12, 13, 14] (fun to ta ti wr => ∃ (i at_ : Nat) (vo : Value), vo = to ∧ ta = .int .i64 at_ ∧ ti = .int .i64 i ∧ at_ ≤ xn ∧ (at_ < xn → i ≤ cn) ∧ i ≤ cn + 1 ∧ Hid (AllR FI w0 xb bn h x at_ vo wr)) (fun _ _ ti _ => cn + 1 - (intOf ti).toNat)
  case atStart => exact ⟨0, 0, _, rfl, rfl, rfl, by omega, fun _ => by omega, by omega, HR0.out⟩
  case round =>
    obtain ⟨i, at_, vo, hvo, rfl, rfl, hat, hai, hi1, HA⟩ := hrel
    subst hvo
    by_cases hlt : at_ < xn
    · have hlt1 : (at_ : Int) < (xn : Int) := by omega
      have hi := hai hlt
      clear hai
      by_cases hic : i < cn
      · have hic1 : (i : Int) < (cn : Int) := by omega
        obtain ⟨⟨b, o, rfl, cu⟩, r0, r1⟩ := HK.out i hic
        have cu1 := (HBT.out _ _ _ _ HA.out).1.cell (fun x => x) cu
        generalize at0 cuts i = ci at *
        have CKa := fun w => pick_keep ci 100 w r0 r1 (by omega) (by omega)
        have hp := pickv_range ci 100 (by omega)
        obtain ⟨q, hq⟩ : ∃ q, ci.tdiv 100 = q := ⟨_, rfl⟩
        have hqr : -9223372036854775808 ≤ q ∧ q ≤ 9223372036854775807 := by
          rw [← hq]
          by_cases h0 : 0 ≤ ci
          · rw [Int.tdiv_eq_ediv_of_nonneg h0]; omega
          · have e : ci.tdiv 100 = -((-ci) / 100) := by
              rw [← Int.tdiv_eq_ediv_of_nonneg (by omega : 0 ≤ -ci), Int.neg_tdiv, Int.neg_neg]
            rw [e]; omega
        have CKb := fun w => pick_keep q 300 w hqr.1 hqr.2 (by omega) (by omega)
        have hr3 := pickv_range q 300 (by omega)
        generalize pickv ci 100 = p at *
        generalize pickv q 300 = r at *
        obtain ⟨pn, rfl⟩ : ∃ pn : Nat, p = pn := ⟨p.toNat, by omega⟩
        by_cases hpn : (pn : Int) < (xn : Int) - (at_ : Int)
        · have hpn1 : pn < xn - at_ := by omega
          obtain ⟨a2, m2, c2, rfl⟩ := (HBT.out xb at_ vo wr HA.out).2.1
          go_wp2_with (first
            | (go_at_call 11; first | (with_reducible refine (CKa _).mono ?_; rintro e w' ⟨rfl, hw⟩; subst w') | (with_reducible refine (CKb _).mono ?_; rintro e w' ⟨rfl, hw⟩; subst w'))
            | (go_at_call 13; refine (CP xb at_ (pn) _ wr HA.out hlt (by omega) _ _ _ (by first | rfl | omega) (by omega) (by first | rfl | omega)).mono ?_; rintro e w2 ⟨rfl, H2⟩; have cw := (HBT.out _ _ _ _ H2.out).1.cell (fun x => x) cu)
            | (go_at_call 16; refine (CL xb (at_ + (pn)) _ _ w2 H2.out (by omega) (by omega) (by omega)).mono ?_; rintro e w3 H3; obtain ⟨a3, c3, m3, rfl, v4, w4, hr4, q4⟩ := H3.out; have H4 : Hid (AllR FI w0 xb bn h x (at_ + (pn)) v4 w4) := q4; clear H3 q4)
            | (at_builtin; refine wpList_append_run rfl _ _ 24 24 rfl _ _ _ _ rfl rfl hr4 ?_))
          go_roundw
          case rel => exact ⟨i + 1, at_ + (pn), v4, rfl, by go_num, by go_num, by omega, fun q => by omega, by omega, H4.out⟩
          case measure => simp [intOf]; omega
        · have hsub : ((xn - at_ : Nat) : Int) = (xn : Int) - (at_ : Int) := by omega
          obtain ⟨a2, m2, c2, rfl⟩ := (HBT.out xb at_ vo wr HA.out).2.1
          go_wp2_with (first
            | (go_at_call 11; first | (with_reducible refine (CKa _).mono ?_; rintro e w' ⟨rfl, hw⟩; subst w') | (with_reducible refine (CKb _).mono ?_; rintro e w' ⟨rfl, hw⟩; subst w'))
            | (go_at_call 13; refine (CP xb at_ (xn - at_) _ wr HA.out hlt (by omega) _ _ _ (by first | rfl | omega) (by omega) (by first | rfl | omega)).mono ?_; rintro e w2 ⟨rfl, H2⟩; have cw := (HBT.out _ _ _ _ H2.out).1.cell (fun x => x) cu)
            | (go_at_call 16; refine (CL xb (at_ + (xn - at_)) _ _ w2 H2.out (by omega) (by omega) (by omega)).mono ?_; rintro e w3 H3; obtain ⟨a3, c3, m3, rfl, v4, w4, hr4, q4⟩ := H3.out; have H4 : Hid (AllR FI w0 xb bn h x (at_ + (xn - at_)) v4 w4) := q4; clear H3 q4)
            | (at_builtin; refine wpList_append_run rfl _ _ 24 24 rfl _ _ _ _ rfl rfl hr4 ?_))
          go_roundw
          case rel => exact ⟨i + 1, at_ + (xn - at_), v4, rfl, by go_num, by go_num, by omega, fun q => by omega, by omega, H4.out⟩
          case measure => simp [intOf]; omega
      · have hic1 : ¬ (i : Int) < (cn : Int) := by omega
        obtain ⟨a2, m2, c2, rfl⟩ := (HBT.out xb at_ vo wr HA.out).2.1
        have hsub : ((xn - at_ : Nat) : Int) = (xn : Int) - (at_ : Int) := by omega
        go_wp2_with (go_at_call 13; refine (CP xb at_ (xn - at_) _ wr HA.out hlt (by omega) _ _ _ (by first | rfl | omega) (by omega) (by first | rfl | omega)).mono ?_; rintro e w2 ⟨rfl, H2⟩)
        go_roundw
        case rel => exact ⟨i + 1, at_ + (xn - at_), _, rfl, by go_num, by go_num, by omega, fun q => by omega, by omega, H2.out⟩
        case measure => simp [intOf]; omega
    · obtain rfl : at_ = xn := by omega
      have hup1 : (at_ : Int) ≤ (N : Int) := by omega
      have hup2 : (N : Int) < (at_ : Int) + (bn : Int) := by omega
      obtain ⟨a2, m2, c2, rfl⟩ := (HBT.out xb at_ vo wr HA.out).2.1
      go_wp2_with (first
        | (go_at_call 15; refine (CF xb _ wr HA.out).mono ?_; rintro e w2 H2; obtain ⟨R, rfl, q2⟩ := H2.out; have H3 : Hid (∃ s P, AllI FI w0 xb s (.slice a2 m2 c2) (gen h x P) w2 ∧ Run s bn h x P ∧ s.whole = N ∧ s.X.length = N ∧ P ≤ at_) := q2; clear H2 q2)
        | (go_at_call 16; refine (CL2 xb _ w2 H3.out).mono ?_; rintro e w3 H4; obtain ⟨a3, c3, m3, rfl, a4, c4, w4, hr4, q4⟩ := H4.out; have H5 : Hid (Lst w4 w0.heap.size 3 1 (.slice a4 N c4) (ints (gen h x N)) ∧ Bt (fun _ => False) w0 w4) := q4; clear H4 q4; have hbc4 := HBC.out w4 H5.out.2)
        | (at_builtin; refine wpList_append_run rfl _ _ 24 24 rfl _ _ _ _ rfl rfl hr4 ?_))
      go_quiet (fail)
      go_wp2
      go_ret2
      exact HE.out a4 c4 _ (H5.out.1.bt ((Bt.refl (fun _ => False) w4).drewN _) (fun _ _ x => x)) (H5.out.2.drewN _)
end Go.Proofs.YtddpcjgekfmhkabDoor

/- Unmoved: the mathematics of one swap, and the calls of a turn. -/
namespace Go.Proofs.YtddpcjgekfmhkabDoor
open Go.RowKit
set_option linter.unusedSimpArgs false
set_option linter.unusedVariables false

/-- A filter in which taps k follow h from place S on. -/
structure Sw (s : FlS) (bn S : Nat) (h k x : List Int) : Prop where
  ok : s.Ok
  B : s.B = bn
  R : s.R = 65536
  parts : s.parts = [(0, h), (S, k)]
  pulled : s.pulled = 0
theorem sw_y {s : FlS} {bn S : Nat} {h k x : List Int} (r : Sw s bn S h k x) (hX : ∀ i, at0 s.X i = at0 x i) (n : Nat) : s.y n = if S ≤ n then yv k x n else yv h x n := by
  unfold FlS.y yv
  have e : tapsAt s.parts n [] = if S ≤ n then k else h := by
    rw [r.parts]
    unfold tapsAt tapsAt tapsAt
    simp
  rw [e]
  split
  · exact flt_congr (fun i _ => hX i)
  · exact flt_congr (fun i _ => hX i)

/-- The states of a turn. -/
theorem turn_states {B V : Int} {bn vn n : Nat} {h k l : List Int} (hB : okBlock B) (hV : 1 ≤ V ∧ V ≤ 64) (hbn : B.toNat = bn) (hvn : V.toNat = vn) (hh : okTaps h) (hk : okTaps k) (hn : n < l.length) (hl : l.length ≤ 1000) (hs : ∀ v ∈ l, okSample v) :
    ∃ s1 s2 s3 s4 : FlS, ∃ S : Nat, (FlS.fresh bn 65536 vn h).Small ∧ s1.Small ∧ s2.Small ∧ s3.Small ∧ s4.Small ∧ pushS (FlS.fresh bn 65536 vn h) (l.take n) = s1 ∧ pushE (FlS.fresh bn 65536 vn h) (l.take n) = 0 ∧ swapS s1 k = s2 ∧ swapR s1 k = (S : Nat) ∧ swapE s1 k = 0 ∧
      pushS s2 (l.drop n) = s3 ∧ pushE s2 (l.drop n) = 0 ∧ flushS s3 = s4 ∧ flushE s3 = 0 ∧ s4.can 65536 = upN bn l.length ∧ n < S ∧ S % bn = 0 ∧ S ≤ 100000 ∧
      ∀ i, i < upN bn l.length → at0 (s4.outs (upN bn l.length)) i = if S ≤ i then yv k l i else yv h l i := by
  have hb16 : 16 ≤ bn ∧ bn ≤ 256 := by unfold okBlock at hB; omega
  obtain ⟨r0, x0⟩ := run_fresh (x := l) hB hV hh
  rw [hbn, hvn] at r0 x0
  have p1 := run_push (k := 0) (n := n) r0 (by rw [x0]; simp) (by omega) hl hs
  rw [List.drop_zero, Nat.zero_add] at p1
  obtain ⟨_, e1, r1, x1⟩ := p1
  generalize hs1 : pushS (FlS.fresh bn 65536 vn h) (l.take n) = s1 at *
  have hx1l : s1.X.length = n := by rw [x1, List.length_take]; omega
  -- the swap
  have hW1 : s1.W = vn := by rw [← hs1]; unfold pushS; split <;> rfl
  have hpend : ¬ 0 ≤ s1.pending := by
    unfold FlS.pending FlS.from
    rw [r1.parts, hx1l]
    simp
  have hsw : swapS s1 k = s1.swapped k ∧ swapR s1 k = (s1.place : Nat) ∧ swapE s1 k = 0 := by
    unfold swapS swapR swapE
    rw [if_neg hpend, if_neg hpend, if_neg hpend, if_pos hk, if_pos hk, if_pos hk]; exact ⟨rfl, rfl, rfl⟩
  have hplt := r1.ok.place_lt
  have ok2 := (r1.ok.swap k).1
  rw [hsw.1] at ok2
  have hSm : s1.place % bn = 0 := by unfold FlS.place; rw [r1.B]; exact Nat.mul_mod_left _ _
  have hSle : s1.place ≤ 100000 := by
    have h1 := r1.ok.w1
    unfold FlS.place
    rw [r1.B, hx1l, Nat.add_mul]
    have h2 := Nat.div_mul_le_self n bn
    have h3 : s1.W * bn ≤ 64 * 256 := Nat.mul_le_mul h1 hb16.2
    omega
  -- the rest
  have hall : ∀ v ∈ l.drop n, okSample v := fun v hv => hs v (List.mem_of_mem_drop hv)
  have hdl : (l.drop n).length = l.length - n := List.length_drop
  have hN2 : pushN (s1.swapped k) (l.drop n) = l.length - n := by
    unfold pushN FlS.room
    show min (l.drop n).length (s1.R - (s1.X.length - s1.pulled)) = _
    rw [hdl, r1.R, hx1l]; omega
  have hp3 : pushS (s1.swapped k) (l.drop n) = (s1.swapped k).more (l.drop n) ∧ pushE (s1.swapped k) (l.drop n) = 0 := by
    unfold pushS pushE
    rw [if_pos hall, if_pos hall, hN2, List.take_of_length_le (by omega)]; exact ⟨rfl, rfl⟩
  have ok3 := (ok2.push (l.drop n)).1
  rw [hp3.1] at ok3
  have hX3 : ((s1.swapped k).more (l.drop n)).X = l := by
    show s1.X ++ l.drop n = l
    rw [x1, List.take_append_drop]
  generalize hs3 : (s1.swapped k).more (l.drop n) = s3 at *
  have hB3 : s3.B = bn := by rw [← hs3]; exact r1.B
  have hR3 : s3.R = 65536 := by rw [← hs3]; exact r1.R
  have hP3 : s3.parts = [(0, h), (s1.place, k)] := by rw [← hs3]; show s1.parts ++ [(s1.place, k)] = _; rw [r1.parts]; rfl
  have hU3 : s3.pulled = 0 := by rw [← hs3]; exact r1.pulled
  -- flush
  have hm : s3.missing < s3.B := Nat.mod_lt _ ok3.B0
  have hroom : ¬ s3.room < s3.missing := by
    unfold FlS.room
    rw [hR3, hX3]; omega
  have hf : flushS s3 = s3.more (List.replicate s3.missing 0) ∧ flushE s3 = 0 := by
    unfold flushS flushE
    rw [if_neg hroom, if_neg hroom]; exact ⟨rfl, rfl⟩
  have ok4 := ok3.flush.1
  rw [hf.1] at ok4
  have hX4 : (s3.more (List.replicate s3.missing 0)).X = l ++ List.replicate s3.missing 0 := by
    show s3.X ++ _ = _; rw [hX3]
  have hlen4 : (s3.more (List.replicate s3.missing 0)).X.length = upN bn l.length := by
    rw [hX4, List.length_append, List.length_replicate]
    unfold FlS.missing upN
    rw [hX3, hB3]
  have sw4 : Sw (s3.more (List.replicate s3.missing 0)) bn s1.place h k l := ⟨ok4, hB3, hR3, hP3, hU3⟩
  have hy4 := sw_y sw4 (fun i => by rw [hX4]; exact at0_zeros l _ i)
  generalize hs4 : s3.more (List.replicate s3.missing 0) = s4 at *
  have hup : upN bn l.length ≤ 1300 := by
    unfold upN
    have := Nat.mod_lt (bn - l.length % bn) (by omega : 0 < bn)
    omega
  have hwh : s4.whole = upN bn l.length := by
    unfold FlS.whole
    rw [hlen4, sw4.B]
    have h1 := Nat.div_add_mod (upN bn l.length) bn
    rw [upN_mod (by omega)] at h1
    rw [Nat.mul_comm]; omega
  refine ⟨s1, s1.swapped k, s3, s4, s1.place, ⟨r0.ok, by rw [x0]; simp, by rw [r0.parts]; simp⟩, ⟨r1.ok, by omega, by rw [r1.parts]; simp⟩, ⟨ok2, by show s1.X.length ≤ _; omega, by show (s1.parts ++ _).length ≤ _; rw [r1.parts]; simp⟩, ⟨ok3, by rw [hX3]; omega, by rw [hP3]; simp⟩, ⟨ok4, by omega, by rw [sw4.parts]; simp⟩, rfl, e1, hsw.1, hsw.2.1, hsw.2.2, hp3.1, hp3.2, hf.1, hf.2, ?_, by omega, hSm, hSle, fun i hi => ?_⟩
  · unfold FlS.can
    rw [hwh, sw4.pulled]
    have e : (65536 : Int).toNat = 65536 := rfl
    rw [e]; omega
  · have e : at0 (s4.outs (upN bn l.length)) i = s4.y (s4.pulled + i) := by
      unfold at0 FlS.outs
      rw [List.getD_eq_getElem?_getD, List.getElem?_map, List.getElem?_range hi]; rfl
    rw [e, sw4.pulled, Nat.zero_add, hy4 i]

theorem AllI.swap {FI : Nat → Nat → FlS → Res} {w wr : World} {xb : Nat} {s : FlS} {vo : Value} {ol : List Int} (ok : FltOk FI) (h : AllI FI w xb s vo ol wr) (hs : s.Small) (a : Option Addr) (c : Nat) (l : List Int) (src : Src wr a (ints l)) (hr : Rng l) (hl : l.length ≤ 1048576) (hlc : l.length ≤ c) (hnil : a = none → c = 0) (hb : ∀ b o, a = some ⟨b, o, none⟩ → b < w.heap.size) :
    Calls Tryd.prog 14 #[.pointer (some ⟨xb, 0, none⟩), .slice a l.length c] wr fun e w' => e = .returned (.tuple #[.int .i64 (swapR s l), .int .i64 (swapE s l)]) ∧ Hid (AllI FI w xb (swapS s l) vo ol w') := by
  obtain ⟨F, h1, h2, h3, h4⟩ := h
  have hF : ∀ k, F k → w.heap.size ≤ k := fun k hk => ((ok.fr _ _ _).lt h1 hk).1
  refine (ok.swap h1 hs a c l src hr hl hlc hnil (fun b o e q => by have := hF b q; have := hb b o e; omega)).mono ?_
  rintro e w' ⟨rfl, F', q1, q2⟩
  exact ⟨rfl, F', q1, h2.bt q2.bt (fun g hg e => h3 g hg e), fun g hg => q2.out (h2.ge hg).2 (h3 g hg), h4.trans q2.bt (fun k hk e => by have := hF k e; omega)⟩
/-- A list of the law's own: where it lies. -/
structure OwnL (w : World) (b o c : Nat) (l : List Int) : Prop where
  tab : Tab w
  src : Src w (some ⟨b, o, none⟩) (ints l)
  rng : Rng l
  len : l.length ≤ 1048576
  cap : l.length ≤ c
  lt : b < w.heap.size
theorem OwnL.bt {w w' : World} {b o c : Nat} {l : List Int} (h : OwnL w b o c l) (k : Bt (fun _ => False) w w') : OwnL w' b o c l := ⟨h.tab.bt k (fun x => x), h.src.bt k (fun _ _ _ x => x), h.rng, h.len, h.cap, Nat.lt_of_lt_of_le h.lt k.size⟩
end Go.Proofs.YtddpcjgekfmhkabDoor

/- Unmoved: the calls of a turn. -/
namespace Go.Proofs.YtddpcjgekfmhkabDoor
open Go.RowKit
set_option linter.unusedSimpArgs false
set_option linter.unusedVariables false

theorem norm_le {h : Nat → Int} {M : Int} : ∀ L : Nat, (∀ i, i < L → -M ≤ h i ∧ h i ≤ M) → norm h L ≤ L * M
  | 0, _ => by unfold norm; simp [sm]
  | L + 1, e => by
    have ih := norm_le L (fun i hi => e i (by omega))
    have hl := e L (by omega)
    have e1 : ((L + 1 : Nat) : Int) * M = L * M + M := by rw [Int.natCast_succ, Int.add_mul, Int.one_mul]
    rw [e1, norm_succ]
    split <;> omega
theorem small_taps {l : List Int} (h0 : 1 ≤ l.length) (h1 : l.length ≤ 1000) (hv : ∀ x ∈ l, -30000 ≤ x ∧ x ≤ 30000) : okTaps l := by
  have := norm_le (h := at0 l) (M := 30000) l.length (fun i hi => hv _ (List.mem_of_getElem? (at0_some hi)))
  exact ⟨h0, by omega, by unfold lnorm; omega⟩

/-- A small list of the law's own, out of small. -/
def SmallT (w : World) (most : Nat) (e : Ending) (w' : World) : Prop := SmallQ w most e w' ∧ Tab w'
theorem SmallQ.tab {w w' : World} {most : Nat} {e : Ending} (h : SmallQ w most e w') (t : Tab w) : SmallT w most e w' := by
  have h0 := h
  obtain ⟨a, c, l, he, hL, h1, h2, h3, h4⟩ := h
  exact ⟨h0, t.bt h4 (fun x => x)⟩
theorem SmallT.own {w w' : World} {most : Nat} {e : Ending} (h : SmallT w most e w') (hm : most ≤ 1000) : ∃ b o c l, e = .returned (.slice (some ⟨b, o, none⟩) (List.length l) c) ∧ OwnL w' b o c l ∧ 1 ≤ l.length ∧ l.length ≤ most ∧ (∀ x ∈ l, -30000 ≤ x ∧ x ≤ 30000) ∧ Bt (fun _ => False) w w' := by
  obtain ⟨⟨a, c, l, he, hL, h1, h2, h3, h4⟩, ht⟩ := h
  obtain ⟨a', c', hv, hc, hs⟩ := hL.form
  rw [ints_len] at hv hc
  simp only [Value.slice.injEq, true_and] at hv
  obtain ⟨rfl, rfl⟩ := hv
  obtain ⟨b, o, rfl, hcell⟩ := hs (by rw [ints_len]; omega)
  have hlt : b < w'.heap.size := by
    obtain ⟨b', o', e', q⟩ := hs.int (at0_some (l := l) (i := 0) (by omega))
    simp at e'
    obtain ⟨rfl, rfl⟩ := e'
    exact World.block_lt_of_cell? w' _ q
  exact ⟨b, o, c, l, he, ⟨ht, hs, fun x hx => by have := h3 x hx; omega, by omega, hc, hlt⟩, h1, h2, h3, h4⟩
theorem OwnL.inl {w : World} {b o c : Nat} {l : List Int} (h : OwnL w b o c l) : InL w (some ⟨b, o, none⟩) c l := ⟨h.tab, h.src, h.rng, h.len, h.cap, fun e => by cases e⟩

/-- all with no cuts, for lists of the law's own. -/
theorem all_at {FI : Nat → Nat → FlS → Res} (ok : FltOk FI) (w : World) (B V : Int) (hB : okBlock B) (hV : 1 ≤ V ∧ V ≤ 64) {bh oh ch bl ol cl : Nat} {h l : List Int} (hh : OwnL w bh oh ch h) (hl : OwnL w bl ol cl l) (h0 : 1 ≤ h.length) (h1 : h.length ≤ 1000) (hv : ∀ x ∈ h, -30000 ≤ x ∧ x ≤ 30000) (l0 : 1 ≤ l.length) (l1 : l.length ≤ 1000) (lv : ∀ x ∈ l, -30000 ≤ x ∧ x ≤ 30000) :
    Calls Tryd.prog 8 #[.agg #[.int .i64 B, .int .i64 65536, .int .i64 V], .slice (some ⟨bh, oh, none⟩) h.length ch, .slice (some ⟨bl, ol, none⟩) l.length cl, .slice none 0 0] w fun e w' => Hid (∃ b o c, e = .returned (.tuple #[.slice (some ⟨b, o, none⟩) (upN B.toNat l.length) c, .bool true]) ∧ (∀ i, i < upN B.toNat l.length → w'.cell? ⟨b, o + i, none⟩ = some (.int .i64 (yv h l i))) ∧ Bt (fun _ => False) w w') := by
  have := all_law ok w B V hB hV (some ⟨bh, oh, none⟩) (some ⟨bl, ol, none⟩) none ch cl 0 h l [] hh.inl hl.inl ⟨hh.tab, src_none _ _, fun x hx => by simp at hx, by simp, by simp, fun _ => rfl⟩ (small_taps h0 h1 hv) (fun v q => by have := lv v q; exact ⟨by omega, by omega⟩) l0 l1
  refine this.mono ?_
  rintro e w' ⟨vo, he, hL, b⟩
  obtain ⟨a, c, rfl, _, hs⟩ := hL.form
  rw [ints_len, gen_len] at he
  have hN : 0 < upN B.toNat l.length := by unfold upN; omega
  obtain ⟨bb, o, rfl, _⟩ := hs (by rw [ints_len, gen_len]; exact hN)
  refine ⟨bb, o, c, he, fun i hi => ?_, b⟩
  obtain ⟨b', o', e', q⟩ := hs.int (at0_some (l := gen h l (upN B.toNat l.length)) (i := i) (by rw [gen_len]; exact hi))
  simp at e'
  obtain ⟨rfl, rfl⟩ := e'
  rw [q, gen_at h l _ i hi]

/-- The calls of a turn. -/
theorem turn_calls {FI : Nat → Nat → FlS → Res} (ok : FltOk FI) (wr : World) (B V : Int) (hB : okBlock B) (hV : 1 ≤ V ∧ V ≤ 64) {bh oh ch bk ok' ck bl ol cl : Nat} {h k l : List Int} (hh : OwnL wr bh oh ch h) (hk : OwnL wr bk ok' ck k) (hl : OwnL wr bl ol cl l) (th : okTaps h) (tk : okTaps k) (l1 : l.length ≤ 1000) (lv : ∀ x ∈ l, -30000 ≤ x ∧ x ≤ 30000) (n : Nat) (hn : n < l.length) :
    ∃ (S : Nat) (M0 M1 M2 M3 M4 : Nat → World → Prop), n < S ∧ S % B.toNat = 0 ∧ S ≤ 100000 ∧
      (Calls Tryd.prog 12 #[.agg #[.int .i64 B, .int .i64 65536, .int .i64 V], .slice (some ⟨bh, oh, none⟩) h.length ch] wr fun e w1 => Hid (∃ xb, e = .returned (.tuple #[.pointer (some ⟨xb, 0, none⟩), .int .i64 0]) ∧ M0 xb w1)) ∧
      (∀ xb w1, M0 xb w1 → Calls Tryd.prog 13 #[.pointer (some ⟨xb, 0, none⟩), .slice (some ⟨bl, ol, none⟩) n cl] w1 fun e w2 => Hid (∃ R : Int, e = .returned (.tuple #[.int .i64 R, .int .i64 0]) ∧ M1 xb w2)) ∧
      (∀ xb w1, M1 xb w1 → Calls Tryd.prog 14 #[.pointer (some ⟨xb, 0, none⟩), .slice (some ⟨bk, ok', none⟩) k.length ck] w1 fun e w2 => e = .returned (.tuple #[.int .i64 (S : Nat), .int .i64 0]) ∧ Hid (M2 xb w2)) ∧
      (∀ xb w1, M2 xb w1 → ∀ o' n' c' : Nat, o' = ol + n → n' = l.length - n → c' = cl - n → Calls Tryd.prog 13 #[.pointer (some ⟨xb, 0, none⟩), .slice (some ⟨bl, o', none⟩) n' c'] w1 fun e w2 => Hid (∃ R : Int, e = .returned (.tuple #[.int .i64 R, .int .i64 0]) ∧ M3 xb w2)) ∧
      (∀ xb w1, M3 xb w1 → Calls Tryd.prog 15 #[.pointer (some ⟨xb, 0, none⟩)] w1 fun e w2 => Hid (∃ R : Int, e = .returned (.tuple #[.int .i64 R, .int .i64 0]) ∧ M4 xb w2)) ∧
      (∀ xb w1, M4 xb w1 → Calls Tryd.prog 16 #[.pointer (some ⟨xb, 0, none⟩), .int .i64 65536] w1 fun e w2 => Hid (∃ lb, e = .returned (.slice (some ⟨lb, 0, none⟩) (upN B.toNat l.length) (upN B.toNat l.length)) ∧ (∀ i, i < upN B.toNat l.length → w2.cell? ⟨lb, i, none⟩ = some (.int .i64 (if S ≤ i then yv k l i else yv h l i))) ∧ Bt (fun _ => False) wr w2)) := by
  have hsm : ∀ v ∈ l, okSample v := fun v q => by have := lv v q; exact ⟨by omega, by omega⟩
  obtain ⟨s1, s2, s3, s4, S, z0, z1, z2, z3, z4, e1, e2, e3, e4, e5, e6, e7, e8, e9, e10, e11, e12, e13, e14⟩ := turn_states (vn := V.toNat) hB hV rfl rfl th tk hn l1 hsm
  have hbt : ∀ {xb s w'}, AllI FI wr xb s (.slice none 0 0) [] w' → Bt (fun _ => False) wr w' := fun q => by obtain ⟨_, _, _, _, b⟩ := q; exact b
  have hlt : (l.take n).length = n := by rw [List.length_take]; omega
  have hld : (l.drop n).length = l.length - n := List.length_drop
  refine ⟨S, fun xb w' => AllI FI wr xb (FlS.fresh B.toNat 65536 V.toNat h) (.slice none 0 0) [] w', fun xb w' => AllI FI wr xb s1 (.slice none 0 0) [] w', fun xb w' => AllI FI wr xb s2 (.slice none 0 0) [] w', fun xb w' => AllI FI wr xb s3 (.slice none 0 0) [] w', fun xb w' => AllI FI wr xb s4 (.slice none 0 0) [] w', e11, e12, e13, ?_, ?_, ?_, ?_, ?_, ?_⟩
  · have okc : okConf B 65536 V := ⟨hB, by unfold okBlock at hB; omega, by omega, hV.1, hV.2⟩
    refine (ok.new wr.heap.size B 65536 V (some ⟨bh, oh, none⟩) ch h wr hh.tab hh.tab.lt (Nat.le_refl _) hh.src hh.rng hh.len hh.cap (fun e => by cases e) (by unfold okBlock at hB; omega) (by omega) (by omega)).mono ?_
    intro e w1 hq
    unfold NewP at hq
    rw [if_pos okc, if_pos th] at hq
    obtain ⟨xb, F, q1, q2, q3, q4⟩ := hq
    exact ⟨xb, q1, F, q2, Lst.nil _ _ _ _, fun g hg => (by cases hg), q4⟩
  · intro xb w1 m
    have hs : Src w1 (some ⟨bl, ol, none⟩) (ints (l.take n)) := by rw [ints_take]; exact (hl.src.bt (hbt m) (fun _ _ _ x => x)).take (ints_el l) n
    have := m.push ok z0 (some ⟨bl, ol, none⟩) cl (l.take n) hs (fun v hv => hl.rng v (List.mem_of_mem_take hv)) (by omega) (by have := hl.cap; omega) (fun e => by cases e) (fun b o e => by simp at e; obtain ⟨rfl, _⟩ := e; exact hl.lt)
    rw [hlt, e2, e1] at this
    refine this.mono ?_
    rintro e w2 ⟨rfl, q⟩
    exact ⟨_, rfl, q.out⟩
  · intro xb w1 m
    have := m.swap ok z1 (some ⟨bk, ok', none⟩) ck k (hk.src.bt (hbt m) (fun _ _ _ x => x)) hk.rng hk.len hk.cap (fun e => by cases e) (fun b o e => by simp at e; obtain ⟨rfl, _⟩ := e; exact hk.lt)
    rw [e3, e4, e5] at this
    exact this
  · rintro xb w1 m o' n' c' rfl rfl rfl
    have hs : Src w1 (some ⟨bl, ol + n, none⟩) (ints (l.drop n)) := Src.of_int (fun i v hi => by
      rw [List.getElem?_drop] at hi
      obtain ⟨b', o', e', q⟩ := hl.src.int hi
      simp at e'
      obtain ⟨rfl, rfl⟩ := e'
      have := (hbt m).cell (fun x => x) q
      rw [← Nat.add_assoc] at this
      exact this)
    have := m.push ok z2 (some ⟨bl, ol + n, none⟩) (cl - n) (l.drop n) hs (fun v hv => hl.rng v (List.mem_of_mem_drop hv)) (by omega) (by have := hl.cap; omega) (fun e => by cases e) (fun b o e => by simp at e; obtain ⟨rfl, _⟩ := e; exact hl.lt)
    rw [hld, e6, e7] at this
    refine this.mono ?_
    rintro e w2 ⟨rfl, q⟩
    exact ⟨_, rfl, q.out⟩
  · intro xb w1 m
    have := m.flush ok z3
    rw [e8, e9] at this
    refine this.mono ?_
    rintro e w2 ⟨rfl, q⟩
    exact ⟨_, rfl, q.out⟩
  · rintro xb w1 ⟨F, q1, q2, q3, q4⟩
    have hN : 0 < upN B.toNat l.length := by unfold upN; omega
    refine (ok.pull q1 z4 65536 (by omega) (by omega)).mono ?_
    rintro e w2 ⟨ao, lb, g1, g2, g3, g4, g5, F', g6, g7, g8⟩
    rw [e10] at g1 g2 g4
    obtain rfl := g2 hN
    have hF : ∀ k, F k → wr.heap.size ≤ k := fun k hk => ((ok.fr _ _ _).lt q1 hk).1
    refine ⟨lb, g1, fun i hi => ?_, q4.trans g7.bt (fun k hk e => by have := hF k e; omega)⟩
    rw [(g4 i hi).1, e14 i hi]
end Go.Proofs.YtddpcjgekfmhkabDoor

/- Ready, walked, whatever filter keeps its contract. -/
namespace Go.Proofs.YtddpcjgekfmhkabDoor
open Go.RowKit
set_option linter.unusedSimpArgs false
set_option linter.unusedVariables false

/-- A filter with room for two blocks, without swaps. -/
structure Rd (s : FlS) (bn i : Nat) : Prop where
  ok : s.Ok
  B : s.B = bn
  R : s.R = 2 * bn
  p1 : s.parts.length = 1
  from0 : s.from = 0
  x : s.X.length ≤ 768 * i
theorem Rd.small {s : FlS} {bn i : Nat} (h : Rd s bn i) (hi : i ≤ 1048577) : s.Small := ⟨h.ok, by have := h.x; omega, by have := h.p1; omega⟩
theorem Rd.pending {s : FlS} {bn i : Nat} (h : Rd s bn i) : s.pending = -1 := by unfold FlS.pending; rw [h.from0, if_neg (by omega)]
theorem zeros_ok (n : Nat) : ∀ v ∈ List.replicate n (0 : Int), okSample v := fun v hv => by rw [List.eq_of_mem_replicate hv]; exact ⟨by omega, by omega⟩
theorem Rd.push {s : FlS} {bn i : Nat} (h : Rd s bn i) (n : Nat) (hn : n ≤ 768) : pushR s (List.replicate n 0) = (min n s.room : Nat) ∧ pushE s (List.replicate n 0) = 0 ∧ Rd (pushS s (List.replicate n 0)) bn (i + 1) ∧ (pushS s (List.replicate n 0)).X.length = s.X.length + min n s.room ∧ (pushS s (List.replicate n 0)).pulled = s.pulled := by
  have hN : pushN s (List.replicate n 0) = min n s.room := by unfold pushN; rw [List.length_replicate]
  have hS : pushS s (List.replicate n 0) = s.more ((List.replicate n 0).take (min n s.room)) := by unfold pushS; rw [if_pos (zeros_ok n), hN]
  have hX : (pushS s (List.replicate n 0)).X.length = s.X.length + min n s.room := by
    rw [hS]
    show (s.X ++ (List.replicate n (0 : Int)).take (min n s.room)).length = _
    rw [List.length_append, List.length_take, List.length_replicate]; omega
  have okp := (h.ok.push (List.replicate n 0)).1
  refine ⟨by unfold pushR; rw [if_pos (zeros_ok n), hN], by unfold pushE; rw [if_pos (zeros_ok n)], ⟨okp, by rw [hS]; exact h.B, by rw [hS]; exact h.R, by rw [hS]; exact h.p1, by rw [hS]; exact h.from0, ?_⟩, hX, by rw [hS]; rfl⟩
  rw [hX]
  have := h.x
  omega
theorem Rd.took {s : FlS} {bn i : Nat} (h : Rd s bn i) (n : Int) : Rd (s.took (s.can n)) bn i := ⟨h.ok.took n, h.B, h.R, h.p1, h.from0, h.x⟩

/-- The filter as it is between the calls. -/
def RdI (FI : Nat → Nat → FlS → Res) (w0 : World) (xb bn i : Nat) (A P : Nat) (wr : World) : Prop := ∃ s, AllI FI w0 xb s (.slice none 0 0) [] wr ∧ Rd s bn i ∧ s.X.length = A ∧ s.pulled = P

section
variable {FI : Nat → Nat → FlS → Res} (ok : FltOk FI) {w0 wr : World} {xb bn i A P : Nat}
theorem RdI.bt {ok : FltOk FI} {w' : World} (h : RdI FI w0 xb bn i A P wr) (b : Bt (fun _ => False) wr w') : RdI FI w0 xb bn i A P w' := by
  obtain ⟨s, ⟨F, h1, h2, h3, h4⟩, q⟩ := h
  exact ⟨s, ⟨F, (ok.fr _ _ _).bt h1 b (fun _ _ x => x), h2.bt b (fun _ _ x => x), h3, h4.trans b (fun _ _ x => x)⟩, q⟩
theorem RdI.facts (h : RdI FI w0 xb bn i A P wr) : P ≤ A / bn * bn ∧ A ≤ P + 2 * bn ∧ A ≤ 768 * i ∧ Bt (fun _ => False) w0 wr := by
  obtain ⟨s, ⟨F, h1, h2, h3, h4⟩, r, rfl, rfl⟩ := h
  have e1 := r.ok.pl
  have e2 := r.ok.rm
  unfold FlS.whole at e1
  rw [r.B] at e1
  rw [r.R] at e2
  exact ⟨e1, e2, r.x, h4⟩
end

theorem rd_new {FI : Nat → Nat → FlS → Res} (ok : FltOk FI) (w : World) (bn : Nat) (V : Int) (hB : okBlock (bn : Int)) (hV : 1 ≤ V ∧ V ≤ 64) {bh oh ch : Nat} {h : List Int} (hh : OwnL w bh oh ch h) (th : okTaps h) (r2 : Int) (hr2 : r2 = 2 * (bn : Int)) :
    Calls Tryd.prog 12 #[.agg #[.int .i64 (bn : Int), .int .i64 r2, .int .i64 V], .slice (some ⟨bh, oh, none⟩) h.length ch] w fun e w1 => Hid (∃ xb, e = .returned (.tuple #[.pointer (some ⟨xb, 0, none⟩), .int .i64 0]) ∧ RdI FI w xb bn 0 0 0 w1) := by
  subst hr2
  have okc : okConf (bn : Int) (2 * (bn : Int)) V := ⟨hB, by omega, by unfold okBlock at hB; omega, hV.1, hV.2⟩
  refine (ok.new w.heap.size (bn : Int) (2 * (bn : Int)) V (some ⟨bh, oh, none⟩) ch h w hh.tab hh.tab.lt (Nat.le_refl _) hh.src hh.rng hh.len hh.cap (fun e => by cases e) (by unfold okBlock at hB; omega) (by unfold okBlock at hB; omega) (by omega)).mono ?_
  intro e w1 hq
  unfold NewP at hq
  rw [if_pos okc, if_pos th] at hq
  obtain ⟨xb, F, q1, q2, q3, q4⟩ := hq
  have okf := FlS.Ok.fresh okc th
  have e1 : (2 * (bn : Int)).toNat = 2 * bn := by omega
  exact ⟨xb, q1, _, ⟨F, q2, Lst.nil _ _ _ _, fun g hg => (by cases hg), q4⟩, ⟨okf, by simp [FlS.fresh], by simp [FlS.fresh, e1], rfl, rfl, Nat.le_refl _⟩, rfl, rfl⟩
theorem rd_push {FI : Nat → Nat → FlS → Res} (ok : FltOk FI) {w0 wr w' : World} {xb bn i A P : Nat} (h : RdI FI w0 xb bn i A P wr) (b : Bt (fun _ => False) wr w') (n : Nat) (hrow : Rw w' wr.heap.size 3 (List.replicate n [.int .i64 0])) (hn : n ≤ 768) (hi : i ≤ 1048576) :
    Calls Tryd.prog 13 #[.pointer (some ⟨xb, 0, none⟩), .slice (some ⟨wr.heap.size, 0, none⟩) n n] w' fun e w'' => e = .returned (.tuple #[.int .i64 ((min n (2 * bn - (A - P)) : Nat) : Int), .int .i64 0]) ∧ Hid (RdI FI w0 xb bn (i + 1) (A + min n (2 * bn - (A - P))) P w'') := by
  obtain ⟨s, ⟨F, h1, h2, h3, h4⟩, r, rfl, rfl⟩ := h
  have hp := r.push n hn
  have hrm : s.room = 2 * bn - (s.X.length - s.pulled) := by unfold FlS.room; rw [r.R]
  rw [hrm] at hp
  have hj := Jr.of_rw hrow
  have hlen : (List.replicate n (0 : Int)).length = n := List.length_replicate
  have hF : ∀ k, F k → k < wr.heap.size := fun k hk => ((ok.fr _ _ _).lt h1 hk).2
  have hF0 : ∀ k, F k → w0.heap.size ≤ k := fun k hk => ((ok.fr _ _ _).lt h1 hk).1
  have := ok.push ((ok.fr _ _ _).bt h1 b (fun _ _ x => x)) (r.small (by omega)) (some ⟨wr.heap.size, 0, none⟩) n (List.replicate n 0) (hj.src _ (by rw [hlen]; exact Nat.le_refl _) (fun i hi => by
    unfold at0
    rw [List.getD_eq_getElem?_getD, List.getElem?_replicate]
    split <;> rfl)) (fun v hv => by rw [List.eq_of_mem_replicate hv]; omega) (by rw [hlen]; omega) (by rw [hlen]; exact Nat.le_refl _) (fun e => by cases e) (fun b' o e q => by simp at e; obtain ⟨rfl, _⟩ := e; exact Nat.lt_irrefl _ (hF _ q))
  rw [hlen, hp.1, hp.2.1] at this
  refine this.mono ?_
  rintro e w'' ⟨rfl, F', q1, q2⟩
  exact ⟨rfl, _, ⟨F', q1, Lst.nil _ _ _ _, fun g hg => (by cases hg), (h4.trans b (fun _ _ x => x)).trans q2.bt (fun k hk e => by have := hF0 k e; omega)⟩, hp.2.2.1, hp.2.2.2.1, hp.2.2.2.2⟩
theorem rd_bad {FI : Nat → Nat → FlS → Res} (ok : FltOk FI) {w0 wr : World} {xb bn i A P : Nat} (h : RdI FI w0 xb bn i A P wr) (hi : i ≤ 1048577) :
    Calls Tryd.prog 13 #[.pointer (some ⟨xb, 0, none⟩), .slice (some ⟨wr.heap.size, 0, none⟩) 1 1] (wr.alloc (.cells #[.int .i64 2147483648] 3)) fun e w'' => e = .returned (.tuple #[.int .i64 0, .int .i64 5]) ∧ Hid (RdI FI w0 xb bn i A P w'') := by
  obtain ⟨s, ⟨F, h1, h2, h3, h4⟩, r, rfl, rfl⟩ := h
  have hbad : ¬ ∀ v ∈ [(2147483648 : Int)], okSample v := fun q => by have := q 2147483648 (by simp); unfold okSample at this; omega
  have e1 : pushR s [2147483648] = 0 ∧ pushE s [2147483648] = 5 ∧ pushS s [2147483648] = s := by
    unfold pushR pushE pushS
    rw [if_neg hbad, if_neg hbad, if_neg hbad]; exact ⟨rfl, rfl, rfl⟩
  have hF : ∀ k, F k → k < wr.heap.size := fun k hk => ((ok.fr _ _ _).lt h1 hk).2
  have hF0 : ∀ k, F k → w0.heap.size ≤ k := fun k hk => ((ok.fr _ _ _).lt h1 hk).1
  have b : Bt (fun _ => False) wr (wr.alloc (.cells #[.int .i64 2147483648] 3)) := (Bt.refl _ _).alloc _
  have := ok.push ((ok.fr _ _ _).bt h1 b (fun _ _ x => x)) (r.small hi) (some ⟨wr.heap.size, 0, none⟩) 1 [2147483648] (Src.of_int (fun j v hj => by
      have hj0 : j = 0 := by
        rcases Nat.eq_zero_or_pos j with e | e
        · exact e
        · rw [List.getElem?_eq_none (by simp; omega)] at hj; cases hj
      subst hj0
      simp at hj
      subst hj
      exact World.cell?_alloc_at _ _ _ _ rfl)) (fun v hv => by simp at hv; omega) (by simp) (by simp) (fun e => by cases e) (fun b' o e q => by simp at e; obtain ⟨rfl, _⟩ := e; exact Nat.lt_irrefl _ (hF _ q))
  rw [e1.1, e1.2.1, e1.2.2] at this
  refine this.mono ?_
  rintro e w'' ⟨rfl, F', q1, q2⟩
  exact ⟨rfl, s, ⟨F', q1, Lst.nil _ _ _ _, fun g hg => (by cases hg), (h4.trans b (fun _ _ x => x)).trans q2.bt (fun k hk e => by have := hF0 k e; omega)⟩, r, rfl, rfl⟩
theorem rd_pull {FI : Nat → Nat → FlS → Res} (ok : FltOk FI) {w0 wr : World} {xb bn i A P : Nat} (h : RdI FI w0 xb bn i A P wr) (hi : i ≤ 1048577) (n : Int) (hn0 : -9223372036854775808 ≤ n) (hn1 : n ≤ 9223372036854775807) :
    Calls Tryd.prog 16 #[.pointer (some ⟨xb, 0, none⟩), .int .i64 n] wr fun e w'' => Hid (∃ ao m, e = .returned (.slice ao m m) ∧ m ≤ 65536 ∧ RdI FI w0 xb bn i A (P + m) w'') := by
  obtain ⟨s, ⟨F, h1, h2, h3, h4⟩, r, rfl, rfl⟩ := h
  have hF0 : ∀ k, F k → w0.heap.size ≤ k := fun k hk => ((ok.fr _ _ _).lt h1 hk).1
  refine (ok.pull h1 (r.small hi) n hn0 hn1).mono ?_
  rintro e w'' ⟨ao, lb, g1, g2, g3, g4, g5, F', g6, g7, g8⟩
  exact ⟨ao, _, g1, r.ok.can_le n, _, ⟨F', g6, Lst.nil _ _ _ _, fun g hg => (by cases hg), h4.trans g7.bt (fun k hk e => by have := hF0 k e; omega)⟩, r.took n, rfl, rfl⟩
theorem rd_state {FI : Nat → Nat → FlS → Res} (ok : FltOk FI) {w0 wr : World} {xb bn i A P : Nat} (h : RdI FI w0 xb bn i A P wr) (hi : i ≤ 1048577) :
    Calls Tryd.prog 17 #[.pointer (some ⟨xb, 0, none⟩)] wr fun e w'' => e = .returned (.agg #[.int .i64 (A : Nat), .int .i64 (P : Nat), .int .i64 ((A / bn * bn - P : Nat) : Int), .int .i64 (-1)]) ∧ Hid (Bt (fun _ => False) wr w'') := by
  obtain ⟨s, ⟨F, h1, h2, h3, h4⟩, r, rfl, rfl⟩ := h
  have := ok.state h1 (r.small hi)
  unfold stateV at this
  rw [r.pending] at this
  unfold FlS.whole at this
  rw [r.B] at this
  exact this
end Go.Proofs.YtddpcjgekfmhkabDoor

/- Ready, walked, whatever filter keeps its contract. -/
namespace Go.Proofs.YtddpcjgekfmhkabDoor
open Go.RowKit
set_option linter.unusedSimpArgs false
set_option linter.unusedVariables false

set_option maxHeartbeats 8000000 in
set_option maxRecDepth 20000 in
theorem ready_core {FI : Nat → Nat → FlS → Res} (ok : FltOk FI) (w : World) (B R V : Int) (a1 a2 : Option Addr) (c1 c2 : Nat) (t1 t2 : List Int) (i1 : InL w a1 c1 t1) (i2 : InL w a2 c2 t2) (rB : I64 B) (rR : I64 R) (rV : I64 V) :
    Calls Tryd.prog 5 #[.agg #[.int .i64 B, .int .i64 R, .int .i64 V], .slice a1 t1.length c1, .slice a2 t2.length c2] w fun e w' => e = .returned (.bool true) ∧ Bt (fun _ => False) w w' := by
  have CF := fun w' => fit_law B R V w' rB rV
  have S1 : ∀ w', Bt (fun _ => False) w w' → Calls Tryd.prog 7 #[.slice a1 t1.length c1, .int .i64 50] w' fun e w'' => Hid (SmallT w' 50 e w'') := fun w' b => (small_law a1 c1 t1 50 w' (i1.bt b).src i1.rng (by have := i1.len; omega) (by omega) (by omega)).mono (fun e w'' q => q.tab (i1.bt b).tab)
  have HP : Hid (∀ i, i < t2.length → (∃ b o, a2 = some ⟨b, o, none⟩ ∧ w.cell? ⟨b, o + i, none⟩ = some (.int .i64 (at0 t2 i))) ∧ -9223372036854775808 ≤ at0 t2 i ∧ at0 t2 i ≤ 9223372036854775807) := fun i hi => ⟨i2.src.int (at0_some hi), i2.rng.at (at0_some hi)⟩
  have HO : Hid (FltOk FI) := ok
  have hl2 := i2.len
  generalize t1.length = n1 at *
  generalize t2.length = n2 at *
  clear i1 i2 ok
  go_enter Tryd.func5, Tryd.ntmps5
  go_wp2_with (go_at_call 9; refine (CF _).mono ?_; rintro e w1 ⟨Bf, Vf, rfl, okB, v0, v1, b1⟩; have H1 : Hid (Bt (fun _ => False) w w1) := ((Bt.refl _ _).alloc _).trans b1 (fun _ _ x => x); have HF : Hid (okBlock Bf ∧ 1 ≤ Vf ∧ Vf ≤ 64) := ⟨okB, v0, v1⟩; have hbf : 16 ≤ Bf ∧ Bf ≤ 256 := (by unfold okBlock at okB; omega); clear okB v0 v1 b1)
  obtain ⟨Bn, rfl⟩ : ∃ Bn : Nat, Bf = Bn := ⟨Bf.toNat, by omega⟩
  have HGC : Hid (∀ w', Bt (fun _ => False) (w1.alloc (.cells #[.int .i64 (Bn : Int), .int .i64 (2 * (Bn : Int)), .int .i64 Vf] 23)) w' → w'.cell? ⟨w1.heap.size, 0, none⟩ = some (.int .i64 (Bn : Int)) ∧ w'.cell? ⟨w1.heap.size, 1, none⟩ = some (.int .i64 (2 * (Bn : Int))) ∧ w'.cell? ⟨w1.heap.size, 2, none⟩ = some (.int .i64 Vf)) := fun w' b => ⟨b.cell (fun x => x) (by simp [go_sem]), b.cell (fun x => x) (by simp [go_sem]), b.cell (fun x => x) (by simp [go_sem])⟩
  have s0 := HGC.out _ (Bt.refl _ _)
  go_region_held3 (fun W => W.cell? ⟨w1.heap.size, 0, none⟩ = some (.int .i64 (Bn : Int)) ∧ W.cell? ⟨w1.heap.size, 1, none⟩ = some (.int .i64 (2 * (Bn : Int))) ∧ W.cell? ⟨w1.heap.size, 2, none⟩ = some (.int .i64 Vf))
    (first
      | exact s4
      | exact s3
      | exact s0)
    (first
      | (go_at_call 7; (with_reducible refine (S1 _ (((H1.out.alloc _)).drew)).mono ?_); rintro e w3 q; obtain ⟨bh, oh, ch, h, rfl, o1, o2, o3, o4, o5⟩ := q.out.own (by omega); have H3 : Hid (OwnL w3 bh oh ch h ∧ okTaps h ∧ Bt (fun _ => False) (w1.alloc (.cells #[.int .i64 (Bn : Int), .int .i64 (2 * (Bn : Int)), .int .i64 Vf] 23)) w3) := ⟨o1, small_taps o2 (by omega) o4, ((Bt.refl _ _).drew).trans o5 (fun _ _ x => x)⟩; clear q o1 o2 o3 o4 o5; have s3 := HGC.out w3 H3.out.2.2)
      | (go_at_call 12; (with_reducible refine (rd_new HO.out w3 Bn Vf HF.out.1 HF.out.2 H3.out.1 H3.out.2.1 _ rfl).mono ?_); rintro e w4 q; obtain ⟨xb, rfl, q2⟩ := q.out; have HR0 : Hid (RdI FI w3 xb Bn 0 0 0 w4) := q2; clear q q2; have s4 := HGC.out w4 (H3.out.2.2.trans HR0.out.facts.2.2.2 (fun _ _ x => x))))
  all_goals
    have HGB : Hid (∀ w', Bt (fun _ => False) w3 w' → w'.cell? ⟨w1.heap.size, 0, none⟩ = some (.int .i64 (Bn : Int)) ∧ w'.cell? ⟨w1.heap.size, 1, none⟩ = some (.int .i64 (2 * (Bn : Int))) ∧ w'.cell? ⟨w1.heap.size, 2, none⟩ = some (.int .i64 Vf)) := fun w' b => HGC.out w' (H3.out.2.2.trans b (fun _ _ x => x))
    have HWB : Hid (Bt (fun _ => False) w w3 ∧ w1.heap.size < w3.heap.size) := ⟨(H1.out.alloc _).trans H3.out.2.2 (fun _ _ x => x), by have := H3.out.2.2.size; simp at this; omega⟩
    have hw13 := HWB.out.2
    clear HGC S1 CF s0 s3 s4
    go_wp2
    go_loopw [10, 11, 12] (fun ta tp ti wr => ∃ (i A P : Nat), ta = .int .i64 A ∧ tp = .int .i64 P ∧ ti = .int .i64 i ∧ i ≤ n2 ∧ Hid (RdI FI w3 xb Bn i A P wr)) (fun _ _ ti _ => n2 - (intOf ti).toNat)
    case atStart => exact ⟨0, 0, 0, rfl, rfl, rfl, Nat.zero_le _, HR0.out⟩
    case round =>
      obtain ⟨i, A, P, rfl, rfl, rfl, hi, HA⟩ := hrel
      obtain ⟨e0, e1, e2, e3⟩ := HA.out.facts
      have hBn0 : ¬ ((Bn : Int) = 0) := by omega
      have hPA : P ≤ A := Nat.le_trans e0 (Nat.div_mul_le_self _ _)
      by_cases hlt : i < n2
      · have hlt1 : (i : Int) < (n2 : Int) := by omega
        obtain ⟨⟨b, o, rfl, ci⟩, r0, r1⟩ := HP.out i hlt
        have ci1 := (HWB.out.1.trans e3 (fun _ _ x => x)).cell (fun x => x) ci
        obtain ⟨g0, g1, g2⟩ := HGB.out wr e3
        have HCI : Hid (w.cell? ⟨b, o + i, none⟩ = some (.int .i64 (at0 t2 i))) := ci
        clear e3 ci e0
        generalize at0 t2 i = c at *
        have CKn := fun w (k : Int) (hk : k = 3 * (Bn : Int)) => pick_keep c k w r0 r1 (by omega) (by omega)
        have hpv := pickv_range c (3 * (Bn : Int)) (by omega)
        have CKn' : ∀ w (k : Int), k = 3 * (Bn : Int) → Calls Tryd.prog 11 #[.int .i64 c, .int .i64 k] w fun e w' => e = .returned (.int .i64 (pickv c (3 * (Bn : Int)))) ∧ w' = w := fun w k hk => hk ▸ CKn w k hk
        clear CKn
        obtain ⟨n, hn⟩ : ∃ n : Nat, pickv c (3 * (Bn : Int)) = n := ⟨(pickv c (3 * (Bn : Int))).toNat, by omega⟩
        have CKn := CKn'
        clear CKn'
        rw [hn] at CKn hpv
        clear hn
        obtain ⟨c7, hc7⟩ : ∃ x, c.tdiv 7 = x := ⟨_, rfl⟩
        have hc7r : -9223372036854775808 ≤ c7 ∧ c7 ≤ 9223372036854775807 := by
          rw [← hc7]
          by_cases h0 : 0 ≤ c
          · rw [Int.tdiv_eq_ediv_of_nonneg h0]; omega
          · have e : c.tdiv 7 = -((-c) / 7) := by
              rw [← Int.tdiv_eq_ediv_of_nonneg (by omega : 0 ≤ -c), Int.neg_tdiv, Int.neg_neg]
            rw [e]; omega
        have hpr := pickv_range c7 (Bn : Int) (by omega)
        have CKp : ∀ w (k : Int), k = (Bn : Int) → Calls Tryd.prog 11 #[.int .i64 c7, .int .i64 k] w fun e w' => e = .returned (.int .i64 (pickv c7 (Bn : Int))) ∧ w' = w := fun w k hk => hk ▸ pick_keep c7 k w hc7r.1 hc7r.2 (by omega) (by omega)
        generalize pickv c7 (Bn : Int) = pr at *
        by_cases hov : 2 * (Bn : Int) - ((A : Int) - (P : Int)) < (n : Int)
        · by_cases hodd : i % 2 = 1
          · have hod1 : (i : Int).tmod 2 = 1 := by rw [Int.tmod_eq_emod_of_nonneg (by omega)]; omega
            have hod2 : (i : Int) % 2 = 1 := by omega
            go_wp2
            go_quiet ((go_at_call 11; exact Calls.quiet_of_same (CKn _ _ (by first | rfl | omega))))
            have HA1 : Hid (RdI FI w3 xb Bn i A P (wr.drewN nq)) := HA.out.bt (ok := HO.out) ((Bt.refl _ _).drewN _)
            obtain ⟨m, hm⟩ : ∃ m : Nat, m = min n (2 * Bn - (A - P)) := ⟨_, rfl⟩
            have CPU := fun w5 b5 h5 => rd_push (w' := w5) HO.out HA1.out b5 n h5 (by omega) (by omega)
            rw [← hm] at CPU
            have hmv : 2 * (Bn : Int) - ((A : Int) - (P : Int)) = (m : Int) := by omega
            have HMV : Hid (m = min n (2 * Bn - (A - P))) := hm
            clear hm
            go_wp2_with (first
              | (at_make; refine wpList_make_el rfl _ _ 24 3 rfl Tryd.underlying24 (.int .i64 0) [.int .i64 0] 1 8 info_num rfl rfl n _ rfl rfl (by first | rfl | omega) (by omega) (by omega) ?_; intro w5 H5)
              | (go_at_call 13; refine (CPU _ H5.out.2.1 H5.out.1).mono ?_; rintro e w6 ⟨rfl, H6⟩; obtain ⟨gb0, gb1, gb2⟩ := HGB.out _ H6.out.facts.2.2.2; have ci6 := (HWB.out.1.trans H6.out.facts.2.2.2 (fun _ _ x => x)).cell (fun x => x) HCI.out))
            have sA : w6.cell? ⟨b, o + i, none⟩ = some (.int .i64 c) ∧ w6.cell? ⟨w1.heap.size, 0, none⟩ = some (.int .i64 (Bn : Int)) := ⟨ci6, gb0⟩
            have CX := rd_pull HO.out (H6.out.bt (ok := HO.out) ((Bt.refl _ w6).drew)) (by omega) pr (by omega) (by omega)
            have hw7 : IntKind.i64.wrap c7 = c7 := IntWalk.i64_in _ (by omega)
            go_region_held3 (fun W => W.cell? ⟨b, o + i, none⟩ = some (.int .i64 c) ∧ W.cell? ⟨w1.heap.size, 0, none⟩ = some (.int .i64 (Bn : Int)))
              (first
                | exact sB
                | exact sA)
              (first
                | (go_at_call 11; (with_reducible refine (CKp _ _ rfl).mono ?_); rintro e w' ⟨rfl, hw⟩; subst w')
                | (go_at_call 16; (with_reducible refine CX.mono ?_); rintro e w8 q; obtain ⟨ao, pm, rfl, hpm, q2⟩ := q.out; have H8 : Hid (RdI FI w3 xb Bn (i + 1) (A + m) (P + pm) w8) := q2; clear q q2; obtain ⟨gd0, gd1, gd2⟩ := HGB.out _ H8.out.facts.2.2.2; have ci8 := (HWB.out.1.trans H8.out.facts.2.2.2 (fun _ _ x => x)).cell (fun x => x) HCI.out; have sB : w8.cell? ⟨b, o + i, none⟩ = some (.int .i64 c) ∧ w8.cell? ⟨w1.heap.size, 0, none⟩ = some (.int .i64 (Bn : Int)) := ⟨ci8, gd0⟩))
            go_wp2_with (go_at_call 17; refine (rd_state HO.out H8.out (by omega)).mono ?_; rintro e w7 ⟨rfl, H7⟩; have z7 : w3.heap.size ≤ w7.heap.size := (by have := H8.out.facts.2.2.2.size; have := H7.out.size; omega); have hx1 : w1.heap.size < w7.heap.size := (by omega); have hx2 : ¬ w7.heap.size = w1.heap.size := (by omega); have hx3 : ¬ w1.heap.size = w7.heap.size := (by omega); obtain ⟨gc0, gc1, gc2⟩ := HGB.out w7 (H8.out.facts.2.2.2.trans H7.out (fun _ _ x => x)); obtain ⟨f0, f1, f2, f3⟩ := H8.out.facts; clear f3; obtain ⟨q, hq⟩ : ∃ q : Nat, (A + m) / Bn = q := ⟨_, rfl⟩; have hq1 : ((A : Int) + (m : Int)).tdiv (Bn : Int) = (q : Int) := (by rw [Int.tdiv_eq_ediv_of_nonneg (by omega), ← hq]; rfl); have hq0 : ((A : Int) + (m : Int)) / (Bn : Int) = (q : Int) := (by rw [← hq]; rfl); obtain ⟨Y, hY⟩ : ∃ Y : Nat, q * Bn = Y := ⟨_, rfl⟩; have hY1 : (q : Int) * (Bn : Int) = (Y : Int) := (by rw [← hY]; push_cast; rfl); rw [hq, hY] at f0; have hrd : (((A + m) / Bn * Bn - (P + pm) : Nat) : Int) = (Y : Int) - ((P + pm : Nat) : Int) := (by rw [hq, hY]; omega); rw [hrd]; have hYle : Y ≤ A + m := (by rw [← hY, ← hq]; exact Nat.div_mul_le_self _ _); have wy : IntKind.i64.wrap ((q : Int) * (Bn : Int)) = (Y : Int) := (by rw [hY1, IntKind.wrap_i64]; omega); have hqle : q ≤ A + m := (by rw [← hq]; exact Nat.div_le_self _ _); have wq : IntKind.i64.wrap (q : Int) = (q : Int) := (by rw [IntKind.wrap_i64]; omega); clear hq hY hrd)
            go_quiet (fail)
            go_wp2
            go_roundw
            case rel => exact ⟨i + 1, A + m, P + pm, by go_num, by rw [IntWalk.i64_in ((P : Int) + (pm : Int)) (by omega)]; push_cast; rfl, by go_num, by omega, H8.out.bt (ok := HO.out) (((H7.out).alloc _).drewN _)⟩
            case measure => simp [intOf]; omega
          · have hod1 : ¬ ((i : Int).tmod 2 = 1) := by rw [Int.tmod_eq_emod_of_nonneg (by omega)]; omega
            have hod2 : ¬ ((i : Int) % 2 = 1) := by omega
            go_wp2
            go_quiet ((go_at_call 11; exact Calls.quiet_of_same (CKn _ _ (by first | rfl | omega))))
            have HA1 : Hid (RdI FI w3 xb Bn i A P (wr.drewN nq)) := HA.out.bt (ok := HO.out) ((Bt.refl _ _).drewN _)
            obtain ⟨m, hm⟩ : ∃ m : Nat, m = min n (2 * Bn - (A - P)) := ⟨_, rfl⟩
            have CPU := fun w5 b5 h5 => rd_push (w' := w5) HO.out HA1.out b5 n h5 (by omega) (by omega)
            rw [← hm] at CPU
            have hmv : 2 * (Bn : Int) - ((A : Int) - (P : Int)) = (m : Int) := by omega
            have HMV : Hid (m = min n (2 * Bn - (A - P))) := hm
            clear hm
            go_wp2_with (first
              | (at_make; refine wpList_make_el rfl _ _ 24 3 rfl Tryd.underlying24 (.int .i64 0) [.int .i64 0] 1 8 info_num rfl rfl n _ rfl rfl (by first | rfl | omega) (by omega) (by omega) ?_; intro w5 H5)
              | (go_at_call 13; refine (CPU _ H5.out.2.1 H5.out.1).mono ?_; rintro e w6 ⟨rfl, H6⟩; obtain ⟨f0, f1, f2, f3⟩ := H6.out.facts; obtain ⟨gb0, gb1, gb2⟩ := HGB.out _ f3; clear f3)
              | (go_at_call 17; refine (rd_state HO.out H6.out (by omega)).mono ?_; rintro e w7 ⟨rfl, H7⟩; have z7 : w3.heap.size ≤ w7.heap.size := (by have := H6.out.facts.2.2.2.size; have := H7.out.size; omega); have hx1 : w1.heap.size < w7.heap.size := (by omega); have hx2 : ¬ w7.heap.size = w1.heap.size := (by omega); have hx3 : ¬ w1.heap.size = w7.heap.size := (by omega); obtain ⟨gc0, gc1, gc2⟩ := HGB.out w7 (H6.out.facts.2.2.2.trans H7.out (fun _ _ x => x)); obtain ⟨q, hq⟩ : ∃ q : Nat, (A + m) / Bn = q := ⟨_, rfl⟩; have hq1 : ((A : Int) + (m : Int)).tdiv (Bn : Int) = (q : Int) := (by rw [Int.tdiv_eq_ediv_of_nonneg (by omega), ← hq]; rfl); have hq0 : ((A : Int) + (m : Int)) / (Bn : Int) = (q : Int) := (by rw [← hq]; rfl); obtain ⟨Y, hY⟩ : ∃ Y : Nat, q * Bn = Y := ⟨_, rfl⟩; have hY1 : (q : Int) * (Bn : Int) = (Y : Int) := (by rw [← hY]; push_cast; rfl); rw [hq, hY] at f0; have hrd : (((A + m) / Bn * Bn - P : Nat) : Int) = (Y : Int) - (P : Int) := (by rw [hq, hY]; omega); rw [hrd]; have hYle : Y ≤ A + m := (by rw [← hY, ← hq]; exact Nat.div_mul_le_self _ _); have wy : IntKind.i64.wrap ((q : Int) * (Bn : Int)) = (Y : Int) := (by rw [hY1, IntKind.wrap_i64]; omega); have hqle : q ≤ A + m := (by rw [← hq]; exact Nat.div_le_self _ _); have wq : IntKind.i64.wrap (q : Int) = (q : Int) := (by rw [IntKind.wrap_i64]; omega); clear hq hY hrd))
            go_quiet (fail)
            go_wp2
            go_roundw
            case rel => exact ⟨i + 1, A + m, P, by go_num, rfl, by go_num, by omega, H6.out.bt (ok := HO.out) (((H7.out).alloc _).drewN _)⟩
            case measure => simp [intOf]; omega
        · by_cases hodd : i % 2 = 1
          · have hod1 : (i : Int).tmod 2 = 1 := by rw [Int.tmod_eq_emod_of_nonneg (by omega)]; omega
            have hod2 : (i : Int) % 2 = 1 := by omega
            go_wp2
            go_quiet ((go_at_call 11; exact Calls.quiet_of_same (CKn _ _ (by first | rfl | omega))))
            have HA1 : Hid (RdI FI w3 xb Bn i A P (wr.drewN nq)) := HA.out.bt (ok := HO.out) ((Bt.refl _ _).drewN _)
            obtain ⟨m, hm⟩ : ∃ m : Nat, m = min n (2 * Bn - (A - P)) := ⟨_, rfl⟩
            have CPU := fun w5 b5 h5 => rd_push (w' := w5) HO.out HA1.out b5 n h5 (by omega) (by omega)
            rw [← hm] at CPU
            have hmv : (n : Int) = (m : Int) := by omega
            have HMV : Hid (m = min n (2 * Bn - (A - P))) := hm
            clear hm
            go_wp2_with (first
              | (at_make; refine wpList_make_el rfl _ _ 24 3 rfl Tryd.underlying24 (.int .i64 0) [.int .i64 0] 1 8 info_num rfl rfl n _ rfl rfl (by first | rfl | omega) (by omega) (by omega) ?_; intro w5 H5)
              | (go_at_call 13; refine (CPU _ H5.out.2.1 H5.out.1).mono ?_; rintro e w6 ⟨rfl, H6⟩; obtain ⟨gb0, gb1, gb2⟩ := HGB.out _ H6.out.facts.2.2.2; have ci6 := (HWB.out.1.trans H6.out.facts.2.2.2 (fun _ _ x => x)).cell (fun x => x) HCI.out))
            have sA : w6.cell? ⟨b, o + i, none⟩ = some (.int .i64 c) ∧ w6.cell? ⟨w1.heap.size, 0, none⟩ = some (.int .i64 (Bn : Int)) := ⟨ci6, gb0⟩
            have CX := rd_pull HO.out (H6.out.bt (ok := HO.out) ((Bt.refl _ w6).drew)) (by omega) pr (by omega) (by omega)
            have hw7 : IntKind.i64.wrap c7 = c7 := IntWalk.i64_in _ (by omega)
            go_region_held3 (fun W => W.cell? ⟨b, o + i, none⟩ = some (.int .i64 c) ∧ W.cell? ⟨w1.heap.size, 0, none⟩ = some (.int .i64 (Bn : Int)))
              (first
                | exact sB
                | exact sA)
              (first
                | (go_at_call 11; (with_reducible refine (CKp _ _ rfl).mono ?_); rintro e w' ⟨rfl, hw⟩; subst w')
                | (go_at_call 16; (with_reducible refine CX.mono ?_); rintro e w8 q; obtain ⟨ao, pm, rfl, hpm, q2⟩ := q.out; have H8 : Hid (RdI FI w3 xb Bn (i + 1) (A + m) (P + pm) w8) := q2; clear q q2; obtain ⟨gd0, gd1, gd2⟩ := HGB.out _ H8.out.facts.2.2.2; have ci8 := (HWB.out.1.trans H8.out.facts.2.2.2 (fun _ _ x => x)).cell (fun x => x) HCI.out; have sB : w8.cell? ⟨b, o + i, none⟩ = some (.int .i64 c) ∧ w8.cell? ⟨w1.heap.size, 0, none⟩ = some (.int .i64 (Bn : Int)) := ⟨ci8, gd0⟩))
            go_wp2_with (go_at_call 17; refine (rd_state HO.out H8.out (by omega)).mono ?_; rintro e w7 ⟨rfl, H7⟩; have z7 : w3.heap.size ≤ w7.heap.size := (by have := H8.out.facts.2.2.2.size; have := H7.out.size; omega); have hx1 : w1.heap.size < w7.heap.size := (by omega); have hx2 : ¬ w7.heap.size = w1.heap.size := (by omega); have hx3 : ¬ w1.heap.size = w7.heap.size := (by omega); obtain ⟨gc0, gc1, gc2⟩ := HGB.out w7 (H8.out.facts.2.2.2.trans H7.out (fun _ _ x => x)); obtain ⟨f0, f1, f2, f3⟩ := H8.out.facts; clear f3; obtain ⟨q, hq⟩ : ∃ q : Nat, (A + m) / Bn = q := ⟨_, rfl⟩; have hq1 : ((A : Int) + (m : Int)).tdiv (Bn : Int) = (q : Int) := (by rw [Int.tdiv_eq_ediv_of_nonneg (by omega), ← hq]; rfl); have hq0 : ((A : Int) + (m : Int)) / (Bn : Int) = (q : Int) := (by rw [← hq]; rfl); obtain ⟨Y, hY⟩ : ∃ Y : Nat, q * Bn = Y := ⟨_, rfl⟩; have hY1 : (q : Int) * (Bn : Int) = (Y : Int) := (by rw [← hY]; push_cast; rfl); rw [hq, hY] at f0; have hrd : (((A + m) / Bn * Bn - (P + pm) : Nat) : Int) = (Y : Int) - ((P + pm : Nat) : Int) := (by rw [hq, hY]; omega); rw [hrd]; have hYle : Y ≤ A + m := (by rw [← hY, ← hq]; exact Nat.div_mul_le_self _ _); have wy : IntKind.i64.wrap ((q : Int) * (Bn : Int)) = (Y : Int) := (by rw [hY1, IntKind.wrap_i64]; omega); have hqle : q ≤ A + m := (by rw [← hq]; exact Nat.div_le_self _ _); have wq : IntKind.i64.wrap (q : Int) = (q : Int) := (by rw [IntKind.wrap_i64]; omega); clear hq hY hrd)
            go_quiet (fail)
            go_wp2
            go_roundw
            case rel => exact ⟨i + 1, A + m, P + pm, by go_num, by rw [IntWalk.i64_in ((P : Int) + (pm : Int)) (by omega)]; push_cast; rfl, by go_num, by omega, H8.out.bt (ok := HO.out) (((H7.out).alloc _).drewN _)⟩
            case measure => simp [intOf]; omega
          · have hod1 : ¬ ((i : Int).tmod 2 = 1) := by rw [Int.tmod_eq_emod_of_nonneg (by omega)]; omega
            have hod2 : ¬ ((i : Int) % 2 = 1) := by omega
            go_wp2
            go_quiet ((go_at_call 11; exact Calls.quiet_of_same (CKn _ _ (by first | rfl | omega))))
            have HA1 : Hid (RdI FI w3 xb Bn i A P (wr.drewN nq)) := HA.out.bt (ok := HO.out) ((Bt.refl _ _).drewN _)
            obtain ⟨m, hm⟩ : ∃ m : Nat, m = min n (2 * Bn - (A - P)) := ⟨_, rfl⟩
            have CPU := fun w5 b5 h5 => rd_push (w' := w5) HO.out HA1.out b5 n h5 (by omega) (by omega)
            rw [← hm] at CPU
            have hmv : (n : Int) = (m : Int) := by omega
            have HMV : Hid (m = min n (2 * Bn - (A - P))) := hm
            clear hm
            go_wp2_with (first
              | (at_make; refine wpList_make_el rfl _ _ 24 3 rfl Tryd.underlying24 (.int .i64 0) [.int .i64 0] 1 8 info_num rfl rfl n _ rfl rfl (by first | rfl | omega) (by omega) (by omega) ?_; intro w5 H5)
              | (go_at_call 13; refine (CPU _ H5.out.2.1 H5.out.1).mono ?_; rintro e w6 ⟨rfl, H6⟩; obtain ⟨f0, f1, f2, f3⟩ := H6.out.facts; obtain ⟨gb0, gb1, gb2⟩ := HGB.out _ f3; clear f3)
              | (go_at_call 17; refine (rd_state HO.out H6.out (by omega)).mono ?_; rintro e w7 ⟨rfl, H7⟩; have z7 : w3.heap.size ≤ w7.heap.size := (by have := H6.out.facts.2.2.2.size; have := H7.out.size; omega); have hx1 : w1.heap.size < w7.heap.size := (by omega); have hx2 : ¬ w7.heap.size = w1.heap.size := (by omega); have hx3 : ¬ w1.heap.size = w7.heap.size := (by omega); obtain ⟨gc0, gc1, gc2⟩ := HGB.out w7 (H6.out.facts.2.2.2.trans H7.out (fun _ _ x => x)); obtain ⟨q, hq⟩ : ∃ q : Nat, (A + m) / Bn = q := ⟨_, rfl⟩; have hq1 : ((A : Int) + (m : Int)).tdiv (Bn : Int) = (q : Int) := (by rw [Int.tdiv_eq_ediv_of_nonneg (by omega), ← hq]; rfl); have hq0 : ((A : Int) + (m : Int)) / (Bn : Int) = (q : Int) := (by rw [← hq]; rfl); obtain ⟨Y, hY⟩ : ∃ Y : Nat, q * Bn = Y := ⟨_, rfl⟩; have hY1 : (q : Int) * (Bn : Int) = (Y : Int) := (by rw [← hY]; push_cast; rfl); rw [hq, hY] at f0; have hrd : (((A + m) / Bn * Bn - P : Nat) : Int) = (Y : Int) - (P : Int) := (by rw [hq, hY]; omega); rw [hrd]; have hYle : Y ≤ A + m := (by rw [← hY, ← hq]; exact Nat.div_mul_le_self _ _); have wy : IntKind.i64.wrap ((q : Int) * (Bn : Int)) = (Y : Int) := (by rw [hY1, IntKind.wrap_i64]; omega); have hqle : q ≤ A + m := (by rw [← hq]; exact Nat.div_le_self _ _); have wq : IntKind.i64.wrap (q : Int) = (q : Int) := (by rw [IntKind.wrap_i64]; omega); clear hq hY hrd))
            go_quiet (fail)
            go_wp2
            go_roundw
            case rel => exact ⟨i + 1, A + m, P, by go_num, rfl, by go_num, by omega, H6.out.bt (ok := HO.out) (((H7.out).alloc _).drewN _)⟩
            case measure => simp [intOf]; omega
      · obtain rfl : i = n2 := by omega
        have CB := rd_bad HO.out HA.out (by omega)
        have HFd : ∀ (x y z u : Value) (W : World), (Instr.field 43 (.agg #[x, y, z, u]) 0).run Tryd.prog W = .ok x W := fun x y z u W => by kernel_rfl
        clear e0 e3
        go_wp2_with (first
          | (go_at_call 13; refine CB.mono ?_; rintro e w6 ⟨rfl, H6⟩)
          | (go_at_call 17; refine (rd_state HO.out H6.out (by omega)).mono ?_; rintro e w7 ⟨rfl, H7⟩; have hfd := HFd (.int .i64 A) (.int .i64 P) (.int .i64 ((A / Bn * Bn - P : Nat) : Int)) (.int .i64 (-1)) w7; clear HFd))
        go_ret
        exact ⟨rfl, (HWB.out.1.trans H6.out.facts.2.2.2 (fun _ _ x => x)).trans H7.out (fun _ _ x => x)⟩
end Go.Proofs.YtddpcjgekfmhkabDoor

/- The statement Ready: its second form's row, whatever filter keeps its contract. -/
namespace Go.Proofs.YtddpcjgekfmhkabDoor.ready
open Go.ChangeShapes Go.WideShapes Go.ChangeAt Go.RowKit
set_option linter.unusedVariables false

theorem cells_ac : Tryd.prog.cellsOf 23 = 3 := by kernel_rfl
set_option maxRecDepth 20000 in
/-- A configuration that came in. -/
theorem acon_in {H : Type} {enc : TypeId × Value → H} {W : World} {cs : Array Value} {fuel : Nat} {x : DataW H × List MemPlace} (hs : cs.size = Tryd.prog.cellsOf 23) (h : DataW.trod enc Tryd.prog W 0 (fun _ => true) true fuel 23 (Value.agg cs).cells.toList = some x) :
    ∃ B R V : Int, cs = #[.int .i64 B, .int .i64 R, .int .i64 V] ∧ I64 B ∧ I64 R ∧ I64 V := by
  obtain ⟨xs, k, hk, hxy, _, hxl, hf⟩ := DataW.trod_struct Tryd.underlying23 h
  rw [cells_ac] at hs
  obtain ⟨l⟩ := cs
  match l, hs, xs, hxl with
  | [v0, v1, v2], _, [y0, y1, y2], _ =>
    have g0 := hf 0 _ rfl
    have g1 := hf 1 _ rfl
    have g2 := hf 2 _ rfl
    simp [cells_int, Value.cells] at g0 g1 g2
    obtain ⟨z0, q0, _, w0⟩ := DataW.trod_int Tryd.underlying3 g0
    obtain ⟨z1, q1, _, w1⟩ := DataW.trod_int Tryd.underlying3 g1
    obtain ⟨z2, q2, _, w2⟩ := DataW.trod_int Tryd.underlying3 g2
    simp at q0 q1 q2
    subst q0 q1 q2
    exact ⟨z0, z1, z2, rfl, bounds_i64 w0, bounds_i64 w1, bounds_i64 w2⟩

theorem gTab : Tryd.prog.globalNamed "math/bits.deBruijn64tab" = some 1 := by kernel_rfl
theorem gType : (Tryd.prog.globals[1]?).map (·.type) = some 142 := by kernel_rfl
theorem cells64 : Tryd.prog.cellsOf 142 = 64 := by kernel_rfl
theorem cells8 : Tryd.prog.cellsOf 5 = 1 := by kernel_rfl
/-- What the row's list gives: the table's cells. -/
theorem tab_of {W : World} (h : laidMetH Tryd.prog Rows.readyUptoRow.laid W) : Tab W := by
  have h' : laidMet Tryd.prog [("math/bits.deBruijn32tab", Rows.laid_math_bits_deBruijn32tab), ("math/bits.deBruijn64tab", Lib.tabData .u8 tzTab)] W := h
  obtain ⟨ps, ⟨g0, t0, cs0, f0, p0, q0, hg0, ht0, hv0, hd0, ⟨g1, t1, cs1, f1, p1, q1, hg1, ht1, hv1, hd1, _, _⟩, _⟩, _⟩ := h'
  obtain rfl := Option.some.inj (gTab.symm.trans hg1)
  obtain rfl := Option.some.inj (gType.symm.trans ht1)
  have e := Lib.cells_of_tab Tryd.underlying142 Tryd.underlying5 cells8 cells64 hd1
  intro i hi
  have hc := World.var?_cell hg1 hv1 i
  rw [hc]
  have hl : tzTab.length = 64 := rfl
  have e2 : cs1[i]? = cs1.toList[i]? := by simp
  rw [e2, e]
  simp [List.getD, hl, hi]

set_option maxRecDepth 100000 in
theorem contract {FI : Nat → Nat → FlS → Res} (ok : FltOk FI) (H : Type) (enc : TypeId × Value → H) (W : World) (base : Nat) (args : Array Value) (ds gs : List (DataW H)) (before : List MemPlace)
    (hval : ∀ (j : Nat) t v, Tryd.f5.params[j]? = some t → args[j]? = some v → Value.okWide Tryd.prog W .any base t v)
    (hW : DataW.Whole enc Tryd.prog Tryd.f5.params.toList Rows.readySpec.vars false W args.toList ds gs before) (hL : laidMetH Tryd.prog Rows.readyUptoRow.laid W) (hB : Rows.uptoBulkAll (ds ++ gs) ≤ 1048576) :
    Calls Tryd.prog 5 args W fun e W' => ∃ v, e = .returned v ∧ Rows.readySpec.post enc Tryd.prog Tryd.f5 false true false false W args v W' := by
  have hW' := hW
  obtain ⟨p, q, hA0, hV, rfl, hfz, hnd⟩ := hW
  have hA : DataW.TrodAll enc Tryd.prog W 0 (fun _ => true) true Tryd.f5.params.toList args.toList ds p := hA0
  rw [Tryd.params5] at hA hval
  obtain ⟨v0, vs0, d0, ds0, p0, q0, hargs, rfl, rfl, h0, r0⟩ := trodAll_cons hA
  obtain ⟨v1, vs1, d1, ds1, p1, q1, rfl, rfl, rfl, h1, r1⟩ := trodAll_cons r0
  obtain ⟨v2, vs2, d2, ds2, p2, q2, rfl, rfl, rfl, h2, r2⟩ := trodAll_cons r1
  obtain ⟨rfl, rfl, rfl⟩ := trodAll_nil r2
  obtain rfl : args = #[v0, v1, v2] := by cases args; simp_all
  obtain ⟨rfl, rfl⟩ := trodVars_none hV
  obtain ⟨cs0, rfl, hs0⟩ := okWide_struct Tryd.underlying23 (hval 0 23 v0 rfl rfl)
  obtain ⟨a1, len1, cap1, rfl⟩ := okWide_slice Tryd.underlying24 (hval 1 24 v1 rfl rfl)
  obtain ⟨a2, len2, cap2, rfl⟩ := okWide_slice Tryd.underlying24 (hval 2 24 v2 rfl rfl)
  have k0 := h0
  have lt0 : ∀ x ∈ p0, x.block < W.heap.size := by obtain ⟨m, hm⟩ := k0; exact DataW.trod_lt m _ _ _ hm
  have k1 := h1
  have lt1 : ∀ x ∈ p1, x.block < W.heap.size := by obtain ⟨m, hm⟩ := k1; exact DataW.trod_lt m _ _ _ hm
  have k2 := h2
  have lt2 : ∀ x ∈ p2, x.block < W.heap.size := by obtain ⟨m, hm⟩ := k2; exact DataW.trod_lt m _ _ _ hm
  have hB' : Rows.uptoBulk d0 + (Rows.uptoBulk d1 + (Rows.uptoBulk d2 + (0))) ≤ 1048576 := hB
  obtain ⟨f0, hf0⟩ := h0
  obtain ⟨f1, hf1⟩ := h1
  obtain ⟨f2, hf2⟩ := h2
  obtain ⟨B0, R0, V0, rfl, x0, y0, z0⟩ := acon_in hs0 hf0
  obtain ⟨l1, rfl, i1, _⟩ := nums_in hf1 (by omega) (tab_of hL)
  obtain ⟨l2, rfl, i2, _⟩ := nums_in hf2 (by omega) (tab_of hL)
  clear hA0
  refine (ready_core ok W B0 R0 V0 a1 a2 cap1 cap2 l1 l2 i1 i2 x0 y0 z0).mono fun e W' ⟨he, bt⟩ => ?_
  have bel : Below W.heap.size W W' := bt.below (Nat.le_refl _) (fun _ _ x => x)
  subst he
  exact ⟨_, rfl, _, _, _, [], _, [], hW', trodAll_mk1 (shut_bool Tryd.underlying4 _), (trodAll_cons_mk (Below.trod laid_out (by kernel_rfl) (of_decide_eq_true (by kernel_rfl)) k0 bel lt0) (trodAll_cons_mk (Below.trod laid_out (by kernel_rfl) (of_decide_eq_true (by kernel_rfl)) k1 bel lt1) (trodAll_cons_mk (Below.trod laid_out (by kernel_rfl) (of_decide_eq_true (by kernel_rfl)) k2 bel lt2) trodAll_mk0))), rfl, bel.frame _, fun h => by cases h⟩

theorem laid_met (os : Os) : laidMet Tryd.prog Rows.readyUptoRow.laid (({ World.holding Tryd.prog os ⟨#[], #[], []⟩ with heap := ((World.holding Tryd.prog os ⟨#[], #[], []⟩).heap.modify 0 fun | .cells _ t frozen => .cells #[.int .u8 0, .int .u8 1, .int .u8 28, .int .u8 2, .int .u8 29, .int .u8 14, .int .u8 24, .int .u8 3, .int .u8 30, .int .u8 22, .int .u8 20, .int .u8 15, .int .u8 25, .int .u8 17, .int .u8 4, .int .u8 8, .int .u8 31, .int .u8 27, .int .u8 13, .int .u8 23, .int .u8 21, .int .u8 19, .int .u8 16, .int .u8 7, .int .u8 26, .int .u8 12, .int .u8 18, .int .u8 6, .int .u8 11, .int .u8 5, .int .u8 10, .int .u8 9] t frozen | o => o).modify 1 fun | .cells _ t frozen => .cells #[.int .u8 0, .int .u8 1, .int .u8 56, .int .u8 2, .int .u8 57, .int .u8 49, .int .u8 28, .int .u8 3, .int .u8 61, .int .u8 58, .int .u8 42, .int .u8 50, .int .u8 38, .int .u8 29, .int .u8 17, .int .u8 4, .int .u8 62, .int .u8 47, .int .u8 59, .int .u8 36, .int .u8 45, .int .u8 43, .int .u8 51, .int .u8 22, .int .u8 53, .int .u8 39, .int .u8 33, .int .u8 30, .int .u8 24, .int .u8 18, .int .u8 12, .int .u8 5, .int .u8 63, .int .u8 55, .int .u8 48, .int .u8 27, .int .u8 60, .int .u8 41, .int .u8 37, .int .u8 16, .int .u8 46, .int .u8 35, .int .u8 44, .int .u8 21, .int .u8 52, .int .u8 32, .int .u8 23, .int .u8 11, .int .u8 54, .int .u8 26, .int .u8 40, .int .u8 15, .int .u8 34, .int .u8 20, .int .u8 31, .int .u8 10, .int .u8 25, .int .u8 14, .int .u8 19, .int .u8 9, .int .u8 13, .int .u8 8, .int .u8 7, .int .u8 6] t frozen | o => o } : World).forCall (fun _ _ => 0) ⟨#[], #[.agg #[.int .i64 0, .int .i64 0, .int .i64 0], .slice none 0 0, .slice none 0 0], []⟩).memory :=
  laidMet_of_run' 8 (by kernel_rfl) (by kernel_rfl)
theorem reads (os : Os) {H : Type} (enc : TypeId × Value → H) : ∃ places, DataW.whole enc Tryd.prog (({ World.holding Tryd.prog os ⟨#[], #[], []⟩ with heap := ((World.holding Tryd.prog os ⟨#[], #[], []⟩).heap.modify 0 fun | .cells _ t frozen => .cells #[.int .u8 0, .int .u8 1, .int .u8 28, .int .u8 2, .int .u8 29, .int .u8 14, .int .u8 24, .int .u8 3, .int .u8 30, .int .u8 22, .int .u8 20, .int .u8 15, .int .u8 25, .int .u8 17, .int .u8 4, .int .u8 8, .int .u8 31, .int .u8 27, .int .u8 13, .int .u8 23, .int .u8 21, .int .u8 19, .int .u8 16, .int .u8 7, .int .u8 26, .int .u8 12, .int .u8 18, .int .u8 6, .int .u8 11, .int .u8 5, .int .u8 10, .int .u8 9] t frozen | o => o).modify 1 fun | .cells _ t frozen => .cells #[.int .u8 0, .int .u8 1, .int .u8 56, .int .u8 2, .int .u8 57, .int .u8 49, .int .u8 28, .int .u8 3, .int .u8 61, .int .u8 58, .int .u8 42, .int .u8 50, .int .u8 38, .int .u8 29, .int .u8 17, .int .u8 4, .int .u8 62, .int .u8 47, .int .u8 59, .int .u8 36, .int .u8 45, .int .u8 43, .int .u8 51, .int .u8 22, .int .u8 53, .int .u8 39, .int .u8 33, .int .u8 30, .int .u8 24, .int .u8 18, .int .u8 12, .int .u8 5, .int .u8 63, .int .u8 55, .int .u8 48, .int .u8 27, .int .u8 60, .int .u8 41, .int .u8 37, .int .u8 16, .int .u8 46, .int .u8 35, .int .u8 44, .int .u8 21, .int .u8 52, .int .u8 32, .int .u8 23, .int .u8 11, .int .u8 54, .int .u8 26, .int .u8 40, .int .u8 15, .int .u8 34, .int .u8 20, .int .u8 31, .int .u8 10, .int .u8 25, .int .u8 14, .int .u8 19, .int .u8 9, .int .u8 13, .int .u8 8, .int .u8 7, .int .u8 6] t frozen | o => o } : World).forCall (fun _ _ => 0) ⟨#[], #[.agg #[.int .i64 0, .int .i64 0, .int .i64 0], .slice none 0 0, .slice none 0 0], []⟩).memory Tryd.f5.params.toList Rows.readySpec.vars false (#[.agg #[.int .i64 0, .int .i64 0, .int .i64 0], .slice none 0 0, .slice none 0 0] : Array Value).toList 8 = some ([.agg [.lit (.int .i64 0), .lit (.int .i64 0), .lit (.int .i64 0)], .nil, .nil], [], places) :=
  ⟨[], by kernel_rfl⟩

set_option maxRecDepth 100000 in
theorem lifted {FI : Nat → Nat → FlS → Res} (ok : FltOk FI) (os : Os) (started : os.Started) (H : Type) (enc : TypeId × Value → H) (F : Stop.Interp) :
    ReturnsInHanded {} Tryd.checked os 5 .any ((Rows.OpenSpec.upto Rows.readySpec).preRow enc Tryd.prog Tryd.f5 Rows.readyUptoRow.domain false Rows.readyUptoRow.laid) (((Rows.OpenSpec.upto Rows.readySpec).at F).post enc Tryd.prog Tryd.f5 false true false false) := by
  obtain ⟨places, hx⟩ := reads os enc
  refine returnsInHanded_of_row (C := Tryd.checked) (s := Rows.OpenSpec.upto Rows.readySpec) own_knob started (by kernel_rfl) Tryd.func5
    (witness_row_at (enc := enc) (C := Tryd.checked) false ({ World.holding Tryd.prog os ⟨#[], #[], []⟩ with heap := ((World.holding Tryd.prog os ⟨#[], #[], []⟩).heap.modify 0 fun | .cells _ t frozen => .cells #[.int .u8 0, .int .u8 1, .int .u8 28, .int .u8 2, .int .u8 29, .int .u8 14, .int .u8 24, .int .u8 3, .int .u8 30, .int .u8 22, .int .u8 20, .int .u8 15, .int .u8 25, .int .u8 17, .int .u8 4, .int .u8 8, .int .u8 31, .int .u8 27, .int .u8 13, .int .u8 23, .int .u8 21, .int .u8 19, .int .u8 16, .int .u8 7, .int .u8 26, .int .u8 12, .int .u8 18, .int .u8 6, .int .u8 11, .int .u8 5, .int .u8 10, .int .u8 9] t frozen | o => o).modify 1 fun | .cells _ t frozen => .cells #[.int .u8 0, .int .u8 1, .int .u8 56, .int .u8 2, .int .u8 57, .int .u8 49, .int .u8 28, .int .u8 3, .int .u8 61, .int .u8 58, .int .u8 42, .int .u8 50, .int .u8 38, .int .u8 29, .int .u8 17, .int .u8 4, .int .u8 62, .int .u8 47, .int .u8 59, .int .u8 36, .int .u8 45, .int .u8 43, .int .u8 51, .int .u8 22, .int .u8 53, .int .u8 39, .int .u8 33, .int .u8 30, .int .u8 24, .int .u8 18, .int .u8 12, .int .u8 5, .int .u8 63, .int .u8 55, .int .u8 48, .int .u8 27, .int .u8 60, .int .u8 41, .int .u8 37, .int .u8 16, .int .u8 46, .int .u8 35, .int .u8 44, .int .u8 21, .int .u8 52, .int .u8 32, .int .u8 23, .int .u8 11, .int .u8 54, .int .u8 26, .int .u8 40, .int .u8 15, .int .u8 34, .int .u8 20, .int .u8 31, .int .u8 10, .int .u8 25, .int .u8 14, .int .u8 19, .int .u8 9, .int .u8 13, .int .u8 8, .int .u8 7, .int .u8 6] t frozen | o => o } : World) #[.agg #[.int .i64 0, .int .i64 0, .int .i64 0], .slice none 0 0, .slice none 0 0] rfl (by kernel_rfl) (by kernel_rfl) (by kernel_rfl)
      (OpenSpec.preRow_of_cond 8 hx (by kernel_rfl) (fun k hk => by cases hk; kernel_rfl) (by kernel_rfl) (laid_met os))) ?_
  intro W base args ds gs before hval hW k1 hcond k3 hL _ _
  exact contract ok H enc W base args ds gs before hval hW hL (of_decide_eq_true (hcond _ rfl))

theorem saidUpto {FI : Nat → Nat → FlS → Res} (ok : FltOk FI) : Rows.ReadyUptoSaid :=
  OpenClaim.holds_of_cond 5 Tryd.f5 rfl rfl rfl rfl rfl rfl rfl ⟨rfl, rfl, rfl, rfl, rfl⟩ rfl rfl rfl rfl rfl (by kernel_rfl) Tryd.func5 (by kernel_rfl)
    (of_decide_eq_true (by kernel_rfl)) (by unfold Func.isWrapper; first | (rw [if_pos (by decide +kernel)]; kernel_rfl) | (rw [if_neg (by decide +kernel)]; exact ⟨rfl, rfl⟩))
    (fun os started H enc _ F => by rw [OpenClaim.pre_eq_preRow]; exact lifted ok os started H enc F)

theorem plain (f : FuncId) (fn : Func) (hf : Tryd.pinned.checked.prog.funcNamed "weave/weavekeep.Ready" = some f) (hfn : Tryd.pinned.checked.prog.funcs[f]? = some fn) :
    false = Tryd.pinned.checked.prog.looks [] ∧ ∀ (j : Nat) t, fn.params[j]? = some t → Tryd.pinned.checked.prog.wantsStandIn t = false := by
  obtain rfl : f = 5 := Option.some.inj ((show Tryd.prog.funcNamed "weave/weavekeep.Ready" = some 5 by kernel_rfl).symm.trans hf) |>.symm
  obtain rfl : fn = Tryd.f5 := (Option.some.inj (Tryd.func5.symm.trans hfn)).symm
  refine ⟨by kernel_rfl, fun j t ht => ?_⟩
  rw [Tryd.params5] at ht
  rcases j with _ | _ | _ | j <;> simp at ht <;> subst ht <;> kernel_rfl

theorem cardUpto {FI : Nat → Nat → FlS → Res} (ok : FltOk FI) : Rows.ReadyUptoCardSaid :=
  Claim7.holds_tied_plain_at .later [] _ _ _ _ (saidUpto ok) (fun _ h => by cases h) (by kernel_rfl) (fun _ h => by cases h) readyUpto_row_tie rfl ⟨rfl, rfl⟩ (by kernel_rfl) rfl plain (by kernel_rfl)

end Go.Proofs.YtddpcjgekfmhkabDoor.ready

/- The statement Ready, proved: its second form's card. -/
namespace Go.Proofs.YtddpcjgekfmhkabDoor.ready
theorem proved : Rows.ReadyUptoCardSaid := cardUpto flt_ok
#print axioms proved
end Go.Proofs.YtddpcjgekfmhkabDoor.ready
