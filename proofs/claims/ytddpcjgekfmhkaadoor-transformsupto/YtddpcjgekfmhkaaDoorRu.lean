/- The document's own transform, walked: what it gives. -/
import Derived.Test.YtddpcjgekfmhkaaDoorRt
import Derived.Test.YtddpcjgekfmhkaaDoorTr
namespace Go.Proofs.YtddpcjgekfmhkaaDoor
open Go.RowKit
set_option linter.unusedSimpArgs false
set_option linter.unusedVariables false

/-- Horner's way. -/
def hor (A : Int) (X : Nat → Int) (n : Nat) : Nat → Int
  | 0 => 0
  | k + 1 => ((hor A X n k * A) % PP + X (n - (k + 1))) % PP
theorem hor_bd (A : Int) (X : Nat → Int) (n k : Nat) : 0 ≤ hor A X n k ∧ hor A X n k ≤ 18446744069414584320 := by
  cases k with
  | zero => exact ⟨Int.le_refl _, by show (0 : Int) ≤ _; omega⟩
  | succ k => exact md_bd _
theorem hor_eq (A : Int) (X : Nat → Int) (n : Nat) : ∀ k, k ≤ n → hor A X n k = sm (fun t => X (n - k + t) * pw A t) k % PP
  | 0, _ => by show (0 : Int) = 0 % PP; rfl
  | k + 1, h => by
    have ih := hor_eq A X n k (by omega)
    show ((hor A X n k * A) % PP + X (n - (k + 1))) % PP = _
    rw [ih, sm_first]
    have e1 : sm (fun i => X (n - (k + 1) + (i + 1)) * pw A (i + 1)) k % PP = (sm (fun t => X (n - k + t) * pw A t) k * A) % PP := by
      rw [Int.mul_comm, sm_mul]
      refine sm_md k (fun i hi => ?_)
      have e2 : n - (k + 1) + (i + 1) = n - k + i := by omega
      rw [e2, pw_succ, md_mul_r]
      congr 1
      rw [Int.mul_comm A, Int.mul_assoc]
    rw [pw_zero, Int.mul_one, Nat.add_zero]
    have e3 : ∀ a b c : Int, (a % PP * b % PP + c) % PP = (c + a * b) % PP := by
      intro a b c
      rw [md_mul_l, Int.add_comm, Int.add_emod_emod]
    rw [e3, ← Int.add_emod_emod (X (n - (k + 1))), ← e1, Int.add_emod_emod]
    rfl

/-- The root and the scale of a transform. -/
def rt (K : Nat) (inv : Bool) : Int := if inv then pw (rootk K) invE else rootk K
def sc (K : Nat) (inv : Bool) : Int := if inv then pw ((2 ^ K : Nat) : Int) invE else 1
theorem trans_hor (K : Nat) (inv : Bool) (X : Nat → Int) (j : Nat) : (hor (pw (rt K inv) j) X (2 ^ K) (2 ^ K) * sc K inv) % PP = trans K inv X j := by
  have e : hor (pw (rt K inv) j) X (2 ^ K) (2 ^ K) = sm (fun t => X t * pw (rt K inv) (t * j)) (2 ^ K) % PP := by
    rw [hor_eq _ _ _ _ (Nat.le_refl _), Nat.sub_self]
    congr 1
    refine sm_congr _ (fun i hi => ?_)
    rw [Nat.zero_add, ← pw_mul, Nat.mul_comm j i]
  rw [e]
  cases inv with
  | true => rfl
  | false =>
    show _ = dft K X j
    unfold dft
    rw [show sc K false = 1 from rfl, Int.mul_one, Int.emod_emod_of_dvd _ (Int.dvd_refl _)]
    rfl

/-- A number's two cells. -/
def numE (v : Int) : List Value := [.int .i64 (v / 4294967296), .int .i64 (v % 4294967296)]
theorem numE_el (v : Int) : El 2 [numE v] := by
  intro e he
  obtain rfl : e = numE v := by simpa using he
  exact ⟨rfl, by intro u hu; simp [numE] at hu; rcases hu with rfl | rfl <;> rfl⟩
def outE (T : Nat → Int) (n : Nat) : List (List Value) := (List.range n).map (fun i => numE (T i))
theorem outE_succ (T : Nat → Int) (n : Nat) : outE T (n + 1) = outE T n ++ [numE (T n)] := by simp [outE, List.range_succ]
theorem outE_el (T : Nat → Int) (n : Nat) : El 2 (outE T n) := by
  intro e he
  obtain ⟨i, _, rfl⟩ := List.mem_map.1 he
  exact numE_el (T i) _ (by simp)
theorem outE_at (T : Nat → Int) : ∀ n i, i < n → (outE T n).flatten[i * 2]? = some (.int .i64 (T i / 4294967296)) ∧ (outE T n).flatten[i * 2 + 1]? = some (.int .i64 (T i % 4294967296))
  | 0, i, hi => by omega
  | n + 1, i, hi => by
    have hl : (outE T n).flatten.length = n * 2 := by rw [(outE_el T n).flat_len]; simp [outE]
    rw [outE_succ, List.flatten_append]
    by_cases h : i < n
    · have := outE_at T n i h
      rw [List.getElem?_append_left (by omega), List.getElem?_append_left (by omega)]
      exact this
    · obtain rfl : i = n := by omega
      rw [List.getElem?_append_right (by omega), List.getElem?_append_right (by omega), hl]
      simp [numE]

/-- What the transform keeps. -/
structure TR (w wr : World) (wb sb ab : Nat) (W S A : Int) (vo : Value) (n : Nat) (E : List (List Value)) : Prop where
  w0 : wr.cell? ⟨wb, 0, none⟩ = some (.int .i64 (W / 4294967296))
  w1 : wr.cell? ⟨wb, 1, none⟩ = some (.int .i64 (W % 4294967296))
  s0 : wr.cell? ⟨sb, 0, none⟩ = some (.int .i64 (S / 4294967296))
  s1 : wr.cell? ⟨sb, 1, none⟩ = some (.int .i64 (S % 4294967296))
  a0 : wr.cell? ⟨ab, 0, none⟩ = some (.int .i64 (A / 4294967296))
  a1 : wr.cell? ⟨ab, 1, none⟩ = some (.int .i64 (A % 4294967296))
  f0 : wr.frozen? ⟨ab, 0, none⟩ = false
  f1 : wr.frozen? ⟨ab, 1, none⟩ = false
  own : wr.ownsRow w.heap.size 26 2 vo n E.flatten
  bel : Bt (fun _ => False) w wr
  ge : w.heap.size ≤ wb ∧ w.heap.size ≤ sb ∧ w.heap.size ≤ ab
  ne : ab ≠ wb ∧ ab ≠ sb
  nb : ∀ g, vo.ownBlock = some g → g ≠ wb ∧ g ≠ sb ∧ g ≠ ab
section
variable {w wr wr' : World} {wb sb ab : Nat} {W S A : Int} {vo : Value} {n : Nat} {E : List (List Value)}
theorem TR.gw (h : TR w wr wb sb ab W S A vo n E) (g : Gw wr wr') : TR w wr' wb sb ab W S A vo n E :=
  ⟨g.at h.w0, g.at h.w1, g.at h.s0, g.at h.s1, g.at h.a0, g.at h.a1, (g.2 _).trans h.f0, (g.2 _).trans h.f1, own_bt h.own (Bt.of_gw (fun _ => False) g) (fun _ _ x => x), h.bel.trans (Bt.of_gw (fun _ => False) g) (fun _ _ x => x), h.ge, h.ne, h.nb⟩
theorem TR.app (h : TR w wr wb sb ab W S A vo n E) {v' : Value} {m : Nat} {E' : List (List Value)} (p : wr'.ownsRow w.heap.size 26 2 v' m E'.flatten ∧ wr.grownBy wr' vo.ownBlock ∧ (v'.ownBlock = vo.ownBlock ∨ v'.ownBlock = some wr.heap.size)) : TR w wr' wb sb ab W S A v' m E' := by
  obtain ⟨p1, p2, p3⟩ := p
  have hb := Bt.grownBy p2
  have n1 : ¬ vo.ownBlock = some wb := fun e => (h.nb wb e).1 rfl
  have n2 : ¬ vo.ownBlock = some sb := fun e => (h.nb sb e).2.1 rfl
  have n3 : ¬ vo.ownBlock = some ab := fun e => (h.nb ab e).2.2 rfl
  have lw := World.block_lt_of_cell? wr _ h.w0
  have ls := World.block_lt_of_cell? wr _ h.s0
  have la := World.block_lt_of_cell? wr _ h.a0
  refine ⟨hb.cell n1 h.w0, hb.cell n1 h.w1, hb.cell n2 h.s0, hb.cell n2 h.s1, hb.cell n3 h.a0, hb.cell n3 h.a1, (World.frozen?_of_block (a := ⟨ab, 0, none⟩) (hb.block ab la n3)).trans h.f0, (World.frozen?_of_block (a := ⟨ab, 1, none⟩) (hb.block ab la n3)).trans h.f1, p1,
    h.bel.trans hb (fun i hi e => by have := own_ge h.own e; omega), h.ge, h.ne, fun g hg => ?_⟩
  rcases p3 with e | e
  · exact h.nb g (e ▸ hg)
  · rw [e] at hg
    have := Option.some.inj hg
    have lw : wb < wr.heap.size := lw
    have ls : sb < wr.heap.size := ls
    have la : ab < wr.heap.size := la
    omega
theorem TR.set (h : TR w wr wb sb ab W S A vo n E) (A' : Int) : TR w ((wr.setCell ⟨ab, 0, none⟩ (.int .i64 (A' / 4294967296))).setCell ⟨ab, 1, none⟩ (.int .i64 (A' % 4294967296))) wb sb ab W S A' vo n E := by
  have hb : Bt (fun k => k = ab) wr ((wr.setCell ⟨ab, 0, none⟩ (.int .i64 (A' / 4294967296))).setCell ⟨ab, 1, none⟩ (.int .i64 (A' % 4294967296))) := ((Bt.refl (fun k => k = ab) wr).setCell (fun _ => rfl) _).setCell (fun _ => rfl) _
  have n1 := h.ne
  have h0 := h.a0
  have h1 := h.a1
  refine ⟨hb.cell (fun e => n1.1 e.symm) h.w0, hb.cell (fun e => n1.1 e.symm) h.w1, hb.cell (fun e => n1.2 e.symm) h.s0, hb.cell (fun e => n1.2 e.symm) h.s1, ?_, ?_, ?_, ?_, own_bt h.own hb (fun g hg e => (h.nb g hg).2.2 e),
    h.bel.trans hb (fun i hi e => by have := h.ge; omega), h.ge, h.ne, h.nb⟩
  · rw [World.cell?_setCell_other _ _ _ _ (by intro he; injection he with _ e2 _; cases e2)]; exact World.cell?_setCell_same _ _ _ h0
  · exact World.cell?_setCell_same _ _ _ ((World.cell?_setCell_other _ _ _ _ (by intro he; injection he with _ e2 _; cases e2)).trans h1)
  · rw [World.frozen?_setCell, World.frozen?_setCell]; exact h.f0
  · rw [World.frozen?_setCell, World.frozen?_setCell]; exact h.f1
end

theorem info_num : (Tryd.prog.info? 26).map (fun i => (i.zero, i.size, i.bytes)) = some (some (.agg #[.int .i64 0, .int .i64 0]), 2, 16) := by kernel_rfl
theorem tr_alloc {w wr : World} {wb sb ab : Nat} {W S A : Int} {vo : Value} {n : Nat} {E : List (List Value)} (h : TR w wr wb sb ab W S A vo n E) (c : Array Value) (t : TypeId) : TR w (wr.alloc (.cells c t)) wb sb ab W S A vo n E := h.gw ((Gw.refl _).alloc _ _)
theorem src_num (w : World) (v : Int) (t : TypeId) : Src (w.alloc (.cells #[.int .i64 (v / 4294967296), .int .i64 (v % 4294967296)] t)) (some ⟨w.heap.size, 0, none⟩) [numE v] := by
  intro _
  refine ⟨_, _, rfl, fun j u hj => ?_⟩
  rw [World.cell?_alloc_at _ _ _ _ rfl]
  simpa [numE] using hj

theorem tr_start {w u : World} {wb sb ab : Nat} {W S : Int} (G : Gw w u) (c0 : u.cell? ⟨wb, 0, none⟩ = some (.int .i64 (W / 4294967296))) (c1 : u.cell? ⟨wb, 1, none⟩ = some (.int .i64 (W % 4294967296))) (d0 : u.cell? ⟨sb, 0, none⟩ = some (.int .i64 (S / 4294967296))) (d1 : u.cell? ⟨sb, 1, none⟩ = some (.int .i64 (S % 4294967296)))
    (hwb : w.heap.size ≤ wb) (hsb : w.heap.size ≤ sb) (hab : ab = u.heap.size) (T : Nat → Int) (t : TypeId) : TR w (u.alloc (.cells #[.int .i64 0, .int .i64 1] t)) wb sb ab W S (pw W 0) (.slice none 0 0) 0 (outE T 0) := by
  subst hab
  have g := (Gw.refl u).alloc #[.int .i64 0, .int .i64 1] t
  have l1 : wb < u.heap.size := World.block_lt_of_cell? u _ c0
  have l2 : sb < u.heap.size := World.block_lt_of_cell? u _ d0
  have hs := G.size
  have f : ∀ o, (u.alloc (.cells #[.int .i64 0, .int .i64 1] t)).frozen? ⟨u.heap.size, o, none⟩ = false := fun o => (G.trans g).fz hs
  refine ⟨g.at c0, g.at c1, g.at d0, g.at d1, ?_, ?_, f 0, f 1, ⟨rfl, .inl ⟨rfl, rfl⟩⟩, Bt.of_gw _ (G.trans g), ⟨hwb, hsb, hs⟩, ⟨by omega, by omega⟩, fun g h => by cases h⟩
  · rw [World.cell?_alloc_at _ _ _ _ rfl, pw_zero]; rfl
  · rw [World.cell?_alloc_at _ _ _ _ rfl, pw_zero]; rfl

set_option maxHeartbeats 4000000 in
theorem tref_ok (K lb cap : Nat) (inv : Bool) (X : Nat → Int) (w : World) (hK : K ≤ 10) (hl : NArr w lb (2 ^ K) X) (hX : Elems (2 ^ K) X) :
    Calls Tryd.prog 9 #[.slice (some ⟨lb, 0, none⟩) (2 ^ K) cap, .bool inv] w
      fun e w' => ∃ g c, e = .returned (.tuple #[.slice (some ⟨g, 0, none⟩) (2 ^ K) c, .int .i64 0]) ∧ NArr w' g (2 ^ K) (trans K inv X) ∧ Below w.heap.size w w' ∧ g < w'.heap.size := by
  have c := power_yes K hK w
  have hn : 2 ^ K ≤ 1024 := Nat.pow_le_pow_right (n := 2) (by decide) hK
  have hn1 : 1 ≤ 2 ^ K := Nat.one_le_two_pow
  have cr := rootr_yes K (by omega)
  have rb : 0 ≤ rootk K ∧ rootk K ≤ 18446744069414584320 := md_bd _
  have ci := invr_ref (rootk K) rb.1 (by omega)
  have cn := invr_ref ((2 ^ K : Nat) : Int) (by omega) (by omega)
  have e0 : (((2 ^ K : Nat) : Int)) / 4294967296 = 0 := by omega
  have e1 : (((2 ^ K : Nat) : Int)) % 4294967296 = ((2 ^ K : Nat) : Int) := by omega
  have HT : Hid (∀ j, (hor (pw (rt K inv) j) X (2 ^ K) (2 ^ K) * sc K inv) % PP = trans K inv X j) := fun j => trans_hor K inv X j
  have HW : Hid ((inv = false → rt K inv = rootk K ∧ sc K inv = 1) ∧ (inv = true → rt K inv = pw (rootk K) invE ∧ sc K inv = pw ((2 ^ K : Nat) : Int) invE)) := ⟨fun h => by subst h; exact ⟨rfl, rfl⟩, fun h => by subst h; exact ⟨rfl, rfl⟩⟩
  generalize trans K inv X = T at *
  have bR : 0 ≤ rt K inv ∧ rt K inv ≤ 18446744069414584320 := by
    cases inv
    · rw [(HW.out.1 rfl).1]; exact rb
    · rw [(HW.out.2 rfl).1]; exact pw_bd _ _
  have bS : 0 ≤ sc K inv ∧ sc K inv ≤ 18446744069414584320 := by
    cases inv
    · rw [(HW.out.1 rfl).2]; omega
    · rw [(HW.out.2 rfl).2]; exact pw_bd _ _
  generalize rt K inv = W at *
  generalize sc K inv = S at *
  generalize rootk K = R at *
  rw [show nm ((2 ^ K : Nat) : Int) = .agg #[.int .i64 0, .int .i64 ((2 ^ K : Nat) : Int)] by unfold nm; rw [e0, e1]] at cn
  generalize pw R invE = RI at *
  generalize pw ((2 ^ K : Nat) : Int) invE = NI at *
  obtain ⟨n, hnn⟩ : ∃ n, 2 ^ K = n := ⟨_, rfl⟩
  rw [hnn] at c hn hn1 hl hX cr cn HT ⊢
  have HL : Hid (NArr w lb n X ∧ Elems n X) := ⟨hl, hX⟩
  clear hl hX hnn e0 e1
  go_enter Tryd.func9, Tryd.ntmps9
  go_wp2_with (go_at_call 29; refine c.mono ?_; rintro e w' ⟨rfl, hw⟩; subst w')
  go_loopw [8] (fun ti wr => ∃ i : Nat, i ≤ n ∧ ti = .int .i64 i ∧ Hid (Gw w wr)) (fun ti _ => n - (intOf ti).toNat)
  case atStart => exact ⟨0, Nat.zero_le _, rfl, Gw.refl _⟩
  case round =>
    obtain ⟨i, hi, rfl, HR⟩ := hrel
    have g := HR.out
    by_cases hlt : i < n
    · obtain ⟨c0, c1⟩ := (HL.out.1.gw g) i hlt
      obtain ⟨x0, x1⟩ := HL.out.2 i hlt
      obtain ⟨v, hv⟩ : ∃ v, X i = v := ⟨_, rfl⟩
      rw [hv] at c0 c1 x0 x1
      have i1 : (i : Int) < (n : Int) := by omega
      have ca := atLeast_f (v / 4294967296) (v % 4294967296) 4294967295 1 (by omega)
      clear hv x0 x1 HR cr ci cn HT HW
      go_wp2
      go_region_held3 (fun W => W.cell? ⟨lb, i * 2, none⟩ = some (.int .i64 (v / 4294967296)) ∧ W.cell? ⟨lb, i * 2 + 1, none⟩ = some (.int .i64 (v % 4294967296)) ∧ Gw w W)
        (first
          | (go_split_ands; exact ⟨hg.at ‹_›, hg.at ‹_›, Gw.trans ‹_› hg⟩)
          | (exact ⟨by simp [go_sem, *], by simp [go_sem, *], (by repeat (first | assumption | exact Gw.refl _ | apply Gw.drew | apply Gw.alloc | refine Gw.setCell ?_ (by first | (simp; done) | (simp; omega)) _))⟩))
        (first
          | (go_at_call 31; refine (prime_ref _).mono ?_; rintro e w' ⟨rfl, hg⟩)
          | (go_at_call 30; refine (ca _).mono ?_; rintro e w' ⟨rfl, hg⟩))
      go_split_ands
      go_wp2
      go_roundw
      case rel => exact ⟨i + 1, by omega, by go_num, ‹_›⟩
      case measure => simp [intOf]; omega
    · obtain rfl : n = i := by omega
      clear hlt hi c
      cases inv
      · obtain ⟨hW, hS⟩ := HW.out.1 rfl
        subst hW
        have HS : Hid (S = 1) := hS
        clear ci cn HW hS
        go_wp2_with (go_at_call 32; refine (cr _).mono ?_; rintro e w1 ⟨rfl, g1⟩; have G1 : Gw w w1 := g.trans g1; have sz1 := G1.size; clear g1 cr)
        go_loopw [12, 13] (fun tv tj wr => ∃ (j : Nat) (vo : Value), vo = tv ∧ j ≤ n ∧ tj = .int .i64 j ∧ Hid (TR w wr (w1.heap.size) (w1.heap.size + 1) (w1.heap.size + 1 + 1) W S (pw W j) vo j (outE T j))) (fun _ tj _ => n - (intOf tj).toNat)
        case atStart =>
          exact ⟨0, _, rfl, Nat.zero_le _, rfl, tr_start (u := (w1.alloc _).alloc _) ((G1.alloc _ _).alloc _ _) (by simp [go_sem]) (by simp [go_sem]) (by rw [HS.out]; simp [go_sem]) (by rw [HS.out]; simp [go_sem]) (by omega) (by omega) (by simp) T _⟩
        case round =>
          obtain ⟨j, vo, e12, hj, rfl, HR⟩ := hrel
          subst e12
          by_cases hjl : j < n
          · have i1 : (j : Int) < (n : Int) := by omega
            have rbel := HR.out.bel
            obtain ⟨A, hA⟩ : ∃ A, pw W j = A := ⟨_, rfl⟩
            have HRA : Hid (TR w wr (w1.heap.size) (w1.heap.size + 1) (w1.heap.size + 1 + 1) W S A vo j (outE T j)) := by have := HR.out; rw [hA] at this; exact this
            have bA : 0 ≤ A ∧ A ≤ 18446744069414584320 := by rw [← hA]; exact pw_bd _ _
            have HTj : Hid ((hor A X n n * S) % PP = T j) := by have := HT.out j; rw [hA] at this; exact this
            have HP : Hid ((A * W) % PP = pw W (j + 1)) := by rw [← hA]; exact (pw_succ _ _).symm
            have a0 := HRA.out.a0
            have a1 := HRA.out.a1
            have hlb : lb < wr.heap.size := by
              have h1 := World.block_lt_of_cell? w _ (HL.out.1 0 (by omega)).1
              have h2 := rbel.size
              have h1 : lb < w.heap.size := h1
              omega
            have HLR : Hid (NArr wr lb n X) := HL.out.1.bt rbel (fun x => x)
            have hab : (w1.heap.size + 1 + 1) < wr.heap.size := World.block_lt_of_cell? wr _ a0
            clear HR hA rbel
            obtain ⟨wo, rfl⟩ : ∃ wo : World, wo = wr := ⟨_, rfl⟩
            go_wp2
            go_loopw [15] (fun ti wi => ∃ m : Nat, m ≤ n ∧ ti = .int .i64 ((m : Int) - 1) ∧ Hid (Gw wo wi ∧ wi.cell? ⟨wo.heap.size, 0, none⟩ = some (.int .i64 (hor A X n (n - m) / 4294967296)) ∧ wi.cell? ⟨wo.heap.size, 1, none⟩ = some (.int .i64 (hor A X n (n - m) % 4294967296)))) (fun ti _ => (intOf ti + 1).toNat)
            case atStart =>
              refine ⟨n, Nat.le_refl _, rfl, (by repeat (first | assumption | exact Gw.refl _ | apply Gw.drew | apply Gw.alloc | refine Gw.setCell ?_ (by first | (simp; done) | (simp; omega)) _)), ?_, ?_⟩
              · rw [Nat.sub_self]; simp [go_sem, hor]
              · rw [Nat.sub_self]; simp [go_sem, hor]
            case round =>
              obtain ⟨m, hm, rfl, HI⟩ := hrel
              by_cases hm0 : 0 < m
              · obtain ⟨i, rfl⟩ : ∃ i, m = i + 1 := ⟨m - 1, by omega⟩
                have ei : ((i + 1 : Nat) : Int) - 1 = (i : Int) := by omega
                rw [ei]
                clear ei
                obtain ⟨gi, x0, x1⟩ := HI.out
                obtain ⟨l0, l1⟩ := (HLR.out.gw gi) i (by omega)
                obtain ⟨v, hv⟩ : ∃ v, X i = v := ⟨_, rfl⟩
                have bv := HL.out.2 i (by omega)
                rw [hv] at l0 l1 bv
                obtain ⟨h, hh⟩ : ∃ h, hor A X n (n - (i + 1)) = h := ⟨_, rfl⟩
                have bh := hor_bd A X n (n - (i + 1))
                have HN : Hid (hor A X n (n - i) = ((h * A) % PP + v) % PP) := by
                  show hor A X n (n - i) = _
                  rw [show n - i = (n - (i + 1)) + 1 by omega]
                  show ((hor A X n (n - (i + 1)) * A) % PP + X (n - (n - (i + 1) + 1))) % PP = _
                  rw [show n - (n - (i + 1) + 1) = i by omega, hh, hv]
                rw [hh] at x0 x1 bh
                have aa0 := gi.at a0
                have aa1 := gi.at a1
                have cmul := mulr_ref h A bh.1 (by omega) bA.1 (by omega)
                have bm := md_bd (h * A)
                have cadd := addr_ref ((h * A) % PP) v bm.1 (by omega) bv.1 (by omega)
                have i2 : (i : Int) < (n : Int) := by omega
                have i3 : ¬ (i : Int) < 0 := by omega
                have o0 : cellOr wr ⟨wo.heap.size, 0, none⟩ = .int .i64 (h / 4294967296) := by unfold cellOr; rw [x0]; rfl
                have o1 : cellOr wr ⟨wo.heap.size, 1, none⟩ = .int .i64 (h % 4294967296) := by unfold cellOr; rw [x1]; rfl
                have ff0 : wr.frozen? ⟨wo.heap.size, 0, none⟩ = false := gi.fz (Nat.le_refl _)
                have ff1 : wr.frozen? ⟨wo.heap.size, 1, none⟩ = false := gi.fz (Nat.le_refl _)
                generalize (h * A) % PP = hA2 at *
                generalize (hA2 + v) % PP = hN at *
                clear HI hv hh bh bm bv
                go_wp2
                go_region_with (first
                  | (go_at_call 35; refine (cmul _).mono ?_; rintro e w5 ⟨rfl, g5⟩; have y0 := g5.at x0; have y1 := g5.at x1; have z0 := g5.at l0; have z1 := g5.at l1; have G5 : Gw wo w5 := gi.drew.trans g5)
                  | (go_at_call 34; refine (cadd _).mono ?_; rintro e w6 ⟨rfl, g6⟩; have q0 := g6.at y0; have q1 := g6.at y1; have G6 : Gw wo w6 := G5.trans g6; have p0 : w6.frozen? ⟨wo.heap.size, 0, none⟩ = false := G6.fz (Nat.le_refl _); have p1 : w6.frozen? ⟨wo.heap.size, 1, none⟩ = false := G6.fz (Nat.le_refl _)))
                all_goals
                  go_wp2
                  go_roundw
                  case rel =>
                    refine ⟨i, by omega, by go_num, (G6.setCell (Nat.le_refl _) _).setCell (Nat.le_refl _) _, ?_, ?_⟩
                    · rw [HN.out]; simp [go_sem, q0, q1]
                    · rw [HN.out]; simp [go_sem, q0, q1]
                  case measure => first | (simp [intOf]; done) | (simp [intOf]; omega)
              · obtain rfl : m = 0 := by omega
                obtain ⟨gi, x0, x1⟩ := HI.out
                rw [Nat.sub_zero] at x0 x1
                obtain ⟨h, hh⟩ : ∃ h, hor A X n n = h := ⟨_, rfl⟩
                have bh := hor_bd A X n n
                have HTj2 : Hid ((h * S) % PP = T j) := by have := HTj.out; rw [hh] at this; exact this
                rw [hh] at x0 x1 bh
                have ss0 := gi.at HRA.out.s0
                have ss1 := gi.at HRA.out.s1
                have cm1 := mulr_ref h S bh.1 (by omega) bS.1 (by omega)
                rw [HTj2.out] at cm1
                have cm2 := mulr_ref A W bA.1 (by omega) bR.1 (by omega)
                rw [HP.out] at cm2
                have HRI : Hid (TR w wr (w1.heap.size) (w1.heap.size + 1) (w1.heap.size + 1 + 1) W S A vo j (outE T j)) := HRA.out.gw gi
                obtain ⟨tj, htj⟩ : ∃ tj, T j = tj := ⟨_, rfl⟩
                have HTJ : Hid (T j = tj) := htj
                obtain ⟨A', hA'⟩ : ∃ A', pw W (j + 1) = A' := ⟨_, rfl⟩
                have HA' : Hid (pw W (j + 1) = A') := hA'
                rw [htj] at cm1
                rw [hA'] at cm2
                clear htj hA' HTj HTj2 HP
                clear HI hh bh gi
                go_wp2_with (first
                  | (go_at_call 35; refine (cm1 _).mono ?_; rintro e w7 ⟨rfl, g7⟩; clear cm1; have HR7 : Hid (TR w w7 (w1.heap.size) (w1.heap.size + 1) (w1.heap.size + 1 + 1) W S A vo j (outE T j)) := HRI.out.gw g7)
                  | (at_builtin; refine wpList_append_el rfl _ _ 24 rfl w.heap.size 26 (.agg #[.int .i64 0, .int .i64 0]) 2 16 Tryd.underlying24 info_num rfl (by decide) vo j (outE T j) rfl (tr_alloc HR7.out _ _).own w7.heap.size 0 1 1 [numE tj] rfl rfl (numE_el tj) (src_num w7 tj _) (by omega) (by decide) (tr_alloc HR7.out _ _).bel.size ?_; intro v8 w8 H8; have HR8 : Hid (TR w w8 (w1.heap.size) (w1.heap.size + 1) (w1.heap.size + 1 + 1) W S A v8 (j + 1) (outE T j ++ [numE tj])) := (tr_alloc HR7.out _ _).app H8.out; have b0 := HR8.out.a0; have b1 := HR8.out.a1; have b2 := HR8.out.w0; have b3 := HR8.out.w1)
                  | (go_at_call 35; refine (cm2 _).mono ?_; rintro e w9 ⟨rfl, g9⟩; have HR9 : Hid (TR w w9 (w1.heap.size) (w1.heap.size + 1) (w1.heap.size + 1 + 1) W S A v8 (j + 1) (outE T j ++ [numE tj])) := HR8.out.gw g9; have d0 := HR9.out.a0; have d1 := HR9.out.a1; have f0 := HR9.out.f0; have f1 := HR9.out.f1))
                go_roundw
                case rel => exact ⟨j + 1, v8, rfl, by omega, by go_num, by rw [HA'.out, outE_succ, HTJ.out]; exact HR9.out.set A'⟩
                case measure => simp [intOf]; omega
          · obtain rfl : n = j := by omega
            have t := HR.out
            rcases t.own.2 with ⟨_, h0⟩ | ⟨gg, cp, cur, rfl, hb, hcu, q1, q2, q3, q4⟩
            · omega
            · have HF : Hid (NArr wr gg n T ∧ Below w.heap.size w wr ∧ gg < wr.heap.size) := by
                refine ⟨fun i hi => ?_, t.bel.below (Nat.le_refl _) (fun _ _ x => x), lt_of_some hcu⟩
                have ho := outE_at T n i hi
                rw [← q4, List.getElem?_take, if_pos (by omega), List.getElem?_take, if_pos (by omega)] at ho
                exact ⟨by simp [World.cell?, hcu]; simpa using ho.1, by simp [World.cell?, hcu]; simpa using ho.2⟩
              clear t HR hcu q1 q2 q3 q4 hb
              go_wp2
              go_ret2
              exact ⟨gg, cp, rfl, HF.out⟩
      · obtain ⟨hW, hS⟩ := HW.out.2 rfl
        subst hW hS
        clear HW
        go_wp2_with (first
          | (go_at_call 32; refine (cr _).mono ?_; rintro e w1 ⟨rfl, g1⟩; have G1 : Gw w w1 := g.trans g1; have sz1 := G1.size; clear g1 cr)
          | (go_at_call 33; refine (ci _).mono ?_; rintro e w2 ⟨rfl, g2⟩; clear ci; have G2 : Gw w w2 := Gw.trans (by repeat (first | assumption | exact Gw.refl _ | apply Gw.drew | apply Gw.alloc | refine Gw.setCell ?_ (by first | (simp; done) | (simp; omega)) _)) g2; have m0 := g2.at (b := w1.heap.size) (o := 0) (v := .int .i64 (R / 4294967296)) (by simp [go_sem]); have m1 := g2.at (b := w1.heap.size) (o := 1) (v := .int .i64 (R % 4294967296)) (by simp [go_sem]); have n0 := g2.at (b := w1.heap.size + 1) (o := 0) (v := .int .i64 0) (by simp [go_sem]); have n1 := g2.at (b := w1.heap.size + 1) (o := 1) (v := .int .i64 1) (by simp [go_sem]); have p0 : w2.frozen? ⟨w1.heap.size, 0, none⟩ = false := G2.fz (by omega); have p1 : w2.frozen? ⟨w1.heap.size, 1, none⟩ = false := G2.fz (by omega); have z2 := World.block_lt_of_cell? w2 _ n0; have z2 : w1.heap.size + 1 < w2.heap.size := z2)
          | (go_at_call 33; refine (cn _).mono ?_; rintro e w3 ⟨rfl, g3⟩; clear cn; have G3 : Gw w w3 := Gw.trans (by repeat (first | assumption | exact Gw.refl _ | apply Gw.drew | apply Gw.alloc | refine Gw.setCell ?_ (by first | (simp; done) | (simp; omega)) _)) g3; have m2 := g3.at (b := w1.heap.size) (o := 0) (v := .int .i64 (W / 4294967296)) (by simp [go_sem, m0, m1]); have m3 := g3.at (b := w1.heap.size) (o := 1) (v := .int .i64 (W % 4294967296)) (by simp [go_sem, m0, m1]); have n2 := g3.at (b := w1.heap.size + 1) (o := 0) (v := .int .i64 0) (by simp [go_sem, n0, n1]); have n3 := g3.at (b := w1.heap.size + 1) (o := 1) (v := .int .i64 1) (by simp [go_sem, n0, n1]); have p2 : w3.frozen? ⟨w1.heap.size + 1, 0, none⟩ = false := G3.fz (by omega); have p3 : w3.frozen? ⟨w1.heap.size + 1, 1, none⟩ = false := G3.fz (by omega); have z3 := World.block_lt_of_cell? w3 _ n2; have z3 : w1.heap.size + 1 < w3.heap.size := z3; clear m0 m1 n0 n1 p0 p1 z2))
        go_loopw [12, 13] (fun tv tj wr => ∃ (j : Nat) (vo : Value), vo = tv ∧ j ≤ n ∧ tj = .int .i64 j ∧ Hid (TR w wr (w1.heap.size) (w1.heap.size + 1) (w3.heap.size) W S (pw W j) vo j (outE T j))) (fun _ tj _ => n - (intOf tj).toNat)
        case atStart =>
          have G4 : Gw w ((w3.setCell ⟨w1.heap.size + 1, 0, none⟩ (.int .i64 (S / 4294967296))).setCell ⟨w1.heap.size + 1, 1, none⟩ (.int .i64 (S % 4294967296))) := (G3.setCell (p := ⟨w1.heap.size + 1, 0, none⟩) (by show w.heap.size ≤ w1.heap.size + 1; omega) _).setCell (p := ⟨w1.heap.size + 1, 1, none⟩) (by show w.heap.size ≤ w1.heap.size + 1; omega) _
          have B4 : Bt (fun k => k = w1.heap.size + 1) w3 ((w3.setCell ⟨w1.heap.size + 1, 0, none⟩ (.int .i64 (S / 4294967296))).setCell ⟨w1.heap.size + 1, 1, none⟩ (.int .i64 (S % 4294967296))) := ((Bt.refl (fun k => k = w1.heap.size + 1) w3).setCell (fun _ => rfl) _).setCell (fun _ => rfl) _
          exact ⟨0, _, rfl, Nat.zero_le _, rfl, tr_start G4 (B4.cell (by omega) m2) (B4.cell (by omega) m3) ((World.cell?_setCell_other _ _ _ _ (by intro he; injection he with _ e2 _; cases e2)).trans (World.cell?_setCell_same _ _ _ n2)) (World.cell?_setCell_same _ _ _ ((World.cell?_setCell_other _ _ _ _ (by intro he; injection he with _ e2 _; cases e2)).trans n3)) (by omega) (by omega) (by simp [World.setCell]) T _⟩
        case round =>
          obtain ⟨j, vo, e12, hj, rfl, HR⟩ := hrel
          subst e12
          by_cases hjl : j < n
          · have i1 : (j : Int) < (n : Int) := by omega
            have rbel := HR.out.bel
            obtain ⟨A, hA⟩ : ∃ A, pw W j = A := ⟨_, rfl⟩
            have HRA : Hid (TR w wr (w1.heap.size) (w1.heap.size + 1) (w3.heap.size) W S A vo j (outE T j)) := by have := HR.out; rw [hA] at this; exact this
            have bA : 0 ≤ A ∧ A ≤ 18446744069414584320 := by rw [← hA]; exact pw_bd _ _
            have HTj : Hid ((hor A X n n * S) % PP = T j) := by have := HT.out j; rw [hA] at this; exact this
            have HP : Hid ((A * W) % PP = pw W (j + 1)) := by rw [← hA]; exact (pw_succ _ _).symm
            have a0 := HRA.out.a0
            have a1 := HRA.out.a1
            have hlb : lb < wr.heap.size := by
              have h1 := World.block_lt_of_cell? w _ (HL.out.1 0 (by omega)).1
              have h2 := rbel.size
              have h1 : lb < w.heap.size := h1
              omega
            have HLR : Hid (NArr wr lb n X) := HL.out.1.bt rbel (fun x => x)
            have hab : (w3.heap.size) < wr.heap.size := World.block_lt_of_cell? wr _ a0
            clear HR hA rbel
            obtain ⟨wo, rfl⟩ : ∃ wo : World, wo = wr := ⟨_, rfl⟩
            go_wp2
            go_loopw [15] (fun ti wi => ∃ m : Nat, m ≤ n ∧ ti = .int .i64 ((m : Int) - 1) ∧ Hid (Gw wo wi ∧ wi.cell? ⟨wo.heap.size, 0, none⟩ = some (.int .i64 (hor A X n (n - m) / 4294967296)) ∧ wi.cell? ⟨wo.heap.size, 1, none⟩ = some (.int .i64 (hor A X n (n - m) % 4294967296)))) (fun ti _ => (intOf ti + 1).toNat)
            case atStart =>
              refine ⟨n, Nat.le_refl _, rfl, (by repeat (first | assumption | exact Gw.refl _ | apply Gw.drew | apply Gw.alloc | refine Gw.setCell ?_ (by first | (simp; done) | (simp; omega)) _)), ?_, ?_⟩
              · rw [Nat.sub_self]; simp [go_sem, hor]
              · rw [Nat.sub_self]; simp [go_sem, hor]
            case round =>
              obtain ⟨m, hm, rfl, HI⟩ := hrel
              by_cases hm0 : 0 < m
              · obtain ⟨i, rfl⟩ : ∃ i, m = i + 1 := ⟨m - 1, by omega⟩
                have ei : ((i + 1 : Nat) : Int) - 1 = (i : Int) := by omega
                rw [ei]
                clear ei
                obtain ⟨gi, x0, x1⟩ := HI.out
                obtain ⟨l0, l1⟩ := (HLR.out.gw gi) i (by omega)
                obtain ⟨v, hv⟩ : ∃ v, X i = v := ⟨_, rfl⟩
                have bv := HL.out.2 i (by omega)
                rw [hv] at l0 l1 bv
                obtain ⟨h, hh⟩ : ∃ h, hor A X n (n - (i + 1)) = h := ⟨_, rfl⟩
                have bh := hor_bd A X n (n - (i + 1))
                have HN : Hid (hor A X n (n - i) = ((h * A) % PP + v) % PP) := by
                  show hor A X n (n - i) = _
                  rw [show n - i = (n - (i + 1)) + 1 by omega]
                  show ((hor A X n (n - (i + 1)) * A) % PP + X (n - (n - (i + 1) + 1))) % PP = _
                  rw [show n - (n - (i + 1) + 1) = i by omega, hh, hv]
                rw [hh] at x0 x1 bh
                have aa0 := gi.at a0
                have aa1 := gi.at a1
                have cmul := mulr_ref h A bh.1 (by omega) bA.1 (by omega)
                have bm := md_bd (h * A)
                have cadd := addr_ref ((h * A) % PP) v bm.1 (by omega) bv.1 (by omega)
                have i2 : (i : Int) < (n : Int) := by omega
                have i3 : ¬ (i : Int) < 0 := by omega
                have o0 : cellOr wr ⟨wo.heap.size, 0, none⟩ = .int .i64 (h / 4294967296) := by unfold cellOr; rw [x0]; rfl
                have o1 : cellOr wr ⟨wo.heap.size, 1, none⟩ = .int .i64 (h % 4294967296) := by unfold cellOr; rw [x1]; rfl
                have ff0 : wr.frozen? ⟨wo.heap.size, 0, none⟩ = false := gi.fz (Nat.le_refl _)
                have ff1 : wr.frozen? ⟨wo.heap.size, 1, none⟩ = false := gi.fz (Nat.le_refl _)
                generalize (h * A) % PP = hA2 at *
                generalize (hA2 + v) % PP = hN at *
                clear HI hv hh bh bm bv
                go_wp2
                go_region_with (first
                  | (go_at_call 35; refine (cmul _).mono ?_; rintro e w5 ⟨rfl, g5⟩; have y0 := g5.at x0; have y1 := g5.at x1; have z0 := g5.at l0; have z1 := g5.at l1; have G5 : Gw wo w5 := gi.drew.trans g5)
                  | (go_at_call 34; refine (cadd _).mono ?_; rintro e w6 ⟨rfl, g6⟩; have q0 := g6.at y0; have q1 := g6.at y1; have G6 : Gw wo w6 := G5.trans g6; have p0 : w6.frozen? ⟨wo.heap.size, 0, none⟩ = false := G6.fz (Nat.le_refl _); have p1 : w6.frozen? ⟨wo.heap.size, 1, none⟩ = false := G6.fz (Nat.le_refl _)))
                all_goals
                  go_wp2
                  go_roundw
                  case rel =>
                    refine ⟨i, by omega, by go_num, (G6.setCell (Nat.le_refl _) _).setCell (Nat.le_refl _) _, ?_, ?_⟩
                    · rw [HN.out]; simp [go_sem, q0, q1]
                    · rw [HN.out]; simp [go_sem, q0, q1]
                  case measure => first | (simp [intOf]; done) | (simp [intOf]; omega)
              · obtain rfl : m = 0 := by omega
                obtain ⟨gi, x0, x1⟩ := HI.out
                rw [Nat.sub_zero] at x0 x1
                obtain ⟨h, hh⟩ : ∃ h, hor A X n n = h := ⟨_, rfl⟩
                have bh := hor_bd A X n n
                have HTj2 : Hid ((h * S) % PP = T j) := by have := HTj.out; rw [hh] at this; exact this
                rw [hh] at x0 x1 bh
                have ss0 := gi.at HRA.out.s0
                have ss1 := gi.at HRA.out.s1
                have cm1 := mulr_ref h S bh.1 (by omega) bS.1 (by omega)
                rw [HTj2.out] at cm1
                have cm2 := mulr_ref A W bA.1 (by omega) bR.1 (by omega)
                rw [HP.out] at cm2
                have HRI : Hid (TR w wr (w1.heap.size) (w1.heap.size + 1) (w3.heap.size) W S A vo j (outE T j)) := HRA.out.gw gi
                obtain ⟨tj, htj⟩ : ∃ tj, T j = tj := ⟨_, rfl⟩
                have HTJ : Hid (T j = tj) := htj
                obtain ⟨A', hA'⟩ : ∃ A', pw W (j + 1) = A' := ⟨_, rfl⟩
                have HA' : Hid (pw W (j + 1) = A') := hA'
                rw [htj] at cm1
                rw [hA'] at cm2
                clear htj hA' HTj HTj2 HP
                clear HI hh bh gi
                go_wp2_with (first
                  | (go_at_call 35; refine (cm1 _).mono ?_; rintro e w7 ⟨rfl, g7⟩; clear cm1; have HR7 : Hid (TR w w7 (w1.heap.size) (w1.heap.size + 1) (w3.heap.size) W S A vo j (outE T j)) := HRI.out.gw g7)
                  | (at_builtin; refine wpList_append_el rfl _ _ 24 rfl w.heap.size 26 (.agg #[.int .i64 0, .int .i64 0]) 2 16 Tryd.underlying24 info_num rfl (by decide) vo j (outE T j) rfl (tr_alloc HR7.out _ _).own w7.heap.size 0 1 1 [numE tj] rfl rfl (numE_el tj) (src_num w7 tj _) (by omega) (by decide) (tr_alloc HR7.out _ _).bel.size ?_; intro v8 w8 H8; have HR8 : Hid (TR w w8 (w1.heap.size) (w1.heap.size + 1) (w3.heap.size) W S A v8 (j + 1) (outE T j ++ [numE tj])) := (tr_alloc HR7.out _ _).app H8.out; have b0 := HR8.out.a0; have b1 := HR8.out.a1; have b2 := HR8.out.w0; have b3 := HR8.out.w1)
                  | (go_at_call 35; refine (cm2 _).mono ?_; rintro e w9 ⟨rfl, g9⟩; have HR9 : Hid (TR w w9 (w1.heap.size) (w1.heap.size + 1) (w3.heap.size) W S A v8 (j + 1) (outE T j ++ [numE tj])) := HR8.out.gw g9; have d0 := HR9.out.a0; have d1 := HR9.out.a1; have f0 := HR9.out.f0; have f1 := HR9.out.f1))
                go_roundw
                case rel => exact ⟨j + 1, v8, rfl, by omega, by go_num, by rw [HA'.out, outE_succ, HTJ.out]; exact HR9.out.set A'⟩
                case measure => simp [intOf]; omega
          · obtain rfl : n = j := by omega
            have t := HR.out
            rcases t.own.2 with ⟨_, h0⟩ | ⟨gg, cp, cur, rfl, hb, hcu, q1, q2, q3, q4⟩
            · omega
            · have HF : Hid (NArr wr gg n T ∧ Below w.heap.size w wr ∧ gg < wr.heap.size) := by
                refine ⟨fun i hi => ?_, t.bel.below (Nat.le_refl _) (fun _ _ x => x), lt_of_some hcu⟩
                have ho := outE_at T n i hi
                rw [← q4, List.getElem?_take, if_pos (by omega), List.getElem?_take, if_pos (by omega)] at ho
                exact ⟨by simp [World.cell?, hcu]; simpa using ho.1, by simp [World.cell?, hcu]; simpa using ho.2⟩
              clear t HR hcu q1 q2 q3 q4 hb
              go_wp2
              go_ret2
              exact ⟨gg, cp, rfl, HF.out⟩

end Go.Proofs.YtddpcjgekfmhkaaDoor
