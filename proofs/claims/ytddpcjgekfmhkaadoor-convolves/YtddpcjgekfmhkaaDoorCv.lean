/- sizeFor, allFactors, embedAll, liftAll, walked. -/
import Derived.Test.YtddpcjgekfmhkaaDoorIa
import Derived.Test.YtddpcjgekfmhkaaDoorTr
namespace Go.Proofs.YtddpcjgekfmhkaaDoor
open Go.RowKit
set_option linter.unusedSimpArgs false
set_option linter.unusedVariables false

/-- n whole numbers lie in block b from its beginning on, and may be written. -/
def JArr (w : World) (b n : Nat) (f : Nat → Int) : Prop := ∀ i, i < n → w.cell? ⟨b, i, none⟩ = some (.int .i64 (f i)) ∧ w.frozen? ⟨b, i, none⟩ = false
theorem JArr.set {w : World} {b n : Nat} {f : Nat → Int} (h : JArr w b n f) {k : Nat} (hk : k < n) (v : Int) : JArr (w.setCell ⟨b, k, none⟩ (.int .i64 v)) b n (upd f k v) := by
  intro i hi
  obtain ⟨h1, h2⟩ := h i hi
  refine ⟨?_, (World.frozen?_setCell _ _ _ _).trans h2⟩
  by_cases e : i = k
  · subst e; rw [upd_same]; exact World.cell?_setCell_same _ _ _ h1
  · rw [upd_other e, World.cell?_setCell_other _ _ _ _ (by intro he; exact e (by injection he with _ e2 _; exact e2.symm)), h1]
theorem JArr.gw {w w' : World} {b n : Nat} {f : Nat → Int} (h : JArr w b n f) (g : Gw w w') : JArr w' b n f := fun i hi => ⟨g.at (h i hi).1, (g.2 _).trans (h i hi).2⟩
theorem JArr.congr {w : World} {b n : Nat} {f g : Nat → Int} (h : JArr w b n f) (e : ∀ i, i < n → f i = g i) : JArr w b n g := fun i hi => ⟨e i hi ▸ (h i hi).1, (h i hi).2⟩
def zerosI (n : Nat) : Array Value := madeCells (Value.int .i64 0).cells n
theorem madeI_arr (w : World) (n : Nat) (e : TypeId) : JArr (w.alloc (.cells (zerosI n) e)) w.heap.size n (fun _ => 0) := by
  intro i hi
  have hz : (zerosI n)[i]? = some (.int .i64 0) := by
    unfold zerosI madeCells
    have hc : (Value.int .i64 0).cells = #[Value.int .i64 0] := rfl
    rw [hc]
    simp [hi, Nat.mod_one]
  refine ⟨by rw [World.cell?_alloc_at _ _ _ _ rfl, hz], ?_⟩
  rw [frozen?_alloc_cells]
  simp [World.frozen?]
theorem wpList_make_i64 {P : Program} (w : World) {ops : Array Oper} {rest : List Oper} {o : Oper} {a : Act} {Q : Exit → Act → World → Prop}
    (hg : o.guard = none) (l c : Operand) (t e : TypeId) (hop : o.op = Op.makeSlice t l c)
    (h1 : P.underlying t = some (.slice e)) (hinfo : (P.info? e).map (fun i => (i.zero, i.size, i.bytes)) = some (some (.int .i64 0), 1, 8))
    (n : Nat) (L : Int) (hl : a.eval l = .int .i64 L) (hc : a.eval c = .int .i64 L) (hL : L = n) (hn : n ≤ 35184372088832)
    (hK : ∀ w1, JArr w1 w.heap.size n (fun _ => 0) → Gw w w1 → w1.heap.size = w.heap.size + 1 → wpList P ops Q rest (a.put o.dst (.slice (some ⟨w.heap.size, 0, none⟩) n n)) w1) :
    wpList P ops Q (o :: rest) a w := by
  obtain ⟨i, hi, hz0, hz1, hz2⟩ := info_parts hinfo
  have hr := run_make (P := P) w t e i (.int .i64 0) h1 hi hz0 .i64 .i64 n n (by omega) (by omega) (by rw [hz2]; omega) (by omega)
  simp only [Int.toNat_natCast, hz1] at hr
  subst hL
  refine wpList_plain hg fun K hK' => ?_
  unfold Oper.wp
  simp [execOp, hop, hl, hc, hr, Result.andThen]
  exact hK' _ _ (hK _ (madeI_arr w n e) ((Gw.refl w).alloc _ _) (by simp))
theorem info_int : (Tryd.prog.info? 3).map (fun i => (i.zero, i.size, i.bytes)) = some (some (.int .i64 0), 1, 8) := by kernel_rfl

/-- The least power of two with room. -/
def Least (c n : Nat) : Prop := ∃ K, K ≤ 10 ∧ 2 ^ K = n ∧ c ≤ n
set_option maxRecDepth 20000 in
theorem sizeFor_any (c : Nat) (hc : c ≤ 1024) (w : World) :
    Calls Tryd.prog 61 #[.int .i64 c] w fun e w' => (∃ n : Nat, e = .returned (.int .i64 n) ∧ Least c n) ∧ w' = w := by
  go_enter Tryd.func61, Tryd.ntmps61
  go_wp2
  go_loop [3] (fun ts => ∃ j s : Nat, j ≤ 10 ∧ Hid (2 ^ j = s) ∧ 1 ≤ s ∧ s ≤ 1024 ∧ ts = .int .i64 s) (fun ts => c - (intOf ts).toNat)
  case atStart => exact ⟨0, 1, by omega, rfl, by omega, by omega, rfl⟩
  case round =>
    obtain ⟨j, s, hj, HJ, hs1, hs2, rfl⟩ := hrel
    by_cases e : s < c
    · have hj10 : j < 10 := by
        refine Nat.lt_of_not_le fun h => ?_
        have : 2 ^ 10 ≤ 2 ^ j := Nat.pow_le_pow_right (by decide) h
        rw [HJ.out] at this; omega
      have h512 : s ≤ 512 := by
        have : 2 ^ j ≤ 2 ^ 9 := Nat.pow_le_pow_right (by decide) (by omega)
        rw [HJ.out] at this; omega
      have HJ2 : Hid (2 ^ (j + 1) = 2 * s) := by show 2 ^ (j + 1) = 2 * s; rw [Nat.pow_succ, HJ.out]; omega
      go_wp2
      go_round
      case rel => exact ⟨j + 1, 2 * s, by omega, HJ2, by omega, by omega, by go_num⟩
      case measure => simp [intOf]; omega
    · go_wp2
      go_ret
      exact ⟨⟨s, rfl, j, hj, HJ.out, by omega⟩, rfl⟩

set_option maxHeartbeats 1000000 in
theorem allFactors_any (a : Option Addr) (b off len cap : Nat) (z : Nat → Int) (w : World) (hmax : len ≤ 1048576) (hadr : 0 < len → a = some ⟨b, off, none⟩) (ha : IArr w b off len z) :
    Calls Tryd.prog 41 #[.slice a len cap] w fun e w' => e = .returned (.bool (decide (∀ i, i < len → -32768 ≤ z i ∧ z i ≤ 32767))) ∧ w' = w := by
  have HA : Hid (IArr w b off len z) := ha
  have HADR : Hid (0 < len → a = some ⟨b, off, none⟩) := hadr
  clear ha hadr
  go_enter Tryd.func41, Tryd.ntmps41
  go_wp2
  go_loop [7] (fun ti => ∃ k : Nat, k ≤ len ∧ ti = .int .i64 k ∧ Hid (∀ i, i < k → -32768 ≤ z i ∧ z i ≤ 32767)) (fun ti => len - (intOf ti).toNat)
  case atStart => exact ⟨0, Nat.zero_le _, rfl, fun i hi => by omega⟩
  case round =>
    obtain ⟨k, hk, rfl, HK⟩ := hrel
    by_cases hlt : k < len
    · obtain rfl : a = some ⟨b, off, none⟩ := HADR.out (by omega)
      have hc := (HA.out k hlt).1
      obtain ⟨v, hv⟩ : ∃ v, z k = v := ⟨_, rfl⟩
      rw [hv] at hc
      have HV : Hid (z k = v) := hv
      clear hv HADR
      by_cases he1 : v < -32768
      · go_wp2
        go_ret
        exact ⟨by rw [decide_eq_false (fun h => by have := h k hlt; rw [HV.out] at this; omega)]; rfl, rfl⟩
      · by_cases he2 : 32767 < v
        · go_wp2
          go_ret
          exact ⟨by rw [decide_eq_false (fun h => by have := h k hlt; rw [HV.out] at this; omega)]; rfl, rfl⟩
        · go_wp2
          go_round
          case rel =>
            refine ⟨k + 1, by omega, by go_num, fun i hi => ?_⟩
            by_cases e : i = k
            · subst e; rw [HV.out]; omega
            · exact HK.out i (by omega)
          case measure => simp [intOf]; omega
    · obtain rfl : k = len := by omega
      go_wp2
      go_ret
      exact ⟨by rw [decide_eq_true HK.out]; rfl, rfl⟩

set_option maxHeartbeats 1000000 in
theorem embedAll_any (b off len cap n : Nat) (z : Nat → Int) (w : World) (hlen : 1 ≤ len) (hn : len ≤ n) (hmax : n ≤ 1024) (ha : IArr w b off len z) :
    Calls Tryd.prog 62 #[.slice (some ⟨b, off, none⟩) len cap, .int .i64 n] w
      fun e w' => e = .returned (.slice (some ⟨w.heap.size, 0, none⟩) n n) ∧ Arr w' w.heap.size n (emb len z) ∧ Gw w w' ∧ w'.heap.size = w.heap.size + 1 := by
  have HA : Hid (IArr w b off len z) := ha
  clear ha
  go_enter Tryd.func62, Tryd.ntmps62
  go_wp2_with (at_make; refine wpList_make_u64 _ rfl _ _ 35 42 rfl Tryd.underlying35 info_u64 n _ rfl rfl rfl (by omega) ?_; intro w1 hA hG hZ)
  have HR0 : Hid (Arr w1 w.heap.size n (fun _ => 0) ∧ (∀ i, i < 0 → (0 : Int) = z i % PP) ∧ (∀ i, 0 ≤ i → i < n → (0 : Int) = 0) ∧ Gw w w1 ∧ w1.heap.size = w.heap.size + 1) := ⟨hA, fun i hi => by omega, fun _ _ _ => rfl, hG, hZ⟩
  clear hA hG hZ
  go_loopw [12] (fun ti wr => ∃ (k : Nat) (g : Nat → Int), k ≤ len ∧ ti = .int .i64 k ∧ Hid (Arr wr w.heap.size n g ∧ (∀ i, i < k → g i = z i % PP) ∧ (∀ i, k ≤ i → i < n → g i = 0) ∧ Gw w wr ∧ wr.heap.size = w.heap.size + 1)) (fun ti _ => len - (intOf ti).toNat)
  case atStart => exact ⟨0, fun _ => 0, Nat.zero_le _, rfl, HR0⟩
  case round =>
    obtain ⟨k, g, hk, rfl, HR⟩ := hrel
    by_cases hlt : k < len
    · obtain ⟨hA, hU, hV, hG, hZ⟩ := HR.out
      have hkn : k < n := by omega
      have hi := (HA.out.gw hG) k hlt
      have c1 := hi.1
      have ce := embed_any (z k) hi.2.1 hi.2.2
      have c2 := (hA k hkn).1
      have f2 := (hA k hkn).2
      obtain ⟨v, hv⟩ : ∃ v, z k = v := ⟨_, rfl⟩
      obtain ⟨u, hu⟩ : ∃ u, v % PP = u := ⟨_, rfl⟩
      rw [hv, hu] at ce
      rw [hv] at c1
      have HU : Hid (z k % PP = u) := by rw [hv, hu]; rfl
      clear hi hA hU hV hG hZ hv hu
      go_wp2_with (go_at_call 23; refine (ce _).mono ?_; rintro e w' ⟨rfl, hw⟩; subst w')
      go_roundw
      case rel =>
        refine ⟨k + 1, upd g k u, by omega, by go_num, ?_⟩
        obtain ⟨hA, hU, hV, hG, hZ⟩ := HR.out
        refine ⟨hA.set hkn u, fun i hi => ?_, fun i h1 h2 => ?_, hG.setCell (Nat.le_refl _) _, by simpa [World.setCell] using hZ⟩
        · by_cases e : i = k
          · subst e; rw [upd_same]; exact HU.out.symm
          · rw [upd_other e]; exact hU i (by omega)
        · rw [upd_other (by omega)]; exact hV i (by omega) h2
      case measure => simp [intOf]; omega
    · obtain rfl : k = len := by omega
      go_wp2
      go_ret
      obtain ⟨hA, hU, hV, hG, hZ⟩ := HR.out
      refine ⟨rfl, hA.congr fun i hi => ?_, hG, hZ⟩
      unfold emb
      by_cases e : i < k
      · rw [if_pos e]; exact hU i e
      · rw [if_neg e]; exact hV i (by omega) hi

set_option maxHeartbeats 1000000 in
theorem liftAll_any (b c n cap : Nat) (f : Nat → Int) (w : World) (hc : c ≤ n) (hmax : n ≤ 1024) (hf : Fits n f) (ha : Arr w b n f) :
    Calls Tryd.prog 63 #[.slice (some ⟨b, 0, none⟩) c cap] w
      fun e w' => e = .returned (.slice (some ⟨w.heap.size, 0, none⟩) c c) ∧ JArr w' w.heap.size c (fun i => liftv (f i)) ∧ Gw w w' ∧ w'.heap.size = w.heap.size + 1 := by
  have HA : Hid (Arr w b n f ∧ Fits n f) := ⟨ha, hf⟩
  clear ha hf
  go_enter Tryd.func63, Tryd.ntmps63
  go_wp2_with (at_make; refine wpList_make_i64 _ rfl _ _ 22 3 rfl Tryd.underlying22 info_int c _ rfl rfl rfl (by omega) ?_; intro w1 hA hG hZ)
  have HR0 : Hid (JArr w1 w.heap.size c (fun _ => 0) ∧ (∀ i, i < 0 → (0 : Int) = liftv (f i)) ∧ Gw w w1 ∧ w1.heap.size = w.heap.size + 1) := ⟨hA, fun i hi => by omega, hG, hZ⟩
  clear hA hG hZ
  go_loopw [11] (fun ti wr => ∃ (k : Nat) (g : Nat → Int), k ≤ c ∧ ti = .int .i64 k ∧ Hid (JArr wr w.heap.size c g ∧ (∀ i, i < k → g i = liftv (f i)) ∧ Gw w wr ∧ wr.heap.size = w.heap.size + 1)) (fun ti _ => c - (intOf ti).toNat)
  case atStart => exact ⟨0, fun _ => 0, Nat.zero_le _, rfl, HR0⟩
  case round =>
    obtain ⟨k, g, hk, rfl, HR⟩ := hrel
    by_cases hlt : k < c
    · obtain ⟨hA, hU, hG, hZ⟩ := HR.out
      have hkn : k < n := by omega
      have c1 := ((HA.out.1.gw hG) k hkn).1
      have bf := HA.out.2 k hkn
      have cl := lift_any (f k) bf.1 bf.2
      have c2 := (hA k hlt).1
      have f2 := (hA k hlt).2
      obtain ⟨v, hv⟩ : ∃ v, f k = v := ⟨_, rfl⟩
      obtain ⟨u, hu⟩ : ∃ u, liftv v = u := ⟨_, rfl⟩
      rw [hv, hu] at cl
      rw [hv] at c1
      have HU : Hid (liftv (f k) = u) := by rw [hv, hu]; rfl
      clear bf hA hU hG hZ hv hu
      go_wp2_with (go_at_call 84; refine (cl _).mono ?_; rintro e w' ⟨rfl, hw⟩; subst w')
      go_roundw
      case rel =>
        refine ⟨k + 1, upd g k u, by omega, by go_num, ?_⟩
        obtain ⟨hA, hU, hG, hZ⟩ := HR.out
        refine ⟨hA.set hlt u, fun i hi => ?_, hG.setCell (Nat.le_refl _) _, by simpa [World.setCell] using hZ⟩
        by_cases e : i = k
        · subst e; rw [upd_same]; exact HU.out.symm
        · rw [upd_other e]; exact hU i (by omega)
      case measure => simp [intOf]; omega
    · obtain rfl : k = c := by omega
      go_wp2
      go_ret
      obtain ⟨hA, hU, hG, hZ⟩ := HR.out
      exact ⟨rfl, hA.congr hU, hG, hZ⟩

end Go.Proofs.YtddpcjgekfmhkaaDoor
