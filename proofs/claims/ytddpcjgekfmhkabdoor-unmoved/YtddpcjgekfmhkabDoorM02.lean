/- Texts joined: Ga Fm Fp. -/
import Derived.Test.YtddpcjgekfmhkabDoorM01

/- A list of things that is cut at its head and appended to. -/
namespace Go.Proofs.YtddpcjgekfmhkabDoor
open Go.RowKit
set_option linter.unusedSimpArgs false
set_option linter.unusedVariables false

/-- The slice v holds the things L; it lies in a row of the call's own. -/
def Lst (w : World) (base : Nat) (e : TypeId) (sz : Nat) (v : Value) (L : List (List Value)) : Prop :=
  El sz L ∧ ((v = .slice none 0 0 ∧ L = []) ∨ ∃ g off cap C, v = .slice (some ⟨g, off * sz, none⟩) L.length cap ∧ base ≤ g ∧ Rw w g e C ∧ El sz C ∧ off + cap ≤ C.length ∧ L.length ≤ cap ∧ cap ≤ maxLen ∧ (C.drop off).take L.length = L)
section
variable {w w' : World} {base : Nat} {e : TypeId} {sz : Nat} {v : Value} {L : List (List Value)}
theorem Lst.nil (w : World) (base : Nat) (e : TypeId) (sz : Nat) : Lst w base e sz (.slice none 0 0) [] := ⟨fun x hx => by simp at hx, .inl ⟨rfl, rfl⟩⟩
theorem Lst.bt {S : Nat → Prop} (h : Lst w base e sz v L) (k : Bt S w w') (hs : ∀ g, v.ownBlock = some g → ¬ S g) : Lst w' base e sz v L := by
  refine ⟨h.1, ?_⟩
  rcases h.2 with h | ⟨g, off, cap, C, rfl, h1, h2, h3⟩
  · exact .inl h
  · exact .inr ⟨g, off, cap, C, rfl, h1, h2.bt k (hs g rfl), h3⟩
theorem Lst.mono {base' : Nat} (h : Lst w base e sz v L) (hb : base' ≤ base) : Lst w base' e sz v L := by
  refine ⟨h.1, ?_⟩
  rcases h.2 with h | ⟨g, off, cap, C, rfl, h1, h2⟩
  · exact .inl h
  · exact .inr ⟨g, off, cap, C, rfl, Nat.le_trans hb h1, h2⟩
theorem Lst.ge (h : Lst w base e sz v L) {g : Nat} (hg : v.ownBlock = some g) : base ≤ g ∧ g < w.heap.size := by
  rcases h.2 with ⟨rfl, _⟩ | ⟨g', off, cap, C, rfl, h1, h2, h3⟩
  · cases hg
  · simp [Value.ownBlock] at hg
    subst hg
    exact ⟨h1, h2.lt⟩
theorem Lst.form (h : Lst w base e sz v L) : ∃ a c, v = .slice a L.length c ∧ L.length ≤ c ∧ Src w a L := by
  rcases h.2 with ⟨rfl, rfl⟩ | ⟨g, off, cap, C, rfl, h1, h2, h3, h4, h5, h6, h7⟩
  · exact ⟨none, 0, rfl, Nat.le_refl _, fun h => by simp at h⟩
  · refine ⟨_, cap, rfl, h5, ?_⟩
    have := h2.src h3 off L.length (some ⟨g, off * sz, none⟩) (fun _ => rfl)
    rwa [h7] at this
/-- Cut at its head. -/
theorem Lst.cut (h : Lst w base e sz v L) {a : Option Addr} {c : Nat} (hv : v = .slice a L.length c) {n : Nat} (hn : n ≤ L.length) :
    (a = none → n = 0 ∧ c = 0 ∧ L = []) ∧ (∀ b o, a = some ⟨b, o, none⟩ → (n < c → Lst w base e sz (.slice (some ⟨b, o + n * sz, none⟩) (L.length - n) (c - n)) (L.drop n)) ∧ (n = c → Lst w base e sz (.slice (some ⟨b, o, none⟩) 0 0) (L.drop n))) := by
  rcases h.2 with ⟨rfl, rfl⟩ | ⟨g, off, cap, C, rfl, h1, h2, h3, h4, h5, h6, h7⟩
  · simp only [Value.slice.injEq] at hv
    obtain ⟨rfl, _, rfl⟩ := hv
    exact ⟨fun _ => ⟨by simpa using hn, rfl, rfl⟩, fun b o h => (by cases h)⟩
  · simp only [Value.slice.injEq] at hv
    obtain ⟨rfl, _, rfl⟩ := hv
    refine ⟨fun h => (by cases h), fun b o hb => ?_⟩
    simp at hb
    obtain ⟨rfl, rfl⟩ := hb
    refine ⟨fun hlt => ⟨h.1.drop n, .inr ⟨g, off + n, cap - n, C, ?_, h1, h2, h3, by omega, by simp; omega, by omega, ?_⟩⟩, fun heq => ⟨h.1.drop n, .inr ⟨g, off, 0, C, ?_, h1, h2, h3, by omega, ?_, by unfold maxLen; omega, ?_⟩⟩⟩
    · rw [Nat.add_mul, List.length_drop]
    · have e1 : L.drop n = (((C.drop off).take L.length).drop n) := by rw [h7]
      rw [List.length_drop]
      rw [e1, List.drop_take, List.drop_drop]
    · rw [List.drop_of_length_le (by omega)]; rfl
    · simp; omega
    · rw [List.drop_of_length_le (by omega)]; simp
end

section
variable {P : Program} {w : World}
theorem append_lst (base : Nat) (t ty e : TypeId) (zv : Value) (z : List Value) (sz bytes : Nat) (ht : P.underlying t = some (.slice e)) (hinfo : (P.info? e).map (fun i => (i.zero, i.size, i.bytes)) = some (some zv, sz, bytes)) (hz : zv.cells = z.toArray) (hZ : El sz [z]) (hsz : 0 < sz)
    (v : Value) (L : List (List Value)) (h : Lst w base e sz v L) (sp : Option Addr) (m c : Nat) (X : List (List Value)) (hl : X.length = m) (hX : El sz X) (hs : Src w sp X) (hn : L.length + m ≤ 1099511627776) (hby : bytes ≤ 64) (hbase : base ≤ w.heap.size) :
    ∃ v' w', (Builtin.append_ #[t, t] ty #[v, .slice sp m c]).run P w = .ok v' w' ∧ Lst w' base e sz v' (L ++ X) ∧ Bt (fun k => v.ownBlock = some k) w w' ∧ (v'.ownBlock = v.ownBlock ∨ v'.ownBlock = some w.heap.size) := by
  obtain ⟨i, hi, hz0, hz1, hz2⟩ := info_parts hinfo
  subst hz1 hz2
  have hzl : z.length = i.size := (hZ z (by simp)).1
  by_cases h0 : m = 0
  · subst h0
    obtain rfl : X = [] := List.eq_nil_of_length_eq_zero hl
    rw [List.append_nil]
    obtain ⟨a, cp, hv, hle, _⟩ := h.form
    refine ⟨v, w, ?_, h, Bt.refl _ _, .inl rfl⟩
    rw [hv]
    cases a <;> cases sp <;> simp [Builtin.append_, run_underlying ht, sizeOf, typeInfo, hi, Builtin.lenOf, Builtin.firstCells, hle, loadCells, loadCellsFrom, storeCells]
  · obtain ⟨b, o, rfl, hsrc⟩ := hs (by omega)
    have hadd : ∀ (q p j : Nat), (⟨q, p, none⟩ : Addr).add j = ⟨q, p + j, none⟩ := by intro q p j; unfold Addr.add; split <;> simp_all
    have hnews : ∀ j u, X.flatten[j]? = some u → w.cell? ((⟨b, o, none⟩ : Addr).add j) = some u := fun j u hj => by rw [hadd]; exact hsrc j u hj
    have hxl : X.flatten.length = m * i.size := by rw [hX.flat_len, hl]
    have hb2 : (L.length + m) * i.bytes ≤ 1099511627776 * 64 := Nat.mul_le_mul hn hby
    -- a new row
    have grown : ∀ old, Lst (w.drew.alloc (.cells (L.flatten.toArray ++ X.flatten.toArray ++ Builtin.zeroCells zv.cells (grownCap w (L.length + m) old e - (L.length + m))) e)) base e i.size (.slice (some ⟨w.heap.size, 0, none⟩) (L.length + m) (grownCap w (L.length + m) old e)) (L ++ X) := by
      intro old
      have hge := grownCap_ge w (L.length + m) old e
      have hcm := grownCap_le_maxLen w (L.length + m) old e (by unfold maxLen; omega)
      have hE := hZ.replicate (grownCap w (L.length + m) old e - (L.length + m))
      refine ⟨h.1.append hX, .inr ⟨w.heap.size, 0, _, (L ++ X) ++ List.replicate (grownCap w (L.length + m) old e - (L.length + m)) z, ?_, hbase, ?_, (h.1.append hX).append hE, ?_, ?_, hcm, ?_⟩⟩
      · simp [hl]
      · show ((w.drew).heap.push _)[w.heap.size]? = _
        have e1 : L.flatten.toArray ++ X.flatten.toArray ++ Builtin.zeroCells zv.cells (grownCap w (L.length + m) old e - (L.length + m)) = ((L ++ X) ++ List.replicate (grownCap w (L.length + m) old e - (L.length + m)) z).flatten.toArray := by
          have := zeroCells_flat z (grownCap w (L.length + m) old e - (L.length + m))
          apply Array.ext'
          rw [hz]
          simp only [List.append_toArray, Array.toList_append, List.toList_toArray, this, List.flatten_append]
        rw [e1]
        show (w.heap.push _)[w.heap.size]? = _
        simp
      · simp; omega
      · simp; omega
      · rw [List.drop_zero, List.take_append_of_le_length (Nat.le_refl _), List.take_of_length_le (Nat.le_refl _)]
    rcases h.2 with ⟨rfl, rfl⟩ | ⟨g, off, cap, C, rfl, h1, h2, h3, h4, h5, h6, h7⟩
    · have hr := run_append_nil (P := P) w t ty e i zv ht hi hz0 ⟨b, o, none⟩ m c X.flatten hxl hnews (by omega) (by simp at hn; omega) (by simp at hb2; omega)
      have hg := grown 0
      simp only [List.length_nil, Nat.zero_add, List.flatten_nil, List.append_toArray, List.nil_append] at hg
      refine ⟨_, _, hr, by simpa using hg, ((Bt.refl _ w).drew).alloc _, .inr rfl⟩
    · by_cases hroom : L.length + m ≤ cap
      · -- there is room
        have hf := run_firstCells_some (P := P) w i.size m ⟨b, o, none⟩ m c X.flatten hxl hnews
        have hst := run_storeCells_at P g (off * i.size + L.length * i.size) e X.flatten 0 C.flatten.toArray w h2 (by
          have : (off + L.length + m) * i.size ≤ C.length * i.size := Nat.mul_le_mul_right _ (by omega)
          rw [Nat.add_mul, Nat.add_mul] at this
          simp only [Nat.add_zero, List.size_toArray, hxl, h3.flat_len]; exact this) hX.one
        simp only [Nat.add_zero, ← Nat.add_mul] at hst
        have he := h3.flat_splice hX (off + L.length)
        simp only [List.append_assoc] at hst he
        rw [he] at hst
        have lc : (splice C (off + L.length) X).length = C.length := length_splice _ _ _ (by omega)
        refine ⟨.slice (some ⟨g, off * i.size, none⟩) (L.length + m) cap, w.setRow g (splice C (off + L.length) X).flatten.toArray, ?_, ⟨h.1.append hX, .inr ⟨g, off, cap, splice C (off + L.length) X, by simp [hl], h1, h2.setRow _, h3.spl hX _, by omega, by simp; omega, h6, ?_⟩⟩, (bt_setRow w g _).mono (fun k _ hk => by subst hk; rfl), .inl rfl⟩
        · simp [Builtin.append_, run_underlying ht, sizeOf, typeInfo, hi, Builtin.lenOf, hroom, hf, hadd, ← Nat.add_mul, hst]
        · apply List.ext_getElem?
          intro j
          have hL : (C.drop off).take L.length = L := h7
          rw [List.getElem?_take, List.getElem?_drop, get_splice (by omega), List.getElem?_append]
          simp only [List.length_append, hl]
          by_cases hj : j < L.length + m
          · rw [if_pos hj]
            by_cases hj2 : j < L.length
            · rw [if_neg (by omega), if_pos hj2]
              have := congrArg (fun l => l[j]?) hL
              simp only [List.getElem?_take, if_pos hj2, List.getElem?_drop] at this
              exact this
            · rw [if_pos (by omega), if_neg hj2]; congr 1; omega
          · rw [if_neg hj, if_neg (by omega), List.getElem?_eq_none (by omega)]
      · -- a new row is made
        have hso := h2.src h3 off L.length (some ⟨g, off * i.size, none⟩) (fun _ => rfl)
        rw [h7] at hso
        have holds : ∀ j u, L.flatten[j]? = some u → w.cell? ((⟨g, off * i.size, none⟩ : Addr).add j) = some u := by
          intro j u hj
          have hpos : 0 < L.length := by
            rcases Nat.eq_zero_or_pos L.length with h0 | h0
            · rw [List.eq_nil_of_length_eq_zero h0] at hj; simp at hj
            · exact h0
          obtain ⟨b', o', e', hc⟩ := hso hpos
          simp at e'
          obtain ⟨rfl, rfl⟩ := e'
          rw [hadd]; exact hc j u hj
        have hr := run_append_grow (P := P) w t ty e i zv ht hi hz0 ⟨g, off * i.size, none⟩ L.length cap L.flatten h.1.flat_len holds ⟨b, o, none⟩ m c X.flatten hxl hnews (by omega) (by omega) (growslice_fits (by omega) (by omega))
        exact ⟨_, _, hr, grown cap, ((Bt.refl _ w).drew).alloc _, .inr rfl⟩
theorem wpList_append_lst {ops : Array Oper} {rest : List Oper} {o : Oper} {a : Act} {Q : Exit → Act → World → Prop} (hgd : o.guard = none) (s x : Operand) (t : TypeId)
    (ho : o.op = .call { callee := .builtin .append, args := #[s, x], argTypes := #[t, t] })
    (base : Nat) (e : TypeId) (zv : Value) (z : List Value) (sz bytes : Nat) (ht : P.underlying t = some (.slice e)) (hinfo : (P.info? e).map (fun i => (i.zero, i.size, i.bytes)) = some (some zv, sz, bytes)) (hz : zv.cells = z.toArray) (hZ : El sz [z]) (hsz : 0 < sz)
    (v : Value) (L : List (List Value)) (hv : a.eval s = v) (h : Lst w base e sz v L) (sp : Option Addr) (m c : Nat) (X : List (List Value)) (hx : a.eval x = .slice sp m c) (hl : X.length = m) (hX : El sz X) (hs : Src w sp X) (hn : L.length + m ≤ 1099511627776) (hby : bytes ≤ 64) (hbase : base ≤ w.heap.size)
    (hK : ∀ v' w', Hid (Lst w' base e sz v' (L ++ X) ∧ Bt (fun k => v.ownBlock = some k) w w' ∧ (v'.ownBlock = v.ownBlock ∨ v'.ownBlock = some w.heap.size)) → wpList P ops Q rest (a.put o.dst v') w') :
    wpList P ops Q (o :: rest) a w := by
  refine wpList_plain hgd fun K hK' => ?_
  obtain ⟨v', w', hr, h2, h3, h4⟩ := append_lst (P := P) (w := w) base t o.type e zv z sz bytes ht hinfo hz hZ hsz v L h sp m c X hl hX hs hn hby hbase
  unfold Oper.wp execOp
  simp only [ho, resolve, invoke, builtin, Sem.run_bind, Sem.run_pure, Result.andThen_ok, List.map_toArray, List.map_cons, List.map_nil, hv, hx, hr]
  exact hK' _ _ (hK v' w' ⟨h2, h3, h4⟩)
end

end Go.Proofs.YtddpcjgekfmhkabDoor

/- The plain mathematics of numbers below the prime. Nothing of the program is named here. -/
namespace Go.Proofs.YtddpcjgekfmhkabDoor

/-- The prime. -/
def PP : Int := 18446744069414584321
theorem PP_eq : PP = 18446744069414584321 := rfl
theorem PP_pos : (0 : Int) < PP := by rw [PP_eq]; omega

theorem md_lt (a : Int) : a % PP < PP := Int.emod_lt_of_pos _ PP_pos
theorem md_nn (a : Int) : 0 ≤ a % PP := Int.emod_nonneg _ (by rw [PP_eq]; omega)
theorem md_bd (a : Int) : 0 ≤ a % PP ∧ a % PP ≤ 18446744069414584320 := by
  have := md_lt a; have := md_nn a; rw [PP_eq] at *; omega
theorem md_md (a : Int) : a % PP % PP = a % PP := Int.emod_emod_of_dvd _ (Int.dvd_refl _)
theorem md_small {a : Int} (h0 : 0 ≤ a) (h1 : a ≤ 18446744069414584320) : a % PP = a := Int.emod_eq_of_lt h0 (by rw [PP_eq]; omega)
theorem md_add (a b : Int) : (a % PP + b % PP) % PP = (a + b) % PP := (Int.add_emod a b PP).symm
theorem md_sub (a b : Int) : (a % PP - b % PP) % PP = (a - b) % PP := (Int.sub_emod a b PP).symm
theorem md_mul (a b : Int) : (a % PP * (b % PP)) % PP = (a * b) % PP := (Int.mul_emod a b PP).symm
theorem md_add_l (a b : Int) : (a % PP + b) % PP = (a + b) % PP := by rw [Int.add_emod, md_md, ← Int.add_emod]
theorem md_add_r (a b : Int) : (a + b % PP) % PP = (a + b) % PP := by rw [Int.add_emod, md_md, ← Int.add_emod]
theorem md_sub_l (a b : Int) : (a % PP - b) % PP = (a - b) % PP := by rw [Int.sub_emod, md_md, ← Int.sub_emod]
theorem md_sub_r (a b : Int) : (a - b % PP) % PP = (a - b) % PP := by rw [Int.sub_emod, md_md, ← Int.sub_emod]
theorem md_mul_l (a b : Int) : (a % PP * b) % PP = (a * b) % PP := by rw [Int.mul_emod, md_md, ← Int.mul_emod]
theorem md_mul_r (a b : Int) : (a * (b % PP)) % PP = (a * b) % PP := by rw [Int.mul_emod, md_md, ← Int.mul_emod]
theorem md_add_PP (a : Int) : (a + PP) % PP = a % PP := Int.add_emod_right a PP
theorem md_sub_PP (a : Int) : (a - PP) % PP = a % PP := Int.sub_emod_right a PP
theorem md_of {a b : Int} (k : Int) (h : a = b + k * PP) : a % PP = b % PP := by rw [h, Int.add_mul_emod_self_right]

theorem element_yes {a : Int} (h : 18446744069414584321 ≤ a) (h1 : a ≤ 18446744073709551615) : a - 18446744069414584321 = a % PP := by
  have e : a % PP = (a - PP) % PP := (md_sub_PP a).symm
  rw [e, md_small (by rw [PP_eq]; omega) (by rw [PP_eq]; omega), PP_eq]
theorem element_no {a : Int} (h0 : 0 ≤ a) (h : ¬ 18446744069414584321 ≤ a) : a = a % PP := (md_small h0 (by omega)).symm

theorem add_yes (a b : Int) (h : 18446744069414584321 - b % PP ≤ a % PP) : a % PP - (18446744069414584321 - b % PP) = (a + b) % PP := by
  simp only [PP_eq] at *; omega
theorem add_no (a b : Int) (h : ¬ 18446744069414584321 - b % PP ≤ a % PP) : a % PP + b % PP = (a + b) % PP := by
  simp only [PP_eq] at *; omega
theorem sub_yes (a b : Int) (h : b % PP ≤ a % PP) : a % PP - b % PP = (a - b) % PP := by
  simp only [PP_eq] at *; omega
theorem sub_no (a b : Int) (h : ¬ b % PP ≤ a % PP) : a % PP + (18446744069414584321 - b % PP) = (a - b) % PP := by
  simp only [PP_eq] at *; omega

/-- 2^64 is 2^32 - 1, 2^96 is -1. -/
theorem fold_eq (h l : Int) : ((l - h / 4294967296) % PP + (h % 4294967296) * 4294967295) % PP = (h * 18446744073709551616 + l) % PP := by
  rw [md_add_l]
  refine md_of (-(h % 4294967296) - (h / 4294967296) * 4294967297) ?_
  have e := Int.mul_ediv_add_emod h 4294967296
  rw [PP_eq]; omega

/-- A power, less the prime. -/
def pw (a : Int) (n : Nat) : Int := a ^ n % PP
theorem pw_zero (a : Int) : pw a 0 = 1 := by unfold pw; rw [Int.pow_zero]; exact md_small (by omega) (by omega)
theorem pw_one (a : Int) : pw a 1 = a % PP := by unfold pw; rw [Int.pow_one]
theorem pw_succ (a : Int) (n : Nat) : pw a (n + 1) = (pw a n * a) % PP := by unfold pw; rw [Int.pow_succ, md_mul_l]
theorem pw_add (a : Int) (m n : Nat) : pw a (m + n) = (pw a m * pw a n) % PP := by unfold pw; rw [Int.pow_add, md_mul]
theorem pw_md (a : Int) (n : Nat) : pw (a % PP) n = pw a n := by
  induction n with
  | zero => rw [pw_zero, pw_zero]
  | succ n ih => rw [pw_succ, pw_succ, ih, md_mul_r]
theorem pw_mul (a : Int) (m n : Nat) : pw a (m * n) = pw (pw a m) n := by
  induction n with
  | zero => rw [Nat.mul_zero, pw_zero, pw_zero]
  | succ n ih => rw [Nat.mul_succ, pw_add, ih, pw_succ]
theorem pw_dist (a b : Int) (n : Nat) : pw (a * b) n = (pw a n * pw b n) % PP := by unfold pw; rw [Int.mul_pow, md_mul]
theorem pw_one_l (n : Nat) : pw 1 n = 1 := by unfold pw; rw [Int.one_pow]; exact md_small (by omega) (by omega)
theorem pw_bd (a : Int) (n : Nat) : 0 ≤ pw a n ∧ pw a n ≤ 18446744069414584320 := md_bd _
theorem pw_pw_md (a : Int) (n : Nat) : pw a n % PP = pw a n := md_md _
theorem pw_two (a : Int) (n : Nat) : pw a (2 * n) = pw (a * a) n := by rw [pw_dist, Nat.two_mul, pw_add]
theorem pw_sq (a : Int) (n : Nat) : pw ((a * a) % PP) n = pw a (2 * n) := by rw [pw_md, pw_two]

theorem pow_odd (p s : Int) (m : Nat) (h : m % 2 = 1) : ((p * s) % PP * pw ((s * s) % PP) (m / 2)) % PP = (p * pw s m) % PP := by
  have e : m = 2 * (m / 2) + 1 := by omega
  rw [pw_sq, md_mul_l]
  conv => rhs; rw [e, pw_succ, md_mul_r]
  rw [Int.mul_assoc, Int.mul_comm s]
theorem pow_even (p s : Int) (m : Nat) (h : ¬ m % 2 = 1) : (p * pw ((s * s) % PP) (m / 2)) % PP = (p * pw s m) % PP := by
  have e : m = 2 * (m / 2) := by omega
  rw [pw_sq]
  conv => rhs; rw [e]
theorem pow_start (a : Int) (n : Nat) : (1 * pw a n) % PP = pw a n := by rw [Int.one_mul, pw_pw_md]
theorem pow_end {p s : Int} (h0 : 0 ≤ p) (h1 : p ≤ 18446744069414584320) : (p * pw s 0) % PP = p := by rw [pw_zero, Int.mul_one, md_small h0 h1]

/-- The same, by squaring: for the kernel. -/
def pwf : Nat → Int → Nat → Int
  | 0, _, _ => 1
  | f + 1, a, n => if n = 0 then 1 else if n % 2 = 1 then (pwf f ((a * a) % PP) (n / 2) * a) % PP else pwf f ((a * a) % PP) (n / 2)
theorem pwf_eq (f : Nat) : ∀ (a : Int) (n : Nat), n < 2 ^ f → pwf f a n = pw a n := by
  induction f with
  | zero => intro a n h; have : n = 0 := by simpa using h
            subst this; rw [pw_zero]; rfl
  | succ f ih =>
    intro a n h
    unfold pwf
    by_cases h0 : n = 0
    · rw [if_pos h0, h0, pw_zero]
    · rw [if_neg h0]
      have hn : n / 2 < 2 ^ f := by rw [Nat.pow_succ] at h; omega
      by_cases h1 : n % 2 = 1
      · rw [if_pos h1, ih _ _ hn, pw_sq, ← pw_succ]; congr 1; omega
      · rw [if_neg h1, ih _ _ hn, pw_sq]; congr 1; omega

theorem half_step (y : Int) (i : Nat) : y / 2 ^ i = 2 * (y / 2 ^ (i + 1)) + y / 2 ^ i % 2 := by
  have e : y / 2 ^ (i + 1) = y / 2 ^ i / 2 := by
    rw [Int.pow_succ, Int.ediv_ediv_of_nonneg (Int.le_of_lt (Int.pow_pos (by decide)))]
  rw [e]; omega
theorem mul_bit1 (a y : Int) (i : Nat) (h : y / 2 ^ i % 2 = 1) : (((a * (y / 2 ^ (i + 1))) % PP + (a * (y / 2 ^ (i + 1))) % PP) % PP + a) % PP = (a * (y / 2 ^ i)) % PP := by
  rw [md_add, md_add_l, half_step y i, h]
  congr 1; grind
theorem mul_bit0 (a y : Int) (i : Nat) (h : y / 2 ^ i % 2 = 0) : ((a * (y / 2 ^ (i + 1))) % PP + (a * (y / 2 ^ (i + 1))) % PP) % PP = (a * (y / 2 ^ i)) % PP := by
  rw [md_add, half_step y i, h]
  congr 1; grind
theorem mul_top (a y : Int) (h0 : 0 ≤ y) (h1 : y ≤ 18446744073709551615) : (a * (y / 2 ^ 64)) % PP = 0 := by
  have e : y / 2 ^ 64 = 0 := by rw [show (2 : Int) ^ 64 = 18446744073709551616 by decide]; omega
  rw [e, Int.mul_zero]; rfl
theorem mul_last (a y : Int) : (a * (y / 2 ^ 0)) % PP = (a * y) % PP := by rw [Int.pow_zero, Int.ediv_one]
theorem half_step_nat (n i : Nat) : n / 2 ^ i = 2 * (n / 2 ^ (i + 1)) + n / 2 ^ i % 2 := by
  rw [Nat.pow_succ, ← Nat.div_div_eq_div_mul]; omega
theorem pow_bit1 (a : Int) (n i : Nat) (h : n / 2 ^ i % 2 = 1) : (pw a (n / 2 ^ (i + 1)) * pw a (n / 2 ^ (i + 1)) % PP * a) % PP = pw a (n / 2 ^ i) := by
  rw [← pw_add, ← pw_succ]; congr 1; have := half_step_nat n i; omega
theorem pow_bit0 (a : Int) (n i : Nat) (h : n / 2 ^ i % 2 = 0) : (pw a (n / 2 ^ (i + 1)) * pw a (n / 2 ^ (i + 1))) % PP = pw a (n / 2 ^ i) := by
  rw [← pw_add]; congr 1; have := half_step_nat n i; omega

/-- The exponents, behind names. -/
def ordE : Nat := 18446744069414584320
def invE : Nat := 18446744069414584319
theorem ordE_eq : ordE = 18446744069414584320 := rfl
theorem invE_eq : invE = 18446744069414584319 := rfl
theorem invE_succ : invE + 1 = ordE := rfl

theorem seven_ord : pw 7 ordE = 1 := by rw [← pwf_eq 64 _ _ (by decide)]; decide +kernel
theorem seven_half : pw 7 9223372034707292160 = 18446744069414584320 := by rw [← pwf_eq 64 _ _ (by decide)]; decide +kernel

/-- Lifting. -/
def liftv (a : Int) : Int := if a % PP ≤ 9223372034707292160 then a % PP else a % PP - PP

/-- The root of a size. -/
def rootE (k : Nat) : Nat := 18446744069414584320 / 2 ^ k
def rootk (k : Nat) : Int := pw 7 (rootE k)
theorem rootE_mul {k : Nat} (h : k ≤ 32) : rootE k * 2 ^ k = ordE := by
  unfold rootE
  refine Nat.div_mul_cancel ?_
  refine Nat.dvd_trans (Nat.pow_dvd_pow 2 h) ?_
  exact ⟨4294967295, by decide⟩
theorem rootk_pw {k : Nat} (h : k ≤ 32) : pw (rootk k) (2 ^ k) = 1 := by
  unfold rootk; rw [← pw_mul, rootE_mul h]; exact seven_ord
theorem rootE_half {k : Nat} (h : k + 1 ≤ 32) : rootE (k + 1) * 2 ^ k = 9223372034707292160 := by
  have e := rootE_mul h
  rw [Nat.pow_succ, ← Nat.mul_assoc, ordE_eq] at e
  omega
theorem rootk_half {k : Nat} (h : k + 1 ≤ 32) : pw (rootk (k + 1)) (2 ^ k) = 18446744069414584320 := by
  unfold rootk; rw [← pw_mul, rootE_half h]; exact seven_half

/-- What is a power of two. -/
theorem pow2_of_and (m : Nat) : ∀ n, n ≤ m → 1 ≤ n → n &&& (n - 1) = 0 → ∃ k, n = 2 ^ k := by
  induction m with
  | zero => intro n h1 h2; omega
  | succ m ih =>
    intro n hn h1 ha
    by_cases ho : n % 2 = 1
    · by_cases hz : n = 1
      · exact ⟨0, by simpa using hz⟩
      · exfalso
        have e1 : (n &&& (n - 1)) / 2 = (n / 2) &&& ((n - 1) / 2) := by
          have := Nat.and_div_two_pow (a := n) (b := n - 1) (n := 1); simpa using this
        have e2 : (n - 1) / 2 = n / 2 := by omega
        rw [ha, e2, Nat.and_self] at e1
        omega
    · have hz : 1 ≤ n / 2 := by omega
      have e1 : (n &&& (n - 1)) / 2 = (n / 2) &&& ((n - 1) / 2) := by
        have := Nat.and_div_two_pow (a := n) (b := n - 1) (n := 1); simpa using this
      have e2 : (n - 1) / 2 = n / 2 - 1 := by omega
      rw [ha, e2] at e1
      obtain ⟨k, hk⟩ := ih (n / 2) (by omega) hz (by omega)
      exact ⟨k + 1, by rw [Nat.pow_succ]; omega⟩
theorem and_of_pow2 (k : Nat) : 2 ^ k &&& (2 ^ k - 1) = 0 := by
  rw [Nat.and_two_pow_sub_one_eq_mod, Nat.mod_self]

end Go.Proofs.YtddpcjgekfmhkabDoor

/- 7 is a root of all numbers below the prime but 0: so each of them, taken PP - 1 times, is 1. Plain mathematics. -/
namespace Go.Proofs.YtddpcjgekfmhkabDoor

theorem pigeon (n : Nat) : ∀ f : Nat → Nat, (∀ i, i < n → f i < n) → (∀ i j, i < n → j < n → f i = f j → i = j) → ∀ y, y < n → ∃ i, i < n ∧ f i = y := by
  induction n with
  | zero => intro f _ _ y hy; omega
  | succ n ih =>
    intro f hf hi y hy
    by_cases hv : f n = n
    · have hlt : ∀ i, i < n → f i < n := by
        intro i h
        have h1 := hf i (by omega)
        have h2 : f i ≠ n := by
          intro h3
          have := hi i n (by omega) (by omega) (by omega)
          omega
        omega
      by_cases hyn : y = n
      · exact ⟨n, by omega, by omega⟩
      · obtain ⟨i, h1, h2⟩ := ih f hlt (fun i j a b c => hi i j (by omega) (by omega) c) y (by omega)
        exact ⟨i, by omega, h2⟩
    · have hvn : f n < n := by have := hf n (by omega); omega
      have hnv : ∀ i, i < n → f i ≠ f n := by
        intro i h h3
        have := hi i n (by omega) (by omega) h3
        omega
      have key := ih (fun i => if f i = n then f n else f i)
        (by
          intro i h
          show (if f i = n then f n else f i) < n
          by_cases hc : f i = n
          · rw [if_pos hc]; exact hvn
          · rw [if_neg hc]; have := hf i (by omega); omega)
        (by
          intro i j a b c
          have c' : (if f i = n then f n else f i) = (if f j = n then f n else f j) := c
          have ni := hnv i a
          have nj := hnv j b
          by_cases ci : f i = n
          · by_cases cj : f j = n
            · exact hi i j (by omega) (by omega) (by omega)
            · rw [if_pos ci, if_neg cj] at c'; omega
          · by_cases cj : f j = n
            · rw [if_neg ci, if_pos cj] at c'; omega
            · rw [if_neg ci, if_neg cj] at c'; exact hi i j (by omega) (by omega) c')
      by_cases hyv : y = f n
      · exact ⟨n, by omega, by omega⟩
      · by_cases hyn : y = n
        · obtain ⟨i, h1, h2⟩ := key (f n) hvn
          have h2' : (if f i = n then f n else f i) = f n := h2
          refine ⟨i, by omega, ?_⟩
          by_cases ci : f i = n
          · omega
          · rw [if_neg ci] at h2'; exact absurd h2' (hnv i h1)
        · obtain ⟨i, h1, h2⟩ := key y (by omega)
          have h2' : (if f i = n then f n else f i) = y := h2
          refine ⟨i, by omega, ?_⟩
          by_cases ci : f i = n
          · rw [if_pos ci] at h2'; omega
          · rw [if_neg ci] at h2'; exact h2'

theorem pw_mod {a : Int} {m n : Nat} (hm : pw a m = 1) (hn : pw a n = 1) : pw a (n % m) = 1 := by
  have e : n = m * (n / m) + n % m := (Nat.div_add_mod n m).symm
  rw [e, pw_add, pw_mul, hm, pw_one_l, Int.one_mul, pw_pw_md] at hn
  exact hn
theorem pw_gcd (a : Int) (m n : Nat) : pw a m = 1 → pw a n = 1 → pw a (Nat.gcd m n) = 1 := by
  induction m, n using Nat.gcd.induction with
  | H0 n => intro _ h; rw [Nat.gcd_zero_left]; exact h
  | H1 m n _ ih => intro h1 h2; rw [Nat.gcd_rec]; exact ih (pw_mod h1 h2) h1

theorem small_prime (q b : Nat) (hb : q < b * b) (hd : ∀ r, r < b → q % r = 0 → r = 1) (r : Nat) (h : r ∣ q) : r = 1 ∨ r = q := by
  obtain ⟨s, hs⟩ := h
  by_cases h1 : r < b
  · exact Or.inl (hd r h1 (by rw [hs, Nat.mul_mod_right]))
  · by_cases h2 : s < b
    · have := hd s h2 (by rw [hs, Nat.mul_mod_left])
      subst this; right; omega
    · exfalso
      have := Nat.mul_le_mul (Nat.le_of_not_lt h1) (Nat.le_of_not_lt h2)
      omega
theorem pr2 : ∀ r, r ∣ 2 → r = 1 ∨ r = 2 := small_prime 2 2 (by decide) (by decide)
theorem pr3 : ∀ r, r ∣ 3 → r = 1 ∨ r = 3 := small_prime 3 2 (by decide) (by decide)
theorem pr5 : ∀ r, r ∣ 5 → r = 1 ∨ r = 5 := small_prime 5 3 (by decide) (by decide)
theorem pr17 : ∀ r, r ∣ 17 → r = 1 ∨ r = 17 := small_prime 17 5 (by decide) (by decide)
theorem pr257 : ∀ r, r ∣ 257 → r = 1 ∨ r = 257 := small_prime 257 17 (by decide) (by decide)
theorem pr65537 : ∀ r, r ∣ 65537 → r = 1 ∨ r = 65537 := small_prime 65537 257 (by decide) (by decide +kernel)

theorem cop {c q : Nat} (hq : ∀ r, r ∣ q → r = 1 ∨ r = q) (h : ¬ q ∣ c) : Nat.Coprime c q := by
  rcases hq (Nat.gcd c q) (Nat.gcd_dvd_right c q) with h1 | h1
  · exact h1
  · exact absurd (h1 ▸ Nat.gcd_dvd_left c q) h

theorem prime_divisor {c : Nat} (h : c ∣ ordE) (h1 : c ≠ 1) : 2 ∣ c ∨ 3 ∣ c ∨ 5 ∣ c ∨ 17 ∣ c ∨ 257 ∣ c ∨ 65537 ∣ c := by
  have e : ordE = 2 ^ 32 * (3 * (5 * (17 * (257 * (65537 * 1))))) := by decide
  rw [e] at h
  by_cases h2 : 2 ∣ c; · exact Or.inl h2
  by_cases h3 : 3 ∣ c; · exact Or.inr (Or.inl h3)
  by_cases h5 : 5 ∣ c; · exact Or.inr (Or.inr (Or.inl h5))
  by_cases h17 : 17 ∣ c; · exact Or.inr (Or.inr (Or.inr (Or.inl h17)))
  by_cases h257 : 257 ∣ c; · exact Or.inr (Or.inr (Or.inr (Or.inr (Or.inl h257))))
  by_cases h6 : 65537 ∣ c; · exact Or.inr (Or.inr (Or.inr (Or.inr (Or.inr h6))))
  exfalso
  have a := Nat.Coprime.dvd_of_dvd_mul_left (Nat.Coprime.pow_right 32 (cop pr2 h2)) h
  have a := Nat.Coprime.dvd_of_dvd_mul_left (cop pr3 h3) a
  have a := Nat.Coprime.dvd_of_dvd_mul_left (cop pr5 h5) a
  have a := Nat.Coprime.dvd_of_dvd_mul_left (cop pr17 h17) a
  have a := Nat.Coprime.dvd_of_dvd_mul_left (cop pr257 h257) a
  have a := Nat.Coprime.dvd_of_dvd_mul_left (cop pr65537 h6) a
  exact h1 (Nat.dvd_one.1 a)

theorem no2 : pw 7 9223372034707292160 ≠ 1 := by rw [← pwf_eq 64 _ _ (by decide)]; decide +kernel
theorem no3 : pw 7 6148914689804861440 ≠ 1 := by rw [← pwf_eq 64 _ _ (by decide)]; decide +kernel
theorem no5 : pw 7 3689348813882916864 ≠ 1 := by rw [← pwf_eq 64 _ _ (by decide)]; decide +kernel
theorem no17 : pw 7 1085102592318504960 ≠ 1 := by rw [← pwf_eq 64 _ _ (by decide)]; decide +kernel
theorem no257 : pw 7 71777214277877760 ≠ 1 := by rw [← pwf_eq 64 _ _ (by decide)]; decide +kernel
theorem no65537 : pw 7 281470681743360 ≠ 1 := by rw [← pwf_eq 64 _ _ (by decide)]; decide +kernel

theorem no_short {g c q m : Nat} (hg : pw 7 g = 1) (hc : c * g = ordE) (hq : q ∣ c) (hm : q * m = ordE) (hq0 : 0 < q) : pw 7 m = 1 := by
  obtain ⟨c', rfl⟩ := hq
  have : m = g * c' := by
    have e : q * m = q * (g * c') := by rw [hm, ← hc, Nat.mul_assoc, Nat.mul_comm c' g]
    exact Nat.eq_of_mul_eq_mul_left hq0 e
  rw [this, pw_mul, hg, pw_one_l]

theorem seven_order {d : Nat} (h0 : 0 < d) (h1 : d < ordE) : pw 7 d ≠ 1 := by
  intro hd
  have hg := pw_gcd 7 d ordE hd seven_ord
  obtain ⟨c, hc⟩ := Nat.gcd_dvd_right d ordE
  have hle : Nat.gcd d ordE ≤ d := Nat.le_of_dvd h0 (Nat.gcd_dvd_left d ordE)
  generalize Nat.gcd d ordE = g at *
  have hc' : c * g = ordE := by rw [Nat.mul_comm]; exact hc.symm
  have hc1 : c ≠ 1 := by intro h; subst h; omega
  rcases prime_divisor ⟨g, hc'.symm⟩ hc1 with h | h | h | h | h | h
  · exact no2 (no_short hg hc' h (by decide) (by decide))
  · exact no3 (no_short hg hc' h (by decide) (by decide))
  · exact no5 (no_short hg hc' h (by decide) (by decide))
  · exact no17 (no_short hg hc' h (by decide) (by decide))
  · exact no257 (no_short hg hc' h (by decide) (by decide))
  · exact no65537 (no_short hg hc' h (by decide) (by decide))

theorem seven_unit {i : Nat} (h : i ≤ ordE) : (pw 7 i * pw 7 (ordE - i)) % PP = 1 := by
  rw [← pw_add, Nat.add_sub_cancel' h, seven_ord]
theorem seven_ne {i : Nat} (h : i ≤ ordE) : pw 7 i ≠ 0 := by
  intro h0
  have := seven_unit h
  rw [h0, Int.zero_mul] at this
  exact absurd this (by decide)
theorem seven_inj {i j : Nat} (hj : j < ordE) (hij : i < j) : pw 7 i ≠ pw 7 j := by
  intro h
  have hs : pw 7 (j - i) = 1 := by
    have hu := seven_unit (i := i) (by omega)
    have e : pw 7 j = (pw 7 (j - i) * pw 7 i) % PP := by rw [← pw_add]; congr 1; omega
    rw [← h] at e
    have e2 : (pw 7 (ordE - i) * pw 7 i) % PP = (pw 7 (j - i) * (pw 7 i * pw 7 (ordE - i))) % PP := by
      conv => lhs; rw [e, md_mul_r]
      congr 1; rw [Int.mul_comm, Int.mul_assoc]
    rw [Int.mul_comm, hu, ← md_mul_r, hu, Int.mul_one, pw_pw_md] at e2
    exact e2.symm
  exact seven_order (by omega) (by omega) hs

theorem seven_all {x : Int} (h0 : 1 ≤ x) (h1 : x ≤ 18446744069414584320) : ∃ i, x = pw 7 i := by
  obtain ⟨i, _, hi⟩ := pigeon ordE (fun i => (pw 7 i).toNat - 1)
    (by
      intro i h
      have := pw_bd 7 i
      have := seven_ne (i := i) (by omega)
      show (pw 7 i).toNat - 1 < ordE
      rw [ordE_eq]; omega)
    (by
      intro i j a b c
      have c' : (pw 7 i).toNat - 1 = (pw 7 j).toNat - 1 := c
      have := pw_bd 7 i; have := pw_bd 7 j
      have := seven_ne (i := i) (by omega); have := seven_ne (i := j) (by omega)
      have e : pw 7 i = pw 7 j := by omega
      rcases Nat.lt_trichotomy i j with h | h | h
      · exact absurd e (seven_inj b h)
      · exact h
      · exact absurd e.symm (seven_inj a h))
    (x.toNat - 1) (by rw [ordE_eq]; omega)
  refine ⟨i, ?_⟩
  have hi' : (pw 7 i).toNat - 1 = x.toNat - 1 := hi
  have := pw_bd 7 i
  by_cases hz : pw 7 i = 0
  · exfalso
    have h1 : i < ordE := by assumption
    exact seven_ne (by omega) hz
  · omega

/-- Each element but 0, taken PP - 1 times, is 1. -/
theorem pw_ord {x : Int} (h : x % PP ≠ 0) : pw x ordE = 1 := by
  have b := md_bd x
  obtain ⟨i, hi⟩ := seven_all (x := x % PP) (by omega) b.2
  rw [← pw_md, hi, ← pw_mul, Nat.mul_comm, pw_mul, seven_ord, pw_one_l]
/-- The inverse. -/
theorem inv_mul {x : Int} (h : x % PP ≠ 0) : (pw x invE * x) % PP = 1 := by
  rw [← pw_succ, invE_succ, pw_ord h]

end Go.Proofs.YtddpcjgekfmhkabDoor
