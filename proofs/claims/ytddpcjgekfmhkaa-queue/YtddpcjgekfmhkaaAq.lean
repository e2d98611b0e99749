/- append of texts to a row that the call owns, as many as memory bears. -/
import Derived.Test.YtddpcjgekfmhkaaAp
namespace Go.Proofs.Ytddpcjgekfmhkaa
open Go.RowKit
set_option linter.unusedSimpArgs false
set_option linter.unusedVariables false

section
variable {P : Program} {w : World}
theorem wpList_append_wide {ops : Array Oper} {rest : List Oper} {o : Oper} {a : Act} {Q : Exit → Act → World → Prop} (hgd : o.guard = none) (s x : Operand) (t : TypeId)
    (ho : o.op = .call { callee := .builtin .append, args := #[s, x], argTypes := #[t, t] })
    (base : Nat) (e : TypeId) (zv : Value) (sz bytes : Nat) (ht : P.underlying t = some (.slice e)) (hinfo : (P.info? e).map (fun i => (i.zero, i.size, i.bytes)) = some (some zv, sz, bytes)) (hzs : zv.cells.size = sz) (hsz : 0 < sz)
    (v : Value) (n : Nat) (xs : List (List Value)) (hs : a.eval s = v) (hown : w.ownsRow base e sz v n xs.flatten)
    (b off m c : Nat) (news : List (List Value)) (hx : a.eval x = .slice (some ⟨b, off, none⟩) m c) (hl : news.length = m) (hel : El sz news) (hsrc : Src w (some ⟨b, off, none⟩) news)
    (hn : n + m ≤ 8796093022208) (hby : bytes ≤ 16) (hbase : base ≤ w.heap.size)
    (h : ∀ v' w', Hid (w'.ownsRow base e sz v' (n + m) (xs ++ news).flatten ∧ w.grownBy w' v.ownBlock ∧ (v'.ownBlock = v.ownBlock ∨ v'.ownBlock = some w.heap.size)) → wpList P ops Q rest (a.put o.dst v') w') :
    wpList P ops Q (o :: rest) a w := by
  obtain ⟨i, hi, hz0, hz1, hz2⟩ := info_parts hinfo
  refine wpList_append_own_at w hgd s x t ho base e i zv sz bytes ht hi hz0 hz1 hz2 hzs hsz v n xs.flatten hs hown ⟨b, off, none⟩ m c news.flatten hx (by rw [hel.flat_len, hl]) ?_ hel.one (by unfold maxLen; omega) ?_ hbase ?_
  · intro j u hj
    have hpos : 0 < news.length := by
      rcases Nat.eq_zero_or_pos news.length with h0 | h0
      · rw [List.eq_nil_of_length_eq_zero h0] at hj; simp at hj
      · exact h0
    obtain ⟨b', o', e', hc⟩ := hsrc hpos
    simp at e'
    obtain ⟨rfl, rfl⟩ := e'
    have e2 : (⟨b, off, none⟩ : Addr).add j = ⟨b, off + j, none⟩ := by unfold Addr.add; split <;> simp_all
    rw [e2]; exact hc j u hj
  · have : (n + m) * bytes ≤ 8796093022208 * 16 := Nat.mul_le_mul hn hby
    omega
  · intro v' w' h1 h2 _ h4
    exact h v' w' ⟨by rw [List.flatten_append]; exact h1, h2, h4⟩
end
end Go.Proofs.Ytddpcjgekfmhkaa
