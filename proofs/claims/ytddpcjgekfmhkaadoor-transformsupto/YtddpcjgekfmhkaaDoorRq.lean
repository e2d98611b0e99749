/- Small facts for walks whose order is drawn; what the prime is less a number. -/
import Derived.Test.YtddpcjgekfmhkaaDoorRh
namespace Go.Proofs.YtddpcjgekfmhkaaDoor
open Go.RowKit
set_option linter.unusedSimpArgs false

/-- What a cell holds, or nothing. -/
def cellOr (W : World) (a : Addr) : Value := (W.cell? a).getD undef
theorem or_of_some {W : World} {a : Addr} (h : ∃ u, W.cell? a = some u) : W.cell? a = some (cellOr W a) := by
  obtain ⟨u, h⟩ := h
  unfold cellOr; rw [h]; rfl
theorem setCell_ex {W : World} {a p : Addr} {v : Value} (h : ∃ u, W.cell? a = some u) : ∃ u, (W.setCell p v).cell? a = some u := by
  obtain ⟨u, h⟩ := h
  exact cell?_setCell_some h
theorem Gw.or {w w' : World} (h : Gw w w') {b o : Nat} {v : Value} (hv : w.cell? ⟨b, o, none⟩ = some v) : w'.cell? ⟨b, o, none⟩ = some (cellOr w' ⟨b, o, none⟩) := or_of_some ⟨v, h.at hv⟩

theorem prime_minus (y : Int) (y0 : 0 ≤ y) (y1 : y ≤ 18446744069414584320) (w : World) :
    Calls Tryd.prog 53 #[.agg #[.int .i64 4294967295, .int .i64 1], nm y] w fun e w' => e = .returned (nm (18446744069414584321 - y)) ∧ Gw w w' := by
  have c := minus_ref 18446744069414584321 y (by omega) (by omega) y0 (by omega) w
  rw [show (18446744069414584321 - y) % 18446744073709551616 = 18446744069414584321 - y by omega] at c
  exact c

end Go.Proofs.YtddpcjgekfmhkaaDoor
