/-
  Sums of lengths, as far as they wrap.
-/
import Derived.Test.YtbhojddakmgdmaaMg13
import Derived.Test.YtbhojddakmgdmaaMg18
namespace Go.Proofs.Ytbhojddakmgdmaa
open Go.RowKit Go.Gz

def szS (s : SP) : Nat := s.f.size + s.t.size
def szL (x : RecL) : Nat := x.1.length + x.2.length
theorem sumZ_app {α : Type} (sz : α → Nat) : ∀ (xs ys : List α), sumZ sz (xs ++ ys) = sumZ sz xs + sumZ sz ys
  | [], ys => (Nat.zero_add _).symm
  | x :: xs, ys => by
    have h := sumZ_app sz xs ys
    show sz x + sumZ sz (xs ++ ys) = sz x + sumZ sz xs + sumZ sz ys
    omega
theorem sumZ_succ {α : Type} [Inhabited α] (sz : α → Nat) (xs : List α) (i : Nat) (hi : i < xs.length) : sumZ sz (xs.take (i + 1)) = sumZ sz (xs.take i) + sz xs[i]! := by
  rw [List.take_succ_eq_append_getElem hi, sumZ_app, getElem!_pos xs i hi]
  rfl
theorem sumZ_succD {α : Type} (d : α) (sz : α → Nat) (xs : List α) (i : Nat) (hi : i < xs.length) : sumZ sz (xs.take (i + 1)) = sumZ sz (xs.take i) + sz (xs.getD i d) := by
  rw [List.take_succ_eq_append_getElem hi, sumZ_app]
  have e : xs.getD i d = xs[i] := by simp [List.getD, hi]
  rw [e]
  rfl
theorem wrap_two (S a b : Nat) : wrap64 (wrap64 (wrap64 (S : Int) + a) + b) = wrap64 ((S + (a + b) : Nat) : Int) := by unfold wrap64; omega
end Go.Proofs.Ytbhojddakmgdmaa
