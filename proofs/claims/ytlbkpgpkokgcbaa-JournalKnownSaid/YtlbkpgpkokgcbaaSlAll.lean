/-
  Layer seal: All.
-/
import Derived.Test.YtlbkpgpkokgcbaaSlOpen
import Derived.Test.YtlbkpgpkokgcbaaSlRows
namespace Go.Proofs.Ytlbkpgpkokgcbaa
open Go.RowKit Go.Gz

theorem AllIs.inv {b : List UInt8} {rs : List (List UInt8)} {n : Nat} (h : AllIs b rs n) : (errL b ≠ 0 ∧ rs = [] ∧ n = 0) ∨ (errL b = 0 ∧ ∃ r' n', rs = (kindL b :: dataL b) :: r' ∧ n = 7 + manyL b + n' ∧ AllIs (b.drop (7 + manyL b)) r' n') := by
  cases h with
  | stop h => exact Or.inl ⟨h, rfl, rfl⟩
  | step h h2 => exact Or.inr ⟨h, _, _, rfl, rfl, h2⟩

theorem one_byte {w : World} {b : Nat} {x : UInt8} (h : w.cell? ⟨b, 0, none⟩ = some (.int .u8 x.toNat)) (hb : b < w.heap.size) : Row w .u8 (some ⟨b, 0, none⟩) (nums [x]) := by
  refine Or.inr ⟨b, 0, rfl, hb, fun j hj => ?_⟩
  have hj0 : j = 0 := by simpa [nums] using hj
  subst hj0
  exact h

def RetAll (w : World) (rs : List (List UInt8)) (U : Nat) (e : Ending) (w' : World) : Prop :=
  ∃ v vs, e = .returned (.tuple #[v, .int .i64 U]) ∧ OwnL w' w.heap.size v vs ∧ Items w' w.heap.size vs rs ∧ Below w.heap.size w w'

structure AllR (w : World) (l : List UInt8) (rs : List (List UInt8)) (U : Nat) (va vu : Value) (wr : World) (u : Nat) (vs : List Value) (pre suf : List (List UInt8)) : Prop where
  ev : vu = .int .i64 u
  sp : pre ++ suf = rs
  ai : AllIs (l.drop u) suf (U - u)
  le : u ≤ U
  ul : U ≤ l.length
  own : OwnL wr w.heap.size va vs
  it : Items wr w.heap.size vs pre
  bl : Below w.heap.size w wr
  ct : pre.length ≤ u

end Go.Proofs.Ytlbkpgpkokgcbaa
