/-
  Layer parcel: what a packer does.
-/
import Derived.Test.YtjlkfoaccllflaaPcBase
namespace Go.Proofs.Ytjlkfoaccllflaa
open Go.RowKit

/-- pure: a packer's steps. -/
def layS (M : Nat) : Option (List UInt8) → List UInt8 → Option (List UInt8)
  | none, _ => none
  | some b, l => if b.length + l.length ≤ M then some (b ++ l) else none
def numS (M : Nat) (st : Option (List UInt8)) (x : Int) : Option (List UInt8) := if 0 ≤ x ∧ x ≤ 268435455 then layS M st (be4 x.toNat) else none
def textS (M : Nat) (st : Option (List UInt8)) (l : List UInt8) : Option (List UInt8) := layS M (numS M st l.length) l
theorem layS_bd {M : Nat} {st : Option (List UInt8)} {l b : List UInt8} (h : layS M st l = some b) : b.length ≤ M := by
  cases st with
  | none => cases h
  | some c =>
    by_cases hc : c.length + l.length ≤ M
    · rw [show layS M (some c) l = some (c ++ l) from if_pos hc] at h
      injection h with h
      subst h
      rw [List.length_append]; exact hc
    · rw [show layS M (some c) l = none from if_neg hc] at h
      cases h

theorem below_set {B g o : Nat} {u : Value} (w : World) (hg : B ≤ g) : Below B w (w.setCell ⟨g, o, none⟩ u) := (Below.refl B w).setCell (p := ⟨g, o, none⟩) hg u

end Go.Proofs.Ytjlkfoaccllflaa
