/-
  Layer lease, pure: leases and what is told of them.
-/
import GoSem.Core.Value
import Derived.Test.YtohomnfededglaaRows2
namespace Go.Proofs.Ytohomnfededglaa
open Go.RowKit

/-- a lease. -/
structure Lz where
  e : Int
  s : Int
  f : Int
  deriving DecidableEq
def Lz.val (l : Lz) : Value := .agg #[.int .i64 l.e, .int .i64 l.s, .int .i64 l.f]
def mayZ (l : Lz) : Bool := decide (1 ≤ l.e ∧ 0 ≤ l.s ∧ l.s ≤ 1099511627776 ∧ 1 ≤ l.f ∧ l.f ≤ 1099511627776)
def holdsZ (l : Lz) (n : Int) : Bool := mayZ l && decide (l.s ≤ n ∧ n < l.s + l.f)
def leftZ (l : Lz) (n : Int) : Int := if holdsZ l n then l.s + l.f - n else 0
def clampZ (k : Int) : Int := if k < 0 then 0 else if 1099511627776 < k then 1099511627776 else k
def safeZ (l : Lz) (n k : Int) : Bool := !mayZ l || decide (l.s + l.f + clampZ k ≤ n)
def noneZ : Lz := ⟨0, 0, 0⟩
def beforeZ (a b : Lz) : Bool := decide (a.e < b.e ∨ a.e = b.e ∧ a.s + a.f < b.s + b.f)
def laterZ (a b : Lz) : Lz := if !mayZ a && !mayZ b then noneZ else if !mayZ b then a else if !mayZ a || beforeZ a b then b else a
theorem mayZ_iff (l : Lz) : mayZ l = true ↔ 1 ≤ l.e ∧ 0 ≤ l.s ∧ l.s ≤ 1099511627776 ∧ 1 ≤ l.f ∧ l.f ≤ 1099511627776 := by simp [mayZ]
theorem clampZ_bounds (k : Int) : 0 ≤ clampZ k ∧ clampZ k ≤ 1099511627776 := by unfold clampZ; split <;> (try split) <;> omega

/-- of the later one: it may be, or is none. -/
theorem laterZ_may (a b : Lz) : mayZ (laterZ a b) = true ∨ laterZ a b = noneZ := by
  unfold laterZ
  cases ha : mayZ a <;> cases hb : mayZ b <;> simp [ha, hb]
  split <;> simp [ha, hb]
theorem none_may : mayZ noneZ = false := rfl
/-- by order. -/
def likeZ (p q : Lz) : Prop := p.e = q.e ∧ p.s + p.f = q.s + q.f
theorem later_swap (a b : Lz) : likeZ (laterZ a b) (laterZ b a) := by
  unfold laterZ likeZ
  cases ha : mayZ a <;> cases hb : mayZ b <;> simp
  by_cases h1 : beforeZ a b = true <;> by_cases h2 : beforeZ b a = true <;> simp [h1, h2] <;> simp [beforeZ] at h1 h2 <;> omega
theorem later_may {a b : Lz} (ha : mayZ a = true) (hb : mayZ b = true) : laterZ a b = if beforeZ a b then b else a := by simp [laterZ, ha, hb]
theorem later_left {a b : Lz} (hb : mayZ b = false) : laterZ a b = if mayZ a then a else noneZ := by cases ha : mayZ a <;> simp [laterZ, ha, hb]
theorem later_right {a b : Lz} (ha : mayZ a = false) : laterZ a b = if mayZ b then b else noneZ := by cases hb : mayZ b <;> simp [laterZ, ha, hb]
theorem later_three (a b c : Lz) : likeZ (laterZ (laterZ a b) c) (laterZ a (laterZ b c)) := by
  unfold likeZ
  cases ha : mayZ a
  · cases hb : mayZ b
    · cases hc : mayZ c <;> simp [later_left, later_right (a := noneZ) none_may, later_right, ha, hb, hc]
    · cases hc : mayZ c
      · simp [later_left, later_right, ha, hb, hc]
      · rw [later_right (a := a) ha, later_right (a := a) ha, later_may hb hc]
        simp only [hb, if_true]
        rw [later_may hb hc]
        split <;> simp
  · cases hb : mayZ b
    · cases hc : mayZ c <;> simp [later_left, later_right, later_left (b := noneZ) none_may, ha, hb, hc]
    · cases hc : mayZ c
      · rw [later_left (a := b) hc, later_may ha hb, later_left hc]
        simp only [hb, if_true]
        rw [later_may ha hb]
        split <;> simp
      · rw [later_may ha hb, later_may hb hc]
        rcases h1 : beforeZ a b with _ | _ <;> rcases h2 : beforeZ b c with _ | _ <;> rcases h3 : beforeZ a c with _ | _ <;> simp only [reduceIte, later_may, ha, hb, hc, h1, h2, h3, Bool.false_eq_true] <;> simp only [beforeZ, decide_eq_true_eq, decide_eq_false_iff_not] at h1 h2 h3 <;> first | exact ⟨trivial, trivial⟩ | omega
theorem later_self (a : Lz) : laterZ a a = laterZ a noneZ := by
  unfold laterZ
  cases ha : mayZ a <;> simp [none_may]
end Go.Proofs.Ytohomnfededglaa
