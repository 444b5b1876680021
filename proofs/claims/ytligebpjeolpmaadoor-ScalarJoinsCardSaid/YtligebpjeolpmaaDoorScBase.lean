/-
  What a slice of integers reads as, kept while the world grows; the walks of the small functions of layer scalar: May, Compare, Same, and of the reference.
-/
import Derived.Test.YtligebpjeolpmaaDoorChecked
import Derived.Test.YtligebpjeolpmaaDoorShelf
import Derived.Test.YtligebpjeolpmaaDoorScMath
import Derived.WalkKit
import Derived.Handy
import Derived.Below
import Derived.Lib.Hide
import Derived.BigQuiet
import Derived.Deep.QuietTactic
import Derived.RegionTactic
import Derived.LoopTactic
namespace Go.Proofs.YtligebpjeolpmaaDoor
open Go.RowKit Go.Gz

/-- slice pointer p reads in w as the numbers xs of kind k. -/
def Row (w : World) (k : IntKind) (p : Option Addr) (xs : List Int) : Prop :=
  xs = [] ∨ ∃ b off, p = some ⟨b, off, none⟩ ∧ b < w.heap.size ∧ ∀ j, j < xs.length → w.cell? ⟨b, off + j, none⟩ = some (.int k (xs.getD j 0))

theorem Row.below {w w' : World} {k : IntKind} {p : Option Addr} {xs : List Int} (h : Row w k p xs) (hb : Below w.heap.size w w') : Row w' k p xs := by
  rcases h with h | ⟨b, off, hp, hlt, hc⟩
  · exact Or.inl h
  · exact Or.inr ⟨b, off, hp, Nat.lt_of_lt_of_le hlt hb.size, fun j hj => by rw [hb.cell (p := ⟨b, off + j, none⟩) hlt]; exact hc j hj⟩
theorem below_drewN {B : Nat} {a w : World} (h : Below B a w) (n : Nat) : Below B a (w.drewN n) := ⟨h.os, h.tape, h.output, h.size, h.block⟩
theorem Row.drew {w : World} {k : IntKind} {p : Option Addr} {xs : List Int} (h : Row w k p xs) : Row w.drew k p xs := h.below (Below.refl _ _).drew

theorem may_any (r : Int) (w : World) : Calls Tryd.prog 16 #[.int .i32 r] w fun e w' => e = .returned (.bool (Lib.validRune r)) ∧ w' = w := by
  go_enter Tryd.func16, Tryd.ntmps16
  go_wp2_with (go_at_call 23; refine (Tryd.utf8_ValidRune _ _).mono ?_; rintro e w' ⟨rfl, rfl⟩)
  go_ret
  exact ⟨rfl, rfl⟩

theorem compare_any (a b : ByteArray) (w : World) : Calls Tryd.prog 14 #[.string a, .string b] w fun e w' => e = .returned (.int .i64 (Lib.compareBytes a.data.toList b.data.toList)) ∧ w' = w := by
  go_enter Tryd.func14, Tryd.ntmps14
  go_wp2_with (go_at_call 22; refine (Tryd.strings_Compare _ _ _).mono ?_; rintro e w' ⟨rfl, rfl⟩)
  go_ret
  exact ⟨rfl, rfl⟩

set_option maxHeartbeats 400000 in
theorem same_yes (xs : List Int) (p q : Option Addr) (c d : Nat) (w : World) (hn : xs.length ≤ 1000000) (hp : Row w .i32 p xs) (hq : Row w .i32 q xs) :
    Calls Tryd.prog 11 #[.slice p xs.length c, .slice q xs.length d] w fun e w' => e = .returned (.bool true) ∧ Below w.heap.size w w' := by
  have HP := Lib.hid hp; clear hp
  have HQ := Lib.hid hq; clear hq
  have hne : ((xs.length : Int) != (xs.length : Int)) = false := by simp
  go_enter Tryd.func11, Tryd.ntmps11
  go_wp2
  go_loopw [5] (fun i wr => ∃ k : Nat, k ≤ xs.length ∧ i = .int .i64 k ∧ Below w.heap.size w wr) (fun i _ => xs.length - (intOf i).toNat)
  case atStart => exact ⟨0, Nat.zero_le _, rfl, Below.refl _ _⟩
  case round =>
    obtain ⟨k, hk, rfl, hb⟩ := hrel
    by_cases hlt : k < xs.length
    · obtain ⟨b, o, rfl, hbl, hc⟩ : ∃ b o, p = some ⟨b, o, none⟩ ∧ b < w.heap.size ∧ wr.cell? ⟨b, o + k, none⟩ = some (.int .i32 (xs.getD k 0)) := by
        rcases HP.out with h | ⟨b, o, hp, h1, h2⟩
        · rw [h] at hlt; simp at hlt
        · exact ⟨b, o, hp, h1, by rw [hb.cell (p := ⟨b, o + k, none⟩) h1]; exact h2 k hlt⟩
      obtain ⟨b', o', rfl, hbl', hc'⟩ : ∃ b o, q = some ⟨b, o, none⟩ ∧ b < w.heap.size ∧ wr.cell? ⟨b, o + k, none⟩ = some (.int .i32 (xs.getD k 0)) := by
        rcases HQ.out with h | ⟨b, o, hp, h1, h2⟩
        · rw [h] at hlt; simp at hlt
        · exact ⟨b, o, hp, h1, by rw [hb.cell (p := ⟨b, o + k, none⟩) h1]; exact h2 k hlt⟩
      have hlt' : (k : Int) < (xs.length : Int) := by omega
      go_wp2
      go_quiet (fail)
      go_wp2
      go_roundw
      case rel => exact ⟨k + 1, by omega, by go_num, below_drewN hb _⟩
      case measure => simp [intOf]; omega
    · go_wp2
      go_ret
      exact ⟨rfl, hb⟩
end Go.Proofs.YtligebpjeolpmaaDoor
