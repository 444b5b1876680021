/-
  WeighKnown: its table; what its texts weigh.
-/
import Derived.Test.YtcocmmndonlhkaaWeAwake
import Derived.Test.YtcocmmndonlhkaaWeEq
namespace Go.Proofs.Ytcocmmndonlhkaa
open Go.RowKit Go.Gz Go.Sort

def wkR (h : Nat) : List WR := [⟨some ⟨h + 1, 0, none⟩, [97], 1, some ⟨h + 2, 0, none⟩, [⟨1, 1, 1⟩], 1⟩, ⟨some ⟨h + 3, 0, none⟩, [97, 98], 2, some ⟨h + 4, 0, none⟩, [⟨2, 1, 1⟩], 1⟩, ⟨some ⟨h + 5, 0, none⟩, [97, 769], 2, some ⟨h + 6, 0, none⟩, [⟨3, 1, 1⟩], 1⟩, ⟨some ⟨h + 7, 0, none⟩, [98], 1, some ⟨h + 8, 0, none⟩, [⟨4, 1, 1⟩], 1⟩,
  ⟨some ⟨h + 9, 0, none⟩, [769], 1, some ⟨h + 10, 0, none⟩, [⟨0, 5, 1⟩], 1⟩, ⟨some ⟨h + 11, 0, none⟩, [770], 1, some ⟨h + 12, 0, none⟩, [⟨0, 6, 1⟩], 1⟩, ⟨some ⟨h + 13, 0, none⟩, [803], 1, some ⟨h + 14, 0, none⟩, [⟨0, 7, 1⟩], 1⟩]
def wkL : List LR := [⟨769, 230, none, [], 0⟩, ⟨770, 230, none, [], 0⟩, ⟨803, 220, none, [], 0⟩]
def wkT (h : Nat) : TB := ⟨some ⟨h, 0, none⟩, wkL, 3, some ⟨h + 15, 0, none⟩, wkR h, 7, 0, false⟩
theorem wk_may (h : Nat) : mayWB (wkT h).ls (wkT h).rs (wkT h).top = true := by kernel_rfl
/-- the six texts. -/
def wkIn : List (List Int) := [[97, 98], [97, 803, 769], [97, 770, 769], [97, 97, 769, 98], [122], []]
/-- what they weigh. -/
def wkOut : List (List EL) := [[⟨2, 1, 1⟩], [⟨3, 1, 1⟩, ⟨0, 7, 1⟩], [⟨1, 1, 1⟩, ⟨0, 6, 1⟩, ⟨0, 5, 1⟩], [⟨1, 1, 1⟩, ⟨3, 1, 1⟩, ⟨4, 1, 1⟩], [⟨64000, 32, 2⟩, ⟨60123, 0, 0⟩], []]
theorem wk_el (h : Nat) (i : Nat) (hi : i < 6) : elemL (wkT h).ls (wkT h).rs wkIn[i]! = wkOut[i]! ∧ wkIn[i]!.any mayNotB = false ∧ wkIn[i]!.length ≤ 4 ∧ wkOut[i]!.length ≤ 3 := by
  match i, hi with
  | 0, _ => exact ⟨by kernel_rfl, by kernel_rfl, by decide, by decide⟩
  | 1, _ => exact ⟨by kernel_rfl, by kernel_rfl, by decide, by decide⟩
  | 2, _ => exact ⟨by kernel_rfl, by kernel_rfl, by decide, by decide⟩
  | 3, _ => exact ⟨by kernel_rfl, by kernel_rfl, by decide, by decide⟩
  | 4, _ => exact ⟨by kernel_rfl, by kernel_rfl, by decide, by decide⟩
  | 5, _ => exact ⟨by kernel_rfl, by kernel_rfl, by decide, by decide⟩
/-- the table with a row too few. -/
def wkB (h a e r : Nat) : TB := ⟨some ⟨h, 0, none⟩, wkL, 3, some ⟨r, 0, none⟩, [⟨some ⟨a, 0, none⟩, [97, 98], 2, some ⟨e, 0, none⟩, [⟨1, 1, 1⟩], 1⟩], 1, 0, false⟩
theorem wk_bad (h a e r : Nat) : mayWB (wkB h a e r).ls (wkB h a e r).rs (wkB h a e r).top = false := by kernel_rfl
/-- the law's closure: one element. -/
theorem one_any (q : Int) (w : World) : Calls Try.prog 5 #[.int .i64 q] w fun e w' => e = .returned (.slice (some ⟨w.heap.size, 0, none⟩) 1 1) ∧ w.alloc (.cells #[.int .i64 q, .int .i64 1, .int .i64 1] 25) = w' := by
  have b3 := fun w : World => build_el3 q 1 1 w
  go_enter Try.func5, Try.ntmps5
  go_wp2_with fail
  go_ret
  exact ⟨rfl, rfl⟩
end Go.Proofs.Ytcocmmndonlhkaa
