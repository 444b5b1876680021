/-
  The reference's Compare is the order of bytes.
-/
import Derived.Test.YtligebpjeolpmaaDoorScBase
import Derived.Lib.Bytealg
import Derived.Laws.Cover1
namespace Go.Proofs.YtligebpjeolpmaaDoor
open Go.RowKit Go.Gz

theorem less_cmp : ∀ (x y : List UInt8), Op.bytesLess x y = (Lib.compareBytes x y == -1)
  | [], [] => rfl
  | [], _ :: _ => rfl
  | _ :: _, [] => rfl
  | a :: x, b :: y => by
    simp only [Op.bytesLess, Lib.compareBytes]
    by_cases c : a < b
    · simp [c]
    · by_cases d : b < a
      · have e : ¬ a = b := by rintro rfl; exact c d
        simp [c, d, e]
      · have e : a = b := by
          have h1 := UInt8.not_lt.1 c
          have h2 := UInt8.not_lt.1 d
          exact UInt8.le_antisymm h2 h1
        simp [e, less_cmp x y]
theorem eq_cmp : ∀ (x y : List UInt8), (x == y) = (Lib.compareBytes x y == 0)
  | [], [] => rfl
  | [], _ :: _ => rfl
  | _ :: _, [] => rfl
  | a :: x, b :: y => by
    have ih := eq_cmp x y
    simp only [Lib.compareBytes]
    by_cases c : a < b
    · have e : ¬ a = b := by rintro rfl; exact UInt8.lt_irrefl _ c
      simp [c, e]
    · by_cases d : b < a
      · have e : ¬ a = b := by rintro rfl; exact UInt8.lt_irrefl _ d
        simp [c, d, e]
      · have e : a = b := by
          have h1 := UInt8.not_lt.1 c
          have h2 := UInt8.not_lt.1 d
          exact UInt8.le_antisymm h2 h1
        subst e
        simp [ih]
theorem cmp_three : ∀ (x y : List UInt8), Lib.compareBytes x y = -1 ∨ Lib.compareBytes x y = 0 ∨ Lib.compareBytes x y = 1
  | [], [] => Or.inr (Or.inl rfl)
  | [], _ :: _ => Or.inl rfl
  | _ :: _, [] => Or.inr (Or.inr rfl)
  | a :: x, b :: y => by
    simp only [Lib.compareBytes]
    by_cases c : a < b
    · simp [c]
    · by_cases d : b < a
      · simp [c, d]
      · simp only [c, d, if_false]
        exact cmp_three x y

theorem refCompare_any (a b : ByteArray) (w : World) : Calls Tryd.prog 15 #[.string a, .string b] w fun e w' => e = .returned (.int .i64 (Lib.compareBytes a.data.toList b.data.toList)) ∧ w = w' := by
  have h1 := less_cmp a.data.toList b.data.toList
  have h2 := eq_cmp a.data.toList b.data.toList
  rw [← Lib.toList_data a, ← Lib.toList_data b] at h1 h2 ⊢
  rcases cmp_three a.toList b.toList with h | h | h
  · rw [h] at h1 h2 ⊢
    clear h
    rw [show ((-1 : Int) == -1) = true from by decide] at h1
    rw [show ((-1 : Int) == 0) = false from by decide] at h2
    go_enter Tryd.func15, Tryd.ntmps15
    go_wp2
    go_ret
    exact ⟨rfl, rfl⟩
  · rw [h] at h1 h2 ⊢
    clear h
    rw [show ((0 : Int) == -1) = false from by decide] at h1
    rw [show ((0 : Int) == 0) = true from by decide] at h2
    go_enter Tryd.func15, Tryd.ntmps15
    go_wp2
    go_ret
    exact ⟨rfl, rfl⟩
  · rw [h] at h1 h2 ⊢
    clear h
    rw [show ((1 : Int) == -1) = false from by decide] at h1
    rw [show ((1 : Int) == 0) = false from by decide] at h2
    go_enter Tryd.func15, Tryd.ntmps15
    go_wp2
    go_ret
    exact ⟨rfl, rfl⟩
end Go.Proofs.YtligebpjeolpmaaDoor
