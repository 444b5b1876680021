/-
  Layer span: Has, Empty, and the reference's.
-/
import Derived.Test.YtodcnemnajlbdaaQuietBelow
import Derived.Test.YtodcnemnajlbdaaSpMath
namespace Go.Proofs.Ytodcnemnajlbdaa
open Go.RowKit Go.Gz

theorem has_any (f t k : ByteArray) (w : World) : Calls Try.prog 40 #[.agg #[.string f, .string t], .string k] w fun e w' => e = .returned (.bool (hasB ⟨f, t⟩ k)) ∧ Below w.heap.size w w' := by
  go_enter Try.func40, Try.ntmps40
  go_wp2_with fail
  all_goals
    go_ret
    refine ⟨?_, (Below.refl _ _).alloc (Nat.le_refl _) _⟩
    simp_all [hasB, slt, sem]
theorem refHas_any (f t k : ByteArray) (w : World) : Calls Try.prog 18 #[.agg #[.string f, .string t], .string k] w fun e w' => e = .returned (.bool (hasB ⟨f, t⟩ k)) ∧ Below w.heap.size w w' := by
  go_enter Try.func18, Try.ntmps18
  go_wp2_with fail
  all_goals
    go_ret
    refine ⟨?_, (Below.refl _ _).alloc (Nat.le_refl _) _⟩
    simp_all [hasB, slt, sem]
theorem empty_any (f t : ByteArray) (w : World) : Calls Try.prog 35 #[.agg #[.string f, .string t]] w fun e w' => e = .returned (.bool (emptyB ⟨f, t⟩)) ∧ Below w.heap.size w w' := by
  have h := hasB_self ⟨f, t⟩
  have C := Lib.hid (fun w => has_any f t f w)
  obtain ⟨b, hb⟩ : ∃ b, hasB ⟨f, t⟩ f = b := ⟨_, rfl⟩
  rw [hb] at C
  have hx : emptyB ⟨f, t⟩ = !b := by rw [← hb, h]; simp
  have HX := Lib.hid hx
  clear hx h hb
  go_enter Try.func35, Try.ntmps35
  go_wp2_with fail
  refine (C.out _).mono ?_
  rintro e w' ⟨rfl, hb⟩
  go_wp2_with fail
  go_ret
  exact ⟨by rw [HX.out]; rfl, ((Below.refl _ _).alloc (Nat.le_refl _) _).trans (hb.mono (by simp))⟩
theorem refEmpty_any (f t : ByteArray) (w : World) : Calls Try.prog 37 #[.agg #[.string f, .string t]] w fun e w' => e = .returned (.bool (emptyB ⟨f, t⟩)) ∧ Below w.heap.size w w' := by
  go_enter Try.func37, Try.ntmps37
  go_wp2_with fail
  all_goals
    go_ret
    refine ⟨?_, (Below.refl _ _).alloc (Nat.le_refl _) _⟩
    simp_all [emptyB, slt, sem]
theorem maxS_eq (a b : ByteArray) : Lib.maxS a b = maxS2 a b := by
  unfold Lib.maxS maxS2
  rw [slt_eq]
  simp
end Go.Proofs.Ytodcnemnajlbdaa
