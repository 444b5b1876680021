/-
  Layer parcel: numbers laid one behind the other.
-/
import Derived.Test.YtjlkfoaccllflaaPcPack
namespace Go.Proofs.Ytjlkfoaccllflaa
open Go.RowKit

def numsS (M : Nat) (st : Option (List UInt8)) (xs : List Int) : Option (List UInt8) := xs.foldl (numS M) st
theorem numS_none (M : Nat) (x : Int) : numS M none x = none := by
  unfold numS
  by_cases h : 0 ≤ x ∧ x ≤ 268435455
  · rw [if_pos h]; rfl
  · rw [if_neg h]
theorem numsS_none (M : Nat) : ∀ xs, numsS M none xs = none
  | [] => rfl
  | x :: xs => by
    show numsS M (numS M none x) xs = none
    rw [numS_none]; exact numsS_none M xs
theorem numsS_snoc (M : Nat) (st : Option (List UInt8)) (xs : List Int) (k : Nat) (h : k < xs.length) : numsS M st (xs.take (k + 1)) = numS M (numsS M st (xs.take k)) (xs.getD k 0) := by
  rw [List.take_succ_eq_append_getElem h]
  unfold numsS
  rw [List.foldl_append]
  simp [List.getD, h]
theorem numsS_bad (M : Nat) (st : Option (List UInt8)) (xs : List Int) (k : Nat) (h : k < xs.length) (hb : ¬ (0 ≤ xs.getD k 0 ∧ xs.getD k 0 ≤ 268435455)) : numsS M st xs = none := by
  have h1 : numsS M st (xs.take (k + 1)) = none := by rw [numsS_snoc M st xs k h]; exact if_neg hb
  have h2 : numsS M st xs = numsS M (numsS M st (xs.take (k + 1))) (xs.drop (k + 1)) := by
    show _ = List.foldl _ (List.foldl _ _ _) _
    rw [← List.foldl_append, List.take_append_drop]; rfl
  rw [h2, h1]; exact numsS_none M _
theorem layS_len (M : Nat) (st : Option (List UInt8)) (l : List UInt8) : ((layS M st l).getD []).length ≤ (st.getD []).length + l.length := by
  cases st with
  | none => simp [layS]
  | some b =>
    by_cases h : b.length + l.length ≤ M
    · rw [show layS M (some b) l = some (b ++ l) from if_pos h]; simp
    · rw [show layS M (some b) l = none from if_neg h]; simp
theorem numS_len (M : Nat) (st : Option (List UInt8)) (x : Int) : ((numS M st x).getD []).length ≤ (st.getD []).length + 4 := by
  unfold numS
  by_cases h : 0 ≤ x ∧ x ≤ 268435455
  · rw [if_pos h]; exact layS_len M st (be4 x.toNat)
  · rw [if_neg h]; simp
theorem numsS_len (M : Nat) : ∀ (xs : List Int) (st : Option (List UInt8)), ((numsS M st xs).getD []).length ≤ (st.getD []).length + 4 * xs.length
  | [], st => by simp [numsS]
  | x :: xs, st => by
    have h1 := numS_len M st x
    have h2 := numsS_len M xs (numS M st x)
    show ((numsS M (numS M st x) xs).getD []).length ≤ _
    rw [List.length_cons]; omega

theorem pcNums_be4 (n : Nat) : nums (be4 n) = [(n : Int) / 16777216 % 256, (n : Int) / 65536 % 256, (n : Int) / 256 % 256, (n : Int) % 256] := by
  simp [nums, be4]

theorem nums_be4s (n : Nat) (h : (n : Int) ≤ 268435455) : nums (be4 n) = [(n : Int) / 16777216, (n : Int) / 65536 % 256, (n : Int) / 256 % 256, (n : Int) % 256] := by
  rw [pcNums_be4, show (n : Int) / 16777216 % 256 = (n : Int) / 16777216 by omega]
theorem conv_be4 (n : Nat) (h : (n : Int) ≤ 268435455) (w : World) :
    (convert 47 9 (.slice (some ⟨w.heap.size, 0, none⟩) 4 4)).run Try.prog (w.alloc (.cells #[.int .u8 ((n : Int) / 16777216), .int .u8 ((n : Int) / 65536 % 256), .int .u8 ((n : Int) / 256 % 256), .int .u8 ((n : Int) % 256)] 5)) = .ok (.string (strB (be4 n))) (w.alloc (.cells #[.int .u8 ((n : Int) / 16777216), .int .u8 ((n : Int) / 65536 % 256), .int .u8 ((n : Int) / 256 % 256), .int .u8 ((n : Int) % 256)] 5)) := by
  have h1 := row_lit w .u8 5 (nums (be4 n))
  rw [nums_be4s n h] at h1
  exact run_string _ (be4 n) _ 4 (by rw [nums_be4s n h]; exact h1)

theorem ints_at (xs : List Int) (k : Nat) (h : k < xs.length) : ((xs.map (Value.int .i64)).toArray)[k]? = some (.int .i64 (xs.getD k 0)) := by
  simp [List.getD, h]
end Go.Proofs.Ytjlkfoaccllflaa
