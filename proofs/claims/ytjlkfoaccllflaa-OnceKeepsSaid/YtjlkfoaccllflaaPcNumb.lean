/-
  Layer parcel: a number is read.
-/
import Derived.Test.YtjlkfoaccllflaaPcRead
import Derived.Laws.BitsLemmas
import Derived.Lib.EndianBits
import Derived.Laws.IdiomStrings
namespace Go.Proofs.Ytjlkfoaccllflaa
open Go.RowKit

/-- what a codec reads of a reader's state, and what it leaves. -/
def rdV {α : Type} (C : Codec α) (d : α) (st : St) : α :=
  match st with
  | .error _ => d
  | .ok b => match C.dec b with
    | .ok (x, _) => x
    | .error _ => d
def rdR {α : Type} (C : Codec α) (st : St) : St :=
  match st with
  | .error e => .error e
  | .ok b => match C.dec b with
    | .ok (_, r) => .ok r
    | .error e => .error e

theorem pcNumL_lt3 : ∀ (l : List UInt8), l.length ≤ 3 → numL l < 16777216
  | [], _ => by decide
  | [a], _ => by have := u8_lt a; simp only [numL, List.foldl]; omega
  | [a, b], _ => by have := u8_lt a; have := u8_lt b; simp only [numL, List.foldl]; omega
  | [a, b, c], _ => by have := u8_lt a; have := u8_lt b; have := u8_lt c; simp only [numL, List.foldl]; omega
  | _ :: _ :: _ :: _ :: _, h => by simp at h
theorem pcOr8 (x y : Nat) (hx : x < 16777216) (hy : y ≤ 255) : bits .or .u32 ((x : Int) * 256) y = ((x * 256 + y : Nat) : Int) := by
  rw [bits_join .u32 32 (by decide) Go.wraps_u32 8 ((x : Int) * 256) y (by omega) (by omega) (by omega) (by omega) (by omega) (by omega)]
  omega

theorem rdV_ok {α : Type} {C : Codec α} {d x : α} {b r : List UInt8} (h : C.dec b = .ok (x, r)) : rdV C d (.ok b) = x := by simp only [rdV, h]
theorem rdV_no {α : Type} {C : Codec α} {d : α} {b : List UInt8} {e : Nat} (h : C.dec b = .error e) : rdV C d (.ok b) = d := by simp only [rdV, h]
theorem rdR_ok {α : Type} {C : Codec α} {x : α} {b r : List UInt8} (h : C.dec b = .ok (x, r)) : rdR C (.ok b) = .ok r := by simp only [rdR, h]
theorem rdR_no {α : Type} {C : Codec α} {b : List UInt8} {e : Nat} (h : C.dec b = .error e) : rdR C (.ok b) = .error e := by simp only [rdR, h]

/-- how a number comes out of the four bytes taken. -/
theorem rd_num (st : St) : (numL (takeV st 4) ≤ 268435455 ∧ rdV numC 0 st = numL (takeV st 4) ∧ rdR numC st = takeR st 4) ∨ (268435455 < numL (takeV st 4) ∧ rdV numC 0 st = 0 ∧ rdR numC st = .error 5) := by
  cases st with
  | error e => exact Or.inl ⟨by show numL [] ≤ _; decide, rfl, rfl⟩
  | ok s =>
    by_cases h : 4 ≤ s.length
    · rw [show takeV (.ok s) 4 = s.take 4 from if_pos h, show takeR (.ok s) 4 = .ok (s.drop 4) from if_pos h]
      by_cases hb : 268435456 ≤ numL (s.take 4)
      · have hd : numC.dec s = .error 5 := by
          show decN s = _
          unfold decN
          rw [if_neg (by omega), if_pos hb]
        exact Or.inr ⟨by omega, rdV_no hd, rdR_no hd⟩
      · have hd : numC.dec s = .ok (numL (s.take 4), s.drop 4) := by
          show decN s = _
          unfold decN
          rw [if_neg (by omega), if_neg hb]
        exact Or.inl ⟨by omega, rdV_ok hd, rdR_ok hd⟩
    · rw [show takeV (.ok s) 4 = [] from if_neg h, show takeR (.ok s) 4 = .error 7 from if_neg h]
      have hd : numC.dec s = .error 7 := by
        show decN s = _
        unfold decN
        rw [if_pos (by omega)]
      exact Or.inl ⟨by decide, rdV_no hd, rdR_no hd⟩

/-- '[]byte(s)'. -/
theorem conv_bytes (w : World) (l : List UInt8) : ∃ cap w2, (convert 9 47 (.string (strB l))).run Try.prog w = .ok (.slice (some ⟨w.heap.size, 0, none⟩) (strB l).size cap) w2 ∧ (strB l).size ≤ cap ∧ Row w2 .u8 (some ⟨w.heap.size, 0, none⟩) (nums l) ∧ Below w.heap.size w w2 := by
  have h := run_bytes_of_string (P := Try.prog) w 9 47 5 (strB l) Try.underlying9 Try.underlying47 Try.underlying5
  refine ⟨_, _, h, grownCap_ge _ _ _ _, ?_, ((below_drewN (Below.refl _ w) 1).alloc (Nat.le_refl _) _)⟩
  refine Or.inr ⟨_, 0, rfl, by show _ < (w.heap.push _).size; simp, fun j hj => ?_⟩
  rw [nums_length] at hj
  have hb : (w.drew.alloc (.cells (bytesRow (strB l) (grownCap w (strB l).size 0 5)) 5 ((bytesRow (strB l) (grownCap w (strB l).size 0 5)).size, (bytesRow (strB l) (grownCap w (strB l).size 0 5)).size + 1))).heap[w.heap.size]? = some (.cells (bytesRow (strB l) (grownCap w (strB l).size 0 5)) 5 ((bytesRow (strB l) (grownCap w (strB l).size 0 5)).size, (bytesRow (strB l) (grownCap w (strB l).size 0 5)).size + 1)) := by
    show (w.heap.push _)[w.heap.size]? = _
    simp
  simp only [World.cell?, hb, Nat.zero_add]
  rw [nums_getD _ _ hj]
  have h2 : j < l.toArray.size := by simpa using hj
  simp [bytesRow, strB, Array.getElem?_append, List.getD, hj]

end Go.Proofs.Ytjlkfoaccllflaa
