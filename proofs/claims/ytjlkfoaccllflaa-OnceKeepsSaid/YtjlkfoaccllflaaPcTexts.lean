/-
  Layer parcel: texts and truths laid; a packer made, and asked for its bytes.
-/
import Derived.Test.YtjlkfoaccllflaaPcNums
namespace Go.Proofs.Ytjlkfoaccllflaa
open Go.RowKit

def textsS (M : Nat) (st : Option (List UInt8)) (xs : List (List UInt8)) : Option (List UInt8) := xs.foldl (textS M) st
theorem textsS_snoc (M : Nat) (st : Option (List UInt8)) (xs : List (List UInt8)) (k : Nat) (h : k < xs.length) : textsS M st (xs.take (k + 1)) = textS M (textsS M st (xs.take k)) (xs.getD k []) := by
  rw [List.take_succ_eq_append_getElem h]
  unfold textsS
  rw [List.foldl_append]
  simp [List.getD, h]
def sizeT (xs : List (List UInt8)) : Nat := xs.foldr (fun l n => 4 + l.length + n) 0
theorem textS_len (M : Nat) (st : Option (List UInt8)) (l : List UInt8) : ((textS M st l).getD []).length ≤ (st.getD []).length + 4 + l.length := by
  have h1 := numS_len M st l.length
  have h2 := layS_len M (numS M st l.length) l
  unfold textS; omega
theorem textsS_len (M : Nat) : ∀ (xs : List (List UInt8)) (st : Option (List UInt8)), ((textsS M st xs).getD []).length ≤ (st.getD []).length + sizeT xs
  | [], st => by simp [textsS, sizeT]
  | x :: xs, st => by
    have h1 := textS_len M st x
    have h2 := textsS_len M xs (textS M st x)
    show ((textsS M (textS M st x) xs).getD []).length ≤ _
    show _ ≤ _ + (4 + x.length + sizeT xs)
    omega
theorem sizeT_take : ∀ (xs : List (List UInt8)) (k : Nat), k < xs.length → sizeT (xs.take k) + (4 + (xs.getD k []).length) ≤ sizeT xs
  | [], k, h => by simp at h
  | x :: xs, 0, _ => by
    show 0 + (4 + x.length) ≤ 4 + x.length + sizeT xs
    omega
  | x :: xs, k + 1, h => by
    have := sizeT_take xs k (by simpa using h)
    show 4 + x.length + sizeT (xs.take k) + (4 + (xs.getD k []).length) ≤ 4 + x.length + sizeT xs
    omega
theorem texts_at (xs : List (List UInt8)) (k : Nat) (h : k < xs.length) : ((xs.map fun l => Value.string (strB l)).toArray)[k]? = some (.string (strB (xs.getD k []))) := by
  simp [List.getD, h]

def truthS (M : Nat) (st : Option (List UInt8)) (t : Bool) : Option (List UInt8) := layS M st (encB t)
def errP (st : Option (List UInt8)) : Int := if st.isNone then 1 else 0
/-- what Packed answers. -/
def RetPk (B : Nat) (st : Option (List UInt8)) (w : World) (e : Ending) (w' : World) : Prop :=
  ∃ v, e = .returned (.tuple #[v, .int .i64 (errP st)]) ∧ Own w' B 5 .u8 v (nums (st.getD [])) ∧ Below B w w'
end Go.Proofs.Ytjlkfoaccllflaa
