/-
  Layer parcel: a text, a truth is read; what a reader says at the end.
-/
import Derived.Test.YtjlkfoaccllflaaPcNumb
namespace Go.Proofs.Ytjlkfoaccllflaa
open Go.RowKit

theorem decN_lt {b r : List UInt8} {n : Nat} (h : decN b = .ok (n, r)) : n ≤ 268435455 := by
  unfold decN at h
  by_cases h1 : b.length < 4
  · rw [if_pos h1] at h; cases h
  · rw [if_neg h1] at h
    by_cases h2 : 268435456 ≤ numL (b.take 4)
    · rw [if_pos h2] at h; cases h
    · rw [if_neg h2] at h
      injection h with h
      injection h with h _
      omega
theorem rdV_num_le (st : St) : rdV numC 0 st ≤ 268435455 := by
  cases st with
  | error e => exact Nat.zero_le _
  | ok b =>
    cases hd : numC.dec b with
    | error e => rw [rdV_no hd]; exact Nat.zero_le _
    | ok x => rw [rdV_ok (x := x.1) (r := x.2) hd]; exact decN_lt (b := b) (r := x.2) hd
theorem rd_text (st : St) : takeV (rdR numC st) (rdV numC 0 st) = rdV textC [] st ∧ takeR (rdR numC st) (rdV numC 0 st) = rdR textC st := by
  cases st with
  | error e => exact ⟨rfl, rfl⟩
  | ok b =>
    cases hd : decN b with
    | error e =>
      have ht : textC.dec b = .error e := by
        show decT b = _
        unfold decT; rw [hd]
      rw [rdV_no (C := textC) ht, rdR_no (C := textC) ht, rdR_no (C := numC) hd]
      exact ⟨rfl, rfl⟩
    | ok x =>
      obtain ⟨n, r⟩ := x
      rw [rdV_ok (C := numC) hd, rdR_ok (C := numC) hd]
      by_cases hn : n ≤ r.length
      · have ht : textC.dec b = .ok (r.take n, r.drop n) := by
          show decT b = _
          unfold decT; rw [hd]
          exact if_neg (by omega)
        rw [rdV_ok ht, rdR_ok ht]
        exact ⟨if_pos hn, if_pos hn⟩
      · have ht : textC.dec b = .error 7 := by
          show decT b = _
          unfold decT; rw [hd]
          exact if_pos (by omega)
        rw [rdV_no ht, rdR_no ht]
        exact ⟨if_neg hn, if_neg hn⟩

theorem strB_toList (l : List UInt8) : (strB l).toList = l := by rw [ByteArray.toList_eq]; rfl
theorem less_one {x : UInt8} (h0 : x ≠ 0) : Op.bytesLess [x] [1] = false := by
  have h1 : ¬ x < 1 := fun h => h0 (by
    have h2 : x.toNat < 1 := h
    exact UInt8.toNat_inj.1 (by show x.toNat = 0; omega))
  simp [Op.bytesLess, h1]
/-- a byte read as a truth. -/
theorem rd_truth (st : St) : (takeV st 1 = [] ∧ rdV truthC false st = false ∧ rdR truthC st = takeR st 1) ∨ (takeV st 1 = [0] ∧ rdV truthC false st = false ∧ rdR truthC st = takeR st 1) ∨ (takeV st 1 = [1] ∧ rdV truthC false st = true ∧ rdR truthC st = takeR st 1) ∨
    (∃ x : UInt8, x ≠ 0 ∧ x ≠ 1 ∧ takeV st 1 = [x] ∧ rdV truthC false st = false ∧ rdR truthC st = .error 5) := by
  cases st with
  | error e => exact Or.inl ⟨rfl, rfl, rfl⟩
  | ok b =>
    cases b with
    | nil => exact Or.inl ⟨rfl, rfl, rfl⟩
    | cons x r =>
      by_cases h0 : x = 0
      · subst h0; exact Or.inr (Or.inl ⟨rfl, rfl, rfl⟩)
      · by_cases h1 : x = 1
        · subst h1; exact Or.inr (Or.inr (Or.inl ⟨rfl, rfl, rfl⟩))
        · have hd : truthC.dec (x :: r) = .error 5 := by
            show decB (x :: r) = _
            unfold decB
            simp [h0, h1]
          exact Or.inr (Or.inr (Or.inr ⟨x, h0, h1, rfl, rdV_no hd, rdR_no hd⟩))

def endE (st : St) : Nat :=
  match st with
  | .error e => e
  | .ok [] => 0
  | .ok (_ :: _) => 5
end Go.Proofs.Ytjlkfoaccllflaa
