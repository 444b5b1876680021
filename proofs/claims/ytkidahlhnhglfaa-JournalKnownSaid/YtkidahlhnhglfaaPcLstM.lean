/-
  Layer parcel, pure: lists of texts: what is read of them.
-/
import Derived.Test.YtkidahlhnhglfaaPcEnc
namespace Go.Proofs.Ytkidahlhnhglfaa
open Go.RowKit

/-- what ReadList says of n texts that are to come: an error, or none. A text of more than three bytes may not be. -/
def scanL : Nat → St → Nat
  | 0, st => endE st
  | n + 1, st => match rdR textC st with
    | .error e => e
    | .ok r => if 3 < (rdV textC [] st).length then 2 else scanL n (.ok r)
def rdListE (b : List UInt8) : Nat := scanL (rdV numC 0 (.ok b)) (rdR numC (.ok b))
def rdListV (b : List UInt8) : List (List UInt8) := valsR textC [] (rdV numC 0 (.ok b)) (rdR numC (.ok b))

theorem encL_eq (l : List (List UInt8)) : (Codec.list textC).enc l = be4 l.length ++ encR textC l := rfl
theorem scan_front : ∀ (l : List (List UInt8)) (r : List UInt8), (∀ x ∈ l, x.length ≤ 3) → scanL l.length (.ok (encR textC l ++ r)) = endE (.ok r) ∧ valsR textC [] l.length (.ok (encR textC l ++ r)) = l
  | [], r, _ => ⟨rfl, rfl⟩
  | x :: l, r, h => by
    have hx := h x (by simp)
    have hd : textC.dec (textC.enc x ++ (encR textC l ++ r)) = .ok (x, encR textC l ++ r) := textC.rt x _ (show x.length < 268435456 by omega)
    have ih := scan_front l r (fun y hy => h y (by simp [hy]))
    have e : encR textC (x :: l) ++ r = textC.enc x ++ (encR textC l ++ r) := by
      show (textC.enc x ++ encR textC l) ++ r = _
      rw [List.append_assoc]
    rw [e]
    constructor
    · simp only [List.length_cons, scanL, rdR_ok hd, rdV_ok hd]
      rw [if_neg (by omega)]
      exact ih.1
    · simp only [List.length_cons, valsR, rdR_ok hd, rdV_ok hd]
      rw [ih.2]
theorem scan_bad : ∀ (l : List (List UInt8)) (r : List UInt8), (∀ x ∈ l, textC.ok x) → (∃ x ∈ l, 3 < x.length) → scanL l.length (.ok (encR textC l ++ r)) = 2
  | [], r, _, h => by obtain ⟨x, hx, _⟩ := h; cases hx
  | x :: l, r, h, hb => by
    have hd : textC.dec (textC.enc x ++ (encR textC l ++ r)) = .ok (x, encR textC l ++ r) := textC.rt x _ (h x (by simp))
    have e : encR textC (x :: l) ++ r = textC.enc x ++ (encR textC l ++ r) := by
      show (textC.enc x ++ encR textC l) ++ r = _
      rw [List.append_assoc]
    rw [e]
    simp only [List.length_cons, scanL, rdR_ok hd, rdV_ok hd]
    by_cases h3 : 3 < x.length
    · rw [if_pos h3]
    · rw [if_neg h3]
      refine scan_bad l r (fun y hy => h y (by simp [hy])) ?_
      obtain ⟨y, hy, hy3⟩ := hb
      rcases List.mem_cons.1 hy with rfl | hy
      · exact absurd hy3 h3
      · exact ⟨y, hy, hy3⟩
theorem scan_cut : ∀ (l : List (List UInt8)) (k : Nat), (∀ x ∈ l, x.length ≤ 3) → k < (encR textC l).length → scanL l.length (.ok ((encR textC l).take k)) = 7
  | [], k, _, hk => by simp [encR] at hk
  | x :: l, k, h, hk => by
    have hx := h x (by simp)
    have hok : textC.ok x := show x.length < 268435456 by omega
    have e : encR textC (x :: l) = textC.enc x ++ encR textC l := rfl
    rw [e] at hk ⊢
    rw [List.length_append] at hk
    by_cases hc : k < (textC.enc x).length
    · have hd := textC.cut x k hok hc
      rw [List.take_append_of_le_length (by omega)]
      simp only [List.length_cons, scanL, rdR_no hd]
    · rw [List.take_append, List.take_of_length_le (by omega)]
      have hd := textC.rt x ((encR textC l).take (k - (textC.enc x).length)) hok
      simp only [List.length_cons, scanL, rdR_ok hd, rdV_ok hd]
      rw [if_neg (by omega)]
      exact scan_cut l _ (fun y hy => h y (by simp [hy])) (by omega)

theorem num_front (n : Nat) (r : List UInt8) (h : n < 268435456) : rdV numC 0 (.ok (be4 n ++ r)) = n ∧ rdR numC (.ok (be4 n ++ r)) = .ok r := by
  have hd : numC.dec (be4 n ++ r) = .ok (n, r) := numC.rt n r h
  exact ⟨rdV_ok hd, rdR_ok hd⟩
theorem list_ok (l : List (List UInt8)) (hn : l.length < 268435456) (h : ∀ x ∈ l, x.length ≤ 3) : rdListE ((Codec.list textC).enc l) = 0 ∧ rdListV ((Codec.list textC).enc l) = l := by
  have e := num_front l.length (encR textC l) hn
  have s := scan_front l [] h
  rw [List.append_nil] at s
  unfold rdListE rdListV
  rw [encL_eq, e.1, e.2]
  exact s
theorem list_more (l : List (List UInt8)) (hn : l.length < 268435456) (h : ∀ x ∈ l, x.length ≤ 3) : rdListE ((Codec.list textC).enc l ++ [0]) = 5 := by
  have e := num_front l.length (encR textC l ++ [0]) hn
  have s := scan_front l [0] h
  unfold rdListE
  rw [encL_eq, List.append_assoc, e.1, e.2]
  exact s.1
theorem list_bad (l : List (List UInt8)) (hn : l.length < 268435456) (h : ∀ x ∈ l, textC.ok x) (hb : ∃ x ∈ l, 3 < x.length) : rdListE ((Codec.list textC).enc l) = 2 := by
  have e := num_front l.length (encR textC l) hn
  have s := scan_bad l [] h hb
  rw [List.append_nil] at s
  unfold rdListE
  rw [encL_eq, e.1, e.2]
  exact s
theorem list_cut (l : List (List UInt8)) (hn : l.length < 268435456) (h : ∀ x ∈ l, x.length ≤ 3) (k : Nat) (hk : k < ((Codec.list textC).enc l).length) : rdListE (((Codec.list textC).enc l).take k) = 7 := by
  have hl : (be4 l.length).length = 4 := rfl
  rw [encL_eq] at hk ⊢
  rw [List.length_append, hl] at hk
  unfold rdListE
  by_cases h4 : k < 4
  · have hd := numC.cut l.length k hn (show k < (be4 l.length).length by rw [hl]; exact h4)
    have hd2 : numC.dec ((be4 l.length).take k) = .error 7 := hd
    rw [List.take_append_of_le_length (by omega), rdV_no hd2, rdR_no hd2]
    rfl
  · rw [List.take_append, List.take_of_length_le (by omega), hl]
    have e := num_front l.length ((encR textC l).take (k - 4)) hn
    rw [e.1, e.2]
    exact scan_cut l (k - 4) h (by omega)

def sumL3 (l : List (List UInt8)) : Nat := l.foldr (fun x n => x.length + n) 0
theorem encR_len : ∀ l : List (List UInt8), (encR textC l).length = 4 * l.length + sumL3 l
  | [] => rfl
  | x :: l => by
    show (textC.enc x ++ encR textC l).length = _
    have h1 : (textC.enc x).length = 4 + x.length := by show (be4 _ ++ x).length = _; rw [List.length_append]; rfl
    have h2 : sumL3 (x :: l) = x.length + sumL3 l := rfl
    rw [List.length_append, encR_len l, h1, h2, List.length_cons]
    omega
theorem encL_len (l : List (List UInt8)) : ((Codec.list textC).enc l).length = 4 + 4 * l.length + sumL3 l := by
  rw [encL_eq, List.length_append, encR_len]
  have : (be4 l.length).length = 4 := rfl
  omega
theorem sizeT_eq : ∀ l : List (List UInt8), sizeT l = 4 * l.length + sumL3 l
  | [] => rfl
  | x :: l => by
    have h1 : sizeT (x :: l) = 4 + x.length + sizeT l := rfl
    have h2 : sumL3 (x :: l) = x.length + sumL3 l := rfl
    rw [h1, h2, sizeT_eq l, List.length_cons]
    omega
theorem sum_mem : ∀ (l : List (List UInt8)), ∀ x ∈ l, x.length ≤ sumL3 l
  | [], x, h => by cases h
  | y :: l, x, h => by
    have h2 : sumL3 (y :: l) = y.length + sumL3 l := rfl
    rcases List.mem_cons.1 h with rfl | h
    · omega
    · have := sum_mem l x h
      omega
theorem sum_take : ∀ (l : List (List UInt8)) (k : Nat), k < l.length → sumL3 (l.take (k + 1)) = sumL3 (l.take k) + (l.getD k []).length
  | [], k, h => by simp at h
  | x :: l, 0, _ => by
    show x.length + sumL3 [] = sumL3 [] + x.length
    omega
  | x :: l, k + 1, h => by
    have ih := sum_take l k (by simpa using h)
    show x.length + sumL3 (l.take (k + 1)) = (x.length + sumL3 (l.take k)) + (l.getD k []).length
    rw [ih]; omega
theorem sum_len : ∀ (l : List (List UInt8)) (c : Nat), (∀ x ∈ l, x.length ≤ c) → sumL3 l ≤ l.length * c
  | [], _, _ => by simp [sumL3]
  | x :: l, c, h => by
    have h2 : sumL3 (x :: l) = x.length + sumL3 l := rfl
    have := sum_len l c (fun y hy => h y (by simp [hy]))
    have hx := h x (by simp)
    rw [h2, List.length_cons, Nat.add_mul]
    omega

/-- a packer with room for all lays them all. -/
theorem texts_room (M : Nat) : ∀ (l : List (List UInt8)) (b : List UInt8), (∀ x ∈ l, x.length ≤ 268435455) → b.length + sizeT l ≤ M → textsS M (some b) l = some (b ++ encR textC l)
  | [], b, _, _ => by rw [show encR textC [] = [] from rfl, List.append_nil]; rfl
  | x :: l, b, h, hr => by
    have h1 : sizeT (x :: l) = 4 + x.length + sizeT l := rfl
    have h4 : (be4 x.length).length = 4 := rfl
    have e1 : numS M (some b) (x.length : Int) = some (b ++ be4 x.length) := by
      unfold numS
      rw [if_pos ⟨by omega, by have := h x (by simp); omega⟩, Int.toNat_natCast]
      exact if_pos (by rw [h4]; omega)
    have e2 : textS M (some b) x = some ((b ++ be4 x.length) ++ x) := by
      unfold textS
      rw [e1]
      exact if_pos (by rw [List.length_append, h4]; omega)
    show textsS M (textS M (some b) x) l = _
    rw [e2, texts_room M l _ (fun y hy => h y (by simp [hy])) (by rw [List.length_append, List.length_append, h4]; omega)]
    show some (((b ++ be4 x.length) ++ x) ++ encR textC l) = some (b ++ ((be4 x.length ++ x) ++ encR textC l))
    simp only [List.append_assoc]
def listS (l : List (List UInt8)) : Option (List UInt8) := textsS 9223372036854775807 (numsS 9223372036854775807 (some []) [(l.length : Int)]) l
theorem listS_room (l : List (List UInt8)) (hn : l.length ≤ 1000) (h : sumL3 l ≤ 100000) : listS l = some ((Codec.list textC).enc l) := by
  have h4 : (be4 l.length).length = 4 := rfl
  have e1 : numsS 9223372036854775807 (some []) [(l.length : Int)] = some (be4 l.length) := by
    show numS 9223372036854775807 (some []) (l.length : Int) = _
    unfold numS
    rw [if_pos ⟨by omega, by omega⟩, Int.toNat_natCast]
    have hc : ([] : List UInt8).length + (be4 l.length).length ≤ 9223372036854775807 := by rw [h4]; simp
    show layS 9223372036854775807 (some []) (be4 l.length) = some (be4 l.length)
    show (if ([] : List UInt8).length + (be4 l.length).length ≤ 9223372036854775807 then some ([] ++ be4 l.length) else none) = some (be4 l.length)
    rw [if_pos hc]; rfl
  unfold listS
  rw [e1, texts_room _ l _ (fun x hx => by have := sum_mem l x hx; omega) (by rw [h4, sizeT_eq]; omega)]
  rfl
end Go.Proofs.Ytkidahlhnhglfaa
