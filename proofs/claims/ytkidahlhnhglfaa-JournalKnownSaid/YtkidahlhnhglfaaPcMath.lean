/-
  Layer parcel, pure: parts of bytes, one behind another: what is written is read; what is cut is too short; with more behind it, it is no form; unlike ones have unlike bytes.
-/
import Derived.Test.YtkidahlhnhglfaaSlMath
namespace Go.Proofs.Ytkidahlhnhglfaa

/-- how a thing is written, and read from what bytes begin with: the thing and what is left, or an error (7: too short, 5: no form). -/
structure Codec (α : Type) where
  enc : α → List UInt8
  ok : α → Prop
  dec : List UInt8 → Except Nat (α × List UInt8)
  rt : ∀ a r, ok a → dec (enc a ++ r) = .ok (a, r)
  cut : ∀ a k, ok a → k < (enc a).length → dec ((enc a).take k) = .error 7

/-- a number: four bytes, below 2^28. -/
def decN (b : List UInt8) : Except Nat (Nat × List UInt8) := if b.length < 4 then .error 7 else if 268435456 ≤ numL (b.take 4) then .error 5 else .ok (numL (b.take 4), b.drop 4)
def numC : Codec Nat where
  enc := be4
  ok n := n < 268435456
  dec := decN
  rt n r h := by
    have e : (be4 n ++ r).take 4 = be4 n := rfl
    have l : ¬ (be4 n ++ r).length < 4 := by simp [be4]
    unfold decN
    rw [if_neg l, e, numL_be4 n (by omega), if_neg (by omega)]
    rfl
  cut n k h hk := by
    have : ((be4 n).take k).length < 4 := by rw [List.length_take]; have : (be4 n).length = 4 := rfl; omega
    unfold decN
    rw [if_pos this]

/-- a text: its length, then its bytes. -/
def encT (s : List UInt8) : List UInt8 := be4 s.length ++ s
def decT (b : List UInt8) : Except Nat (List UInt8 × List UInt8) :=
  match decN b with
  | .error e => .error e
  | .ok (n, r) => if r.length < n then .error 7 else .ok (r.take n, r.drop n)
def textC : Codec (List UInt8) where
  enc := encT
  ok s := s.length < 268435456
  dec := decT
  rt s r h := by
    unfold decT encT
    rw [List.append_assoc, show decN (be4 s.length ++ (s ++ r)) = .ok (s.length, s ++ r) from numC.rt s.length (s ++ r) h]
    simp
  cut s k h hk := by
    have hl : (be4 s.length).length = 4 := rfl
    unfold encT at hk ⊢
    rw [List.length_append, hl] at hk
    unfold decT
    by_cases h4 : k < 4
    · rw [List.take_append_of_le_length (by omega), show decN ((be4 s.length).take k) = .error 7 from numC.cut s.length k h (by show k < 4; exact h4)]
    · rw [List.take_append, List.take_of_length_le (by omega), hl, show decN (be4 s.length ++ s.take (k - 4)) = .ok (s.length, s.take (k - 4)) from numC.rt s.length _ h]
      have : (s.take (k - 4)).length < s.length := by rw [List.length_take]; omega
      simp only [this, if_true]

/-- a truth: one byte. -/
def encB (x : Bool) : List UInt8 := [if x then 1 else 0]
def decB : List UInt8 → Except Nat (Bool × List UInt8)
  | [] => .error 7
  | x :: r => if x = 0 then .ok (false, r) else if x = 1 then .ok (true, r) else .error 5
def truthC : Codec Bool where
  enc := encB
  ok _ := True
  dec := decB
  rt x r _ := by cases x <;> rfl
  cut x k _ hk := by
    have : k = 0 := by simp [encB] at hk; exact hk
    subst this; rfl

/-- one behind the other. -/
def decP {α β : Type} (a : Codec α) (b : Codec β) (x : List UInt8) : Except Nat ((α × β) × List UInt8) :=
  match a.dec x with
  | .error e => .error e
  | .ok (u, r) => match b.dec r with
    | .error e => .error e
    | .ok (v, s) => .ok ((u, v), s)
def Codec.pair {α β : Type} (a : Codec α) (b : Codec β) : Codec (α × β) where
  enc x := a.enc x.1 ++ b.enc x.2
  ok x := a.ok x.1 ∧ b.ok x.2
  dec := decP a b
  rt x r h := by
    unfold decP
    rw [List.append_assoc, a.rt _ _ h.1]
    simp only
    rw [b.rt _ _ h.2]
  cut x k h hk := by
    rw [List.length_append] at hk
    unfold decP
    by_cases ha : k < (a.enc x.1).length
    · rw [List.take_append_of_le_length (by omega), a.cut _ _ h.1 ha]
    · rw [List.take_append, List.take_of_length_le (by omega), a.rt _ _ h.1]
      simp only
      rw [b.cut _ _ h.2 (by omega)]

/-- so many of a kind. -/
def encR {α : Type} (a : Codec α) : List α → List UInt8
  | [] => []
  | x :: l => a.enc x ++ encR a l
def decR {α : Type} (a : Codec α) : Nat → List UInt8 → Except Nat (List α × List UInt8)
  | 0, b => .ok ([], b)
  | n + 1, b => match a.dec b with
    | .error e => .error e
    | .ok (x, r) => match decR a n r with
      | .error e => .error e
      | .ok (l, s) => .ok (x :: l, s)
theorem decR_rt {α : Type} (a : Codec α) : ∀ (l : List α) (r : List UInt8), (∀ x ∈ l, a.ok x) → decR a l.length (encR a l ++ r) = .ok (l, r)
  | [], _, _ => rfl
  | x :: l, r, h => by
    simp only [encR, List.length_cons, decR]
    rw [List.append_assoc, a.rt _ _ (h x (by simp))]
    simp only
    rw [decR_rt a l r (fun y hy => h y (by simp [hy]))]
theorem decR_cut {α : Type} (a : Codec α) : ∀ (l : List α) (k : Nat), (∀ x ∈ l, a.ok x) → k < (encR a l).length → decR a l.length ((encR a l).take k) = .error 7
  | [], k, _, hk => by simp [encR] at hk
  | x :: l, k, h, hk => by
    simp only [encR, List.length_append] at hk
    simp only [encR, List.length_cons, decR]
    by_cases ha : k < (a.enc x).length
    · rw [List.take_append_of_le_length (by omega), a.cut _ _ (h x (by simp)) ha]
    · rw [List.take_append, List.take_of_length_le (by omega), a.rt _ _ (h x (by simp))]
      simp only
      rw [decR_cut a l _ (fun y hy => h y (by simp [hy])) (by omega)]
/-- how many, then all of them. -/
def decL {α : Type} (a : Codec α) (b : List UInt8) : Except Nat (List α × List UInt8) :=
  match decN b with
  | .error e => .error e
  | .ok (n, r) => decR a n r
def Codec.list {α : Type} (a : Codec α) : Codec (List α) where
  enc l := be4 l.length ++ encR a l
  ok l := l.length < 268435456 ∧ ∀ x ∈ l, a.ok x
  dec := decL a
  rt l r h := by
    unfold decL
    rw [List.append_assoc, show decN (be4 l.length ++ (encR a l ++ r)) = .ok (l.length, encR a l ++ r) from numC.rt l.length _ h.1]
    exact decR_rt a l r h.2
  cut l k h hk := by
    have hl : (be4 l.length).length = 4 := rfl
    rw [List.length_append, hl] at hk
    unfold decL
    by_cases h4 : k < 4
    · rw [List.take_append_of_le_length (by omega), show decN ((be4 l.length).take k) = .error 7 from numC.cut l.length k h.1 (by show k < 4; exact h4)]
    · rw [List.take_append, List.take_of_length_le (by omega), hl, show decN (be4 l.length ++ (encR a l).take (k - 4)) = .ok (l.length, (encR a l).take (k - 4)) from numC.rt l.length _ h.1]
      exact decR_cut a l _ h.2 (by omega)

/-- the whole of it: nothing may be left. -/
def readL {α : Type} (a : Codec α) (b : List UInt8) : Except Nat α :=
  match a.dec b with
  | .error e => .error e
  | .ok (x, r) => if r = [] then .ok x else .error 5
theorem read_enc {α : Type} (a : Codec α) (x : α) (h : a.ok x) : readL a (a.enc x) = .ok x := by
  have := a.rt x [] h
  rw [List.append_nil] at this
  unfold readL
  rw [this]; rfl
theorem read_cut {α : Type} (a : Codec α) (x : α) (h : a.ok x) (k : Nat) (hk : k < (a.enc x).length) : readL a ((a.enc x).take k) = .error 7 := by
  unfold readL
  rw [a.cut x k h hk]
theorem read_more {α : Type} (a : Codec α) (x : α) (h : a.ok x) (y : UInt8) (r : List UInt8) : readL a (a.enc x ++ y :: r) = .error 5 := by
  unfold readL
  rw [a.rt x _ h]; rfl
theorem Codec.inj {α : Type} (a : Codec α) {x y : α} (hx : a.ok x) (hy : a.ok y) (h : a.enc x = a.enc y) : x = y := by
  have h1 := read_enc a x hx
  rw [h, read_enc a y hy] at h1
  injection h1 with h1
  exact h1.symm

/-- P9.1: an ask, a reply. -/
def askC : Codec (Nat × Nat × Nat × Nat × List UInt8 × List UInt8 × List UInt8 × List UInt8) :=
  numC.pair (numC.pair (numC.pair (numC.pair (textC.pair (textC.pair (textC.pair textC))))))
def replyC : Codec (Nat × Nat × Nat × Bool × List UInt8 × List (List UInt8 × List UInt8) × List UInt8 × Bool) :=
  numC.pair (numC.pair (numC.pair (truthC.pair (textC.pair ((Codec.list (textC.pair textC)).pair (textC.pair truthC))))))
end Go.Proofs.Ytkidahlhnhglfaa
