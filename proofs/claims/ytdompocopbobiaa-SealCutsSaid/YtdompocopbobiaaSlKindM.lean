/-
  Layer seal, pure: frames one behind another.
-/
import Derived.Test.YtdompocopbobiaaSlMath
namespace Go.Proofs.Ytdompocopbobiaa

def catF : List (UInt8 × List UInt8) → List UInt8
  | [] => []
  | x :: r => frameL x.1 x.2 ++ catF r
theorem catF_append (a b : List (UInt8 × List UInt8)) : catF (a ++ b) = catF a ++ catF b := by
  induction a with
  | nil => rfl
  | cons x r ih => simp [catF, ih]
theorem catF_one (x : UInt8 × List UInt8) : catF [x] = frameL x.1 x.2 := by simp [catF]
theorem catF_le (n : Nat) : ∀ fs : List (UInt8 × List UInt8), (∀ x ∈ fs, x.2.length ≤ n) → (catF fs).length ≤ fs.length * (7 + n)
  | [], _ => by simp [catF]
  | x :: r, h => by
    have h1 := catF_le n r (fun y hy => h y (by simp [hy]))
    have h2 := h x (by simp)
    rw [catF, List.length_append, frameL_length, List.length_cons, Nat.add_mul]
    omega
theorem all_catF : ∀ fs : List (UInt8 × List UInt8), (∀ x ∈ fs, x.2.length ≤ 32768) → AllIs (catF fs) (fs.map fun x => x.1 :: x.2) (catF fs).length
  | [], _ => all_nil
  | x :: r, h => by
    have h1 := all_catF r (fun y hy => h y (by simp [hy]))
    have := all_frame (kind := x.1) (h x (by simp)) h1
    rw [catF, List.length_append, frameL_length]
    exact this
theorem u8_succ_ne (k : UInt8) : k + 1 ≠ k := by
  intro h
  have h1 := congrArg UInt8.toNat h
  have h2 := u8_lt k
  rw [UInt8.toNat_add] at h1
  have : (1 : UInt8).toNat = 1 := rfl
  rw [this] at h1
  omega
theorem u8_succ (k : UInt8) : (((k + 1).toNat : Nat) : Int) = ((k.toNat : Int) + 1) % 256 := by
  rw [UInt8.toNat_add]
  have : (1 : UInt8).toNat = 1 := rfl
  rw [this]
  omega
end Go.Proofs.Ytdompocopbobiaa
