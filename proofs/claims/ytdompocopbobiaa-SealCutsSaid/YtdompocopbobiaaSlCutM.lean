/-
  Layer seal, pure: frames cut anywhere; a byte that is turned.
-/
import Derived.Test.YtdompocopbobiaaSlKindM
import Derived.Laws.BitsLemmas
namespace Go.Proofs.Ytdompocopbobiaa

theorem all_cut : ∀ (fs : List (UInt8 × List UInt8)) (t K : Nat), (∀ x ∈ fs, x.2.length ≤ 32768) → t ≤ fs.length → (catF (fs.take t)).length ≤ K → (t = fs.length ∨ K < (catF (fs.take (t + 1))).length) →
    AllIs ((catF fs).take K) ((fs.take t).map fun x => x.1 :: x.2) (catF (fs.take t)).length
  | [], t, K, _, ht, _, _ => by
    obtain rfl : t = 0 := by simpa using ht
    simpa [catF] using all_nil
  | x :: r, 0, K, hf, _, _, h => by
    have hK : K < (frameL x.1 x.2).length := by
      rcases h with h | h
      · simp at h
      · simpa [catF] using h
    have e : (catF (x :: r)).take K = (frameL x.1 x.2).take K := by rw [catF, List.take_append_of_le_length (by omega)]
    rw [e]
    rw [frameL_length] at hK
    have := err_cut x.1 x.2 (hf x (by simp)) K hK
    exact .stop (by rw [this]; decide)
  | x :: r, t + 1, K, hf, ht, hle, h => by
    simp only [List.take_succ_cons, catF, List.length_append] at hle h ⊢
    have ih := all_cut r t (K - (frameL x.1 x.2).length) (fun y hy => hf y (by simp [hy])) (by simpa using ht) (by omega) (by
      rcases h with h | h
      · exact Or.inl (by simpa using h)
      · exact Or.inr (by omega))
    have e : (frameL x.1 x.2 ++ catF r).take K = frameL x.1 x.2 ++ (catF r).take (K - (frameL x.1 x.2).length) := by
      rw [List.take_append, List.take_of_length_le (by omega)]
    rw [e]
    have := all_frame (kind := x.1) (hf x (by simp)) ih
    have e2 : (frameL x.1 x.2).length + (catF (r.take t)).length = 7 + x.2.length + (catF (r.take t)).length := by rw [frameL_length]
    rw [e2]
    exact this

theorem bits_xor8 (a b : Nat) (ha : a < 256) (hb : b < 256) : bits .xor .u8 (a : Int) (b : Int) = ((a ^^^ b : Nat) : Int) := by
  have ha' : a % 2 ^ IntKind.u8.bits = a := Nat.mod_eq_of_lt ha
  have hb' : b % 2 ^ IntKind.u8.bits = b := Nat.mod_eq_of_lt hb
  have hx : a ^^^ b < 2 ^ 8 := Nat.xor_lt_two_pow ha hb
  simp only [bits, BitVec.ofInt_natCast, BitVec.toNat_xor, BitVec.toNat_ofNat, ha', hb']
  exact wraps_u8 _ (Int.natCast_nonneg _) (by exact_mod_cast hx)
theorem xor_ne (x : UInt8) (b : Nat) (hb : b < 256) (h0 : b ≠ 0) : UInt8.ofNat (x.toNat ^^^ b) ≠ x ∧ ((UInt8.ofNat (x.toNat ^^^ b)).toNat : Int) = bits .xor .u8 (x.toNat : Int) (b : Int) := by
  have hx := UInt8.toNat_lt x
  have hlt : x.toNat ^^^ b < 256 := Nat.xor_lt_two_pow (n := 8) hx hb
  have e : (UInt8.ofNat (x.toNat ^^^ b)).toNat = x.toNat ^^^ b := by rw [UInt8.toNat_ofNat']; exact Nat.mod_eq_of_lt hlt
  refine ⟨fun h => h0 ?_, by rw [bits_xor8 _ _ hx hb, e]⟩
  have h1 := congrArg UInt8.toNat h
  rw [e] at h1
  have h2 : x.toNat ^^^ (x.toNat ^^^ b) = x.toNat ^^^ x.toNat := by rw [h1]
  rw [← Nat.xor_assoc, Nat.xor_self, Nat.zero_xor] at h2
  exact h2
end Go.Proofs.Ytdompocopbobiaa
