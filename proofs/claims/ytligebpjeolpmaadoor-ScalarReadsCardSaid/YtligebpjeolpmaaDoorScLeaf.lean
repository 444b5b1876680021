/-
  Plain mathematics: what bytes that begin with a rune look like, and which rune it is, as one would reckon it from the bytes.
-/
import Derived.Test.YtligebpjeolpmaaDoorScMath
namespace Go.Gz
open Go.Lib

theorem leaf1 (b0 : UInt8) (h : b0.toNat < 128) : V (b0.toNat : Int) ∧ enc (b0.toNat : Int) = [b0] := by
  refine ⟨by unfold V; omega, ?_⟩
  rw [enc_one (by omega) (by omega)]; simp
theorem leaf2 (b0 b1 : UInt8) (h0 : 194 ≤ b0.toNat) (h1 : b0.toNat < 224) (h2 : b1.toNat / 64 = 2) : V ((b0.toNat : Int) % 32 * 64 + (b1.toNat : Int) % 64) ∧ enc ((b0.toNat : Int) % 32 * 64 + (b1.toNat : Int) % 64) = [b0, b1] := by
  have l1 := b1.toNat_lt
  refine ⟨by unfold V; omega, ?_⟩
  rw [enc_two (by omega) (by omega)]
  rw [← u8_eqZ b0 _ (by omega) (by omega) (by omega), ← u8_eqZ b1 _ (by omega) (by omega) (by omega)]
def v3 (b0 b1 b2 : UInt8) : Int := ((b0.toNat : Int) % 16 * 64 + (b1.toNat : Int) % 64) * 64 + (b2.toNat : Int) % 64
def v4 (b0 b1 b2 b3 : UInt8) : Int := (((b0.toNat : Int) % 8 * 64 + (b1.toNat : Int) % 64) * 64 + (b2.toNat : Int) % 64) * 64 + (b3.toNat : Int) % 64
theorem leaf3 (b0 b1 b2 : UInt8) (h0 : 224 ≤ b0.toNat) (h1 : b0.toNat < 240) (h2 : b1.toNat / 64 = 2) (h3 : b2.toNat / 64 = 2) (hv : 2048 ≤ v3 b0 b1 b2 ∧ (v3 b0 b1 b2 < 55296 ∨ 57343 < v3 b0 b1 b2)) : V (v3 b0 b1 b2) ∧ enc (v3 b0 b1 b2) = [b0, b1, b2] := by
  have l1 := b1.toNat_lt
  have l2 := b2.toNat_lt
  unfold v3 at hv ⊢
  refine ⟨by unfold V; omega, ?_⟩
  rw [enc_three (by omega)]
  rw [← u8_eqZ b0 _ (by omega) (by omega) (by omega), ← u8_eqZ b1 _ (by omega) (by omega) (by omega), ← u8_eqZ b2 _ (by omega) (by omega) (by omega)]
theorem leaf4 (b0 b1 b2 b3 : UInt8) (h0 : 240 ≤ b0.toNat) (h1 : b0.toNat < 245) (h2 : b1.toNat / 64 = 2) (h3 : b2.toNat / 64 = 2) (h4 : b3.toNat / 64 = 2) (hv : 65536 ≤ v4 b0 b1 b2 b3 ∧ v4 b0 b1 b2 b3 ≤ 1114111) : V (v4 b0 b1 b2 b3) ∧ enc (v4 b0 b1 b2 b3) = [b0, b1, b2, b3] := by
  have l1 := b1.toNat_lt
  have l2 := b2.toNat_lt
  have l3 := b3.toNat_lt
  unfold v4 at hv ⊢
  refine ⟨by unfold V; omega, ?_⟩
  rw [enc_four (by omega) (by omega)]
  rw [← u8_eqZ b0 _ (by omega) (by omega) (by omega), ← u8_eqZ b1 _ (by omega) (by omega) (by omega), ← u8_eqZ b2 _ (by omega) (by omega) (by omega), ← u8_eqZ b3 _ (by omega) (by omega) (by omega)]

theorem ok_shape {b0 : UInt8} {t : List UInt8} (ok : okS (b0 :: t)) :
    b0.toNat < 128 ∨
    (194 ≤ b0.toNat ∧ b0.toNat < 224 ∧ ∃ b1 t', t = b1 :: t' ∧ b1.toNat / 64 = 2) ∨
    (224 ≤ b0.toNat ∧ b0.toNat < 240 ∧ ∃ b1 b2 t', t = b1 :: b2 :: t' ∧ b1.toNat / 64 = 2 ∧ b2.toNat / 64 = 2 ∧ 2048 ≤ v3 b0 b1 b2 ∧ (v3 b0 b1 b2 < 55296 ∨ 57343 < v3 b0 b1 b2)) ∨
    (240 ≤ b0.toNat ∧ b0.toNat < 245 ∧ ∃ b1 b2 b3 t', t = b1 :: b2 :: b3 :: t' ∧ b1.toNat / 64 = 2 ∧ b2.toNat / 64 = 2 ∧ b3.toNat / 64 = 2 ∧ 65536 ≤ v4 b0 b1 b2 b3 ∧ v4 b0 b1 b2 b3 ≤ 1114111) := by
  obtain ⟨r, hv, hl, _⟩ := step_ok (b0 :: t) (by simp) ok
  generalize (b0 :: t).drop (enc r).length = d at hl
  rcases V_cases hv with h | h | h | h
  · rw [enc_one h.1 h.2] at hl
    simp only [List.cons_append, List.nil_append, List.cons.injEq] at hl
    obtain ⟨rfl, rfl⟩ := hl
    rw [u8 _ (by omega) (by omega)]
    omega
  · rw [enc_two h.1 h.2] at hl
    simp only [List.cons_append, List.nil_append, List.cons.injEq] at hl
    obtain ⟨rfl, rfl⟩ := hl
    refine Or.inr (Or.inl ⟨?_, ?_, _, _, rfl, ?_⟩)
    all_goals (rw [u8 _ (by omega) (by omega)]; omega)
  · rw [enc_three h] at hl
    simp only [List.cons_append, List.nil_append, List.cons.injEq] at hl
    obtain ⟨rfl, rfl⟩ := hl
    refine Or.inr (Or.inr (Or.inl ⟨?_, ?_, _, _, _, rfl, ?_, ?_, ?_, ?_⟩))
    all_goals first
      | (rw [u8 _ (by omega) (by omega)]; omega)
      | (unfold v3; rw [u8 _ (by omega) (by omega), u8 _ (by omega) (by omega), u8 _ (by omega) (by omega)]; omega)
  · rw [enc_four h.1 h.2] at hl
    simp only [List.cons_append, List.nil_append, List.cons.injEq] at hl
    obtain ⟨rfl, rfl⟩ := hl
    refine Or.inr (Or.inr (Or.inr ⟨?_, ?_, _, _, _, _, rfl, ?_, ?_, ?_, ?_, ?_⟩))
    all_goals first
      | (rw [u8 _ (by omega) (by omega)]; omega)
      | (unfold v4; rw [u8 _ (by omega) (by omega), u8 _ (by omega) (by omega), u8 _ (by omega) (by omega), u8 _ (by omega) (by omega)]; omega)

theorem bad_lead {b0 : UInt8} {t : List UInt8} (h : 128 ≤ b0.toNat) (h' : b0.toNat < 194 ∨ 245 ≤ b0.toNat) : ¬ okS (b0 :: t) := fun ok => by
  rcases ok_shape ok with h1 | ⟨_, _, _⟩ | ⟨_, _, _⟩ | ⟨_, _, _⟩ <;> omega
theorem bad_two {b0 : UInt8} {t : List UInt8} (h : 194 ≤ b0.toNat) (h' : b0.toNat < 224) (hb : ∀ b1 t', t = b1 :: t' → b1.toNat / 64 = 2 → False) : ¬ okS (b0 :: t) := fun ok => by
  rcases ok_shape ok with h1 | ⟨_, _, b1, t', e, k⟩ | ⟨_, _, _⟩ | ⟨_, _, _⟩
  · omega
  · exact hb b1 t' e k
  · omega
  · omega
theorem bad_three {b0 : UInt8} {t : List UInt8} (h : 224 ≤ b0.toNat) (h' : b0.toNat < 240) (hb : ∀ b1 b2 t', t = b1 :: b2 :: t' → b1.toNat / 64 = 2 → b2.toNat / 64 = 2 → 2048 ≤ v3 b0 b1 b2 → (v3 b0 b1 b2 < 55296 ∨ 57343 < v3 b0 b1 b2) → False) : ¬ okS (b0 :: t) := fun ok => by
  rcases ok_shape ok with h1 | ⟨_, _, _⟩ | ⟨_, _, b1, b2, t', e, k1, k2, k3, k4⟩ | ⟨_, _, _⟩
  · omega
  · omega
  · exact hb b1 b2 t' e k1 k2 k3 k4
  · omega
theorem bad_four {b0 : UInt8} {t : List UInt8} (h : 240 ≤ b0.toNat) (h' : b0.toNat < 245) (hb : ∀ b1 b2 b3 t', t = b1 :: b2 :: b3 :: t' → b1.toNat / 64 = 2 → b2.toNat / 64 = 2 → b3.toNat / 64 = 2 → 65536 ≤ v4 b0 b1 b2 b3 → v4 b0 b1 b2 b3 ≤ 1114111 → False) : ¬ okS (b0 :: t) := fun ok => by
  rcases ok_shape ok with h1 | ⟨_, _, _⟩ | ⟨_, _, _⟩ | ⟨_, _, b1, b2, b3, t', e, k1, k2, k3, k4, k5⟩
  · omega
  · omega
  · omega
  · exact hb b1 b2 b3 t' e k1 k2 k3 k4 k5

/-- behind whole runes: bytes are a text just if the rest is. -/
theorem txt_suffix : ∀ (rs : List Int) (rest : List UInt8), (∀ r ∈ rs, V r) → Txt (encAll rs ++ rest) → Txt rest
  | [], rest, _, h => h
  | r :: rs, rest, hv, h => by
    have hr : V r := hv r (by simp)
    rw [encAll_cons, List.append_assoc] at h
    have hne : enc r ++ (encAll rs ++ rest) ≠ [] := by have := enc_ne r; simp [this]
    have := (txt_step hne h).2
    rw [step_enc hr] at this
    simp only [List.drop_left] at this
    exact txt_suffix rs rest (fun x hx => hv x (by simp [hx])) this
theorem no_txt_of {rs : List Int} {b0 : UInt8} {t : List UInt8} {l : List UInt8} (hs : l = encAll rs ++ b0 :: t) (hv : ∀ r ∈ rs, V r) (h : ¬ okS (b0 :: t)) : ¬ Txt l := fun ht => by
  rw [hs] at ht
  exact h (txt_step (by simp) (txt_suffix rs _ hv ht)).1
end Go.Gz
