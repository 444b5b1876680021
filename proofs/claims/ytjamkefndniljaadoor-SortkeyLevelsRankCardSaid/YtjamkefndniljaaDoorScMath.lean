/-
  Plain mathematics of UTF-8 for the statements of layer scalar: no program, no model's run. The bytes of runes, one step of decoding, when bytes are a text, and that the order of bytes is the order of runes.
-/
import Derived.Lib.DecodeN
import Derived.Lib.RuneBytes
import Derived.Lib.Small
import Derived.Shelf.Unicode.DecodeSlow
namespace Go.Gz
open Go.Lib

def V (r : Int) : Prop := (0 ≤ r ∧ r < 0xD800) ∨ (0xDFFF < r ∧ r ≤ 0x10FFFF)
theorem validRune_iff (r : Int) : Lib.validRune r = true ↔ V r := by simp [Lib.validRune, V]
def enc (r : Int) : List UInt8 := Lib.encodeRune r
def encAll (l : List Int) : List UInt8 := l.flatMap enc
@[simp] theorem encAll_nil : encAll [] = [] := rfl
@[simp] theorem encAll_cons (r : Int) (l : List Int) : encAll (r :: l) = enc r ++ encAll l := rfl
theorem encAll_append (a b : List Int) : encAll (a ++ b) = encAll a ++ encAll b := by simp [encAll]
theorem enc_length (r : Int) : 1 ≤ (enc r).length ∧ (enc r).length ≤ 4 := by
  have := encodeRuneZ_length r
  simpa [enc, encodeRune] using this
theorem enc_ne (r : Int) : enc r ≠ [] := by
  intro h
  have := (enc_length r).1
  rw [h] at this
  simp at this

def stepU (l : List UInt8) : Nat × Nat := decodeN l.length (l.getD 0 0).toNat (l.getD 1 0).toNat (l.getD 2 0).toNat (l.getD 3 0).toNat
def okS (l : List UInt8) : Prop := ¬ ((stepU l).1 = 65533 ∧ (stepU l).2 < 2)

theorem u8 (z : Int) (_h0 : 0 ≤ z) (h1 : z < 256) : (z.toNat.toUInt8).toNat = z.toNat := by
  simp; omega

theorem enc_one {r : Int} (h0 : 0 ≤ r) (h1 : r ≤ 127) : enc r = [r.toNat.toUInt8] := by simp [enc, encodeRune, encodeRuneZ_one h0 h1]
theorem enc_two {r : Int} (h0 : 128 ≤ r) (h1 : r ≤ 2047) : enc r = [(192 + r / 64).toNat.toUInt8, (128 + r % 64).toNat.toUInt8] := by simp [enc, encodeRune, encodeRuneZ_two h0 h1]
theorem enc_three {r : Int} (h : (2048 ≤ r ∧ r < 55296) ∨ (57343 < r ∧ r ≤ 65535)) : enc r = [(224 + r / 4096).toNat.toUInt8, (128 + r / 64 % 64).toNat.toUInt8, (128 + r % 64).toNat.toUInt8] := by simp [enc, encodeRune, encodeRuneZ_three h]
theorem enc_four {r : Int} (h0 : 65536 ≤ r) (h1 : r ≤ 1114111) : enc r = [(240 + r / 262144).toNat.toUInt8, (128 + r / 4096 % 64).toNat.toUInt8, (128 + r / 64 % 64).toNat.toUInt8, (128 + r % 64).toNat.toUInt8] := by simp [enc, encodeRune, encodeRuneZ_four h0 h1]

theorem V_cases {r : Int} (h : V r) : (0 ≤ r ∧ r ≤ 127) ∨ (128 ≤ r ∧ r ≤ 2047) ∨ ((2048 ≤ r ∧ r < 55296) ∨ (57343 < r ∧ r ≤ 65535)) ∨ (65536 ≤ r ∧ r ≤ 1114111) := by
  unfold V at h; omega

set_option maxHeartbeats 1000000 in
theorem step_enc {r : Int} (h : V r) (rest : List UInt8) : stepU (enc r ++ rest) = (r.toNat, (enc r).length) := by
  rcases V_cases h with h | h | h | h
  · rw [enc_one h.1 h.2]
    simp only [stepU, List.cons_append, List.nil_append, List.getD_cons_zero, List.length_cons, List.length_nil]
    rw [u8 _ (by omega) (by omega)]
    simp only [decodeN]
    rw [if_pos (by omega)]
  · rw [enc_two h.1 h.2]
    simp only [stepU, List.cons_append, List.nil_append, List.getD_cons_zero, List.getD_cons_succ, List.length_cons, List.length_nil]
    rw [u8 _ (by omega) (by omega), u8 _ (by omega) (by omega)]
    simp only [decodeN]
    rw [if_neg (by omega), if_pos (by omega), if_pos (by omega)]
    exact Prod.ext (by show (_ : Nat) = _; omega) rfl
  · rw [enc_three h]
    simp only [stepU, List.cons_append, List.nil_append, List.getD_cons_zero, List.getD_cons_succ, List.length_cons, List.length_nil]
    rw [u8 _ (by omega) (by omega), u8 _ (by omega) (by omega), u8 _ (by omega) (by omega)]
    simp only [decodeN]
    rw [if_neg (by omega), if_neg (by omega), if_pos (by omega), if_pos (by omega)]
    exact Prod.ext (by show (_ : Nat) = _; omega) rfl
  · rw [enc_four h.1 h.2]
    simp only [stepU, List.cons_append, List.nil_append, List.getD_cons_zero, List.getD_cons_succ, List.length_cons, List.length_nil]
    rw [u8 _ (by omega) (by omega), u8 _ (by omega) (by omega), u8 _ (by omega) (by omega), u8 _ (by omega) (by omega)]
    simp only [decodeN]
    rw [if_neg (by omega), if_neg (by omega), if_neg (by omega), if_pos (by omega), if_pos (by omega)]
    exact Prod.ext (by show (_ : Nat) = _; omega) rfl

theorem ok_enc {r : Int} (h : V r) (rest : List UInt8) : okS (enc r ++ rest) := by
  unfold okS
  rw [step_enc h]
  simp only
  intro ⟨h1, h2⟩
  have : r = 65533 := by unfold V at h; omega
  subst this
  rw [enc_three (by omega)] at h2
  simp at h2

theorem u8_eq (x : UInt8) (n : Nat) (h : n < 256) (e : x.toNat = n) : x = n.toUInt8 := by
  apply UInt8.toNat_inj.1
  rw [e]; simp; omega
theorem u8_eqZ (x : UInt8) (z : Int) (h0 : 0 ≤ z) (h1 : z < 256) (e : x.toNat = z.toNat) : x = z.toNat.toUInt8 := u8_eq x _ (by omega) e

theorem three_of {t : List UInt8} (h : 3 ≤ t.length) : ∃ b1 b2 b3 t', t = b1 :: b2 :: b3 :: t' := by
  match t, h with
  | b1 :: b2 :: b3 :: t, _ => exact ⟨b1, b2, b3, t, rfl⟩

set_option maxRecDepth 100000 in
set_option maxHeartbeats 1000000 in
/-- what decodes well is a rune's bytes. -/
theorem step_ok : ∀ (l : List UInt8), l ≠ [] → okS l → ∃ r : Int, V r ∧ l = enc r ++ l.drop (enc r).length ∧ stepU l = (r.toNat, (enc r).length)
  | b0 :: t, _, ok => by
    have l0 := b0.toNat_lt
    simp only [okS, stepU, decodeN, List.getD_cons_zero, List.getD_cons_succ, List.length_cons] at ok
    by_cases c1 : b0.toNat < 128
    · refine ⟨b0.toNat, by unfold V; omega, ?_⟩
      have e : enc (b0.toNat : Int) = [b0] := by rw [enc_one (by omega) (by omega)]; simp
      have hv : V (b0.toNat : Int) := by unfold V; omega
      have := step_enc hv t
      rw [e] at this ⊢
      exact ⟨by simp, this⟩
    · rw [if_neg c1] at ok
      by_cases c2 : b0.toNat / 32 = 6 ∧ (1 < t.length + 1 ∧ (t.getD 0 0).toNat / 64 = 2)
      · rw [if_pos c2] at ok
        by_cases d : b0.toNat % 32 * 64 + (t.getD 0 0).toNat % 64 ≥ 128
        · match t, c2, d with
          | b1 :: t, c2, d =>
            simp only [List.getD_cons_zero] at c2 d
            have l1 := b1.toNat_lt
            have hv : V ((b0.toNat % 32 * 64 + b1.toNat % 64 : Nat) : Int) := by unfold V; omega
            have e : enc ((b0.toNat % 32 * 64 + b1.toNat % 64 : Nat) : Int) = [b0, b1] := by
              rw [enc_two (by omega) (by omega)]
              rw [← u8_eqZ b0 _ (by omega) (by omega) (by omega), ← u8_eqZ b1 _ (by omega) (by omega) (by omega)]
            have := step_enc hv t
            rw [e] at this
            exact ⟨_, hv, by rw [e]; simp, by rw [e]; exact this⟩
        · rw [if_neg d] at ok; simp at ok
      · rw [if_neg c2] at ok
        by_cases c3 : b0.toNat / 16 = 14 ∧ (1 < t.length + 1 ∧ (t.getD 0 0).toNat / 64 = 2) ∧ (2 < t.length + 1 ∧ (t.getD 1 0).toNat / 64 = 2)
        · rw [if_pos c3] at ok
          split at ok
          · rename_i d
            match t, c3, d with
            | b1 :: b2 :: t, c3, d =>
              simp only [List.getD_cons_zero, List.getD_cons_succ] at c3 d
              have l1 := b1.toNat_lt
              have l2 := b2.toNat_lt
              have hv : V ((b0.toNat % 16 * 4096 + b1.toNat % 64 * 64 + b2.toNat % 64 : Nat) : Int) := by unfold V; omega
              have e : enc ((b0.toNat % 16 * 4096 + b1.toNat % 64 * 64 + b2.toNat % 64 : Nat) : Int) = [b0, b1, b2] := by
                rw [enc_three (by omega)]
                rw [← u8_eqZ b0 _ (by omega) (by omega) (by omega), ← u8_eqZ b1 _ (by omega) (by omega) (by omega), ← u8_eqZ b2 _ (by omega) (by omega) (by omega)]
              have := step_enc hv t
              rw [e] at this
              exact ⟨_, hv, by rw [e]; simp, by rw [e]; exact this⟩
            | [b1], c3, _ => simp at c3
            | [], c3, _ => simp at c3
          · simp at ok
        · rw [if_neg c3] at ok
          by_cases c4 : b0.toNat / 8 = 30 ∧ (1 < t.length + 1 ∧ (t.getD 0 0).toNat / 64 = 2) ∧ (2 < t.length + 1 ∧ (t.getD 1 0).toNat / 64 = 2) ∧ (3 < t.length + 1 ∧ (t.getD 2 0).toNat / 64 = 2)
          · rw [if_pos c4] at ok
            obtain ⟨n, hn⟩ : ∃ n, n = b0.toNat % 8 * 262144 + (t.getD 0 0).toNat % 64 * 4096 + (t.getD 1 0).toNat % 64 * 64 + (t.getD 2 0).toNat % 64 := ⟨_, rfl⟩
            rw [← hn] at ok
            by_cases d0 : n ≥ 65536 ∧ (n < 55296 ∨ (57344 ≤ n ∧ n ≤ 1114111))
            · have d : 65536 ≤ n ∧ n ≤ 1114111 := by omega
              rw [hn] at d
              clear ok hn d0
              obtain ⟨b1, b2, b3, t, rfl⟩ := three_of (t := t) (by omega)
              simp only [List.getD_cons_zero, List.getD_cons_succ] at c4 d
              have l1 := b1.toNat_lt
              have l2 := b2.toNat_lt
              have l3 := b3.toNat_lt
              have hv : V ((b0.toNat % 8 * 262144 + b1.toNat % 64 * 4096 + b2.toNat % 64 * 64 + b3.toNat % 64 : Nat) : Int) := by unfold V; omega
              have e : enc ((b0.toNat % 8 * 262144 + b1.toNat % 64 * 4096 + b2.toNat % 64 * 64 + b3.toNat % 64 : Nat) : Int) = [b0, b1, b2, b3] := by
                rw [enc_four (by omega) (by omega)]
                rw [← u8_eqZ b0 _ (by omega) (by omega) (by omega), ← u8_eqZ b1 _ (by omega) (by omega) (by omega), ← u8_eqZ b2 _ (by omega) (by omega) (by omega), ← u8_eqZ b3 _ (by omega) (by omega) (by omega)]
              have := step_enc hv t
              rw [e] at this
              exact ⟨_, hv, by rw [e]; simp, by rw [e]; exact this⟩
            · rw [if_neg d0] at ok; simp at ok
          · rw [if_neg c4] at ok; simp at ok

theorem enc_toNat {r : Int} (h : V r) : ((r.toNat : Nat) : Int) = r := by unfold V at h; omega

/-- a text: the bytes of runes that may be. -/
def Txt (l : List UInt8) : Prop := ∃ rs : List Int, (∀ r ∈ rs, V r) ∧ l = encAll rs

theorem txt_step {l : List UInt8} (h0 : l ≠ []) (h : Txt l) : okS l ∧ Txt (l.drop (stepU l).2) := by
  obtain ⟨rs, hv, rfl⟩ := h
  match rs, hv, h0 with
  | r :: rs, hv, _ =>
    have hr : V r := hv r (by simp)
    rw [encAll_cons]
    refine ⟨ok_enc hr _, ?_⟩
    rw [step_enc hr]
    simp only [List.drop_left]
    exact ⟨rs, fun x hx => hv x (by simp [hx]), rfl⟩
theorem txt_back {l : List UInt8} (h0 : l ≠ []) (ok : okS l) (h : Txt (l.drop (stepU l).2)) : Txt l := by
  obtain ⟨r, hv, hl, hs⟩ := step_ok l h0 ok
  obtain ⟨rs, hvs, hrs⟩ := h
  rw [hs] at hrs
  exact ⟨r :: rs, fun x hx => (List.mem_cons.1 hx).elim (fun e => e ▸ hv) (hvs x), by rw [encAll_cons, ← hrs]; exact hl⟩

theorem encAll_inj : ∀ {a b : List Int}, (∀ r ∈ a, V r) → (∀ r ∈ b, V r) → encAll a = encAll b → a = b
  | [], [], _, _, _ => rfl
  | [], r :: b, _, _, h => by have := enc_ne r; simp at h; exact absurd h.1 this
  | r :: a, [], _, _, h => by have := enc_ne r; simp at h; exact absurd h.1 this
  | r :: a, q :: b, ha, hb, h => by
    rw [encAll_cons, encAll_cons] at h
    have hr : V r := ha r (by simp)
    have hq : V q := hb q (by simp)
    have e := step_enc hr (encAll a)
    rw [h, step_enc hq] at e
    simp only [Prod.mk.injEq] at e
    have : q = r := by rw [← enc_toNat hr, ← enc_toNat hq, e.1]
    subst this
    have := List.append_cancel_left h
    rw [encAll_inj (fun x hx => ha x (by simp [hx])) (fun x hx => hb x (by simp [hx])) this]

#print axioms step_ok
end Go.Gz
