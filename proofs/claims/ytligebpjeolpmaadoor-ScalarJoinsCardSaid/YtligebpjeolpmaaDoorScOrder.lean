/-
  Plain mathematics: the order of the bytes of two texts is the order of their runes.
-/
import Derived.Test.YtligebpjeolpmaaDoorScMath
import Derived.Lib.Bytealg
namespace Go.Gz
open Go.Lib

/-- the order of two rows of runes: by the first place at which they differ, then by length. -/
def ordL : List Int → List Int → Int
  | [], [] => 0
  | [], _ :: _ => -1
  | _ :: _, [] => 1
  | a :: u, b :: v => if a < b then -1 else if b < a then 1 else ordL u v

theorem cmp_cons (a b : UInt8) (x y : List UInt8) : compareBytes (a :: x) (b :: y) = if a.toNat < b.toNat then -1 else if b.toNat < a.toNat then 1 else compareBytes x y := by
  simp only [compareBytes, UInt8.lt_iff_toNat_lt]

theorem cmp_same : ∀ (e x y : List UInt8), compareBytes (e ++ x) (e ++ y) = compareBytes x y
  | [], _, _ => rfl
  | b :: e, x, y => by
    rw [List.cons_append, List.cons_append, cmp_cons, if_neg (by omega), if_neg (by omega)]
    exact cmp_same e x y

set_option maxHeartbeats 2000000 in
theorem cmp_lt {r q : Int} (hr : V r) (hq : V q) (h : r < q) (x y : List UInt8) : compareBytes (enc r ++ x) (enc q ++ y) = -1 := by
  have go : ∀ (a b : Int) (u v : List UInt8), 0 ≤ a → a < 256 → 0 ≤ b → b < 256 → a < b → compareBytes (a.toNat.toUInt8 :: u) (b.toNat.toUInt8 :: v) = -1 := fun a b u v h1 h2 h3 h4 h5 => by
    rw [cmp_cons, u8 _ h1 h2, u8 _ h3 h4, if_pos (by omega)]
  have eq : ∀ (a b : Int) (u v : List UInt8), 0 ≤ a → a < 256 → a = b → compareBytes (a.toNat.toUInt8 :: u) (b.toNat.toUInt8 :: v) = compareBytes u v := fun a b u v h1 h2 h5 => by
    subst h5
    rw [cmp_cons, if_neg (by omega), if_neg (by omega)]
  rcases V_cases hr with c | c | c | c <;> rcases V_cases hq with d | d | d | d
  · rw [enc_one c.1 c.2, enc_one d.1 d.2]; exact go _ _ _ _ (by omega) (by omega) (by omega) (by omega) (by omega)
  · rw [enc_one c.1 c.2, enc_two d.1 d.2]; exact go _ _ _ _ (by omega) (by omega) (by omega) (by omega) (by omega)
  · rw [enc_one c.1 c.2, enc_three d]; exact go _ _ _ _ (by omega) (by omega) (by omega) (by omega) (by omega)
  · rw [enc_one c.1 c.2, enc_four d.1 d.2]; exact go _ _ _ _ (by omega) (by omega) (by omega) (by omega) (by omega)
  · omega
  · rw [enc_two c.1 c.2, enc_two d.1 d.2]
    by_cases e : 192 + r / 64 = 192 + q / 64
    · simp only [List.cons_append, List.nil_append]
      rw [eq _ _ _ _ (by omega) (by omega) e]
      exact go _ _ _ _ (by omega) (by omega) (by omega) (by omega) (by omega)
    · exact go _ _ _ _ (by omega) (by omega) (by omega) (by omega) (by omega)
  · rw [enc_two c.1 c.2, enc_three d]; exact go _ _ _ _ (by omega) (by omega) (by omega) (by omega) (by omega)
  · rw [enc_two c.1 c.2, enc_four d.1 d.2]; exact go _ _ _ _ (by omega) (by omega) (by omega) (by omega) (by omega)
  · omega
  · omega
  · rw [enc_three c, enc_three d]
    simp only [List.cons_append, List.nil_append]
    by_cases e : 224 + r / 4096 = 224 + q / 4096
    · rw [eq _ _ _ _ (by omega) (by omega) e]
      by_cases e2 : 128 + r / 64 % 64 = 128 + q / 64 % 64
      · rw [eq _ _ _ _ (by omega) (by omega) e2]
        exact go _ _ _ _ (by omega) (by omega) (by omega) (by omega) (by omega)
      · exact go _ _ _ _ (by omega) (by omega) (by omega) (by omega) (by omega)
    · exact go _ _ _ _ (by omega) (by omega) (by omega) (by omega) (by omega)
  · rw [enc_three c, enc_four d.1 d.2]; exact go _ _ _ _ (by omega) (by omega) (by omega) (by omega) (by omega)
  · omega
  · omega
  · omega
  · rw [enc_four c.1 c.2, enc_four d.1 d.2]
    simp only [List.cons_append, List.nil_append]
    by_cases e : 240 + r / 262144 = 240 + q / 262144
    · rw [eq _ _ _ _ (by omega) (by omega) e]
      by_cases e2 : 128 + r / 4096 % 64 = 128 + q / 4096 % 64
      · rw [eq _ _ _ _ (by omega) (by omega) e2]
        by_cases e3 : 128 + r / 64 % 64 = 128 + q / 64 % 64
        · rw [eq _ _ _ _ (by omega) (by omega) e3]
          exact go _ _ _ _ (by omega) (by omega) (by omega) (by omega) (by omega)
        · exact go _ _ _ _ (by omega) (by omega) (by omega) (by omega) (by omega)
      · exact go _ _ _ _ (by omega) (by omega) (by omega) (by omega) (by omega)
    · exact go _ _ _ _ (by omega) (by omega) (by omega) (by omega) (by omega)

theorem cmp_swap : ∀ (x y : List UInt8), compareBytes x y = -1 → compareBytes y x = 1
  | [], [], h => by simp [compareBytes] at h
  | [], _ :: _, _ => rfl
  | _ :: _, [], h => by simp [compareBytes] at h
  | a :: x, b :: y, h => by
    rw [cmp_cons] at h ⊢
    by_cases c : a.toNat < b.toNat
    · rw [if_neg (by omega), if_pos c]
    · rw [if_neg c] at h
      by_cases d : b.toNat < a.toNat
      · rw [if_pos d] at h; cases h
      · rw [if_neg d] at h
        rw [if_neg d, if_neg c]
        exact cmp_swap x y h

theorem cmp_enc : ∀ (a b : List Int), (∀ r ∈ a, V r) → (∀ r ∈ b, V r) → compareBytes (encAll a) (encAll b) = ordL a b
  | [], [], _, _ => rfl
  | [], q :: b, _, _ => by
    rw [encAll_cons]
    have := enc_ne q
    match enc q, this with
    | _ :: _, _ => rfl
  | r :: a, [], _, _ => by
    rw [encAll_cons]
    have := enc_ne r
    match enc r, this with
    | _ :: _, _ => rfl
  | r :: a, q :: b, ha, hb => by
    have hr := ha r (by simp)
    have hq := hb q (by simp)
    rw [encAll_cons, encAll_cons, ordL]
    by_cases c : r < q
    · rw [if_pos c]; exact cmp_lt hr hq c _ _
    · rw [if_neg c]
      by_cases d : q < r
      · rw [if_pos d]; exact cmp_swap _ _ (cmp_lt hq hr d _ _)
      · rw [if_neg d]
        obtain rfl : r = q := by omega
        rw [cmp_same]
        exact cmp_enc a b (fun x hx => ha x (by simp [hx])) (fun x hx => hb x (by simp [hx]))
#print axioms cmp_enc
end Go.Gz
