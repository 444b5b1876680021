/-
  Plain mathematics of sortkey: what elements have on each level, a key's bytes, how keys compare.
-/
import Derived.Test.YtcocmmndonlhkaaDoorWeMath
import Derived.Lib.Bytealg
namespace Go.Gz
open Go.RowKit Go.Lib

/-! ### levels -/
/-- weights above 0 behind the levels. -/
def addW (L : List (List Int)) (ws : List Int) : List (List Int) := List.zipWith (fun xs w => if 0 < w then xs ++ [w] else xs) L ws
def firmB (top : Int) (x : EL) : Bool := !decide (x = ⟨0, 0, 0⟩) && (decide (top < x.p) || (decide (x.p = 0) && decide (0 < x.t)))
def shiftE (top : Int) (x : EL) (behind : Bool) : List Int × Bool :=
  if 0 < x.p ∧ x.p ≤ top then ([0, 0, 0, x.p], true)
  else if x.p = 0 ∧ behind = true then ([0, 0, 0, 0], true)
  else ([x.p, x.s, x.t, if firmB top x then 65535 else 0], behind && decide (x.p < 0))
def wOf (sh : Bool) (top : Int) (x : EL) (behind : Bool) : List Int × Bool :=
  if sh then shiftE top x behind else ([x.p, x.s, x.t, 0], behind)
theorem wOf_len (sh : Bool) (top : Int) (x : EL) (behind : Bool) : (wOf sh top x behind).1.length = 4 := by
  unfold wOf shiftE
  split
  · split
    · rfl
    · split <;> rfl
  · rfl
abbrev LvSt := List (List Int) × Bool
def levStep (sh : Bool) (top : Int) (st : LvSt) (x : EL) : LvSt := (addW st.1 (wOf sh top x st.2).1, (wOf sh top x st.2).2)
def levSt (sh : Bool) (top : Int) (l : List EL) : LvSt := l.foldl (levStep sh top) ([[], [], [], []], false)
/-- the weights of each level. -/
def levL (sh : Bool) (top : Int) (l : List EL) : List (List Int) := (levSt sh top l).1
theorem levSt_snoc (sh : Bool) (top : Int) (l : List EL) (x : EL) : levSt sh top (l ++ [x]) = levStep sh top (levSt sh top l) x := by simp [levSt]
theorem addW_len {L : List (List Int)} {ws : List Int} (h : L.length = 4) (h2 : ws.length = 4) : (addW L ws).length = 4 := by simp [addW, h, h2]
theorem foldl_len (sh : Bool) (top : Int) : ∀ (l : List EL) (st : LvSt), st.1.length = 4 → (l.foldl (levStep sh top) st).1.length = 4
  | [], _, h => h
  | x :: l, st, h => foldl_len sh top l _ (addW_len h (wOf_len sh top x st.2))
theorem levSt_len (sh : Bool) (top : Int) (l : List EL) : (levSt sh top l).1.length = 4 := foldl_len sh top l _ rfl
/-- each level has at most so many weights as there are elements. -/
theorem addW_few {L : List (List Int)} {ws : List Int} {n : Nat} (h : ∀ l ∈ L, l.length ≤ n) : ∀ l ∈ addW L ws, l.length ≤ n + 1 := by
  intro l hl
  unfold addW at hl
  rw [List.mem_iff_getElem] at hl
  obtain ⟨i, hi, rfl⟩ := hl
  simp only [List.length_zipWith] at hi
  rw [List.getElem_zipWith]
  have := h L[i] (List.getElem_mem (by omega))
  split <;> simp <;> omega
theorem foldl_few (sh : Bool) (top : Int) : ∀ (l : List EL) (st : LvSt) (n : Nat), (∀ z ∈ st.1, z.length ≤ n) → ∀ z ∈ (l.foldl (levStep sh top) st).1, z.length ≤ n + l.length
  | [], _, _, h => h
  | x :: l, st, n, h => fun z hz => by
    have := foldl_few sh top l (levStep sh top st x) (n + 1) (addW_few h) z hz
    simp only [List.length_cons]; omega
theorem levL_few (sh : Bool) (top : Int) (l : List EL) : ∀ z ∈ levL sh top l, z.length ≤ l.length := fun z hz => by
  have := foldl_few sh top l ([[], [], [], []], false) 0 (fun z hz => by simp at hz; simp [hz]) z hz
  omega

/-- the reference's step. -/
def refStep (sh : Bool) (top : Int) (st : LvSt) (x : EL) : LvSt :=
  (if (sh && (decide (x.p = 0) && st.2)) = true then st.1
    else if (sh && (decide (1 ≤ x.p) && decide (x.p ≤ top))) = true then addW st.1 [0, 0, 0, x.p]
    else addW st.1 [x.p, x.s, x.t, if (sh && (decide (0 < x.p) || decide (0 < x.t))) = true then 65535 else 0],
   if 0 < x.p then sh && (decide (1 ≤ x.p) && decide (x.p ≤ top)) else st.2)
theorem addW_none {L : List (List Int)} (h : L.length = 4) : addW L [0, 0, 0, 0] = L := by
  match L, h with
  | [a, b, c, d], _ => simp [addW]
theorem refStep_is {sh : Bool} {top : Int} {st : LvSt} {x : EL} (hl : st.1.length = 4) (ht : 0 ≤ top) (hp : 0 ≤ x.p) (hb : sh = false → st.2 = false) : refStep sh top st x = levStep sh top st x := by
  obtain ⟨L, b⟩ := st
  obtain ⟨p, s, t⟩ := x
  unfold refStep levStep wOf
  dsimp only at *
  cases sh with
  | false =>
    obtain rfl := hb rfl
    simp
  | true =>
    simp only [Bool.true_and, if_true]
    unfold shiftE
    dsimp only
    by_cases h0 : p = 0
    · subst h0
      cases b with
      | true => simp [addW_none hl]
      | false =>
        simp only [firmB]
        by_cases h1 : 0 < t
        · have : ¬ top < 0 := by omega
          have ht0 : ¬ t = 0 := by omega
          simp [h1, ht0]
        · have : ¬ top < 0 := by omega
          simp [h1, this]
    · have hp0 : 0 < p := by omega
      have hp1 : 1 ≤ p := by omega
      have hn : ¬ p < 0 := by omega
      by_cases h1 : p ≤ top
      · simp [h0, hp0, hp1, h1]
      · have h2 : top < p := by omega
        simp [h0, hp0, hp1, h1, h2, firmB, hn]

/-! ### a key's bytes -/
def two (w : Int) : List UInt8 := [(w / 256 % 256).toNat.toUInt8, (w % 256).toNat.toUInt8]
def lvB (l : List Int) : List UInt8 := l.flatMap two
def keyB : List (List Int) → List UInt8
  | [] => []
  | l :: t => lvB l ++ t.flatMap fun m => 0 :: 0 :: lvB m
theorem lvB_snoc (l : List Int) (w : Int) : lvB (l ++ [w]) = lvB l ++ two w := by simp [lvB]
theorem lvB_length : ∀ l : List Int, (lvB l).length = 2 * l.length
  | [] => rfl
  | w :: l => by
    have : lvB (w :: l) = two w ++ lvB l := rfl
    rw [this, List.length_append, lvB_length l]; simp [two]; omega
theorem keyB_one (l : List Int) : keyB ([] ++ [l]) = lvB l := by simp [keyB]
theorem keyB_snoc {L : List (List Int)} (h : L ≠ []) (l : List Int) : keyB (L ++ [l]) = keyB L ++ (0 :: 0 :: lvB l) := by
  match L, h with
  | m :: t, _ => simp [keyB]
theorem keyB_four (a b c d : List Int) : keyB [a, b, c, d] = lvB a ++ 0 :: 0 :: (lvB b ++ 0 :: 0 :: (lvB c ++ 0 :: 0 :: lvB d)) := by simp [keyB]
theorem keyB_length4 (a b c d : List Int) : (keyB [a, b, c, d]).length = 2 * (a.length + b.length + c.length + d.length) + 6 := by
  rw [keyB_four]
  simp only [List.length_append, List.length_cons, lvB_length]; omega

/-! ### how bytes compare -/
theorem cb_cons (a b : UInt8) (x y : List UInt8) : compareBytes (a :: x) (b :: y) = if a.toNat < b.toNat then -1 else if b.toNat < a.toNat then 1 else compareBytes x y := by
  simp only [compareBytes, UInt8.lt_iff_toNat_lt]
theorem cb_self : ∀ x : List UInt8, compareBytes x x = 0
  | [] => rfl
  | a :: x => by rw [cb_cons, if_neg (by omega), if_neg (by omega), cb_self x]
theorem cb_swap : ∀ x y : List UInt8, compareBytes y x = - compareBytes x y
  | [], [] => rfl
  | [], _ :: _ => rfl
  | _ :: _, [] => rfl
  | a :: x, b :: y => by
    rw [cb_cons, cb_cons]
    by_cases h1 : a.toNat < b.toNat
    · rw [if_neg (by omega), if_pos h1, if_pos h1]; rfl
    · by_cases h2 : b.toNat < a.toNat
      · rw [if_pos h2, if_neg h1, if_pos h2]
      · rw [if_neg h2, if_neg h1, if_neg h1, if_neg h2]; exact cb_swap x y
theorem u8n (z : Int) (h1 : z < 256) : (z.toNat.toUInt8).toNat = z.toNat := by simp; omega
theorem cb_two {w v : Int} (hw : 1 ≤ w ∧ w ≤ 65535) (hv : 1 ≤ v ∧ v ≤ 65535) (x y : List UInt8) : compareBytes (two w ++ x) (two v ++ y) = if w < v then -1 else if v < w then 1 else compareBytes x y := by
  unfold two
  simp only [List.cons_append, List.nil_append]
  rw [cb_cons, cb_cons, u8n _ (by omega), u8n _ (by omega), u8n _ (by omega), u8n _ (by omega)]
  by_cases h1 : w < v
  · rw [if_pos h1]
    by_cases h2 : (w / 256 % 256).toNat < (v / 256 % 256).toNat
    · rw [if_pos h2]
    · rw [if_neg h2, if_neg (by omega), if_pos (by omega)]
  · rw [if_neg h1]
    by_cases h3 : v < w
    · rw [if_pos h3]
      by_cases h2 : (v / 256 % 256).toNat < (w / 256 % 256).toNat
      · rw [if_neg (by omega), if_pos h2]
      · rw [if_neg (by omega), if_neg h2, if_neg (by omega), if_pos (by omega)]
    · rw [if_neg h3]
      obtain rfl : w = v := by omega
      rw [if_neg (by omega), if_neg (by omega), if_neg (by omega), if_neg (by omega)]
theorem cb_end {v : Int} (hv : 1 ≤ v ∧ v ≤ 65535) (x y : List UInt8) : compareBytes (0 :: 0 :: x) (two v ++ y) = -1 := by
  unfold two
  simp only [List.cons_append, List.nil_append]
  rw [cb_cons, cb_cons, u8n _ (by omega), u8n _ (by omega)]
  by_cases h2 : 0 < (v / 256 % 256).toNat
  · rw [if_pos (by simpa using h2)]
  · rw [if_neg (by simpa using h2), if_neg (by simp), if_pos (by simp; omega)]
/-- a level, and what is behind it. -/
theorem cb_level : ∀ (l m : List Int) (x y : List UInt8), (∀ w ∈ l, 1 ≤ w ∧ w ≤ 65535) → (∀ w ∈ m, 1 ≤ w ∧ w ≤ 65535) →
    compareBytes (lvB l ++ 0 :: 0 :: x) (lvB m ++ 0 :: 0 :: y) = if l = m then compareBytes x y else cmpL l m
  | [], [], x, y, _, _ => by
    show compareBytes (0 :: 0 :: x) (0 :: 0 :: y) = _
    rw [cb_cons, cb_cons]; simp
  | [], v :: m, x, y, _, hm => by
    have e : lvB (v :: m) ++ 0 :: 0 :: y = two v ++ (lvB m ++ 0 :: 0 :: y) := by simp [lvB]
    rw [e]
    show compareBytes (0 :: 0 :: x) _ = _
    rw [cb_end (hm v (by simp))]; simp [cmpL]
  | w :: l, [], x, y, hl, _ => by
    have e : lvB (w :: l) ++ 0 :: 0 :: x = two w ++ (lvB l ++ 0 :: 0 :: x) := by simp [lvB]
    rw [e]
    show compareBytes _ (0 :: 0 :: y) = _
    rw [cb_swap, cb_end (hl w (by simp))]; simp [cmpL]
  | w :: l, v :: m, x, y, hl, hm => by
    have e1 : lvB (w :: l) ++ 0 :: 0 :: x = two w ++ (lvB l ++ 0 :: 0 :: x) := by simp [lvB]
    have e2 : lvB (v :: m) ++ 0 :: 0 :: y = two v ++ (lvB m ++ 0 :: 0 :: y) := by simp [lvB]
    rw [e1, e2, cb_two (hl w (by simp)) (hm v (by simp)), cb_level l m x y (fun z hz => hl z (by simp [hz])) (fun z hz => hm z (by simp [hz]))]
    by_cases h1 : w < v
    · rw [if_pos h1, if_neg (by simp; omega), cmpL, if_pos h1]
    · rw [if_neg h1]
      by_cases h2 : v < w
      · rw [if_pos h2, if_neg (by simp; omega), cmpL, if_neg h1, if_pos h2]
      · obtain rfl : w = v := by omega
        rw [if_neg h2, cmpL, if_neg h1, if_neg h1]
        simp
theorem cb_last : ∀ (l m : List Int), (∀ w ∈ l, 1 ≤ w ∧ w ≤ 65535) → (∀ w ∈ m, 1 ≤ w ∧ w ≤ 65535) → compareBytes (lvB l) (lvB m) = cmpL l m
  | [], [], _, _ => rfl
  | [], v :: m, _, _ => rfl
  | w :: l, [], _, _ => rfl
  | w :: l, v :: m, hl, hm => by
    have e1 : lvB (w :: l) = two w ++ lvB l := rfl
    have e2 : lvB (v :: m) = two v ++ lvB m := rfl
    rw [e1, e2, cb_two (hl w (by simp)) (hm v (by simp)), cb_last l m (fun z hz => hl z (by simp [hz])) (fun z hz => hm z (by simp [hz])), cmpL]
end Go.Gz
