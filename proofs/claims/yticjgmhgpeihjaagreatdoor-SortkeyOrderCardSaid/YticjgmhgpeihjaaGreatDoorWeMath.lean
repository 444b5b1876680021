/-
  Plain mathematics of weigh: rows of a table, the longest row, what is taken with it, what a text weighs.
-/
import Derived.Below
namespace Go.Gz
open Go.RowKit

/-- an element. -/
structure EL where
  p : Int
  s : Int
  t : Int
deriving DecidableEq, Inhabited
/-- a row of a table: its runes, its elements, and where they stand. -/
structure WR where
  op : Option Addr
  of : List Int
  oc : Nat
  tp : Option Addr
  to : List EL
  tc : Nat
deriving Inhabited
def WR.zero : WR := ⟨none, [], 0, none, [], 0⟩

/-! ### runes held against runes -/
def cmpL : List Int → List Int → Int
  | [], [] => 0
  | [], _ :: _ => -1
  | _ :: _, [] => 1
  | a :: s, b :: t => if a < b then -1 else if b < a then 1 else cmpL s t
theorem cmpL_self : ∀ a : List Int, cmpL a a = 0
  | [] => rfl
  | a :: s => by simp [cmpL, cmpL_self s]
theorem cmpL_eq : ∀ {a b : List Int}, cmpL a b = 0 ↔ a = b
  | [], [] => by simp [cmpL]
  | [], _ :: _ => by simp [cmpL]
  | _ :: _, [] => by simp [cmpL]
  | a :: s, b :: t => by
    unfold cmpL
    split
    · simp; intro h; omega
    · split
      · simp; intro h; omega
      · have : a = b := by omega
        subst this
        rw [cmpL_eq]; simp
theorem cmpL_trans : ∀ {a b c : List Int}, cmpL a b < 0 → cmpL b c < 0 → cmpL a c < 0
  | [], [], _, h, _ => by simp [cmpL] at h
  | [], _ :: _, [], _, h => by simp [cmpL] at h
  | [], _ :: _, _ :: _, _, _ => by simp [cmpL]
  | _ :: _, [], _, h, _ => by simp [cmpL] at h
  | _ :: _, _ :: _, [], _, h => by simp [cmpL] at h
  | a :: s, b :: t, c :: u, h1, h2 => by
    unfold cmpL at h1 h2 ⊢
    split at h1
    · split at h2
      · rw [if_pos (by omega)]; omega
      · split at h2
        · omega
        · rw [if_pos (by omega)]; omega
    · split at h1
      · omega
      · split at h2
        · rw [if_pos (by omega)]; omega
        · split at h2
          · omega
          · rw [if_neg (by omega), if_neg (by omega)]; exact cmpL_trans h1 h2
theorem cmpL_swap : ∀ a b : List Int, cmpL b a = - cmpL a b
  | [], [] => rfl
  | [], _ :: _ => rfl
  | _ :: _, [] => rfl
  | a :: s, b :: t => by
    unfold cmpL
    by_cases h1 : a < b
    · rw [if_neg (show ¬ b < a by omega), if_pos h1, if_pos h1]; rfl
    · by_cases h2 : b < a
      · rw [if_pos h2, if_neg h1, if_pos h2]
      · rw [if_neg h1, if_neg h2, if_neg h2, if_neg h1]; exact cmpL_swap s t

/-! ### a row of those runes -/
def rowL (rs : List WR) (k : List Int) : Option WR := rs.find? fun x => decide (x.of = k)
/-- each row is above those ahead of it. -/
def RisingW (rs : List WR) : Prop := ∀ i j, i < j → j < rs.length → cmpL rs[i]!.of rs[j]!.of < 0
def riseWB (rs : List WR) : Bool := (List.range (rs.length - 1)).all fun i => decide (cmpL rs[i]!.of rs[i + 1]!.of < 0)
theorem riseWB_iff (ls : List WR) : riseWB ls = true ↔ RisingW ls := by
  unfold riseWB RisingW
  rw [List.all_eq_true]
  constructor
  · intro h i j hij hj
    have hs : ∀ n i, i + 1 + n < ls.length → cmpL ls[i]!.of ls[i + 1 + n]!.of < 0 := by
      intro n
      induction n with
      | zero => intro i hi; exact of_decide_eq_true (h i (List.mem_range.2 (by omega)))
      | succ n ih =>
        intro i hi
        have h1 := ih i (by omega)
        have h2 : cmpL ls[i + 1 + n]!.of ls[i + 1 + n + 1]!.of < 0 := of_decide_eq_true (h (i + 1 + n) (List.mem_range.2 (by omega)))
        have e : i + 1 + (n + 1) = i + 1 + n + 1 := by omega
        rw [e]; exact cmpL_trans h1 h2
    have := hs (j - i - 1) i (by omega)
    rwa [show i + 1 + (j - i - 1) = j by omega] at this
  · intro h i hi
    exact decide_eq_true (h i (i + 1) (by omega) (by have := List.mem_range.1 hi; omega))
theorem row_at {rs : List WR} (hr : RisingW rs) {i : Nat} (h : i < rs.length) : rowL rs rs[i]!.of = some rs[i]! := by
  unfold rowL
  rw [List.find?_eq_some_iff_getElem]
  refine ⟨by simp, i, h, (getElem!_pos rs i h).symm, fun j hj => ?_⟩
  have := hr j i hj h
  rw [getElem!_pos rs j (by omega)] at this
  have h2 : rs[j].of ≠ rs[i]!.of := fun e => by rw [e, cmpL_self] at this; omega
  simpa using h2
theorem row_no {rs : List WR} {k : List Int} (h : ∀ i, i < rs.length → rs[i]!.of ≠ k) : rowL rs k = none := by
  unfold rowL
  rw [List.find?_eq_none]
  intro x hx
  obtain ⟨i, hi, rfl⟩ := List.getElem_of_mem hx
  have := h i hi
  rw [getElem!_pos rs i hi] at this
  simpa using this
theorem row_some {rs : List WR} {k : List Int} {x : WR} (h : rowL rs k = some x) : x ∈ rs ∧ x.of = k :=
  ⟨List.mem_of_find?_eq_some h, by have := List.find?_some h; simpa using this⟩

/-! ### what a text weighs -/
def impl (r : Int) : List EL := [⟨64000 + r / 3999, 32, 2⟩, ⟨60001 + r % 3999, 0, 0⟩]
section
variable {α : Type} (f : α → Int) (cls : Int → Int) (row : List Int → Option WR)
/-- the longest row, of at most so many runes, that stands at the front. -/
def longTo (l : List α) : Nat → Option (Nat × WR)
  | 0 => none
  | k + 1 => if k + 1 ≤ l.length then match row ((l.take (k + 1)).map f) with
      | some x => some (k + 1, x)
      | none => longTo l k
    else longTo l k
/-- what is taken with a row, and what is left. -/
def lengthenG : WR → Int → List α → WR × List α
  | best, _, [] => (best, [])
  | best, passed, r :: t =>
    if cls (f r) = 0 then (best, r :: t)
    else if cls (f r) ≤ passed then ((lengthenG best passed t).1, r :: (lengthenG best passed t).2)
    else match row (best.of ++ [f r]) with
      | some x => lengthenG x passed t
      | none => ((lengthenG best (cls (f r)) t).1, r :: (lengthenG best (cls (f r)) t).2)
def weighF : Nat → List α → List EL
  | 0, _ => []
  | _ + 1, [] => []
  | n + 1, r :: t => match longTo f row (r :: t) 3 with
    | none => impl (f r) ++ weighF n t
    | some (k, x) => (lengthenG f cls row x 0 ((r :: t).drop k)).1.to ++ weighF n (lengthenG f cls row x 0 ((r :: t).drop k)).2
def weighG (l : List α) : List EL := weighF f cls row l.length l

theorem longTo_some {l : List α} : ∀ {n k : Nat} {x : WR}, longTo f row l n = some (k, x) → 1 ≤ k ∧ k ≤ n ∧ k ≤ l.length ∧ row ((l.take k).map f) = some x
  | 0, k, x, h => by simp [longTo] at h
  | n + 1, k, x, h => by
    unfold longTo at h
    split at h
    · rename_i hl
      split at h
      · rename_i y hy
        simp only [Option.some.injEq, Prod.mk.injEq] at h
        obtain ⟨rfl, rfl⟩ := h
        exact ⟨by omega, by omega, hl, hy⟩
      · have := longTo_some h
        exact ⟨this.1, by omega, this.2.2⟩
    · have := longTo_some h
      exact ⟨this.1, by omega, this.2.2⟩
theorem lengthen_le : ∀ (l : List α) (best : WR) (passed : Int), (lengthenG f cls row best passed l).2.length ≤ l.length
  | [], best, passed => by simp [lengthenG]
  | r :: t, best, passed => by
    unfold lengthenG
    split
    · simp
    · split
      · have := lengthen_le t best passed; simp; exact this
      · split
        · rename_i x _
          have := lengthen_le t x passed; simp; omega
        · have := lengthen_le t best (cls (f r)); simp; exact this
theorem weighF_fuel : ∀ (n : Nat) (l : List α), l.length ≤ n → weighF f cls row n l = weighF f cls row l.length l := by
  intro n
  induction n using Nat.strongRecOn with
  | _ n ih =>
    intro l hl
    match n, l with
    | 0, [] => rfl
    | n + 1, [] => rfl
    | n + 1, r :: t =>
      simp only [List.length_cons] at hl ⊢
      unfold weighF
      split
      · rw [ih n (by omega) t (by omega)]
      · rename_i k x hk
        obtain ⟨h1, _, h3, _⟩ := longTo_some f row hk
        have h2 := lengthen_le f cls row ((r :: t).drop k) x 0
        simp only [List.length_drop, List.length_cons] at h2 h3
        by_cases hn : n = t.length
        · rw [hn]
        · rw [ih n (by omega) _ (by omega), ih t.length (by omega) _ (by omega)]
theorem weigh_nil : weighG f cls row [] = [] := rfl
theorem weigh_none {r : α} {t : List α} (h : longTo f row (r :: t) 3 = none) : weighG f cls row (r :: t) = impl (f r) ++ weighG f cls row t := by
  unfold weighG
  rw [List.length_cons, weighF, h]
theorem weigh_some {l : List α} {k : Nat} {x : WR} (h : longTo f row l 3 = some (k, x)) :
    weighG f cls row l = (lengthenG f cls row x 0 (l.drop k)).1.to ++ weighG f cls row (lengthenG f cls row x 0 (l.drop k)).2 := by
  obtain ⟨h1, _, h3, _⟩ := longTo_some f row h
  match l with
  | [] => simp at h3; omega
  | r :: t =>
    unfold weighG
    rw [List.length_cons, weighF, h]
    dsimp only
    have h2 := lengthen_le f cls row ((r :: t).drop k) x 0
    simp only [List.length_drop, List.length_cons] at h2 h3
    rw [weighF_fuel f cls row t.length _ (by omega)]
end

section
variable {α : Type} (f : α → Int) (cls : Int → Int) (row : List Int → Option WR)
theorem longTo_map (l : List α) : ∀ n, longTo f row l n = longTo id row (l.map f) n
  | 0 => rfl
  | n + 1 => by
    unfold longTo
    rw [longTo_map l n]
    simp [List.map_take]
theorem lengthen_map : ∀ (l : List α) (best : WR) (passed : Int), lengthenG id cls row best passed (l.map f) = ((lengthenG f cls row best passed l).1, (lengthenG f cls row best passed l).2.map f)
  | [], best, passed => rfl
  | r :: t, best, passed => by
    simp only [List.map_cons, lengthenG, id]
    split
    · rfl
    · split
      · rw [lengthen_map t]; rfl
      · split
        · rw [lengthen_map t]
        · rw [lengthen_map t]; rfl
theorem weigh_map : ∀ (n : Nat) (l : List α), l.length ≤ n → weighG f cls row l = weighG id cls row (l.map f) := by
  intro n
  induction n with
  | zero => intro l hl; obtain rfl : l = [] := List.eq_nil_of_length_eq_zero (by omega); rfl
  | succ n ih =>
    intro l hl
    match l with
    | [] => rfl
    | r :: t =>
      cases h : longTo f row (r :: t) 3 with
      | none =>
        rw [weigh_none f cls row h, List.map_cons, weigh_none id cls row (show longTo id row (List.map f (r :: t)) 3 = none by rw [← h, longTo_map f]), ih t (by simpa using hl)]; rfl
      | some q =>
        obtain ⟨k, x⟩ := q
        obtain ⟨h1, _, h3, _⟩ := longTo_some f row h
        rw [weigh_some f cls row h, weigh_some id cls row (show longTo id row ((r :: t).map f) 3 = some (k, x) by rw [← h, longTo_map f])]
        rw [← List.map_drop, lengthen_map f]
        have h2 := lengthen_le f cls row ((r :: t).drop k) x 0
        simp only [List.length_drop, List.length_cons] at h2 h3 hl
        rw [ih _ (by omega)]
end
/-- what a text weighs, whose runes are normal. -/
def weighL (cls : Int → Int) (row : List Int → Option WR) (s : List Int) : List EL := weighG id cls row s
theorem weigh_index (cls : Int → Int) (row : List Int → Option WR) (s : List Int) : weighG (fun i => s.getD i 0) cls row (List.range s.length) = weighL cls row s := by
  rw [weigh_map (fun i => s.getD i 0) cls row s.length _ (by simp)]
  unfold weighL
  congr 1
  refine List.ext_getElem (by simp) fun i h1 h2 => ?_
  simp [List.getD, h2]

/-! ### a rune that is in no row parts a text -/
theorem longTo_part {row : List Int → Option WR} {z : Int} (hz : ∀ k, z ∈ k → row k = none) (a b : List Int) : ∀ n, longTo id row (a ++ z :: b) n = longTo id row a n
  | 0 => rfl
  | n + 1 => by
    unfold longTo
    rw [longTo_part hz a b n]
    by_cases h : n + 1 ≤ a.length
    · rw [if_pos h, if_pos (by simp; omega), List.take_append_of_le_length h]
    · rw [if_neg h]
      split
      · rw [hz]
        simp only [List.map_id_fun, id_eq]
        rw [List.take_append]
        refine List.mem_append.2 (Or.inr ?_)
        rw [show n + 1 - a.length = (n - a.length) + 1 by omega, List.take_succ_cons]
        simp
      · rfl
theorem lengthen_part {cls : Int → Int} {row : List Int → Option WR} {z : Int} (hc : cls z = 0) (b : List Int) : ∀ (a : List Int) (best : WR) (passed : Int),
    lengthenG id cls row best passed (a ++ z :: b) = ((lengthenG id cls row best passed a).1, (lengthenG id cls row best passed a).2 ++ z :: b)
  | [], best, passed => by simp [lengthenG, hc]
  | r :: t, best, passed => by
    simp only [List.cons_append, lengthenG, id]
    split
    · rfl
    · split
      · rw [lengthen_part hc b t]; rfl
      · split
        · rw [lengthen_part hc b t]
        · rw [lengthen_part hc b t]; rfl
theorem weigh_part {cls : Int → Int} {row : List Int → Option WR} {z : Int} (hz : ∀ k, z ∈ k → row k = none) (hc : cls z = 0) (b : List Int) : ∀ (n : Nat) (a : List Int), a.length ≤ n →
    weighL cls row (a ++ z :: b) = weighL cls row a ++ (impl z ++ weighL cls row b) := by
  unfold weighL
  intro n
  induction n with
  | zero =>
    intro a ha
    obtain rfl : a = [] := List.eq_nil_of_length_eq_zero (by omega)
    have := weigh_none id cls row (r := z) (t := b) (by rw [← List.nil_append (z :: b), longTo_part hz]; rfl)
    rw [weigh_nil]; simpa using this
  | succ n ih =>
    intro a ha
    match a with
    | [] => exact ih [] (by simp)
    | r :: t =>
      have hl := longTo_part hz (r :: t) b 3
      cases h : longTo id row (r :: t) 3 with
      | none =>
        rw [h] at hl
        rw [weigh_none id cls row h, List.cons_append, weigh_none id cls row (by rw [← List.cons_append]; exact hl), ih t (by simpa using ha)]
        simp
      | some q =>
        obtain ⟨k, x⟩ := q
        rw [h] at hl
        obtain ⟨h1, _, h3, _⟩ := longTo_some id row h
        rw [weigh_some id cls row h, weigh_some id cls row hl, List.drop_append_of_le_length h3, lengthen_part hc]
        dsimp only
        have h2 := lengthen_le id cls row ((r :: t).drop k) x 0
        simp only [List.length_drop, List.length_cons] at h2 h3 ha
        rw [ih _ (by omega)]
        simp

/-! ### a row alone -/
theorem weigh_row {cls : Int → Int} {row : List Int → Option WR} {x : WR} (h : row x.of = some x) (h1 : 1 ≤ x.of.length) (h3 : x.of.length ≤ 3) : weighL cls row x.of = x.to := by
  unfold weighL
  have hl : longTo id row x.of 3 = some (x.of.length, x) := by
    have step : ∀ n, x.of.length ≤ n → longTo id row x.of n = some (x.of.length, x) := by
      intro n
      induction n with
      | zero => intro hn; omega
      | succ n ih =>
        intro hn
        unfold longTo
        by_cases hc : n + 1 ≤ x.of.length
        · have e : n + 1 = x.of.length := by omega
          rw [if_pos hc, e, List.take_length, List.map_id, h]
        · rw [if_neg hc]; exact ih (by omega)
    exact step 3 h3
  rw [weigh_some id cls row hl, List.drop_length]
  simp [lengthenG, weigh_nil]
end Go.Gz
