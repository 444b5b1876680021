/-
  Tables whose rows are of one rune: what texts weigh; what a blank does to the levels.
-/
import Derived.Test.YtcocmmndonlhkaaDoorSkLongM
namespace Go.Proofs.YtcocmmndonlhkaaDoor
open Go.RowKit Go.Gz Go.Sort

/-! ### no lore, rows of one rune -/
theorem cls_none (r : Int) : clsL [] r = 0 := rfl
theorem ap_none (r : Int) : ap1 [] r = [r] := rfl
theorem order_none : ∀ s : List Int, orderL (clsL []) s = s
  | [] => by unfold orderL ordGo; rfl
  | r :: t => by
    have ih := order_none t
    have := order_part (key := clsL []) (x := r) (by rw [cls_none]; omega) [] t
    rw [ih] at this
    exact this.trans (by show orderL (clsL []) [] ++ r :: t = r :: t; rw [show orderL (clsL []) [] = [] from by unfold orderL ordGo; rfl]; rfl)
theorem normal_none (s : List Int) : normalL [] s = s := by
  unfold normalL
  rw [order_none]
  unfold apartL
  induction s with
  | nil => rfl
  | cons r t ih => rw [List.flatMap_cons, ih, ap_none]; rfl
/-- what one rune weighs. -/
def el1 (rs : List WR) (r : Int) : List EL := match rowL rs [r] with | some x => x.to | none => impl r
theorem row_more {rs : List WR} (h1 : ∀ x ∈ rs, x.of.length = 1) (k : List Int) (hk : 1 < k.length) : rowL rs k = none := by
  unfold rowL
  rw [List.find?_eq_none]
  intro x hx
  simp only [decide_eq_true_eq]
  intro e
  have := h1 x hx
  rw [e] at this
  omega
theorem longTo_one {rs : List WR} (h1 : ∀ x ∈ rs, x.of.length = 1) (r : Int) (t : List Int) : longTo id (rowL rs) (r :: t) 3 = (rowL rs [r]).map fun x => (1, x) := by
  have h : ∀ k, 1 ≤ k → longTo id (rowL rs) (r :: t) k = (rowL rs [r]).map fun x => (1, x) := by
    intro k hk
    induction k with
    | zero => omega
    | succ k ih =>
      unfold longTo
      by_cases hz : k = 0
      · subst hz
        rw [if_pos (by simp)]
        simp only [Nat.zero_add, List.take_succ_cons, List.take_zero, List.map_cons, List.map_nil, id_eq]
        cases rowL rs [r] with
        | some x => rfl
        | none => rfl
      · split
        · rename_i hl
          rw [row_more h1 _ (by simp only [List.length_map, List.length_take]; omega)]
          exact ih (by omega)
        · exact ih (by omega)
  exact h 3 (by omega)
theorem weigh_one {rs : List WR} (h1 : ∀ x ∈ rs, x.of.length = 1) : ∀ (n : Nat) (s : List Int), s.length ≤ n → weighF id (clsL []) (rowL rs) n s = s.flatMap (el1 rs)
  | 0, s, h => by
    have : s = [] := List.eq_nil_of_length_eq_zero (by omega)
    subst this; rfl
  | n + 1, [], _ => rfl
  | n + 1, r :: t, h => by
    have ih := weigh_one h1 n t (by simpa using h)
    unfold weighF
    rw [longTo_one h1, List.flatMap_cons]
    unfold el1
    cases hx : rowL rs [r] with
    | none => simp only [Option.map_none]; rw [ih]; rfl
    | some x =>
      simp only [Option.map_some, List.drop_succ_cons, List.drop_zero]
      have : lengthenG id (clsL []) (rowL rs) x 0 t = (x, t) := by
        cases t with
        | nil => rfl
        | cons a b => unfold lengthenG; rw [if_pos (cls_none _)]
      rw [this, ih]; rfl
theorem elem_one {rs : List WR} (h1 : ∀ x ∈ rs, x.of.length = 1) (s : List Int) : elemL [] rs s = s.flatMap (el1 rs) := by
  unfold elemL weighL weighG
  rw [normal_none]
  exact weigh_one h1 _ s (Nat.le_refl _)

/-! ### a blank and two letters -/
def shR (h : Nat) : List WR := [⟨some ⟨h, 0, none⟩, [32], 1, some ⟨h + 1, 0, none⟩, [⟨5, 32, 2⟩], 1⟩, ⟨some ⟨h + 1 + 1, 0, none⟩, [97], 1, some ⟨h + 1 + 1 + 1, 0, none⟩, [⟨10, 32, 2⟩], 1⟩, ⟨some ⟨h + 1 + 1 + 1 + 1, 0, none⟩, [98], 1, some ⟨h + 1 + 1 + 1 + 1 + 1, 0, none⟩, [⟨11, 32, 2⟩], 1⟩]
def shT (h : Nat) (sh : Bool) : TB := ⟨none, [], 0, some ⟨h + 1 + 1 + 1 + 1 + 1 + 1, 0, none⟩, shR h, 3, 9, sh⟩
theorem sh_may (h : Nat) (sh : Bool) : mayWB (shT h sh).ls (shT h sh).rs (shT h sh).top = true := by kernel_rfl
def eB (r : Int) : EL := if r = 32 then ⟨5, 32, 2⟩ else if r = 97 then ⟨10, 32, 2⟩ else ⟨11, 32, 2⟩
def ShT (s : List Int) : Prop := ∀ r ∈ s, r = 32 ∨ r = 97 ∨ r = 98
theorem sh_one (h : Nat) (r : Int) (hr : r = 32 ∨ r = 97 ∨ r = 98) : el1 (shR h) r = [eB r] := by
  rcases hr with rfl | rfl | rfl
  · rfl
  · rfl
  · rfl
theorem sh_elem (h : Nat) (sh : Bool) (s : List Int) (hs : ShT s) : elemL (shT h sh).ls (shT h sh).rs s = s.map eB := by
  show elemL [] (shR h) s = _
  rw [elem_one fun x hx => by
    simp only [shR, List.mem_cons, List.not_mem_nil, or_false] at hx
    rcases hx with rfl | rfl | rfl <;> rfl]
  induction s with
  | nil => rfl
  | cons r t ih => rw [List.flatMap_cons, ih fun x hx => hs x (List.mem_cons_of_mem _ hx), sh_one h r (hs r (List.mem_cons_self ..))]; rfl
theorem sh_valid {s : List Int} (hs : ShT s) : s.any mayNotB = false := by
  rw [List.any_eq_false]
  intro r hr
  rcases hs r hr with rfl | rfl | rfl <;> decide
theorem sh_out (h : Nat) (sh : Bool) (s : List Int) (hs : ShT s) : outE (shT h sh) s = s.map eB ∧ errE (shT h sh) s = 0 := by
  unfold outE errE
  rw [sh_may, sh_valid hs, sh_elem h sh s hs]
  exact ⟨rfl, rfl⟩
/-- the levels where blanks count. -/
theorem lev_plain (top : Int) : ∀ (s : List Int) (A B C D : List Int) (b : Bool), ShT s → (s.map eB).foldl (levStep false top) ([A, B, C, D], b) = ([A ++ s.map fun r => (eB r).p, B ++ s.map fun _ => 32, C ++ s.map fun _ => 2, D], b)
  | [], A, B, C, D, b, _ => by simp
  | r :: t, A, B, C, D, b, hs => by
    have ih := fun A B C D b => lev_plain top t A B C D b fun x hx => hs x (List.mem_cons_of_mem _ hx)
    have e : levStep false top ([A, B, C, D], b) (eB r) = ([A ++ [(eB r).p], B ++ [32], C ++ [2], D], b) := by
      rcases hs r (List.mem_cons_self ..) with rfl | rfl | rfl <;> simp [levStep, wOf, addW, eB]
    rw [List.map_cons, List.foldl_cons, e, ih]
    simp
/-- .. and where they don't: letters alone. -/
theorem lev_shift : ∀ (s : List Int) (A B C D : List Int) (b : Bool), (∀ r ∈ s, r = 97 ∨ r = 98) → ∃ b', (s.map eB).foldl (levStep true 9) ([A, B, C, D], b) = ([A ++ s.map fun r => (eB r).p, B ++ s.map fun _ => 32, C ++ s.map fun _ => 2, D ++ s.map fun _ => 65535], b')
  | [], A, B, C, D, b, _ => ⟨b, by simp⟩
  | r :: t, A, B, C, D, b, hs => by
    have e : levStep true 9 ([A, B, C, D], b) (eB r) = ([A ++ [(eB r).p], B ++ [32], C ++ [2], D ++ [65535]], false) := by
      rcases hs r (List.mem_cons_self ..) with rfl | rfl <;> simp [levStep, wOf, shiftE, firmB, addW, eB]
    obtain ⟨b', ih⟩ := lev_shift t (A ++ [(eB r).p]) (B ++ [32]) (C ++ [2]) (D ++ [65535]) false fun x hx => hs x (List.mem_cons_of_mem _ hx)
    exact ⟨b', by rw [List.map_cons, List.foldl_cons, e, ih]; simp⟩
theorem lev_blank (A B C D : List Int) (b : Bool) : levStep true 9 ([A, B, C, D], b) (eB 32) = ([A, B, C, D ++ [5]], true) := by
  simp [levStep, wOf, shiftE, addW, eB]
/-- the keys of a text of letters, and of the same with a blank. -/
theorem sh_keys (h : Nat) (l r : List Int) (hl : ∀ x ∈ l, x = 97 ∨ x = 98) (hr : ∀ x ∈ r, x = 97 ∨ x = 98) :
    ∃ P b d e : List UInt8, keyOf (shT h false) (l ++ r) = P ∧ keyOf (shT h false) (l ++ 32 :: r) = b ∧ keyOf (shT h true) (l ++ r) = P ++ d ∧ keyOf (shT h true) (l ++ 32 :: r) = P ++ e ∧
      P.length = 6 * (l.length + r.length) + 6 ∧ b.length = 6 * (l.length + r.length) + 12 ∧ d.length = 2 * (l.length + r.length) ∧ e.length = 2 * (l.length + r.length) + 2 := by
  have s1 : ShT (l ++ r) := fun x hx => by
    rcases List.mem_append.1 hx with hx | hx
    · exact Or.inr (hl x hx)
    · exact Or.inr (hr x hx)
  have s2 : ShT (l ++ 32 :: r) := fun x hx => by
    rcases List.mem_append.1 hx with hx | hx
    · exact Or.inr (hl x hx)
    · rcases List.mem_cons.1 hx with hx | hx
      · exact Or.inl hx
      · exact Or.inr (hr x hx)
  have k1 : keyOf (shT h false) (l ++ r) = keyB [(l ++ r).map fun x => (eB x).p, (l ++ r).map fun _ => 32, (l ++ r).map fun _ => 2, []] := by
    unfold keyOf
    rw [(sh_out h false _ s1).1]
    show keyB (levSt false 9 _).1 = _
    unfold levSt
    rw [lev_plain 9 _ [] [] [] [] false s1]; rfl
  have k2 : keyOf (shT h false) (l ++ 32 :: r) = keyB [(l ++ 32 :: r).map fun x => (eB x).p, (l ++ 32 :: r).map fun _ => 32, (l ++ 32 :: r).map fun _ => 2, []] := by
    unfold keyOf
    rw [(sh_out h false _ s2).1]
    show keyB (levSt false 9 _).1 = _
    unfold levSt
    rw [lev_plain 9 _ [] [] [] [] false s2]; rfl
  have k3 : keyOf (shT h true) (l ++ r) = keyB [(l ++ r).map fun x => (eB x).p, (l ++ r).map fun _ => 32, (l ++ r).map fun _ => 2, (l ++ r).map fun _ => 65535] := by
    unfold keyOf
    rw [(sh_out h true _ s1).1]
    show keyB (levSt true 9 _).1 = _
    unfold levSt
    obtain ⟨b', e⟩ := lev_shift (l ++ r) [] [] [] [] false fun x hx => (List.mem_append.1 hx).elim (hl x) (hr x)
    rw [e]; rfl
  have k4 : keyOf (shT h true) (l ++ 32 :: r) = keyB [(l ++ r).map fun x => (eB x).p, (l ++ r).map fun _ => 32, (l ++ r).map fun _ => 2, l.map (fun _ => 65535) ++ 5 :: r.map fun _ => 65535] := by
    unfold keyOf
    rw [(sh_out h true _ s2).1]
    show keyB (levSt true 9 _).1 = _
    unfold levSt
    rw [List.map_append, List.map_cons, List.foldl_append, List.foldl_cons]
    obtain ⟨b', e⟩ := lev_shift l [] [] [] [] false hl
    rw [e, lev_blank]
    obtain ⟨b'', e2⟩ := lev_shift r ([] ++ l.map fun r => (eB r).p) ([] ++ l.map fun _ => 32) ([] ++ l.map fun _ => 2) ([] ++ (l.map fun _ => 65535) ++ [5]) true hr
    rw [e2]
    simp
  refine ⟨keyOf (shT h false) (l ++ r), keyOf (shT h false) (l ++ 32 :: r), lvB ((l ++ r).map fun _ => 65535), lvB (l.map (fun _ => 65535) ++ 5 :: r.map fun _ => 65535), rfl, rfl, ?_, ?_, ?_, ?_, ?_, ?_⟩
  · rw [k3, k1, keyB_four, keyB_four]; simp [lvB]
  · rw [k4, k1, keyB_four, keyB_four]; simp [lvB]
  · rw [k1, keyB_length4]; simp; omega
  · rw [k2, keyB_length4]; simp; omega
  · rw [lvB_length]; simp
  · rw [lvB_length]; simp; omega
end Go.Proofs.YtcocmmndonlhkaaDoor
