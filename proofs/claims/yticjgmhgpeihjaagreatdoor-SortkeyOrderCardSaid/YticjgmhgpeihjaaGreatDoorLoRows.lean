/-
  Layer lore: a lore's rows as they stand in memory; the small functions upon them.
-/
import Derived.Test.YticjgmhgpeihjaaGreatDoorRows2
import Derived.Test.YticjgmhgpeihjaaGreatDoorShelf
import Derived.Shelf.SlSortCmp.KitK
namespace Go.Gz
open Go.RowKit

/-- a row of a lore: its rune, its class, what it is taken apart into, and where that stands. -/
structure LR where
  r : Int
  c : Int
  p : Option Addr
  to : List Int
  cap : Nat
deriving Inhabited
def LR.zero : LR := ⟨0, 0, none, [], 0⟩
/-- the row of r, or the zero row. -/
def findL (ls : List LR) (r : Int) : LR := ((ls.find? fun x => decide (x.r = r))).getD LR.zero
def clsL (ls : List LR) (r : Int) : Int := (findL ls r).c
def toL (ls : List LR) (r : Int) : List Int := (findL ls r).to
/-- each rune is above the one ahead. -/
def Rising (ls : List LR) : Prop := ∀ i j, i < j → j < ls.length → ls[i]!.r < ls[j]!.r

theorem get_mem {ls : List LR} {i : Nat} (h : i < ls.length) : ls[i]! ∈ ls := by
  rw [getElem!_pos ls i h]; exact List.getElem_mem h
theorem find_at {ls : List LR} (hr : Rising ls) {i : Nat} (h : i < ls.length) : findL ls ls[i]!.r = ls[i]! := by
  unfold findL
  have : ls.find? (fun x => decide (x.r = ls[i]!.r)) = some ls[i]! := by
    rw [List.find?_eq_some_iff_getElem]
    refine ⟨by simp, i, h, (getElem!_pos ls i h).symm, fun j hj => ?_⟩
    have := hr j i hj h
    rw [getElem!_pos ls j (by omega)] at this
    have h2 : ls[j].r ≠ ls[i]!.r := by omega
    simpa using h2
  rw [this]; rfl
theorem find_no {ls : List LR} {r : Int} (h : ∀ i, i < ls.length → ls[i]!.r ≠ r) : findL ls r = LR.zero := by
  unfold findL
  have : ls.find? (fun x => decide (x.r = r)) = none := by
    rw [List.find?_eq_none]
    intro x hx
    obtain ⟨i, hi, rfl⟩ := List.getElem_of_mem hx
    have := h i hi
    rw [getElem!_pos ls i hi] at this
    simpa using this
  rw [this]; rfl
theorem find_mem {ls : List LR} {r : Int} : (findL ls r ∈ ls ∧ (findL ls r).r = r) ∨ findL ls r = LR.zero := by
  unfold findL
  cases h : ls.find? (fun x => decide (x.r = r)) with
  | none => exact Or.inr rfl
  | some x => exact Or.inl ⟨List.mem_of_find?_eq_some h, by have := List.find?_some h; simpa using this⟩
end Go.Gz
namespace Go.Proofs.YticjgmhgpeihjaaGreatDoor
open Go.RowKit Go.Gz Go.Sort

def LR.v (x : LR) : Value := .agg #[.int .i32 x.r, .int .i64 x.c, .slice x.p x.to.length x.cap]
/-- x's To stands in w. -/
def ToAt (w : World) (x : LR) : Prop := Row w .i32 x.p x.to ∧ x.to.length ≤ x.cap ∧ (x.p = none → x.cap = 0)
/-- slice pointer p reads in w as the rows ls. -/
def Lores (w : World) (p : Option Addr) (ls : List LR) : Prop :=
  ls = [] ∨ ∃ b off, p = some ⟨b, off, none⟩ ∧ b < w.heap.size ∧ ∀ j, j < ls.length →
    w.cell? ⟨b, off + j * 3, none⟩ = some (.int .i32 ls[j]!.r) ∧ w.cell? ⟨b, off + j * 3 + 1, none⟩ = some (.int .i64 ls[j]!.c) ∧ w.cell? ⟨b, off + j * 3 + 2, none⟩ = some (.slice ls[j]!.p ls[j]!.to.length ls[j]!.cap) ∧ ToAt w ls[j]!

theorem ToAt.below {w w' : World} {x : LR} (h : ToAt w x) (hb : Below w.heap.size w w') : ToAt w' x := ⟨h.1.below hb, h.2⟩
theorem ToAt.zero (w : World) : ToAt w LR.zero := ⟨Or.inl rfl, Nat.le_refl _, fun _ => rfl⟩
theorem Lores.below {w w' : World} {p : Option Addr} {ls : List LR} (h : Lores w p ls) (hb : Below w.heap.size w w') : Lores w' p ls := by
  rcases h with h | ⟨b, off, hp, hlt, hc⟩
  · exact Or.inl h
  · refine Or.inr ⟨b, off, hp, Nat.lt_of_lt_of_le hlt hb.size, fun j hj => ?_⟩
    obtain ⟨h1, h2, h3, h4⟩ := hc j hj
    exact ⟨by rw [hb.cell (p := ⟨b, off + j * 3, none⟩) hlt]; exact h1, by rw [hb.cell (p := ⟨b, off + j * 3 + 1, none⟩) hlt]; exact h2, by rw [hb.cell (p := ⟨b, off + j * 3 + 2, none⟩) hlt]; exact h3, h4.below hb⟩
/-- the three cells of the row at j. -/
theorem Lores.at_ {W w : World} {p : Option Addr} {ls : List LR} (h : Lores W p ls) (hb : Below W.heap.size W w) {j : Nat} (hj : j < ls.length) :
    ∃ b off, p = some ⟨b, off, none⟩ ∧ b < W.heap.size ∧ w.cell? ⟨b, off + j * 3, none⟩ = some (.int .i32 ls[j]!.r) ∧ w.cell? ⟨b, off + j * 3 + 1, none⟩ = some (.int .i64 ls[j]!.c) ∧ w.cell? ⟨b, off + j * 3 + 2, none⟩ = some (.slice ls[j]!.p ls[j]!.to.length ls[j]!.cap) ∧ ToAt w ls[j]! := by
  rcases h.below hb with h' | ⟨b, off, hp, _, hc⟩
  · rw [h'] at hj; simp at hj
  · rcases h with h' | ⟨b', off', hp', hlt', _⟩
    · rw [h'] at hj; simp at hj
    · have hbb : b' = b := by rw [hp] at hp'; simp at hp'; exact hp'.1.symm
      exact ⟨b, off, hp, by omega, hc j hj⟩

theorem validRune_any (r : Int) (w : World) : Calls Tryz.prog 75 #[.int .i32 r] w fun e w' => e = .returned (.bool (Lib.validRune r)) ∧ w = w' := by
  go_enter Tryz.func75, Tryz.ntmps75
  go_wp2_with (go_at_call 91; refine (Tryz.utf8_ValidRune _ _).mono ?_; rintro e w' ⟨rfl, rfl⟩)
  go_ret
  exact ⟨rfl, rfl⟩
def mayNotB (r : Int) : Bool := !Lib.validRune r
theorem mayNot_any (r : Int) (w : World) : Calls Tryz.prog 52 #[.int .i32 r] w fun e w' => e = .returned (.bool (mayNotB r)) ∧ w = w' := by
  unfold mayNotB
  go_enter Tryz.func52, Tryz.ntmps52
  go_wp2_with (go_at_call 75; refine (validRune_any _ _).mono ?_; rintro e w' ⟨rfl, rfl⟩)
  go_ret
  exact ⟨rfl, rfl⟩

def cmpI32 (x y : Int) : Int := if x < y then -1 else if y < x then 1 else 0
theorem isNaN_rune (x : Int) (w : World) : Calls Tryz.prog 108 #[.int .i32 x] w fun e w' => e = .returned (.bool false) ∧ w = w' := by
  have hx : ((x : Int) != x) = false := by simp
  go_enter Tryz.func108, Tryz.ntmps108
  go_wp2
  go_ret
  exact ⟨rfl, rfl⟩
theorem compare_rune (x y : Int) (w : World) : Calls Tryz.prog 102 #[.int .i32 x, .int .i32 y] w fun e w' => e = .returned (.int .i64 (cmpI32 x y)) ∧ w = w' := by
  unfold cmpI32
  by_cases h1 : x < y
  · rw [if_pos h1]
    go_enter Tryz.func102, Tryz.ntmps102
    go_wp2_with (go_at_call 108; refine (isNaN_rune _ _).mono ?_; rintro e w' ⟨rfl, rfl⟩)
    go_ret
    exact ⟨rfl, rfl⟩
  · rw [if_neg h1]
    by_cases h2 : y < x
    · rw [if_pos h2]
      go_enter Tryz.func102, Tryz.ntmps102
      go_wp2_with (go_at_call 108; refine (isNaN_rune _ _).mono ?_; rintro e w' ⟨rfl, rfl⟩)
      go_ret
      exact ⟨rfl, rfl⟩
    · rw [if_neg h2]
      go_enter Tryz.func102, Tryz.ntmps102
      go_wp2_with (go_at_call 108; refine (isNaN_rune _ _).mono ?_; rintro e w' ⟨rfl, rfl⟩)
      go_ret
      exact ⟨rfl, rfl⟩

theorem grow_below (w : World) (q : Nat) (os : Array Obj) : Below w.heap.size w (grow (w.drewN q) os) := by
  refine ⟨rfl, rfl, rfl, by rw [size_grow]; exact Nat.le_add_right _ _, fun i hi => ?_⟩
  show (w.heap ++ os)[i]? = _
  rw [Array.getElem?_append_left hi]
theorem runeOf_any (x : LR) (w : World) : Calls Tryz.prog 93 #[LR.v x] w fun e w' => e = .returned (.int .i32 x.r) ∧ ∃ q os', w' = grow (w.drewN q) os' := by
  obtain ⟨r, c, p, to, cap⟩ := x
  unfold LR.v
  dsimp only
  go_enter Tryz.func93, Tryz.ntmps93
  go_wp2
  go_ret
  exact ⟨rfl, 0, _, by rw [alloc_eq_grow]; rfl⟩
theorem find1_any (x : LR) (r : Int) (w : World) : Calls Tryz.prog 101 #[LR.v x, .int .i32 r] w fun e w' => e = .returned (.int .i64 (cmpI32 x.r r)) ∧ ∃ q os', w' = grow (w.drewN q) os' := by
  obtain ⟨y, c, p, to, cap⟩ := x
  unfold LR.v
  dsimp only
  go_enter Tryz.func101, Tryz.ntmps101
  go_wp2_with (go_at_call 102; refine (compare_rune _ _ _).mono ?_; rintro e w' ⟨rfl, rfl⟩)
  go_ret
  exact ⟨rfl, 0, _, by rw [alloc_eq_grow]; rfl⟩
end Go.Proofs.YticjgmhgpeihjaaGreatDoor
