/-
  The comparison that lore hands to slices.SortStableFunc: by classes; in whatever world.
-/
import Derived.Test.YticjgmhgpeihjaaGreatDoorStabSwap
import Derived.Sort.Grow
namespace Go.Proofs.YticjgmhgpeihjaaGreatDoor
open Go.RowKit Go.Gz Go.Sort Go.Lib

def cmpI (x y : Int) : Int := if x < y then -1 else if y < x then 1 else 0

theorem isNaN_int (x : Int) (w : World) : Calls Tryz.prog 113 #[.int .i64 x] w fun e w' => e = .returned (.bool false) ∧ w = w' := by
  have hx : ((x : Int) != x) = false := by simp
  go_enter Tryz.func113, Tryz.ntmps113
  go_wp2
  go_ret
  exact ⟨rfl, rfl⟩

theorem compare_int (x y : Int) (w : World) : Calls Tryz.prog 107 #[.int .i64 x, .int .i64 y] w fun e w' => e = .returned (.int .i64 (cmpI x y)) ∧ w = w' := by
  unfold cmpI
  by_cases h1 : x < y
  · rw [if_pos h1]
    go_enter Tryz.func107, Tryz.ntmps107
    go_wp2_with (go_at_call 113; refine (isNaN_int _ _).mono ?_; rintro e w' ⟨rfl, rfl⟩)
    go_ret
    exact ⟨rfl, rfl⟩
  · rw [if_neg h1]
    by_cases h2 : y < x
    · rw [if_pos h2]
      go_enter Tryz.func107, Tryz.ntmps107
      go_wp2_with (go_at_call 113; refine (isNaN_int _ _).mono ?_; rintro e w' ⟨rfl, rfl⟩)
      go_ret
      exact ⟨rfl, rfl⟩
    · rw [if_neg h2]
      go_enter Tryz.func107, Tryz.ntmps107
      go_wp2_with (go_at_call 113; refine (isNaN_int _ _).mono ?_; rintro e w' ⟨rfl, rfl⟩)
      go_ret
      exact ⟨rfl, rfl⟩

theorem classOf_any (r c : Int) (w : World) : Calls Tryz.prog 99 #[.agg #[.int .i32 r, .int .i64 c]] w fun e w' => e = .returned (.int .i64 c) ∧ ∃ q os', w' = grow (w.drewN q) os' := by
  go_enter Tryz.func99, Tryz.ntmps99
  go_wp2
  go_ret
  exact ⟨rfl, 0, _, by rw [alloc_eq_grow]; rfl⟩

theorem mixed : Tryz.prog.follows .mixedOrders = true := by kernel_rfl

set_option maxHeartbeats 1000000 in
/-- the closure: cmp.Compare(of(a), of(b)), of captured in block B. -/
theorem by_any (x cx y cy : Int) (B : Nat) (w : World) (hB : B < w.heap.size) (hc : w.cell? ⟨B, 0, none⟩ = some (.func (.func 99) #[] #[])) :
    Calls Tryz.prog 106 #[.agg #[.int .i32 x, .int .i64 cx], .agg #[.int .i32 y, .int .i64 cy], .pointer (some ⟨B, 0, none⟩)] w fun e w' => e = .returned (.int .i64 (cmpI cx cy)) ∧ ∃ q os', w' = grow (w.drewN q) os' := by
  go_enter Tryz.func106, Tryz.ntmps106
  have mx := mixed
  go_wp2_with fail
  have hH := Lib.hid (show ∃ os, (w.alloc (.cells #[.int .i32 x, .int .i64 cx] 119)).alloc (.cells #[.int .i32 y, .int .i64 cy] 119) = grow (w.drewN 0) os from ⟨_, by rw [alloc_eq_grow, alloc_eq_grow, grow_grow]; rfl⟩)
  have b0 : B < ((w.alloc (.cells #[.int .i32 x, .int .i64 cx] 119)).alloc (.cells #[.int .i32 y, .int .i64 cy] 119)).heap.size := by simp; omega
  have b1 : w.heap.size < ((w.alloc (.cells #[.int .i32 x, .int .i64 cx] 119)).alloc (.cells #[.int .i32 y, .int .i64 cy] 119)).heap.size := by simp; try omega
  have b2 : w.heap.size + 1 < ((w.alloc (.cells #[.int .i32 x, .int .i64 cx] 119)).alloc (.cells #[.int .i32 y, .int .i64 cy] 119)).heap.size := by simp; try omega
  have c0 : ((w.alloc (.cells #[.int .i32 x, .int .i64 cx] 119)).alloc (.cells #[.int .i32 y, .int .i64 cy] 119)).cell? ⟨B, 0, none⟩ = some (.func (.func 99) #[] #[]) := by
    rw [World.cell?_alloc_lt _ _ ⟨B, 0, none⟩ (by simp; omega), World.cell?_alloc_lt _ _ ⟨B, 0, none⟩ hB]; exact hc
  have c1 : ((w.alloc (.cells #[.int .i32 x, .int .i64 cx] 119)).alloc (.cells #[.int .i32 y, .int .i64 cy] 119)).cell? ⟨w.heap.size, 0, none⟩ = some (.int .i32 x) := by simp
  have c2 : ((w.alloc (.cells #[.int .i32 x, .int .i64 cx] 119)).alloc (.cells #[.int .i32 y, .int .i64 cy] 119)).cell? ⟨w.heap.size, 1, none⟩ = some (.int .i64 cx) := by simp
  have c3 : ((w.alloc (.cells #[.int .i32 x, .int .i64 cx] 119)).alloc (.cells #[.int .i32 y, .int .i64 cy] 119)).cell? ⟨w.heap.size + 1, 0, none⟩ = some (.int .i32 y) := by simp
  have c4 : ((w.alloc (.cells #[.int .i32 x, .int .i64 cx] 119)).alloc (.cells #[.int .i32 y, .int .i64 cy] 119)).cell? ⟨w.heap.size + 1, 1, none⟩ = some (.int .i64 cy) := by simp
  generalize (w.alloc (.cells #[.int .i32 x, .int .i64 cx] 119)).alloc (.cells #[.int .i32 y, .int .i64 cy] 119) = wq at hH b0 b1 b2 c0 c1 c2 c3 c4 ⊢
  generalize w.heap.size = s at b1 b2 c1 c2 c3 c4 ⊢
  have f0 := cell_grown b0 c0
  have f1 := cell_grown b1 c1
  have f2 := cell_grown (a := ⟨s, 1, none⟩) b1 c2
  have f3 := cell_grown b2 c3
  have f4 := cell_grown (a := ⟨s + 1, 1, none⟩) b2 c4
  clear b0 b1 b2 c0 c1 c2 c3 c4 hc
  go_quiet_grown (first | (go_at_call 99; refine Calls.grown_of (classOf_any _ _ _)) | (go_at_call 107; refine Calls.grown_of ((compare_int _ _ _).mono fun _ _ h => ⟨h.1, 0, #[], by rw [grow_empty]; exact h.2.symm⟩)))
  go_wp2
  go_ret
  obtain ⟨os, hos⟩ := hH.out
  exact ⟨rfl, nq, os ++ osq, by rw [hos]; show grow (grow (w.drewN nq) os) osq = _; rw [grow_grow]⟩
end Go.Proofs.YticjgmhgpeihjaaGreatDoor
