/-
  Layer weigh: the elements of a rune without a row.
-/
import Derived.Test.YticjgmhgpeihjaaGreatDoorWeRows
namespace Go.Proofs.YticjgmhgpeihjaaGreatDoor
open Go.RowKit Go.Gz Go.Sort

abbrev implV (r : Int) : Value := .agg #[.int .i64 (64000 + r / 3999), .int .i64 32, .int .i64 2, .int .i64 (60001 + r % 3999), .int .i64 0, .int .i64 0]
theorem build_el3 (a b c : Int) (w : World) : (Instr.build 44 #[(0, .int .i64 a), (1, .int .i64 b), (2, .int .i64 c)]).run Tryz.prog w = .ok (.agg #[.int .i64 a, .int .i64 b, .int .i64 c]) w := by kernel_rfl
theorem build_el1 (a : Int) (w : World) : (Instr.build 44 #[(0, .int .i64 a)]).run Tryz.prog w = .ok (.agg #[.int .i64 a, .int .i64 0, .int .i64 0]) w := by kernel_rfl

set_option maxHeartbeats 1000000 in
set_option maxRecDepth 100000 in
theorem impl_nat (n : Nat) (hn : n ≤ 1114111) (W : World) : Calls Tryz.prog 57 #[.int .i32 (n : Int)] W fun e w' => e = .returned (implV n) ∧ Below W.heap.size W w' := by
  have b1 := fun w : World => build_el3 (64000 + (n : Int) / 3999) 32 2 w
  have b2 := fun w : World => build_el1 (60001 + (n : Int) % 3999) w
  go_enter Tryz.func57, Tryz.ntmps57
  go_wp2_with fail
  refine bodyPost_ret (v := implV n) (by simp [results, Tryz.results57, go_sem]) rfl ?_
  exact ⟨rfl, (Below.refl _ _).alloc (Nat.le_refl _) _⟩
theorem impl_any (r : Int) (h0 : 0 ≤ r) (h1 : r ≤ 1114111) (W : World) : Calls Tryz.prog 57 #[.int .i32 r] W fun e w' => e = .returned (implV r) ∧ Below W.heap.size W w' := by
  obtain ⟨n, rfl⟩ : ∃ n : Nat, r = (n : Int) := ⟨r.toNat, by omega⟩
  exact impl_nat n (by omega) W
set_option maxHeartbeats 1000000 in
set_option maxRecDepth 100000 in
theorem refImpl_any (r : Int) (h0 : 0 ≤ r) (h1 : r ≤ 1114111) (W : World) : Calls Tryz.prog 40 #[.int .i32 r] W fun e w' => e = .returned (implV r) ∧ Below W.heap.size W w' := by
  obtain ⟨n, rfl⟩ : ∃ n : Nat, r = (n : Int) := ⟨r.toNat, by omega⟩
  have b1 := fun w : World => build_el3 (64000 + (n : Int) / 3999) 32 2 w
  have b2 := fun w : World => build_el1 (60001 + (n : Int) % 3999) w
  go_enter Tryz.func40, Tryz.ntmps40
  go_wp2_with fail
  refine bodyPost_ret (v := implV n) (by simp [results, Tryz.results40, go_sem]) rfl ?_
  exact ⟨rfl, (Below.refl _ _).alloc (Nat.le_refl _) _⟩
theorem flatE_impl (r : Int) : flatE (impl r) = [.int .i64 (64000 + r / 3999), .int .i64 32, .int .i64 2, .int .i64 (60001 + r % 3999), .int .i64 0, .int .i64 0] := rfl
end Go.Proofs.YticjgmhgpeihjaaGreatDoor
