/-
  Layer lore: a lore that is written out; the document's example.
-/
import Derived.Test.YticjgmhgpeihjaaGreatDoorLoNorm2
namespace Go.Proofs.YticjgmhgpeihjaaGreatDoor
open Go.RowKit Go.Gz Go.Sort

def flatL (ls : List LR) : List Value := ls.flatMap fun x => [.int .i32 x.r, .int .i64 x.c, .slice x.p x.to.length x.cap]
theorem flatL_get : ∀ (ls : List LR) (j : Nat), j < ls.length → (flatL ls)[j * 3]? = some (.int .i32 ls[j]!.r) ∧ (flatL ls)[j * 3 + 1]? = some (.int .i64 ls[j]!.c) ∧ (flatL ls)[j * 3 + 2]? = some (.slice ls[j]!.p ls[j]!.to.length ls[j]!.cap)
  | [], _, h => by simp at h
  | x :: t, 0, _ => ⟨rfl, rfl, rfl⟩
  | x :: t, j + 1, h => by
    have ih := flatL_get t j (by simpa using h)
    have e : flatL (x :: t) = [.int .i32 x.r, .int .i64 x.c, .slice x.p x.to.length x.cap] ++ flatL t := by simp [flatL]
    have g : (x :: t)[j + 1]! = t[j]! := by simp
    rw [e, g, show (j + 1) * 3 = 3 + j * 3 by omega]
    refine ⟨?_, ?_, ?_⟩
    · rw [List.getElem?_append_right (by simp)]; simpa using ih.1
    · rw [List.getElem?_append_right (by simp; omega)]; rw [show 3 + j * 3 + 1 - [Value.int .i32 x.r, .int .i64 x.c, .slice x.p x.to.length x.cap].length = j * 3 + 1 by simp; omega]; exact ih.2.1
    · rw [List.getElem?_append_right (by simp; omega)]; rw [show 3 + j * 3 + 2 - [Value.int .i32 x.r, .int .i64 x.c, .slice x.p x.to.length x.cap].length = j * 3 + 2 by simp; omega]; exact ih.2.2
theorem lores_lit (w : World) (b : Nat) (t : TypeId) (fr : Nat × Nat) (ls : List LR) (h : w.heap[b]? = some (.cells (flatL ls).toArray t fr)) (hto : ∀ x ∈ ls, ToAt w x) : Lores w (some ⟨b, 0, none⟩) ls := by
  refine Or.inr ⟨b, 0, rfl, (Array.getElem?_eq_some_iff.1 h).1, fun j hj => ?_⟩
  obtain ⟨h1, h2, h3⟩ := flatL_get ls j hj
  simp only [World.cell?, h, Nat.zero_add, List.getElem?_toArray]
  exact ⟨h1, h2, h3, hto _ (get_mem hj)⟩
theorem heap_new (w : World) (o : Obj) : (w.alloc o).heap[w.heap.size]? = some o := by
  show (w.heap.push _)[w.heap.size]? = _
  simp

/-- the lore of the example: é, and the accent's class. -/
def exL (h : Nat) : List LR := [⟨233, 0, some ⟨h, 0, none⟩, [101, 769], 2⟩, ⟨769, 230, none, [], 0⟩]
theorem ex_may (h : Nat) : mayB (exL h) = true := by kernel_rfl
theorem ex_norm (h : Nat) : normalL (exL h) [233] = [101, 769] := by kernel_rfl
theorem ex_c1 (h : Nat) : clsL (exL h) 769 = 230 := by kernel_rfl
theorem ex_c2 (h : Nat) : clsL (exL h) 101 = 0 := by kernel_rfl

theorem build_lore (a b : Int) (p : Option Addr) (n k : Nat) (w : World) : (Instr.build 49 #[(0, .int .i32 a), (1, .int .i64 b), (2, .slice p n k)]).run Tryz.prog w = .ok (.agg #[.int .i32 a, .int .i64 b, .slice p n k]) w := by kernel_rfl
theorem build_lore02 (a : Int) (p : Option Addr) (n k : Nat) (w : World) : (Instr.build 49 #[(0, .int .i32 a), (2, .slice p n k)]).run Tryz.prog w = .ok (.agg #[.int .i32 a, .int .i64 0, .slice p n k]) w := by kernel_rfl
theorem build_lore01 (a b : Int) (w : World) : (Instr.build 49 #[(0, .int .i32 a), (1, .int .i64 b)]).run Tryz.prog w = .ok (.agg #[.int .i32 a, .int .i64 b, .slice none 0 0]) w := by kernel_rfl
theorem build_lore0 (a : Int) (w : World) : (Instr.build 49 #[(0, .int .i32 a)]).run Tryz.prog w = .ok (.agg #[.int .i32 a, .int .i64 0, .slice none 0 0]) w := by kernel_rfl
end Go.Proofs.YticjgmhgpeihjaaGreatDoor
