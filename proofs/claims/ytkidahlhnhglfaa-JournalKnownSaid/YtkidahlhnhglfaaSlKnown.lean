/-
  SealKnown: the walk, up to its last region.
-/
import Derived.Test.YtkidahlhnhglfaaSlAwake
import Derived.Test.YtkidahlhnhglfaaMgB
import Derived.Laws.OwnMore
import Derived.Lib.SlBytesConst
namespace Go.Proofs.Ytkidahlhnhglfaa
open Go.RowKit Go.Gz

theorem row_of_block {w : World} {b : Nat} {cur : Array Value} {t : TypeId} {l : List UInt8} {k : Nat × Nat} (h : w.heap[b]? = some (.cells cur t k)) (hc : ∀ j, j < l.length → cur[j]? = some (.int .u8 ((l.getD j 0).toNat : Int))) : Row w .u8 (some ⟨b, 0, none⟩) (nums l) := by
  refine Or.inr ⟨b, 0, rfl, (Array.getElem?_eq_some_iff.1 h).1, fun j hj => ?_⟩
  rw [nums_length] at hj
  simp only [World.cell?, h, Nat.zero_add]
  rw [nums_getD _ _ hj]
  exact hc j hj
theorem make_zeros (n : Nat) (hn : n ≤ 1000000) (w : World) : ∃ w', (Instr.makeSlice 25 (.int .i64 (n : Int)) (.int .i64 (n : Int))).run Try.prog w = .ok (.slice (some ⟨w.heap.size, 0, none⟩) n n) w' ∧
    Row w' .u8 (some ⟨w.heap.size, 0, none⟩) (nums (List.replicate n 0)) ∧ Below w.heap.size w w' := by
  obtain ⟨i0, hi, hz0, hz1, hz2⟩ := info_parts info_byte
  have hb : (i0.bytes : Int) * (n : Int) ≤ 281474976710656 := by rw [hz2]; omega
  have hr := run_make (P := Try.prog) w 25 5 i0 (.int .u8 0) Try.underlying25 hi hz0 .i64 .i64 n n (by omega) (by omega) hb (by omega)
  simp only [Int.toNat_natCast] at hr
  refine ⟨_, hr, row_of_block (by show (w.heap.push _)[w.heap.size]? = _; rw [Array.getElem?_push_size]) (fun j hj => ?_), (Below.refl _ _).alloc (Nat.le_refl _) _⟩
  rw [List.length_replicate] at hj
  have : (List.replicate n (0 : UInt8)).getD j 0 = 0 := by simp [List.getD, hj]
  rw [this, hz1, Nat.mul_one]
  simp [madeCells, hj, Value.cells, Nat.mod_one]

def wikiL : List UInt8 := [87, 105, 107, 105, 112, 101, 100, 105, 97]
def wikiC : Obj := .cells #[.int .u8 87, .int .u8 105, .int .u8 107, .int .u8 105, .int .u8 112, .int .u8 101, .int .u8 100, .int .u8 105, .int .u8 97] 5 (9, 10)
theorem wiki_row (w : World) : Row (w.alloc wikiC) .u8 (some ⟨w.heap.size, 0, none⟩) (nums wikiL) :=
  row_of_block (by show (w.heap.push _)[w.heap.size]? = _; rw [Array.getElem?_push_size]; rfl) (fun j hj => by
    have hj : j < 9 := hj
    match j, hj with
    | 0, _ => rfl | 1, _ => rfl | 2, _ => rfl | 3, _ => rfl | 4, _ => rfl | 5, _ => rfl | 6, _ => rfl | 7, _ => rfl | 8, _ => rfl)
def badL : List UInt8 := [255, 255, 1, 0, 0, 0, 0]
def badC : Obj := .cells #[.int .u8 255, .int .u8 255, .int .u8 1, .int .u8 0, .int .u8 0, .int .u8 0, .int .u8 0] 5
theorem bad_row (w : World) : Row (w.alloc badC) .u8 (some ⟨w.heap.size, 0, none⟩) (nums badL) := row_lit w .u8 5 (nums badL)
theorem bad_err : errL badL = 3 := by decide

end Go.Proofs.Ytkidahlhnhglfaa
