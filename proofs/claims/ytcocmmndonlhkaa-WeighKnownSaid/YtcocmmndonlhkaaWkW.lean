/-
  WeighKnown: its table and its texts in memory.
-/
import Derived.Test.YtcocmmndonlhkaaWkM
import Derived.Test.YtcocmmndonlhkaaWeBox
namespace Go.Proofs.Ytcocmmndonlhkaa
open Go.RowKit Go.Gz Go.Sort

def wkO (w : World) : Array Obj := #[.cells #[.int .i32 769, .int .i64 230, .slice none 0 0, .int .i32 770, .int .i64 230, .slice none 0 0, .int .i32 803, .int .i64 220, .slice none 0 0] 29,
  .cells #[.int .i32 97] 21,
  .cells #[.int .i64 1, .int .i64 1, .int .i64 1] 25,
  .cells #[.int .i32 97, .int .i32 98] 21,
  .cells #[.int .i64 2, .int .i64 1, .int .i64 1] 25,
  .cells #[.int .i32 97, .int .i32 769] 21,
  .cells #[.int .i64 3, .int .i64 1, .int .i64 1] 25,
  .cells #[.int .i32 98] 21,
  .cells #[.int .i64 4, .int .i64 1, .int .i64 1] 25,
  .cells #[.int .i32 769] 21,
  .cells #[.int .i64 0, .int .i64 5, .int .i64 1] 25,
  .cells #[.int .i32 770] 21,
  .cells #[.int .i64 0, .int .i64 6, .int .i64 1] 25,
  .cells #[.int .i32 803] 21,
  .cells #[.int .i64 0, .int .i64 7, .int .i64 1] 25,
  .cells #[.slice (some ⟨w.heap.size + 1, 0, none⟩) 1 1, .slice (some ⟨w.heap.size + 2, 0, none⟩) 1 1, .slice (some ⟨w.heap.size + 3, 0, none⟩) 2 2, .slice (some ⟨w.heap.size + 4, 0, none⟩) 1 1, .slice (some ⟨w.heap.size + 5, 0, none⟩) 2 2, .slice (some ⟨w.heap.size + 6, 0, none⟩) 1 1, .slice (some ⟨w.heap.size + 7, 0, none⟩) 1 1, .slice (some ⟨w.heap.size + 8, 0, none⟩) 1 1, .slice (some ⟨w.heap.size + 9, 0, none⟩) 1 1, .slice (some ⟨w.heap.size + 10, 0, none⟩) 1 1, .slice (some ⟨w.heap.size + 11, 0, none⟩) 1 1, .slice (some ⟨w.heap.size + 12, 0, none⟩) 1 1, .slice (some ⟨w.heap.size + 13, 0, none⟩) 1 1, .slice (some ⟨w.heap.size + 14, 0, none⟩) 1 1] 32,
  .cells #[.slice (some ⟨w.heap.size, 0, none⟩) 3 3, .slice (some ⟨w.heap.size + 15, 0, none⟩) 7 7, .int .i64 0, .bool false] 35,
  .cells #[.int .i32 97, .int .i32 98] 21,
  .cells #[.int .i32 97, .int .i32 803, .int .i32 769] 21,
  .cells #[.int .i32 97, .int .i32 770, .int .i32 769] 21,
  .cells #[.int .i32 97, .int .i32 97, .int .i32 769, .int .i32 98] 21,
  .cells #[.int .i32 122] 21,
  .cells #[] 21,
  .cells #[.slice (some ⟨w.heap.size + 17, 0, none⟩) 2 2, .slice (some ⟨w.heap.size + 18, 0, none⟩) 3 3, .slice (some ⟨w.heap.size + 19, 0, none⟩) 3 3, .slice (some ⟨w.heap.size + 20, 0, none⟩) 4 4, .slice (some ⟨w.heap.size + 21, 0, none⟩) 1 1, .slice (some ⟨w.heap.size + 22, 0, none⟩) 0 0] 27]
def wkW (w : World) : World := grow w (wkO w)
theorem wkW_at (w : World) (k : Nat) : (wkW w).heap[w.heap.size + k]? = (wkO w)[k]? := by
  unfold wkW grow
  rw [Array.getElem?_append_right (by omega), Nat.add_sub_cancel_left]
theorem wkW_size (w : World) : (wkW w).heap.size = w.heap.size + 24 := by unfold wkW; rw [size_grow]; rfl
theorem wkT_at (w : World) : TabIn (wkW w) (wkT w.heap.size) := by
  have at_ : ∀ k h, w.heap.size + k = h → (wkW w).heap[h]? = (wkO w)[k]? := fun k h e => e ▸ wkW_at w k
  refine ⟨lores_lit _ _ 29 (0, 0) _ (by rw [at_ 0 _ (by omega)]; rfl) fun x hx => ?_, wrs_lit _ _ 32 (0, 0) _ (by rw [at_ 15 _ (by omega)]; rfl) fun x hx => ?_, by simp [wkT, wkL], fun x hx => ?_, by simp [wkT, wkR], fun x hx => ?_⟩
  · simp only [wkT, wkL, List.mem_cons, List.not_mem_nil, or_false] at hx
    rcases hx with rfl | rfl | rfl <;> exact ⟨Or.inl rfl, Nat.le_refl 0, fun _ => rfl⟩
  · simp only [wkT, wkR, List.mem_cons, List.not_mem_nil, or_false] at hx
    rcases hx with rfl | rfl | rfl | rfl | rfl | rfl | rfl
    · exact ⟨⟨row_heap _ _ _ 21 (0, 0) _ (by rw [at_ 1 _ (by omega)]; rfl), Nat.le_refl 1, fun h => by cases h⟩, ⟨els_lit _ _ 25 (0, 0) _ (by rw [at_ 2 _ (by omega)]; rfl), Nat.le_refl 1, fun h => by cases h⟩⟩
    · exact ⟨⟨row_heap _ _ _ 21 (0, 0) _ (by rw [at_ 3 _ (by omega)]; rfl), Nat.le_refl 2, fun h => by cases h⟩, ⟨els_lit _ _ 25 (0, 0) _ (by rw [at_ 4 _ (by omega)]; rfl), Nat.le_refl 1, fun h => by cases h⟩⟩
    · exact ⟨⟨row_heap _ _ _ 21 (0, 0) _ (by rw [at_ 5 _ (by omega)]; rfl), Nat.le_refl 2, fun h => by cases h⟩, ⟨els_lit _ _ 25 (0, 0) _ (by rw [at_ 6 _ (by omega)]; rfl), Nat.le_refl 1, fun h => by cases h⟩⟩
    · exact ⟨⟨row_heap _ _ _ 21 (0, 0) _ (by rw [at_ 7 _ (by omega)]; rfl), Nat.le_refl 1, fun h => by cases h⟩, ⟨els_lit _ _ 25 (0, 0) _ (by rw [at_ 8 _ (by omega)]; rfl), Nat.le_refl 1, fun h => by cases h⟩⟩
    · exact ⟨⟨row_heap _ _ _ 21 (0, 0) _ (by rw [at_ 9 _ (by omega)]; rfl), Nat.le_refl 1, fun h => by cases h⟩, ⟨els_lit _ _ 25 (0, 0) _ (by rw [at_ 10 _ (by omega)]; rfl), Nat.le_refl 1, fun h => by cases h⟩⟩
    · exact ⟨⟨row_heap _ _ _ 21 (0, 0) _ (by rw [at_ 11 _ (by omega)]; rfl), Nat.le_refl 1, fun h => by cases h⟩, ⟨els_lit _ _ 25 (0, 0) _ (by rw [at_ 12 _ (by omega)]; rfl), Nat.le_refl 1, fun h => by cases h⟩⟩
    · exact ⟨⟨row_heap _ _ _ 21 (0, 0) _ (by rw [at_ 13 _ (by omega)]; rfl), Nat.le_refl 1, fun h => by cases h⟩, ⟨els_lit _ _ 25 (0, 0) _ (by rw [at_ 14 _ (by omega)]; rfl), Nat.le_refl 1, fun h => by cases h⟩⟩
  · simp only [wkT, wkL, List.mem_cons, List.not_mem_nil, or_false] at hx
    rcases hx with rfl | rfl | rfl <;> simp
  · simp only [wkT, wkR, List.mem_cons, List.not_mem_nil, or_false] at hx
    rcases hx with rfl | rfl | rfl | rfl | rfl | rfl | rfl <;> exact ⟨by simp, by simp⟩
/-- the texts in memory. -/
structure TxtsAt (w : World) (g h : Nat) : Prop where
  lt : g < w.heap.size
  cell : ∀ i, i < 6 → w.cell? ⟨g, i, none⟩ = some (.slice (some ⟨h + 17 + i, 0, none⟩) wkIn[i]!.length wkIn[i]!.length)
  row : ∀ i, i < 6 → Row w .i32 (some ⟨h + 17 + i, 0, none⟩) wkIn[i]!
theorem TxtsAt.below {w w' : World} {g h : Nat} (H : TxtsAt w g h) (hb : Below w.heap.size w w') : TxtsAt w' g h :=
  ⟨Nat.lt_of_lt_of_le H.lt hb.size, fun i hi => cell_below hb (H.cell i hi) H.lt, fun i hi => (H.row i hi).below hb⟩
theorem wkX_at (w : World) : TxtsAt (wkW w) (w.heap.size + 23) w.heap.size := by
  refine ⟨by rw [wkW_size]; omega, fun i hi => ?_, fun i hi => ?_⟩
  · have e := wkW_at w 23
    unfold World.cell?
    rw [e]
    match i, hi with
    | 0, _ => rfl
    | 1, _ => rfl
    | 2, _ => rfl
    | 3, _ => rfl
    | 4, _ => rfl
    | 5, _ => rfl
  · obtain rfl | rfl | rfl | rfl | rfl | rfl : i = 0 ∨ i = 1 ∨ i = 2 ∨ i = 3 ∨ i = 4 ∨ i = 5 := by omega
    · exact row_heap (wkW w) .i32 (w.heap.size + 17) 21 (0, 0) [97, 98] ((wkW_at w 17).trans rfl)
    · exact row_heap (wkW w) .i32 (w.heap.size + 18) 21 (0, 0) [97, 803, 769] ((wkW_at w 18).trans rfl)
    · exact row_heap (wkW w) .i32 (w.heap.size + 19) 21 (0, 0) [97, 770, 769] ((wkW_at w 19).trans rfl)
    · exact row_heap (wkW w) .i32 (w.heap.size + 20) 21 (0, 0) [97, 97, 769, 98] ((wkW_at w 20).trans rfl)
    · exact row_heap (wkW w) .i32 (w.heap.size + 21) 21 (0, 0) [122] ((wkW_at w 21).trans rfl)
    · exact Or.inl rfl
theorem wkB_at (w : World) : BoxAt (wkW w) (w.heap.size + 16) (wkT w.heap.size) := by
  have e := wkW_at w 16
  refine ⟨by rw [wkW_size]; omega, ?_, ?_, ?_, ?_⟩ <;> (unfold World.cell?; rw [e]; rfl)
theorem build_elK (a b : Int) (w : World) : (Instr.build 25 #[(1, .int .i64 a), (2, .int .i64 b)]).run Try.prog w = .ok (.agg #[.int .i64 0, .int .i64 a, .int .i64 b]) w := by kernel_rfl
theorem build_tabL (p q : Option Addr) (k l m n : Nat) (w : World) : (Instr.build 35 #[(0, .slice p k l), (1, .slice q m n)]).run Try.prog w = .ok (.agg #[.slice p k l, .slice q m n, .int .i64 0, .bool false]) w := by kernel_rfl
/-- the bad table's objects. -/
def wkQ (h s : Nat) : Array Obj := #[.cells #[.slice (wkT h).lp (wkT h).ls.length (wkT h).lc, .slice (some ⟨s + 1 + 1 + 1, 0, none⟩) 1 1, .int .i64 (wkT h).top, .bool (wkT h).sh] 35, .cells #[.int .i32 97, .int .i32 98] 21, .cells #[.int .i64 1, .int .i64 1, .int .i64 1] 25,
  .cells #[.slice (some ⟨s + 1, 0, none⟩) 2 2, .slice (some ⟨s + 1 + 1, 0, none⟩) 1 1] 32]
def wkBs (h s : Nat) : TB := wkB h (s + 1) (s + 1 + 1) (s + 1 + 1 + 1)
theorem wkQ_at (w : World) (h k : Nat) : (grow w (wkQ h w.heap.size)).heap[w.heap.size + k]? = (wkQ h w.heap.size)[k]? := by
  unfold grow
  rw [Array.getElem?_append_right (by omega), Nat.add_sub_cancel_left]
theorem wkQ_size (w : World) (h : Nat) : (grow w (wkQ h w.heap.size)).heap.size = w.heap.size + 4 := by rw [size_grow]; rfl
theorem wkQ_box (w : World) (h : Nat) : BoxAt (grow w (wkQ h w.heap.size)) w.heap.size (wkBs h w.heap.size) := by
  have e := wkQ_at w h 0
  rw [Nat.add_zero] at e
  refine ⟨by rw [wkQ_size]; omega, ?_, ?_, ?_, ?_⟩ <;> (unfold World.cell?; rw [e]; rfl)
theorem wkQ_tab (w : World) (h : Nat) (hl : Lores w (some ⟨h, 0, none⟩) wkL) : TabIn (grow w (wkQ h w.heap.size)) (wkBs h w.heap.size) := by
  refine ⟨hl.below (grow_below w 0 _), wrs_lit _ _ 32 (0, 0) _ ((wkQ_at w h 3).trans rfl) fun x hx => ?_, by simp [wkBs, wkB, wkL], fun x hx => ?_, by simp [wkBs, wkB], fun x hx => ?_⟩
  · simp only [wkBs, wkB, List.mem_cons, List.not_mem_nil, or_false] at hx
    subst hx
    exact ⟨⟨row_heap _ _ _ 21 (0, 0) _ ((wkQ_at w h 1).trans rfl), Nat.le_refl 2, fun h => by cases h⟩, ⟨els_lit _ _ 25 (0, 0) _ ((wkQ_at w h 2).trans rfl), Nat.le_refl 1, fun h => by cases h⟩⟩
  · simp only [wkBs, wkB, wkL, List.mem_cons, List.not_mem_nil, or_false] at hx
    rcases hx with rfl | rfl | rfl <;> simp
  · simp only [wkBs, wkB, List.mem_cons, List.not_mem_nil, or_false] at hx
    subst hx
    exact ⟨by simp, by simp⟩
theorem wkBs_bad (h s : Nat) : mayWB (wkBs h s).ls (wkBs h s).rs (wkBs h s).top = false := wk_bad _ _ _ _
end Go.Proofs.Ytcocmmndonlhkaa
