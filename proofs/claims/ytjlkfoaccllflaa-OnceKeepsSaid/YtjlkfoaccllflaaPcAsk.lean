/-
  Layer parcel: an ask packed.
-/
import Derived.Test.YtjlkfoaccllflaaPcTexts
namespace Go.Proofs.Ytjlkfoaccllflaa
open Go.RowKit

/-- an ask. -/
structure AskL where
  d : Int
  c : Int
  s : Int
  t : List UInt8
  v : List UInt8
  f : List UInt8
  u : List UInt8
  m : Int
def askCells (a : AskL) : Array Value := #[.int .i64 a.d, .int .i64 a.c, .int .i64 a.s, .string (strB a.t), .string (strB a.v), .string (strB a.f), .string (strB a.u), .int .i64 a.m]
def askV (a : AskL) : Value := .agg #[.int .i64 a.d, .int .i64 a.c, .int .i64 a.s, .string (strB a.t), .string (strB a.v), .string (strB a.f), .string (strB a.u), .int .i64 a.m]
def askS (a : AskL) : Option (List UInt8) := textsS 32768 (numsS 32768 (some []) [a.d, a.c, a.s, a.m]) [a.t, a.v, a.f, a.u]

/-- the cells of a block, in what grew out of its world. -/
theorem box_cells {w wr : World} {c : Array Value} {t : TypeId} (hb : Below (w.heap.size + 1) (w.alloc (.cells c t)) wr) (i : Nat) : wr.cell? ⟨w.heap.size, i, none⟩ = c[i]? := by
  rw [hb.cell (p := ⟨w.heap.size, i, none⟩) (by show w.heap.size < w.heap.size + 1; omega)]
  have : (w.alloc (.cells c t)).heap[w.heap.size]? = some (.cells c t (0, 0)) := by
    show (w.heap.push _)[w.heap.size]? = _
    simp
  exact cell_at this i

theorem RetPk.of {B B' : Nat} {st : Option (List UInt8)} {w w0 : World} {e : Ending} {w' : World} (h : RetPk B st w e w') (hB : B' ≤ B) (hb : Below B' w0 w) : RetPk B' st w0 e w' := by
  obtain ⟨v, h1, h2, h3⟩ := h
  refine ⟨v, h1, ?_, hb.trans (h3.mono hB)⟩
  obtain ⟨h4, h5 | ⟨g, cap, cur, e, hg, r⟩⟩ := h2
  · exact ⟨h4, Or.inl h5⟩
  · exact ⟨h4, Or.inr ⟨g, cap, cur, e, by omega, r⟩⟩

end Go.Proofs.Ytjlkfoaccllflaa
