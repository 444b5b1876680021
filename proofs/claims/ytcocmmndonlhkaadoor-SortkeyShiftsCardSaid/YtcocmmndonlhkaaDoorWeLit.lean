/-
  A table that is written out: its rows in memory.
-/
import Derived.Test.YtcocmmndonlhkaaDoorWeElem
namespace Go.Proofs.YtcocmmndonlhkaaDoor
open Go.RowKit Go.Gz Go.Sort

def flatW (rs : List WR) : List Value := rs.flatMap fun x => [.slice x.op x.of.length x.oc, .slice x.tp x.to.length x.tc]
theorem flatW_get : ∀ (ls : List WR) (j : Nat), j < ls.length → (flatW ls)[j * 2]? = some (.slice ls[j]!.op ls[j]!.of.length ls[j]!.oc) ∧ (flatW ls)[j * 2 + 1]? = some (.slice ls[j]!.tp ls[j]!.to.length ls[j]!.tc)
  | [], _, h => by simp at h
  | x :: t, 0, _ => ⟨rfl, rfl⟩
  | x :: t, j + 1, h => by
    have ih := flatW_get t j (by simpa using h)
    have e : flatW (x :: t) = [.slice x.op x.of.length x.oc, .slice x.tp x.to.length x.tc] ++ flatW t := by simp [flatW]
    have g : (x :: t)[j + 1]! = t[j]! := by simp
    rw [e, g, show (j + 1) * 2 = 2 + j * 2 by omega]
    refine ⟨?_, ?_⟩
    · rw [List.getElem?_append_right (by simp)]; simpa using ih.1
    · rw [List.getElem?_append_right (by simp; omega)]; rw [show 2 + j * 2 + 1 - [Value.slice x.op x.of.length x.oc, .slice x.tp x.to.length x.tc].length = j * 2 + 1 by simp; omega]; exact ih.2
theorem wrs_lit (w : World) (b : Nat) (t : TypeId) (fr : Nat × Nat) (rs : List WR) (h : w.heap[b]? = some (.cells (flatW rs).toArray t fr)) (hr : ∀ x ∈ rs, RowAt w x) : Wrs w (some ⟨b, 0, none⟩) rs := by
  refine Or.inr ⟨b, 0, rfl, (Array.getElem?_eq_some_iff.1 h).1, fun j hj => ?_⟩
  obtain ⟨h1, h2⟩ := flatW_get rs j hj
  simp only [World.cell?, h, Nat.zero_add, List.getElem?_toArray]
  exact ⟨h1, h2, hr _ (getW_mem hj)⟩
theorem row_heap (w : World) (k : IntKind) (b : Nat) (t : TypeId) (fr : Nat × Nat) (xs : List Int) (h : w.heap[b]? = some (.cells (xs.map (Value.int k)).toArray t fr)) : Row w k (some ⟨b, 0, none⟩) xs := by
  refine Or.inr ⟨b, 0, rfl, (Array.getElem?_eq_some_iff.1 h).1, fun j hj => ?_⟩
  simp only [World.cell?, h, Nat.zero_add]
  simp [List.getD, hj]

theorem build_row (p q : Option Addr) (n k m l : Nat) (w : World) : (Instr.build 29 #[(0, .slice p n k), (1, .slice q m l)]).run Tryd.prog w = .ok (.agg #[.slice p n k, .slice q m l]) w := by kernel_rfl
theorem build_tab1 (q : Option Addr) (m l : Nat) (w : World) : (Instr.build 33 #[(1, .slice q m l)]).run Tryd.prog w = .ok (.agg #[.slice none 0 0, .slice q m l, .int .i64 0, .bool false]) w := by kernel_rfl

end Go.Proofs.YtcocmmndonlhkaaDoor
