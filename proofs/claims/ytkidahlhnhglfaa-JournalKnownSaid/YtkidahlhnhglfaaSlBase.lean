/-
  Layer seal: rows of bytes; 'string(b)' of a row.
-/
import Derived.Test.YtkidahlhnhglfaaRows2
import Derived.Test.YtkidahlhnhglfaaSlMath
import Derived.WalkLawsBesides
import Derived.WalkSpells
import Derived.Lib.MinMaxS
namespace Go.Proofs.Ytkidahlhnhglfaa
open Go.RowKit

theorem ret_int {k : IntKind} {a b : Int} (h : a = b) : Ending.returned (.int k a) = .returned (.int k b) := by rw [h]

/-- 'string(b)' of a row of bytes. -/
theorem run_string (w : World) (l : List UInt8) (p : Option Addr) (c : Nat) (hp : Row w .u8 p (nums l)) :
    (convert 25 9 (.slice p l.length c)).run Try.prog w = .ok (.string ⟨l.toArray⟩) w := by
  rcases hp with h | ⟨b, off, rfl, hlt, hc⟩
  · have : l = [] := by simpa [nums] using h
    subst this
    show (convert 25 9 (.slice p 0 c)).run Try.prog w = _
    rw [run_convert_bytes_string w 25 9 5 p 0 c Try.underlying25 Try.underlying5 Try.underlying9]
    cases p <;> simp [Conv.bytesToString, loadCells]
    all_goals rfl
  · exact run_convert_bytes_back w 25 9 5 ⟨b, off, none⟩ c l Try.underlying25 Try.underlying5 Try.underlying9 (fun j hj => by
      rw [Addr.add_lit, hc j (by simpa using hj), nums_getD _ _ hj]
      simp [List.getD, hj])

/-- the cell of a row of bytes. -/
theorem byte_cell {W wr : World} {p : Option Addr} {l : List UInt8} (h : Row W .u8 p (nums l)) (hb : Below W.heap.size W wr) {j : Nat} (hj : j < l.length) : ∃ b o, p = some ⟨b, o, none⟩ ∧ b < W.heap.size ∧ wr.cell? ⟨b, o + j, none⟩ = some (.int .u8 ((l.getD j 0).toNat : Int)) := by
  obtain ⟨b, o, hp, hlt, hc⟩ := row_cell h hb (j := j) (by simpa using hj)
  exact ⟨b, o, hp, hlt, by rw [hc, nums_getD _ _ hj]⟩
theorem own_row {w : World} {B : Nat} {e : TypeId} {k : IntKind} {v : Value} {xs : List Int} (h : Own w B e k v xs) : ∃ p c, v = .slice p xs.length c ∧ xs.length ≤ c ∧ (p = none → c = 0) ∧ Row w k p xs := by
  obtain ⟨q, d, rfl, h1, h2⟩ := Own.row h
  refine ⟨q, d, rfl, h1, fun hq => ?_, h2⟩
  subst hq
  obtain ⟨_, ⟨h3, _⟩ | ⟨g, cap, cur, h3, _⟩⟩ := h
  · injection h3
  · injection h3 with h3; cases h3
theorem below_own {w w' : World} {B : Nat} {e : TypeId} {k : IntKind} {v : Value} {xs : List Int} (h : Own w B e k v xs) (hb : Below w.heap.size w w') : Own w' B e k v xs := by
  obtain ⟨h1, h2⟩ := h
  refine ⟨h1, ?_⟩
  rcases h2 with h2 | ⟨g, cap, cur, e, hg, hh, hc, hm, hs, ht⟩
  · exact Or.inl h2
  · exact Or.inr ⟨g, cap, cur, e, hg, by rw [hb.block g (Array.getElem?_eq_some_iff.1 hh).1]; exact hh, hc, hm, hs, ht⟩
end Go.Proofs.Ytkidahlhnhglfaa
