/-
  A region that draws its order, whose operations only read, and whose callees may lay blocks of their own and leave what was there: walked once, in the class of worlds 'Below'.
-/
import Derived.Test.YtkidahlhnhglfaaRows2
namespace Go.Gz
open Go.RowKit

structure BelowOf (w : World) where
  w' : World
  h : Below w.heap.size w w'

instance {w : World} : Inhabited (BelowOf w) := ⟨⟨w, Below.refl _ _⟩⟩

theorem wp_region_quiet_below {P : Program} {id : Nat} {Q : Exit → Act → World → Prop} {a : Act} {w : World} {l : List Oper} (hm : P.follows .mixedOrders = true) (hB : Region.lexB .any l.toArray = true)
    (h : wpQuiet P l.toArray (fun w' => ∃ p : BelowOf w, w' = p.w') (fun a' => ∀ w', (∃ p : BelowOf w, w' = p.w') → Q .normal a' w') l a) : (Code.region id l.toArray true).wp P Q a w :=
  wp_region_quiet (C := fun w' => ∃ p : BelowOf w, w' = p.w') hm hB ⟨⟨_, (Below.refl _ _).drew⟩, rfl⟩ (by simpa using h)
theorem BelowOf.cell {w : World} (p : BelowOf w) {a : Addr} {v : Value} (hb : a.block < w.heap.size) (h : w.cell? a = some v) : p.w'.cell? a = some v := by rw [p.h.cell hb]; exact h
theorem Calls.below_of {P : Program} {f : FuncId} {args : Array Value} {w : World} {v : Value} (p : BelowOf w) (h : Calls P f args p.w' fun e w' => e = .returned v ∧ Below p.w'.heap.size p.w' w') : Calls P f args p.w' fun e w'' => e = .returned v ∧ ∃ q : BelowOf w, w'' = q.w' :=
  h.mono fun _ _ ⟨he, hb⟩ => ⟨he, ⟨_, p.h.trans (hb.mono p.h.size)⟩, rfl⟩
end Go.Gz
