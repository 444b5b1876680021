/-
  Layer note: a note's value whole, loaded and stored at once.
-/
import Derived.Test.YtbhojddakmgdmaaNtBare
import Derived.Test.YtbhojddakmgdmaaMg22
import Derived.Deep.WholeRow
import Derived.Deep.MidRow
namespace Go.Proofs.Ytbhojddakmgdmaa
open Go.RowKit Go.Gz

theorem info_note : (Try.prog.info? 44).map (·.size) = some 27 := by kernel_rfl
theorem nt_one (n : NtL) (P : NtP) : (ntList n P).toArray.all (·.oneCell') = true := by
  simp [ntList, Value.oneCell']
/-- what is left of a note beside what its kind has; none: it is of no kind, or its atlas may not be. -/
noncomputable def fitsB (n : NtL) : Bool :=
  if n.kd = 1 then bareB { n with ask := askZ }
  else if n.kd = 2 then bareB { n with rep := repZ }
  else if n.kd = 3 then bareB n
  else if n.kd = 5 then bareB { n with tk := 0 }
  else if n.kd = 6 then mayAB 5 n.ae n.sh && bareB { n with tk := 0, ae := 0, sh := [] }
  else if n.kd = 4 then mayAB 5 n.ae n.sh && bareB { n with ae := 0, sh := [] }
  else if n.kd = 8 ∨ n.kd = 9 then bareB { n with ls := [], la := [], sf := [], st := [], ep := 0 }
  else if n.kd = 7 ∨ n.kd = 10 ∨ n.kd = 11 ∨ n.kd = 12 then bareB { n with sf := [], st := [], ep := 0 }
  else false
/-- the cells of a note of nothing. -/
abbrev noteZ : Array Value := #[.int .i64 0, .int .i64 0, .int .i64 0, .int .i64 0, .int .i64 0, .int .i64 0, .int .i64 0, .int .i64 0, .string ⟨#[]⟩, .string ⟨#[]⟩, .string ⟨#[]⟩, .string ⟨#[]⟩, .int .i64 0, .int .i64 0, .int .i64 0, .int .i64 0, .bool false, .string ⟨#[]⟩, .slice none 0 0, .string ⟨#[]⟩, .bool false, .string ⟨#[]⟩, .string ⟨#[]⟩, .slice none 0 0, .slice none 0 0, .int .i64 0, .slice none 0 0]
/-- a row loaded behind a guard that holds. -/
theorem wpList_load_rowW {P : Program} {ops : Array Oper} {rest : List Oper} {o : Oper} {a : Act} {w : World} {Q : Exit → Act → World → Prop} (hw : Region.wanted o (yielded ops a.tmps) = true) (ty : TypeId) (x : Operand) (ho : o.op = .load ty x)
    (g : Nat) (hx : a.eval x = .pointer (some ⟨g, 0, none⟩)) (t : TypeId) (cs : Array Value) (fr : Nat × Nat) (d : TypeDesc) (hg : w.heap[g]? = some (.cells cs t fr))
    (hu : P.underlying ty = some d) (hd : (match d with | .struct _ | .array _ _ => true | _ => false) = true) (hi : (P.info? ty).map (·.size) = some cs.size)
    (h : wpList P ops Q rest (a.put o.dst (.agg cs)) w) : wpList P ops Q (o :: rest) a w :=
  wpList_open hw (wpList_load_row (o := { o with guard := none }) rfl ty x ho g hx t cs fr d hg hu hd hi h)
/-- a note stored into a new block. -/
theorem note_store (W0 : World) (c : Array Value) (g : Nat) (hg : W0.heap.size = g) (hc : c.size = 27) : (W0.alloc (.cells noteZ 44)).heap[g]? = some (.cells noteZ 44 (0, 0)) ∧ noteZ.size = c.size ∧ (W0.alloc (.cells noteZ 44)).setRow g c = W0.alloc (.cells c 44) := by
  subst hg
  exact ⟨new_block _ _ _, by rw [hc]; rfl, World.setRow_alloc_new _ _ _ _⟩
end Go.Proofs.Ytbhojddakmgdmaa
