/-
  What every law's last text of layer grove names of the program.
-/
import Derived.Test.YtaghflionakhhaaLaw2
namespace Go.Proofs.Ytaghflionakhhaa
open Go.RowKit Go.ChangeShapes Go.WideShapes
theorem own : ownKnob Try.prog.godebug = none := by kernel_rfl
theorem laidOut : laidOutB Try.prog = true := by kernel_rfl
theorem laid_none (P : Program) (w : World) : laidMet P [] w := ⟨[], rfl, List.nodup_nil, fun b off h => by cases h⟩
theorem nat_u8 {n : Int} (h : (Lit.int .u8 n).wf = true) : ∃ k : Nat, k < 256 ∧ n = k := by
  obtain ⟨h1, h2⟩ := wf_bounds h
  have e1 : IntKind.u8.min = 0 := by decide
  have e2 : IntKind.u8.max = 255 := by decide
  exact ⟨n.toNat, by omega, by omega⟩
theorem nat_u16 {n : Int} (h : (Lit.int .u16 n).wf = true) : ∃ k : Nat, k < 65536 ∧ n = k := by
  obtain ⟨h1, h2⟩ := wf_u16_of h
  exact ⟨n.toNat, by omega, by omega⟩
end Go.Proofs.Ytaghflionakhhaa
