/-
  What every law's last text of layer grove names of the program.
-/
import Derived.Test.YtaghflionakhhaaLaw2
namespace Go.Proofs.Ytaghflionakhhaa
open Go.RowKit Go.ChangeShapes Go.WideShapes
theorem own : ownKnob Try.prog.godebug = none := by kernel_rfl
theorem laidOut : laidOutB Try.prog = true := by kernel_rfl
theorem laid_none (P : Program) (w : World) : laidMet P [] w := ⟨[], rfl, List.nodup_nil, fun b off h => by cases h⟩
end Go.Proofs.Ytaghflionakhhaa
