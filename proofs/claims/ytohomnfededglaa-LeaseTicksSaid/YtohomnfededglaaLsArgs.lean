/-
  Arguments of layer lease's laws, opened: a lease, a pair of numbers.
-/
import Derived.Test.YtohomnfededglaaLaw2
import Derived.Test.YtohomnfededglaaLsMath
namespace Go.Proofs.Ytohomnfededglaa
open Go.RowKit Go.ChangeShapes Go.WideShapes Go.Gz Go.Deep

theorem own : ownKnob Try.prog.godebug = none := by kernel_rfl
theorem laidOut : laidOutB Try.prog = true := by kernel_rfl
theorem laid_none (P : Program) (w : World) : laidMet P [] w := ⟨[], rfl, List.nodup_nil, fun b off h => by cases h⟩

set_option maxRecDepth 100000 in
/-- an argument that is a lease. -/
theorem arg_lease {H : Type} {enc : TypeId × Value → H} {W : World} {b0 : Nat} {v : Value} {d : DataW H} {ps : List MemPlace} (hval : Value.okWide Try.prog W .any b0 23 v) (hd : DataW.Trod enc Try.prog W 0 (fun _ => true) true 23 v d ps) :
    ∃ l : Lz, v = l.val := by
  obtain ⟨cs, rfl, hsz⟩ := okWide_struct Try.underlying23 hval
  obtain ⟨fuel, h⟩ := hd
  obtain ⟨ys, n, _, _, hlen, hyl, hf⟩ := DataW.trod_struct Try.underlying23 h
  have hC : Try.prog.cellsOf 23 = 3 := by kernel_rfl
  rw [hC] at hlen
  have c1 : Try.prog.cellsOf 3 = 1 := by kernel_rfl
  obtain ⟨cl⟩ := cs
  have hcl : (Value.agg ⟨cl⟩).cells.toList = cl := rfl
  rw [hcl] at hlen hf
  match cl, hlen with
  | [v0, v1, v2], _ =>
    match ys, hyl with
    | [y0, y1, y2], _ =>
      have h0 : DataW.trod enc Try.prog W 0 (fun _ => true) true n 3 [v0] = some y0 := by simpa [c1] using hf 0 _ rfl
      have h1 : DataW.trod enc Try.prog W 0 (fun _ => true) true n 3 [v1] = some y1 := by simpa [c1] using hf 1 _ rfl
      have h2 : DataW.trod enc Try.prog W 0 (fun _ => true) true n 3 [v2] = some y2 := by simpa [c1] using hf 2 _ rfl
      obtain ⟨a, ea, _, _⟩ := DataW.trod_int Try.underlying3 h0
      obtain ⟨b, eb, _, _⟩ := DataW.trod_int Try.underlying3 h1
      obtain ⟨c, ec, _, _⟩ := DataW.trod_int Try.underlying3 h2
      simp at ea eb ec
      subst ea eb ec
      exact ⟨⟨a, b, c⟩, rfl⟩
/-- an argument that is an array of two numbers. -/
theorem arg_pair {H : Type} {enc : TypeId × Value → H} {P : Program} {W : World} {b0 : Nat} {t e : TypeId} {k : IntKind} {v : Value} {d : DataW H} {ps : List MemPlace} (ht : P.underlying t = some (.array 2 e)) (he : P.underlying e = some (.int k)) (hC : P.cellsOf t = 2) (c1 : P.cellsOf e = 1)
    (hval : Value.okWide P W .any b0 t v) (hd : DataW.Trod enc P W 0 (fun _ => true) true t v d ps) :
    ∃ a b : Int, v = .agg #[.int k a, .int k b] ∧ (Lit.int k a).wf = true ∧ (Lit.int k b).wf = true := by
  simp only [Value.okWide, ht] at hval
  obtain ⟨cs, rfl, h2, _⟩ := hval
  rw [hC] at h2
  obtain ⟨l⟩ := cs
  match l, h2 with
  | [v0, v1], _ =>
    obtain ⟨fuel, hf⟩ := hd
    obtain ⟨xs, m, _, _, _, hxl, hf2⟩ := DataW.trod_array ht hf
    have hcl : (Value.agg ⟨[v0, v1]⟩).cells.toList = [v0, v1] := rfl
    rw [hcl, c1] at hf2
    match xs, hxl with
    | [y0, y1], _ =>
      have g0 : DataW.trod enc P W 0 (fun _ => true) true m e [v0] = some y0 := by simpa using hf2 0 (by omega)
      have g1 : DataW.trod enc P W 0 (fun _ => true) true m e [v1] = some y1 := by simpa using hf2 1 (by omega)
      obtain ⟨a, ea, _, wa⟩ := DataW.trod_int he g0
      obtain ⟨b, eb, _, wb⟩ := DataW.trod_int he g1
      simp at ea eb
      subst ea eb
      exact ⟨a, b, rfl, wa, wb⟩
end Go.Proofs.Ytohomnfededglaa
