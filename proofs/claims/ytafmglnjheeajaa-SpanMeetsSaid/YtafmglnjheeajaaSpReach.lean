/-
  Arguments of layer span's laws with the form's own reach.
-/
import Derived.Test.YtafmglnjheeajaaSpArgs
import Derived.SizedLaws
namespace Go.Proofs.Ytafmglnjheeajaa
open Go.RowKit Go.ChangeShapes Go.WideShapes Go.Gz Go.Deep

set_option maxRecDepth 100000 in
/-- an argument that is a span, and its datum. -/
theorem arg_span_datum {H : Type} {enc : TypeId × Value → H} {W : World} {b0 : Nat} {v : Value} {d : DataW H} {ps : List MemPlace} (hval : Value.okWide Try.prog W .any b0 23 v) (hd : DataW.Trod enc Try.prog W 0 (fun _ => true) true 23 v d ps) :
    ∃ s : SP, v = .agg #[.string s.f, .string s.t] ∧ d = .agg [.lit (.string s.f.data.toList), .lit (.string s.t.data.toList)] := by
  obtain ⟨cs, rfl, hsz⟩ := okWide_struct Try.underlying23 hval
  obtain ⟨fuel, hf0⟩ := hd
  obtain ⟨ys, n, _, hx, hlen, hyl, hf⟩ := DataW.trod_struct Try.underlying23 hf0
  have hC : Try.prog.cellsOf 23 = 2 := by kernel_rfl
  rw [hC] at hlen
  have c1 : Try.prog.cellsOf 9 = 1 := by kernel_rfl
  obtain ⟨cl⟩ := cs
  have hcl : (Value.agg ⟨cl⟩).cells.toList = cl := rfl
  rw [hcl] at hf hlen
  match cl, hlen with
  | [v0, v1], _ =>
    match ys, hyl with
    | [y0, y1], _ =>
      have h0 : DataW.trod enc Try.prog W 0 (fun _ => true) true n 9 [v0] = some y0 := by simpa [c1] using hf 0 _ rfl
      have h1 : DataW.trod enc Try.prog W 0 (fun _ => true) true n 9 [v1] = some y1 := by simpa [c1] using hf 1 _ rfl
      obtain ⟨a, ha, rfl, _⟩ := DataW.trod_string Try.underlying9 h0
      obtain ⟨b, hb, rfl, _⟩ := DataW.trod_string Try.underlying9 h1
      injection ha with ha _
      injection hb with hb _
      subst ha
      subst hb
      injection hx with hx _
      exact ⟨⟨a, b⟩, rfl, hx⟩
end Go.Proofs.Ytafmglnjheeajaa
