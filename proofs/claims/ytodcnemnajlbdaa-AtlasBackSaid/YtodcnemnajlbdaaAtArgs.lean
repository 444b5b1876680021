/-
  Arguments of layer atlas's laws, opened: an atlas.
-/
import Derived.Test.YtodcnemnajlbdaaArgRow
import Derived.Test.YtodcnemnajlbdaaAtRows
namespace Go.Proofs.Ytodcnemnajlbdaa
open Go.RowKit Go.ChangeShapes Go.WideShapes Go.Gz Go.Deep

theorem own : ownKnob Try.prog.godebug = none := by kernel_rfl
theorem laidOut : laidOutB Try.prog = true := by kernel_rfl
theorem laid_none (P : Program) (w : World) : laidMet P [] w := ⟨[], rfl, List.nodup_nil, fun b off h => by cases h⟩

theorem one_str {H : Type} {enc : TypeId × Value → H} {P : Program} {W : World} {t : TypeId} {fuel : Nat} {v : Value} {x : DataW H × List MemPlace} (ht : P.underlying t = some .string) (h : DataW.trod enc P W 0 (fun _ => true) true fuel t [v] = some x) : ∃ s : ByteArray, v = .string s ∧ s.size ≤ 9223372036854775807 := by
  cases fuel with
  | zero => simp [DataW.trod] at h
  | succ n =>
    unfold DataW.trod at h
    rw [ht] at h
    split at h <;> simp_all
    unfold maxLen at h
    exact h.1
set_option maxRecDepth 100000 in
theorem sd_of {H : Type} {enc : TypeId × Value → H} {W : World} {fuel : Nat} {cs : List Value} {x : DataW H × List MemPlace} (h : DataW.trod enc Try.prog W 0 (fun _ => true) true fuel 53 cs = some x) : ∃ s : Sd, cs = KS.cf s := by
  obtain ⟨ys, n, _, _, hlen, hyl, hf⟩ := DataW.trod_struct Try.underlying53 h
  have hC : Try.prog.cellsOf 53 = 4 := by kernel_rfl
  have hC2 : Try.prog.cellsOf 38 = 2 := by kernel_rfl
  have c1 : Try.prog.cellsOf 3 = 1 := by kernel_rfl
  have c2 : Try.prog.cellsOf 9 = 1 := by kernel_rfl
  rw [hC] at hlen
  match cs, hlen with
  | [v0, v1, v2, v3], _ =>
    match ys, hyl with
    | [y0, y1, y2], _ =>
      have h0 : DataW.trod enc Try.prog W 0 (fun _ => true) true n 38 [v0, v1] = some y0 := by simpa [c1, c2, hC2] using hf 0 _ rfl
      have h1 : DataW.trod enc Try.prog W 0 (fun _ => true) true n 3 [v2] = some y1 := by simpa [c1, c2, hC2] using hf 1 _ rfl
      have h2 : DataW.trod enc Try.prog W 0 (fun _ => true) true n 3 [v3] = some y2 := by simpa [c1, c2, hC2] using hf 2 _ rfl
      obtain ⟨a, ea, _, _⟩ := DataW.trod_int Try.underlying3 h1
      obtain ⟨b, eb, _, _⟩ := DataW.trod_int Try.underlying3 h2
      simp at ea eb
      subst ea eb
      obtain ⟨zs, n2, _, _, _, hzl, hg⟩ := DataW.trod_struct Try.underlying38 h0
      match zs, hzl with
      | [z0, z1], _ =>
        have g0 : DataW.trod enc Try.prog W 0 (fun _ => true) true n2 9 [v0] = some z0 := by simpa [c2] using hg 0 _ rfl
        have g1 : DataW.trod enc Try.prog W 0 (fun _ => true) true n2 9 [v1] = some z1 := by simpa [c2] using hg 1 _ rfl
        obtain ⟨s, rfl, _⟩ := one_str Try.underlying9 g0
        obtain ⟨t, rfl, _⟩ := one_str Try.underlying9 g1
        exact ⟨⟨⟨s, t⟩, a, b⟩, rfl⟩
set_option maxRecDepth 100000 in
/-- an argument that is an atlas. -/
theorem arg_atlas {H : Type} {enc : TypeId × Value → H} {W : World} {b0 : Nat} {v : Value} {d : DataW H} {ps : List MemPlace} (hval : Value.okWide Try.prog W .any b0 47 v) (hd : DataW.Trod enc Try.prog W 0 (fun _ => true) true 47 v d ps) :
    ∃ ep p L c, v = .agg #[.int .i64 ep, .slice p L.length c] ∧ RowK KS W p L ∧ L.length ≤ 9223372036854775807 ∧ (p = none → c = 0) ∧ (Lit.int .i64 ep).wf = true := by
  obtain ⟨cs, rfl, hsz⟩ := okWide_struct Try.underlying47 hval
  obtain ⟨fuel, h⟩ := hd
  obtain ⟨ys, n, _, _, hlen, hyl, hf⟩ := DataW.trod_struct Try.underlying47 h
  have hC : Try.prog.cellsOf 47 = 2 := by kernel_rfl
  have c1 : Try.prog.cellsOf 3 = 1 := by kernel_rfl
  have c2 : Try.prog.cellsOf 45 = 1 := by kernel_rfl
  rw [hC] at hlen
  obtain ⟨cl⟩ := cs
  have hcl : (Value.agg ⟨cl⟩).cells.toList = cl := rfl
  rw [hcl] at hlen hf
  match cl, hlen with
  | [v0, v1], _ =>
    match ys, hyl with
    | [y0, y1], _ =>
      have h0 : DataW.trod enc Try.prog W 0 (fun _ => true) true n 3 [v0] = some y0 := by simpa [c1] using hf 0 _ rfl
      have h1 : DataW.trod enc Try.prog W 0 (fun _ => true) true n 45 [v1] = some y1 := by simpa [c1, c2] using hf 1 _ rfl
      obtain ⟨a, ea, _, wa⟩ := DataW.trod_int Try.underlying3 h0
      simp at ea
      subst ea
      obtain ⟨p, L, c, hv, hr, hl, hp⟩ := rowk_of KS Try.underlying45 (by kernel_rfl) (fun _ _ _ h => sd_of h) h1
      injection hv with hv _
      subst hv
      exact ⟨a, p, L, c, rfl, hr, hl, hp, wa⟩
end Go.Proofs.Ytodcnemnajlbdaa
