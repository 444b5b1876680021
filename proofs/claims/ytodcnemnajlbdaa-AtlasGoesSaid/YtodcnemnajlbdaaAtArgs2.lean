/-
  Arguments of layer atlas's laws, opened: a list of threes of bytes.
-/
import Derived.Test.YtodcnemnajlbdaaAtArgs
import Derived.Test.YtodcnemnajlbdaaAtGoes
namespace Go.Proofs.Ytodcnemnajlbdaa
open Go.RowKit Go.ChangeShapes Go.WideShapes Go.Gz Go.Deep

theorem one_b8' {H : Type} {enc : TypeId × Value → H} {P : Program} {W : World} {t : TypeId} {fuel : Nat} {v : Value} {x : DataW H × List MemPlace} (ht : P.underlying t = some (.int .u8)) (h : DataW.trod enc P W 0 (fun _ => true) true fuel t [v] = some x) : ∃ i : Int, v = .int .u8 i ∧ 0 ≤ i ∧ i ≤ 255 := by
  cases fuel with
  | zero => simp [DataW.trod] at h
  | succ n =>
    unfold DataW.trod at h
    rw [ht] at h
    split at h <;> simp_all
    rename_i he
    subst he
    obtain ⟨h1, h2⟩ := wf_bounds h.1.2
    have e1 : IntKind.u8.min = 0 := by decide
    have e2 : IntKind.u8.max = 255 := by decide
    omega
theorem one_b8 {H : Type} {enc : TypeId × Value → H} {P : Program} {W : World} {t : TypeId} {fuel : Nat} {v : Value} {x : DataW H × List MemPlace} (ht : P.underlying t = some (.int .u8)) (h : DataW.trod enc P W 0 (fun _ => true) true fuel t [v] = some x) : ∃ i : Fin 256, v = .int .u8 (i.val : Int) := by
  obtain ⟨i, rfl, h1, h2⟩ := one_b8' ht h
  refine ⟨⟨i.toNat, by omega⟩, ?_⟩
  show Value.int .u8 i = .int .u8 (i.toNat : Int)
  rw [Int.toNat_of_nonneg h1]
set_option maxRecDepth 100000 in
theorem t8_of {H : Type} {enc : TypeId × Value → H} {W : World} {fuel : Nat} {cs : List Value} {x : DataW H × List MemPlace} (h : DataW.trod enc Try.prog W 0 (fun _ => true) true fuel 28 cs = some x) : ∃ t : T8, cs = K8.cf t := by
  obtain ⟨xs, m, _, _, hlen, hxl, hf⟩ := DataW.trod_array Try.underlying28 h
  have hC : Try.prog.cellsOf 28 = 3 := by kernel_rfl
  have c1 : Try.prog.cellsOf 5 = 1 := by kernel_rfl
  rw [hC] at hlen
  match cs, hlen with
  | [v0, v1, v2], _ =>
    match xs, hxl with
    | [y0, y1, y2], _ =>
      have h0 : DataW.trod enc Try.prog W 0 (fun _ => true) true m 5 [v0] = some y0 := by simpa [c1] using hf 0 (by omega)
      have h1 : DataW.trod enc Try.prog W 0 (fun _ => true) true m 5 [v1] = some y1 := by simpa [c1] using hf 1 (by omega)
      have h2 : DataW.trod enc Try.prog W 0 (fun _ => true) true m 5 [v2] = some y2 := by simpa [c1] using hf 2 (by omega)
      obtain ⟨a, rfl⟩ := one_b8 Try.underlying5 h0
      obtain ⟨b, rfl⟩ := one_b8 Try.underlying5 h1
      obtain ⟨c, rfl⟩ := one_b8 Try.underlying5 h2
      exact ⟨⟨a, b, c⟩, rfl⟩
set_option maxRecDepth 100000 in
/-- an argument that is a list of threes of bytes. -/
theorem arg_t8 {H : Type} {enc : TypeId × Value → H} {W : World} {b0 : Nat} {v : Value} {d : DataW H} {ps : List MemPlace} (hval : Value.okWide Try.prog W .any b0 22 v) (hd : DataW.Trod enc Try.prog W 0 (fun _ => true) true 22 v d ps) :
    ∃ p L c, v = .slice p L.length c ∧ RowK K8 W p L := by
  obtain ⟨a0, len, cap, rfl⟩ := okWide_slice Try.underlying22 hval
  obtain ⟨fuel, h⟩ := hd
  have h' : DataW.trod enc Try.prog W 0 (fun _ => true) true fuel 22 [.slice a0 len cap] = some (d, ps) := h
  obtain ⟨p, L, c, hv, hr, -, -⟩ := rowk_of K8 Try.underlying22 (by kernel_rfl) (fun _ _ _ h => t8_of h) h'
  injection hv with hv _
  exact ⟨p, L, c, hv, hr⟩
end Go.Proofs.Ytodcnemnajlbdaa
