/-
  Layer seal: an argument that is a slice of bytes.
-/
import Derived.Test.YtbhojddakmgdmaaMg01
namespace Go.Proofs.Ytbhojddakmgdmaa
open Go.RowKit Go.ChangeShapes Go.WideShapes
theorem byte_of {n : Int} (h : (Lit.int .u8 n).wf = true) : ∃ x : UInt8, n = (x.toNat : Int) := by
  obtain ⟨h1, h2⟩ := wf_bounds h
  have e1 : IntKind.u8.min = 0 := by decide
  have e2 : IntKind.u8.max = 255 := by decide
  refine ⟨UInt8.ofNat n.toNat, ?_⟩
  have : (UInt8.ofNat n.toNat).toNat = n.toNat := by simp; omega
  rw [this, Int.toNat_of_nonneg (by omega)]
/-- the bytes of a slice, as it is read. -/
theorem bytes_of {H : Type} {enc : TypeId × Value → H} {P : Program} {W : World} {t e : TypeId} {fuel : Nat} {cs : List Value} {x : DataW H × List MemPlace} (ht : P.underlying t = some (.slice e)) (he : P.underlying e = some (.int .u8)) (hc : P.cellsOf e = 1)
    (h : DataW.trod enc P W 0 (fun _ => true) true fuel t cs = some x) : ∃ p l c, cs = [.slice p l.length c] ∧ Row W .u8 p (nums l) ∧ l.length ≤ c ∧ (p = none → c = 0) ∧ l.length ≤ 9223372036854775807 := by
  rcases open_ints ht he hc h with ⟨h0, _⟩ | ⟨a, len, cap, zs, h0, _, hl, hm, hz, _, hcell, hw⟩
  · exact ⟨none, [], 0, h0, Or.inl rfl, Nat.le_refl _, fun _ => rfl, by simp⟩
  · simp only [if_true] at hz
    unfold maxLen at hm
    have hlen : (zs.take len).length = len := by rw [List.length_take]; omega
    obtain ⟨l, hl2⟩ := nums_of (zs.take len) (fun n hn => by
      obtain ⟨h1, h2⟩ := wf_bounds (hw n (List.mem_of_mem_take hn))
      have e1 : IntKind.u8.min = 0 := by decide
      have e2 : IntKind.u8.max = 255 := by decide
      omega)
    have hll : l.length = len := by rw [← nums_length, ← hl2]; exact hlen
    refine ⟨some a, l, cap, by rw [hll]; exact h0, ?_, by rw [hll]; exact hl, (fun h => by cases h), by rw [hll]; omega⟩
    rw [← hl2]
    by_cases h00 : len = 0
    · exact Or.inl (by subst h00; rfl)
    · have hc0 := hcell 0 (by omega)
      obtain ⟨b, off, spot⟩ := a
      have hsp : spot = none := Go.Proofs.cell_spot (o := off + 0) hc0
      subst hsp
      refine Or.inr ⟨b, off, rfl, World.block_lt_of_cell? W _ hc0, fun j hj => ?_⟩
      rw [hlen] at hj
      have := hcell j (by omega)
      rw [Addr.add_lit] at this
      rw [this]
      simp [List.getD, hj]
/-- an argument of bytes. -/
theorem arg_bytes {H : Type} {enc : TypeId × Value → H} {P : Program} {W : World} {b0 : Nat} {t e : TypeId} {v : Value} {d : DataW H} {ps : List MemPlace} (ht : P.underlying t = some (.slice e)) (he : P.underlying e = some (.int .u8)) (hc : P.cellsOf e = 1)
    (hval : Value.okWide P W .any b0 t v) (hd : DataW.Trod enc P W 0 (fun _ => true) true t v d ps) :
    ∃ p l c, v = .slice p l.length c ∧ Row W .u8 p (nums l) ∧ l.length ≤ c ∧ (p = none → c = 0) ∧ l.length ≤ 9223372036854775807 := by
  obtain ⟨a0, len, cap, rfl⟩ := okWide_slice ht hval
  obtain ⟨fuel, hf⟩ := hd
  obtain ⟨p, l, c, h, r⟩ := bytes_of ht he hc hf
  simp [Value.cells] at h
  obtain ⟨rfl, rfl, rfl⟩ := h
  exact ⟨_, l, _, rfl, r⟩
end Go.Proofs.Ytbhojddakmgdmaa
