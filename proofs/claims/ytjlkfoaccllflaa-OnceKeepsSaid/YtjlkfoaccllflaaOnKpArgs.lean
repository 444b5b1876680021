/-
  Layer once: an argument that is a list of pairs of bytes.
-/
import Derived.Test.YtjlkfoaccllflaaPcArgs
import Derived.Test.YtjlkfoaccllflaaOnKp
namespace Go.Proofs.Ytjlkfoaccllflaa
open Go.RowKit Go.ChangeShapes Go.WideShapes Go.Gz Go.Deep

theorem one_u8 {H : Type} {enc : TypeId × Value → H} {P : Program} {W : World} {t : TypeId} {fuel : Nat} {v : Value} {x : DataW H × List MemPlace} (ht : P.underlying t = some (.int .u8)) (h : DataW.trod enc P W 0 (fun _ => true) true fuel t [v] = some x) : ∃ b : UInt8, v = .int .u8 b.toNat := by
  obtain ⟨n, rfl, hw⟩ : ∃ n : Int, v = .int .u8 n ∧ (Lit.int .u8 n).wf = true := by
    cases fuel with
    | zero => simp [DataW.trod] at h
    | succ n =>
      unfold DataW.trod at h
      rw [ht] at h
      split at h <;> simp_all
  obtain ⟨h1, h2⟩ := wf_bounds hw
  have e1 : IntKind.u8.min = 0 := by decide
  have e2 : IntKind.u8.max = 255 := by decide
  refine ⟨UInt8.ofNat n.toNat, ?_⟩
  rw [UInt8.toNat_ofNat']
  congr 1
  omega
theorem pair_of {H : Type} {enc : TypeId × Value → H} {W : World} {fuel : Nat} {cs : List Value} {x : DataW H × List MemPlace} (h : DataW.trod enc Try.prog W 0 (fun _ => true) true fuel 46 cs = some x) :
    ∃ b : UInt8 × UInt8, cs = [.int .u8 b.1.toNat, .int .u8 b.2.toNat] := by
  obtain ⟨xs, m, _, _, hlen, hxl, hf⟩ := DataW.trod_array Try.underlying46 h
  have hC : Try.prog.cellsOf 46 = 2 := by kernel_rfl
  have c1 : Try.prog.cellsOf 5 = 1 := by kernel_rfl
  rw [hC] at hlen
  rw [c1] at hf
  match cs, hlen with
  | [u0, u1], _ =>
    match xs, hxl with
    | [y0, y1], _ =>
      have h0 : DataW.trod enc Try.prog W 0 (fun _ => true) true m 5 [u0] = some y0 := by simpa using hf 0 (by omega)
      have h1 : DataW.trod enc Try.prog W 0 (fun _ => true) true m 5 [u1] = some y1 := by simpa using hf 1 (by omega)
      obtain ⟨a, rfl⟩ := one_u8 Try.underlying5 h0
      obtain ⟨b, rfl⟩ := one_u8 Try.underlying5 h1
      exact ⟨(a, b), rfl⟩

set_option maxRecDepth 100000 in
theorem arg_u8pairs {H : Type} {enc : TypeId × Value → H} {W : World} {b0 : Nat} {v : Value} {d : DataW H} {ps : List MemPlace} (hval : Value.okWide Try.prog W .any b0 42 v) (hd : DataW.Trod enc Try.prog W 0 (fun _ => true) true 42 v d ps) :
    ∃ p ls c, v = .slice p ls.length c ∧ RowQ W p ls ∧ ls.length ≤ 9223372036854775807 := by
  obtain ⟨a0, len, cap, rfl⟩ := okWide_slice Try.underlying42 hval
  obtain ⟨fuel, hf⟩ := hd
  rcases open_slice Try.underlying42 hf with ⟨h, _⟩ | ⟨a, len', cap', m, n, D, Pl, h, _, hl, hm, hmm, _, hi⟩
  · simp [Value.cells] at h
    obtain ⟨rfl, rfl, rfl⟩ := h
    exact ⟨none, [], 0, rfl, Or.inl rfl, by simp⟩
  · simp [Value.cells] at h
    obtain ⟨rfl, rfl, rfl⟩ := h
    simp only [if_true] at hmm
    subst hmm
    unfold maxLen at hm
    have hC : Try.prog.cellsOf 46 = 2 := by kernel_rfl
    have each : ∀ i, i < len → ∃ t : UInt8 × UInt8, ∀ z, z < 2 → W.cell? ((a.add (i * 2)).add z) = [Value.int .u8 t.1.toNat, .int .u8 t.2.toNat][z]? := fun i hin => by
      obtain ⟨cs', hcs, ht⟩ := hi i (by omega)
      rw [hC] at hcs
      obtain ⟨r, rfl⟩ := pair_of ht
      obtain ⟨_, _, hat⟩ := World.cells?_some hcs
      exact ⟨r, hat⟩
    have pick : ∃ f : Nat → UInt8 × UInt8, ∀ i, i < len → ∀ z, z < 2 → W.cell? ((a.add (i * 2)).add z) = [Value.int .u8 (f i).1.toNat, .int .u8 (f i).2.toNat][z]? :=
      ⟨fun i => if h : i < len then Classical.choose (each i h) else (0, 0), fun i h => by simp only [dif_pos h]; exact Classical.choose_spec (each i h)⟩
    obtain ⟨f, hf2⟩ := pick
    have hget : ∀ j, j < len → ((List.range len).map f).getD j (0, 0) = f j := fun j hj => by simp [List.getD, hj]
    refine ⟨some a, (List.range len).map f, m, by simp, ?_, by simp; omega⟩
    by_cases h0 : len = 0
    · exact Or.inl (by subst h0; rfl)
    · have hc0 := hf2 0 (by omega) 0 (by omega)
      obtain ⟨b, off, spot⟩ := a
      have hc0' : W.cell? ⟨b, off + 0 * 2 + 0, spot⟩ = some (.int .u8 (f 0).1.toNat) := by
        have e : ((⟨b, off, spot⟩ : Addr).add (0 * 2)).add 0 = ⟨b, off, spot⟩ := by simp [Addr.add]
        rw [e] at hc0
        simpa using hc0
      have hsp : spot = none := Go.Proofs.cell_spot hc0'
      subst hsp
      refine Or.inr ⟨b, off, rfl, World.block_lt_of_cell? W _ hc0', fun j hj => ?_⟩
      have hj' : j < len := by simpa using hj
      have hz := hf2 j hj'
      rw [hget j hj']
      have z0 := hz 0 (by omega)
      have z1 := hz 1 (by omega)
      simp only [Addr.add_lit] at z0 z1
      exact ⟨z0, z1⟩
end Go.Proofs.Ytjlkfoaccllflaa
