/-
  An argument that is a lore, opened; what the rows of layer lore's laws owe.
-/
import Derived.Test.YticjgmhgpeihjaaGreatDoorLaw2
import Derived.Test.YticjgmhgpeihjaaGreatDoorLoRows
namespace Go.Proofs.YticjgmhgpeihjaaGreatDoor
open Go.RowKit Go.ChangeShapes Go.WideShapes Go.Gz Go.Deep

theorem own : ownKnob Tryz.prog.godebug = none := by kernel_rfl
theorem laidOut : laidOutB Tryz.prog = true := by kernel_rfl
theorem laid_none (P : Program) (w : World) : laidMet P [] w := ⟨[], rfl, List.nodup_nil, fun b off h => by cases h⟩

/-- a To as it is read. -/
theorem to_of {H : Type} {enc : TypeId × Value → H} {P : Program} {W : World} {t e : TypeId} {fuel : Nat} {v : Value} {x : DataW H × List MemPlace} (ht : P.underlying t = some (.slice e)) (he : P.underlying e = some (.int .i32)) (hc : P.cellsOf e = 1)
    (h : DataW.trod enc P W 0 (fun _ => true) true fuel t [v] = some x) : ∃ p to cap, v = .slice p to.length cap ∧ Row W .i32 p to ∧ to.length ≤ cap ∧ (p = none → cap = 0) ∧ to.length ≤ 9223372036854775807 := by
  rcases open_ints ht he hc h with ⟨h0, _⟩ | ⟨a, len, cap, zs, h0, _, hl, hm, hz, _, hcell, _⟩
  · simp at h0
    exact ⟨none, [], 0, h0, Or.inl rfl, Nat.le_refl _, fun _ => rfl, by simp⟩
  · simp at h0
    simp only [if_true] at hz
    have hlen : (zs.take len).length = len := by rw [List.length_take]; omega
    unfold maxLen at hm
    refine ⟨some a, zs.take len, cap, by rw [hlen]; exact h0, ?_, by rw [hlen]; exact hl, (fun h => by cases h), by rw [hlen]; omega⟩
    by_cases h00 : len = 0
    · exact Or.inl (by subst h00; rfl)
    · have hc0 := hcell 0 (by omega)
      obtain ⟨b, off, spot⟩ := a
      have hsp : spot = none := Go.Proofs.cell_spot (o := off + 0) hc0
      subst hsp
      refine Or.inr ⟨b, off, rfl, World.block_lt_of_cell? W _ hc0, fun j hj => ?_⟩
      rw [hlen] at hj
      have := hcell j (by omega)
      rw [Addr.add_lit] at this
      rw [this]
      simp [List.getD, hj]

theorem one_int {H : Type} {enc : TypeId × Value → H} {P : Program} {W : World} {t : TypeId} {k : IntKind} {fuel : Nat} {v : Value} {x : DataW H × List MemPlace} (ht : P.underlying t = some (.int k)) (h : DataW.trod enc P W 0 (fun _ => true) true fuel t [v] = some x) : ∃ n : Int, v = .int k n := by
  cases fuel with
  | zero => simp [DataW.trod] at h
  | succ n =>
    unfold DataW.trod at h
    rw [ht] at h
    split at h <;> simp_all

set_option maxRecDepth 100000 in
/-- one row as it is read. -/
theorem lr_of {H : Type} {enc : TypeId × Value → H} {W : World} {fuel : Nat} {cs : List Value} {x : DataW H × List MemPlace} (h : DataW.trod enc Tryz.prog W 0 (fun _ => true) true fuel 49 cs = some x) :
    ∃ r : LR, cs = [.int .i32 r.r, .int .i64 r.c, .slice r.p r.to.length r.cap] ∧ ToAt W r ∧ r.to.length ≤ 9223372036854775807 := by
  obtain ⟨ys, n, _, _, hlen, hyl, hf⟩ := DataW.trod_struct Tryz.underlying49 h
  have hC : Tryz.prog.cellsOf 49 = 3 := by kernel_rfl
  rw [hC] at hlen
  have c32 : Tryz.prog.cellsOf 21 = 1 := by kernel_rfl
  have c64 : Tryz.prog.cellsOf 3 = 1 := by kernel_rfl
  have csl : Tryz.prog.cellsOf 36 = 1 := by kernel_rfl
  match cs, hlen with
  | [v0, v1, v2], _ =>
    match ys, hyl with
    | [y0, y1, y2], _ =>
      have h0 : DataW.trod enc Tryz.prog W 0 (fun _ => true) true n 21 [v0] = some y0 := by simpa [c32] using hf 0 _ rfl
      have h1 : DataW.trod enc Tryz.prog W 0 (fun _ => true) true n 3 [v1] = some y1 := by simpa [c64] using hf 1 _ rfl
      have h2 : DataW.trod enc Tryz.prog W 0 (fun _ => true) true n 36 [v2] = some y2 := by simpa [csl] using hf 2 _ rfl
      obtain ⟨r, rfl⟩ := one_int Tryz.underlying21 h0
      obtain ⟨c, rfl⟩ := one_int Tryz.underlying3 h1
      obtain ⟨p, to, cap, rfl, hr, hl, hn, hb⟩ := to_of Tryz.underlying36 Tryz.underlying21 c32 h2
      exact ⟨⟨r, c, p, to, cap⟩, rfl, ⟨hr, hl, hn⟩, hb⟩

set_option maxRecDepth 100000 in
/-- an argument that is a lore. -/
theorem arg_lores {H : Type} {enc : TypeId × Value → H} {W : World} {b0 : Nat} {v : Value} {d : DataW H} {ps : List MemPlace} (hval : Value.okWide Tryz.prog W .any b0 22 v) (hd : DataW.Trod enc Tryz.prog W 0 (fun _ => true) true 22 v d ps) :
    ∃ p ls c, v = .slice p ls.length c ∧ Lores W p ls ∧ ls.length ≤ 9223372036854775807 ∧ ∀ x ∈ ls, x.to.length ≤ 9223372036854775807 := by
  obtain ⟨a0, len, cap, rfl⟩ := okWide_slice Tryz.underlying22 hval
  obtain ⟨fuel, hf⟩ := hd
  rcases open_slice Tryz.underlying22 hf with ⟨h, _⟩ | ⟨a, len', cap', m, n, D, Pl, h, _, hl, hm, hmm, _, hi⟩
  · simp [Value.cells] at h
    obtain ⟨rfl, rfl, rfl⟩ := h
    exact ⟨none, [], 0, rfl, Or.inl rfl, by simp, fun x hx => by simp at hx⟩
  · simp [Value.cells] at h
    obtain ⟨rfl, rfl, rfl⟩ := h
    simp only [if_true] at hmm
    subst hmm
    unfold maxLen at hm
    have hC : Tryz.prog.cellsOf 49 = 3 := by kernel_rfl
    have each : ∀ i, i < len → ∃ r : LR, (∀ z, z < 3 → W.cell? ((a.add (i * 3)).add z) = [Value.int .i32 r.r, .int .i64 r.c, .slice r.p r.to.length r.cap][z]?) ∧ ToAt W r ∧ r.to.length ≤ 9223372036854775807 := fun i hin => by
      obtain ⟨cs', hcs, ht⟩ := hi i (by omega)
      rw [hC] at hcs
      obtain ⟨r, rfl, h1, h2⟩ := lr_of ht
      obtain ⟨_, _, hat⟩ := World.cells?_some hcs
      exact ⟨r, hat, h1, h2⟩
    have pick : ∃ f : Nat → LR, ∀ i, i < len → (∀ z, z < 3 → W.cell? ((a.add (i * 3)).add z) = [Value.int .i32 (f i).r, .int .i64 (f i).c, .slice (f i).p (f i).to.length (f i).cap][z]?) ∧ ToAt W (f i) ∧ (f i).to.length ≤ 9223372036854775807 :=
      ⟨fun i => if h : i < len then Classical.choose (each i h) else default, fun i h => by simp only [dif_pos h]; exact Classical.choose_spec (each i h)⟩
    obtain ⟨f, hf2⟩ := pick
    have hget : ∀ j, j < len → ((List.range len).map f)[j]! = f j := fun j hj => by
      rw [getElem!_pos _ j (by simpa using hj)]; simp
    refine ⟨some a, (List.range len).map f, m, by simp, ?_, by simp; omega, fun x hx => ?_⟩
    · by_cases h0 : len = 0
      · exact Or.inl (by subst h0; rfl)
      · have hc0 := (hf2 0 (by omega)).1 0 (by omega)
        obtain ⟨b, off, spot⟩ := a
        have hc0' : W.cell? ⟨b, off + 0 * 3 + 0, spot⟩ = some (.int .i32 (f 0).r) := by
          have e : ((⟨b, off, spot⟩ : Addr).add (0 * 3)).add 0 = ⟨b, off, spot⟩ := by simp [Addr.add]
          rw [e] at hc0
          simpa using hc0
        have hsp : spot = none := Go.Proofs.cell_spot hc0'
        subst hsp
        refine Or.inr ⟨b, off, rfl, World.block_lt_of_cell? W _ hc0', fun j hj => ?_⟩
        have hj' : j < len := by simpa using hj
        obtain ⟨hz, h1, _⟩ := hf2 j hj'
        rw [hget j hj']
        have z0 := hz 0 (by omega)
        have z1 := hz 1 (by omega)
        have z2 := hz 2 (by omega)
        simp only [Addr.add_lit] at z0 z1 z2
        exact ⟨z0, z1, z2, h1⟩
    · obtain ⟨i, hi', rfl⟩ := List.mem_map.1 hx
      exact (hf2 i (List.mem_range.1 hi')).2.2
end Go.Proofs.YticjgmhgpeihjaaGreatDoor
