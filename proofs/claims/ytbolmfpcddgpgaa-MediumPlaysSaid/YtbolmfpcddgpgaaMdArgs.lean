/-
  Layer medium: an argument that is a list of deeds, each within the form's reach.
-/
import Derived.Test.YtbolmfpcddgpgaaSlArgs
import Derived.Test.YtbolmfpcddgpgaaMdDeed
import Derived.SizedLaws
namespace Go.Proofs.Ytbolmfpcddgpgaa
open Go.RowKit Go.ChangeShapes Go.WideShapes Go.Gz Go.Deep

theorem wts_mem {H : Type} (P : Program) (e : TypeId) {d : DataW H} {x : Nat} : ∀ (l : List (DataW H)), d ∈ l → x ∈ d.weights P e → x ∈ DataW.weightsAll P e l
  | [], h, _ => by cases h
  | c :: l, h, hx => by
    unfold DataW.weightsAll
    rcases List.mem_cons.1 h with rfl | h
    · exact List.mem_append_left _ hx
    · exact List.mem_append_right _ (wts_mem P e l h hx)

/-- the bytes of a slice as it is read, within the form's reach. -/
theorem bytes_reach {H : Type} {enc : TypeId × Value → H} {W : World} {fuel : Nat} {cs : List Value} {x : DataW H × List MemPlace} (h : DataW.trod enc Try.prog W 0 (fun _ => true) true fuel 28 cs = some x) (hw : ∀ y ∈ x.1.weights Try.prog 28, y ≤ reachBytes) :
    ∃ p l c, cs = [.slice p l.length c] ∧ Row W .u8 p (nums l) ∧ l.length ≤ c ∧ (p = none → c = 0) ∧ l.length ≤ 140737488351232 := by
  obtain ⟨p, l, c, e, h1, h2, h3, _⟩ := bytes_of Try.underlying28 Try.underlying5 (by kernel_rfl) h
  refine ⟨p, l, c, e, h1, h2, h3, ?_⟩
  rcases open_ints Try.underlying28 Try.underlying5 (by kernel_rfl) h with ⟨h0, _⟩ | ⟨a, len, cap, zs, h0, _, hl, _, hz, hx, _, _⟩
  · rw [e] at h0
    injection h0 with h0 _
    injection h0 with _ h0 _
    omega
  · rw [e] at h0
    injection h0 with h0 _
    injection h0 with _ h0 _
    subst hx
    have hb : Try.prog.bytesOf 5 = 1 := by kernel_rfl
    have := hw ((lits (H := H) .u8 (zs.take len)).length + (lits (H := H) .u8 (zs.drop len)).length) (by
      simp only [DataW.weights, Try.underlying28, hb, Nat.mul_one]
      exact List.mem_cons_self)
    simp only [if_true] at hz
    have e1 : (lits (H := H) .u8 (zs.take len)).length = (zs.take len).length := by simp [lits]
    rw [e1, List.length_take] at this
    unfold reachBytes at this
    omega

theorem one_int {H : Type} {enc : TypeId × Value → H} {P : Program} {W : World} {t : TypeId} {k : IntKind} {fuel : Nat} {v : Value} {x : DataW H × List MemPlace} (ht : P.underlying t = some (.int k)) (h : DataW.trod enc P W 0 (fun _ => true) true fuel t [v] = some x) : ∃ n : Int, v = .int k n := by
  cases fuel with
  | zero => simp [DataW.trod] at h
  | succ n =>
    unfold DataW.trod at h
    rw [ht] at h
    split at h <;> simp_all

set_option maxRecDepth 100000 in
/-- one deed as it is read. -/
theorem de_of {H : Type} {enc : TypeId × Value → H} {W : World} {fuel : Nat} {cs : List Value} {x : DataW H × List MemPlace} (h : DataW.trod enc Try.prog W 0 (fun _ => true) true fuel 33 cs = some x) (hw : ∀ y ∈ x.1.weights Try.prog 33, y ≤ reachBytes) :
    ∃ r : DE, cs = [.int .i64 r.d, .int .i64 r.n, .slice r.p r.b.length r.cap] ∧ BAt W r ∧ r.b.length ≤ 140737488351232 := by
  obtain ⟨ys, n, _, hx, hlen, hyl, hf⟩ := DataW.trod_struct Try.underlying33 h
  have hC : Try.prog.cellsOf 33 = 3 := by kernel_rfl
  rw [hC] at hlen
  have c64 : Try.prog.cellsOf 3 = 1 := by kernel_rfl
  have csl : Try.prog.cellsOf 28 = 1 := by kernel_rfl
  match cs, hlen with
  | [v0, v1, v2], _ =>
    match ys, hyl with
    | [y0, y1, y2], _ =>
      have h0 : DataW.trod enc Try.prog W 0 (fun _ => true) true n 3 [v0] = some y0 := by simpa [c64] using hf 0 _ rfl
      have h1 : DataW.trod enc Try.prog W 0 (fun _ => true) true n 3 [v1] = some y1 := by simpa [c64] using hf 1 _ rfl
      have h2 : DataW.trod enc Try.prog W 0 (fun _ => true) true n 28 [v2] = some y2 := by simpa [csl] using hf 2 _ rfl
      obtain ⟨d, rfl⟩ := one_int Try.underlying3 h0
      obtain ⟨k, rfl⟩ := one_int Try.underlying3 h1
      obtain ⟨p, b, cap, e, hr, hl, hn, hb⟩ := bytes_reach h2 (fun y hy => hw y (by
        subst hx
        simp only [DataW.weights, Try.underlying33, List.map_cons, List.map_nil, DataW.weightsEach]
        exact List.mem_append_right _ (List.mem_append_right _ (List.mem_append_left _ hy))))
      injection e with e _
      subst e
      exact ⟨⟨d, k, p, b, cap⟩, rfl, ⟨hr, hl, hn⟩, hb⟩

set_option maxRecDepth 100000 in
/-- an argument that is a list of deeds. -/
theorem arg_deeds {H : Type} {enc : TypeId × Value → H} {W : World} {b0 : Nat} {v : Value} {d : DataW H} {ps : List MemPlace} (hval : Value.okWide Try.prog W .any b0 22 v) (hd : DataW.Trod enc Try.prog W 0 (fun _ => true) true 22 v d ps) (hw : (d.weights Try.prog 22).all (· ≤ reachBytes) = true) :
    ∃ p ls c, v = .slice p ls.length c ∧ Deeds W p ls ∧ ls.length ≤ 9223372036854775807 ∧ ∀ x ∈ ls, x.b.length ≤ 140737488351232 := by
  obtain ⟨a0, len, cap, rfl⟩ := okWide_slice Try.underlying22 hval
  obtain ⟨fuel, hf⟩ := hd
  rcases open_slice Try.underlying22 hf with ⟨h, _⟩ | ⟨a, len', cap', m, n, D, Pl, h, _, hl, hm, hmm, hdl, hi⟩
  · simp [Value.cells] at h
    obtain ⟨rfl, rfl, rfl⟩ := h
    exact ⟨none, [], 0, rfl, Or.inl rfl, by simp, fun x hx => by simp at hx⟩
  · simp [Value.cells] at h
    obtain ⟨rfl, rfl, rfl⟩ := h
    simp only [if_true] at hmm
    subst hmm
    unfold maxLen at hm
    injection hdl with hdl _
    subst hdl
    have hC : Try.prog.cellsOf 33 = 3 := by kernel_rfl
    have each : ∀ i, i < len → ∃ r : DE, (∀ z, z < 3 → W.cell? ((a.add (i * 3)).add z) = [Value.int .i64 r.d, .int .i64 r.n, .slice r.p r.b.length r.cap][z]?) ∧ BAt W r ∧ r.b.length ≤ 140737488351232 := fun i hin => by
      obtain ⟨cs', hcs, ht⟩ := hi i (by omega)
      rw [hC] at hcs
      obtain ⟨r, rfl, h1, h2⟩ := de_of ht (fun y hy => by
        have hmem : y ∈ DataW.weights Try.prog 22 (.slice ((List.range len).map D) ((List.range (m - len)).map fun j => D (len + j))) := by
          simp only [DataW.weights, Try.underlying22]
          exact List.mem_cons_of_mem _ (List.mem_append_left _ (wts_mem _ _ _ (List.mem_map.2 ⟨i, List.mem_range.2 hin, rfl⟩) hy))
        exact of_decide_eq_true (List.all_eq_true.1 hw _ hmem))
      obtain ⟨_, _, hat⟩ := World.cells?_some hcs
      exact ⟨r, hat, h1, h2⟩
    have pick : ∃ f : Nat → DE, ∀ i, i < len → (∀ z, z < 3 → W.cell? ((a.add (i * 3)).add z) = [Value.int .i64 (f i).d, .int .i64 (f i).n, .slice (f i).p (f i).b.length (f i).cap][z]?) ∧ BAt W (f i) ∧ (f i).b.length ≤ 140737488351232 :=
      ⟨fun i => if h : i < len then Classical.choose (each i h) else default, fun i h => by simp only [dif_pos h]; exact Classical.choose_spec (each i h)⟩
    obtain ⟨f, hf2⟩ := pick
    have hget : ∀ j, j < len → ((List.range len).map f)[j]! = f j := fun j hj => by
      rw [getElem!_pos _ j (by simpa using hj)]; simp
    refine ⟨some a, (List.range len).map f, m, by simp, ?_, by simp; omega, fun x hx => ?_⟩
    · by_cases h0 : len = 0
      · exact Or.inl (by subst h0; rfl)
      · have hc0 := (hf2 0 (by omega)).1 0 (by omega)
        obtain ⟨b, off, spot⟩ := a
        have hc0' : W.cell? ⟨b, off + 0 * 3 + 0, spot⟩ = some (.int .i64 (f 0).d) := by
          have e : ((⟨b, off, spot⟩ : Addr).add (0 * 3)).add 0 = ⟨b, off, spot⟩ := by simp [Addr.add]
          rw [e] at hc0
          simpa using hc0
        have hsp : spot = none := Go.Proofs.cell_spot hc0'
        subst hsp
        refine Or.inr ⟨b, off, rfl, World.block_lt_of_cell? W _ hc0', fun j hj => ?_⟩
        have hj' : j < len := by simpa using hj
        obtain ⟨hz, h1, _⟩ := hf2 j hj'
        rw [hget j hj']
        have z0 := hz 0 (by omega)
        have z1 := hz 1 (by omega)
        have z2 := hz 2 (by omega)
        simp only [Addr.add_lit] at z0 z1 z2
        exact ⟨z0, z1, z2, h1⟩
    · obtain ⟨i, hi', rfl⟩ := List.mem_map.1 hx
      exact (hf2 i (List.mem_range.1 hi')).2.2
end Go.Proofs.Ytbolmfpcddgpgaa
