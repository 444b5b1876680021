/-
  Arguments of layer span's laws, opened: a span, a list of spans, a list of texts.
-/
import Derived.Test.YtafmglnjheeajaaLaw2
import Derived.Test.YtafmglnjheeajaaSpRows
namespace Go.Proofs.Ytafmglnjheeajaa
open Go.RowKit Go.ChangeShapes Go.WideShapes Go.Gz Go.Deep

theorem own : ownKnob Try.prog.godebug = none := by kernel_rfl
theorem laidOut : laidOutB Try.prog = true := by kernel_rfl
theorem laid_none (P : Program) (w : World) : laidMet P [] w := ⟨[], rfl, List.nodup_nil, fun b off h => by cases h⟩

theorem one_string {H : Type} {enc : TypeId × Value → H} {P : Program} {W : World} {t : TypeId} {fuel : Nat} {v : Value} {x : DataW H × List MemPlace} (ht : P.underlying t = some .string) (h : DataW.trod enc P W 0 (fun _ => true) true fuel t [v] = some x) : ∃ s : ByteArray, v = .string s ∧ s.size ≤ 9223372036854775807 := by
  cases fuel with
  | zero => simp [DataW.trod] at h
  | succ n =>
    unfold DataW.trod at h
    rw [ht] at h
    split at h <;> simp_all
    unfold maxLen at h
    exact h.1

set_option maxRecDepth 100000 in
theorem sp_of {H : Type} {enc : TypeId × Value → H} {W : World} {fuel : Nat} {cs : List Value} {x : DataW H × List MemPlace} (h : DataW.trod enc Try.prog W 0 (fun _ => true) true fuel 23 cs = some x) :
    ∃ s : SP, cs = [.string s.f, .string s.t] ∧ s.f.size ≤ 9223372036854775807 ∧ s.t.size ≤ 9223372036854775807 := by
  obtain ⟨ys, n, _, _, hlen, hyl, hf⟩ := DataW.trod_struct Try.underlying23 h
  have hC : Try.prog.cellsOf 23 = 2 := by kernel_rfl
  rw [hC] at hlen
  have c1 : Try.prog.cellsOf 9 = 1 := by kernel_rfl
  match cs, hlen with
  | [v0, v1], _ =>
    match ys, hyl with
    | [y0, y1], _ =>
      have h0 : DataW.trod enc Try.prog W 0 (fun _ => true) true n 9 [v0] = some y0 := by simpa [c1] using hf 0 _ rfl
      have h1 : DataW.trod enc Try.prog W 0 (fun _ => true) true n 9 [v1] = some y1 := by simpa [c1] using hf 1 _ rfl
      obtain ⟨a, rfl, ha⟩ := one_string Try.underlying9 h0
      obtain ⟨b, rfl, hb⟩ := one_string Try.underlying9 h1
      exact ⟨⟨a, b⟩, rfl, ha, hb⟩

set_option maxRecDepth 100000 in
/-- an argument that is a span. -/
theorem arg_span {H : Type} {enc : TypeId × Value → H} {W : World} {b0 : Nat} {v : Value} {d : DataW H} {ps : List MemPlace} (hval : Value.okWide Try.prog W .any b0 23 v) (hd : DataW.Trod enc Try.prog W 0 (fun _ => true) true 23 v d ps) :
    ∃ s : SP, v = .agg #[.string s.f, .string s.t] ∧ s.f.size ≤ 9223372036854775807 ∧ s.t.size ≤ 9223372036854775807 := by
  obtain ⟨cs, rfl, hsz⟩ := okWide_struct Try.underlying23 hval
  obtain ⟨fuel, hf0⟩ := hd
  obtain ⟨s, h1, h2, h3⟩ := sp_of hf0
  obtain ⟨cl⟩ := cs
  have hcl : (Value.agg ⟨cl⟩).cells.toList = cl := rfl
  rw [hcl] at h1
  subst h1
  exact ⟨s, rfl, h2, h3⟩

set_option maxRecDepth 100000 in
/-- an argument that is a list of spans. -/
theorem arg_spans {H : Type} {enc : TypeId × Value → H} {W : World} {b0 : Nat} {v : Value} {d : DataW H} {ps : List MemPlace} (hval : Value.okWide Try.prog W .any b0 26 v) (hd : DataW.Trod enc Try.prog W 0 (fun _ => true) true 26 v d ps) :
    ∃ p ls c, v = .slice p ls.length c ∧ Spans W p ls ∧ ls.length ≤ 9223372036854775807 := by
  obtain ⟨a0, len, cap, rfl⟩ := okWide_slice Try.underlying26 hval
  obtain ⟨fuel, hf⟩ := hd
  rcases open_slice Try.underlying26 hf with ⟨h, _⟩ | ⟨a, len', cap', m, n, D, Pl, h, _, hl, hm, hmm, _, hi⟩
  · simp [Value.cells] at h
    obtain ⟨rfl, rfl, rfl⟩ := h
    exact ⟨none, [], 0, rfl, Or.inl rfl, by simp⟩
  · simp [Value.cells] at h
    obtain ⟨rfl, rfl, rfl⟩ := h
    simp only [if_true] at hmm
    subst hmm
    unfold maxLen at hm
    have hC : Try.prog.cellsOf 23 = 2 := by kernel_rfl
    have each : ∀ i, i < len → ∃ r : SP, (∀ z, z < 2 → W.cell? ((a.add (i * 2)).add z) = [Value.string r.f, .string r.t][z]?) := fun i hin => by
      obtain ⟨cs', hcs, ht⟩ := hi i (by omega)
      rw [hC] at hcs
      obtain ⟨r, rfl, h1, h2⟩ := sp_of ht
      obtain ⟨_, _, hat⟩ := World.cells?_some hcs
      exact ⟨r, hat⟩
    have pick : ∃ f : Nat → SP, ∀ i, i < len → (∀ z, z < 2 → W.cell? ((a.add (i * 2)).add z) = [Value.string (f i).f, .string (f i).t][z]?) :=
      ⟨fun i => if h : i < len then Classical.choose (each i h) else default, fun i h => by simp only [dif_pos h]; exact Classical.choose_spec (each i h)⟩
    obtain ⟨f, hf2⟩ := pick
    have hget : ∀ j, j < len → ((List.range len).map f)[j]! = f j := fun j hj => by
      rw [getElem!_pos _ j (by simpa using hj)]; simp
    refine ⟨some a, (List.range len).map f, m, by simp, ?_, by simp; omega⟩
    by_cases h0 : len = 0
    · exact Or.inl (by subst h0; rfl)
    · have hc0 := (hf2 0 (by omega)) 0 (by omega)
      obtain ⟨b, off, spot⟩ := a
      have hc0' : W.cell? ⟨b, off + 0 * 2 + 0, spot⟩ = some (.string (f 0).f) := by
        have e : ((⟨b, off, spot⟩ : Addr).add (0 * 2)).add 0 = ⟨b, off, spot⟩ := by simp [Addr.add]
        rw [e] at hc0
        simpa using hc0
      have hsp : spot = none := Go.Proofs.cell_spot hc0'
      subst hsp
      refine Or.inr ⟨b, off, rfl, World.block_lt_of_cell? W _ hc0', fun j hj => ?_⟩
      have hj' : j < len := by simpa using hj
      have hz := hf2 j hj'
      rw [hget j hj']
      have z0 := hz 0 (by omega)
      have z1 := hz 1 (by omega)
      simp only [Addr.add_lit] at z0 z1
      exact ⟨z0, z1⟩

/-- slice pointer p reads in w as the texts ss. -/
def Strs (w : World) (p : Option Addr) (ss : List ByteArray) : Prop :=
  ss = [] ∨ ∃ b off, p = some ⟨b, off, none⟩ ∧ b < w.heap.size ∧ ∀ j, j < ss.length → w.cell? ⟨b, off + j, none⟩ = some (.string (ss.getD j ByteArray.empty))
theorem Strs.below {w w' : World} {p : Option Addr} {ss : List ByteArray} (h : Strs w p ss) (hb : Below w.heap.size w w') : Strs w' p ss := by
  rcases h with h | ⟨b, off, hp, hlt, hc⟩
  · exact Or.inl h
  · exact Or.inr ⟨b, off, hp, Nat.lt_of_lt_of_le hlt hb.size, fun j hj => by rw [hb.cell (p := ⟨b, off + j, none⟩) hlt]; exact hc j hj⟩
theorem str_cell {W wr : World} {p : Option Addr} {ss : List ByteArray} (h : Strs W p ss) (hb : Below W.heap.size W wr) {j : Nat} (hj : j < ss.length) : ∃ b o, p = some ⟨b, o, none⟩ ∧ b < W.heap.size ∧ wr.cell? ⟨b, o + j, none⟩ = some (.string (ss.getD j ByteArray.empty)) := by
  rcases h with h | ⟨b, o, hp, h1, h2⟩
  · rw [h] at hj; simp at hj
  · exact ⟨b, o, hp, h1, by rw [hb.cell (p := ⟨b, o + j, none⟩) h1]; exact h2 j hj⟩
/-- an argument that is a list of texts. -/
theorem arg_strs {H : Type} {enc : TypeId × Value → H} {P : Program} {W : World} {b0 : Nat} {t e : TypeId} {v : Value} {d : DataW H} {ps : List MemPlace} (ht : P.underlying t = some (.slice e)) (he : P.underlying e = some .string) (hc : P.cellsOf e = 1)
    (hval : Value.okWide P W .any b0 t v) (hd : DataW.Trod enc P W 0 (fun _ => true) true t v d ps) :
    ∃ p ss c, v = .slice p ss.length c ∧ Strs W p ss ∧ ss.length ≤ 9223372036854775807 ∧ ∀ s ∈ ss, s.size ≤ 9223372036854775807 := by
  obtain ⟨a0, len, cap, rfl⟩ := okWide_slice ht hval
  obtain ⟨fuel, hf⟩ := hd
  rcases open_slice ht hf with ⟨h, _⟩ | ⟨a, len', cap', m, n, D, Pl, h, _, hl, hm, hmm, _, hi⟩
  · simp [Value.cells] at h
    obtain ⟨rfl, rfl, rfl⟩ := h
    exact ⟨none, [], 0, rfl, Or.inl rfl, by simp, by simp⟩
  · simp [Value.cells] at h
    obtain ⟨rfl, rfl, rfl⟩ := h
    simp only [if_true] at hmm
    subst hmm
    unfold maxLen at hm
    have each : ∀ i, i < len → ∃ s : ByteArray, W.cell? (a.add i) = some (.string s) ∧ s.size ≤ 9223372036854775807 := fun i hin => by
      obtain ⟨cs', hcs, htr⟩ := hi i (by omega)
      rw [hc] at hcs
      obtain ⟨hl1, _, hat⟩ := World.cells?_some hcs
      match cs', hl1 with
      | [v], _ =>
        obtain ⟨s, rfl, hs⟩ := one_string he htr
        have := hat 0 (by omega)
        simp at this
        exact ⟨s, by simpa [Addr.add] using this, hs⟩
    have pick : ∃ f : Nat → ByteArray, ∀ i, i < len → W.cell? (a.add i) = some (.string (f i)) ∧ (f i).size ≤ 9223372036854775807 :=
      ⟨fun i => if h : i < len then Classical.choose (each i h) else default, fun i h => by simp only [dif_pos h]; exact Classical.choose_spec (each i h)⟩
    obtain ⟨f, hf2⟩ := pick
    have hget : ∀ j, j < len → ((List.range len).map f).getD j ByteArray.empty = f j := fun j hj => by simp [List.getD, hj]
    refine ⟨some a, (List.range len).map f, m, by simp, ?_, by simp; omega, fun x hx => ?_⟩
    · by_cases h0 : len = 0
      · exact Or.inl (by subst h0; rfl)
      · have hc0 := (hf2 0 (by omega)).1
        obtain ⟨b, off, spot⟩ := a
        have hsp : spot = none := Go.Proofs.cell_spot (o := off + 0) hc0
        subst hsp
        refine Or.inr ⟨b, off, rfl, World.block_lt_of_cell? W _ hc0, fun j hj => ?_⟩
        have hj' : j < len := by simpa using hj
        rw [hget j hj']
        have := (hf2 j hj').1
        rw [Addr.add_lit] at this
        exact this
    · obtain ⟨i, hi', rfl⟩ := List.mem_map.1 hx
      exact (hf2 i (List.mem_range.1 hi')).2
end Go.Proofs.Ytafmglnjheeajaa
