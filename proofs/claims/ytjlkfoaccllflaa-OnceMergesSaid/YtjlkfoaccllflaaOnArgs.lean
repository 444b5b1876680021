/-
  Layer once: an argument that is a list of replies.
-/
import Derived.Test.YtjlkfoaccllflaaPcArgs
import Derived.Test.YtjlkfoaccllflaaOnSmall
namespace Go.Proofs.Ytjlkfoaccllflaa
open Go.RowKit Go.ChangeShapes Go.WideShapes Go.Gz Go.Deep

theorem one_int_wf {H : Type} {enc : TypeId × Value → H} {P : Program} {W : World} {t : TypeId} {k : IntKind} {fuel : Nat} {v : Value} {x : DataW H × List MemPlace} (ht : P.underlying t = some (.int k)) (h : DataW.trod enc P W 0 (fun _ => true) true fuel t [v] = some x) : ∃ n : Int, v = .int k n ∧ (Lit.int k n).wf = true := by
  cases fuel with
  | zero => simp [DataW.trod] at h
  | succ n =>
    unfold DataW.trod at h
    rw [ht] at h
    split at h <;> simp_all
set_option maxRecDepth 100000 in
/-- a row of records as it is read: of nothing there is no room. -/
theorem recs_none {H : Type} {enc : TypeId × Value → H} {W : World} {fuel : Nat} {p : Option Addr} {n c : Nat} {x : DataW H × List MemPlace} (hf : DataW.trod enc Try.prog W 0 (fun _ => true) true fuel 31 [.slice p n c] = some x) : p = none → c = 0 := by
  intro hp
  rcases open_slice Try.underlying31 hf with ⟨h, _⟩ | ⟨a, len, cap, m, n', D, Pl, h, _⟩
  · injection h with h _
    injection h with _ _ h
  · injection h with h _
    injection h with h _ _
    rw [hp] at h; cases h
set_option maxRecDepth 100000 in
theorem rep_of2 {H : Type} {enc : TypeId × Value → H} {W : World} {fuel : Nat} {cs : List Value} {x : DataW H × List MemPlace} (h : DataW.trod enc Try.prog W 0 (fun _ => true) true fuel 33 cs = some x) :
    ∃ e : Ent, cs = e.list.tail ∧ ArgIn W e := by
  obtain ⟨ys, n, _, _, hlen, hyl, hf⟩ := DataW.trod_struct Try.underlying33 h
  have hC : Try.prog.cellsOf 33 = 8 := by kernel_rfl
  rw [hC] at hlen
  have c1 : Try.prog.cellsOf 9 = 1 := by kernel_rfl
  have c3 : Try.prog.cellsOf 3 = 1 := by kernel_rfl
  have c4 : Try.prog.cellsOf 4 = 1 := by kernel_rfl
  have c5 : Try.prog.cellsOf 30 = 1 := by kernel_rfl
  have c6 : Try.prog.cellsOf 31 = 1 := by kernel_rfl
  match cs, hlen with
  | [v0, v1, v2, v3, v4, v5, v6, v7], _ =>
    match ys, hyl with
    | [y0, y1, y2, y3, y4, y5, y6, y7], _ =>
      have h0 : DataW.trod enc Try.prog W 0 (fun _ => true) true n 3 [v0] = some y0 := by simpa [c1, c3, c4, c5, c6] using hf 0 _ rfl
      have h1 : DataW.trod enc Try.prog W 0 (fun _ => true) true n 3 [v1] = some y1 := by simpa [c1, c3, c4, c5, c6] using hf 1 _ rfl
      have h2 : DataW.trod enc Try.prog W 0 (fun _ => true) true n 30 [v2] = some y2 := by simpa [c1, c3, c4, c5, c6] using hf 2 _ rfl
      have h3 : DataW.trod enc Try.prog W 0 (fun _ => true) true n 4 [v3] = some y3 := by simpa [c1, c3, c4, c5, c6] using hf 3 _ rfl
      have h4 : DataW.trod enc Try.prog W 0 (fun _ => true) true n 9 [v4] = some y4 := by simpa [c1, c3, c4, c5, c6] using hf 4 _ rfl
      have h5 : DataW.trod enc Try.prog W 0 (fun _ => true) true n 31 [v5] = some y5 := by simpa [c1, c3, c4, c5, c6] using hf 5 _ rfl
      have h6 : DataW.trod enc Try.prog W 0 (fun _ => true) true n 9 [v6] = some y6 := by simpa [c1, c3, c4, c5, c6] using hf 6 _ rfl
      have h7 : DataW.trod enc Try.prog W 0 (fun _ => true) true n 4 [v7] = some y7 := by simpa [c1, c3, c4, c5, c6] using hf 7 _ rfl
      obtain ⟨c, rfl, hwf⟩ := one_int_wf Try.underlying3 h0
      obtain ⟨s, rfl, _⟩ := one_int_wf Try.underlying3 h1
      obtain ⟨e, rfl, _⟩ := one_int_wf Try.underlying30 h2
      obtain ⟨fd, rfl⟩ := one_bool Try.underlying4 h3
      obtain ⟨v, rfl, _⟩ := one_text Try.underlying9 h4
      obtain ⟨p, ls, k, e5, h9, h10⟩ := recs_of h5
      obtain ⟨nx, rfl, _⟩ := one_text Try.underlying9 h6
      obtain ⟨mr, rfl⟩ := one_bool Try.underlying4 h7
      injection e5 with e5 _
      subst e5
      exact ⟨⟨s, ⟨c, s, e, fd, v, ls, nx, mr⟩, p, k⟩, rfl, h9, h10, recs_none h5, hwf, rfl⟩

set_option maxRecDepth 100000 in
/-- an argument that is a list of replies. -/
theorem arg_reps {H : Type} {enc : TypeId × Value → H} {W : World} {b0 : Nat} {v : Value} {d : DataW H} {ps : List MemPlace} (hval : Value.okWide Try.prog W .any b0 22 v) (hd : DataW.Trod enc Try.prog W 0 (fun _ => true) true 22 v d ps) :
    ∃ p X c, v = .slice p X.length c ∧ RowP W p X ∧ (∀ e ∈ X, ArgIn W e) ∧ X.length ≤ 9223372036854775807 := by
  obtain ⟨a0, len, cap, rfl⟩ := okWide_slice Try.underlying22 hval
  obtain ⟨fuel, hf⟩ := hd
  rcases open_slice Try.underlying22 hf with ⟨h, _⟩ | ⟨a, len', cap', m, n, D, Pl, h, _, hl, hm, hmm, hdl, hi⟩
  · simp [Value.cells] at h
    obtain ⟨rfl, rfl, rfl⟩ := h
    exact ⟨none, [], 0, rfl, Or.inl rfl, fun x hx => by simp at hx, by simp⟩
  · simp [Value.cells] at h
    obtain ⟨rfl, rfl, rfl⟩ := h
    simp only [if_true] at hmm
    subst hmm
    unfold maxLen at hm
    have hC : Try.prog.cellsOf 33 = 8 := by kernel_rfl
    have each : ∀ i, i < len → ∃ e : Ent, ArgIn W e ∧ ∀ z, z < 8 → W.cell? ((a.add (i * 8)).add z) = e.list[z + 1]? := fun i hin => by
      obtain ⟨cs', hcs, ht⟩ := hi i (by omega)
      rw [hC] at hcs
      obtain ⟨e, rfl, he⟩ := rep_of2 ht
      obtain ⟨_, _, hat⟩ := World.cells?_some hcs
      refine ⟨e, he, fun z hz => ?_⟩
      rw [hat z hz, List.getElem?_tail]
    have pick : ∃ f : Nat → Ent, ∀ i, i < len → ArgIn W (f i) ∧ ∀ z, z < 8 → W.cell? ((a.add (i * 8)).add z) = (f i).list[z + 1]? :=
      ⟨fun i => if h : i < len then Classical.choose (each i h) else default, fun i h => by simp only [dif_pos h]; exact Classical.choose_spec (each i h)⟩
    obtain ⟨f, hf2⟩ := pick
    have hget : ∀ j, j < len → ((List.range len).map f).getD j default = f j := fun j hj => by simp [List.getD, hj]
    refine ⟨some a, (List.range len).map f, m, by simp, ?_, fun e he => ?_, by simp; omega⟩
    · by_cases h0 : len = 0
      · exact Or.inl (by subst h0; rfl)
      · have hc0 := (hf2 0 (by omega)).2 0 (by omega)
        obtain ⟨b, off, spot⟩ := a
        have hc0' : W.cell? ⟨b, off, spot⟩ = some (.int .i64 (f 0).r.c) := by
          have e : ((⟨b, off, spot⟩ : Addr).add (0 * 8)).add 0 = ⟨b, off, spot⟩ := by simp [Addr.add]
          rw [e] at hc0
          rw [hc0]; rfl
        have hsp : spot = none := Go.Proofs.cell_spot hc0'
        subst hsp
        refine Or.inr ⟨b, off, rfl, World.block_lt_of_cell? W _ hc0', fun j hj z hz => ?_⟩
        have hj' : j < len := by simpa using hj
        rw [hget j hj']
        have h3 := (hf2 j hj').2 z hz
        simp only [Addr.add_lit] at h3
        exact h3
    · obtain ⟨i, hi', rfl⟩ := List.mem_map.1 he
      exact (hf2 i (by simpa using hi')).1
end Go.Proofs.Ytjlkfoaccllflaa
