/-
  A slice of structs of whatever kind, as an argument reads.
-/
import Derived.Test.YtodcnemnajlbdaaStRow
import Derived.Test.YtodcnemnajlbdaaLaw2
namespace Go.Gz
open Go.RowKit Go.ChangeShapes Go.WideShapes Go.Deep

theorem rowk_of {H α : Type} [Inhabited α] (K : SK α) {enc : TypeId × Value → H} {P : Program} {W : World} {t T : TypeId} {fuel : Nat} {cs : List Value} {x : DataW H × List MemPlace} (hT : P.underlying T = some (.slice t)) (hC : P.cellsOf t = K.n)
    (hel : ∀ (fuel : Nat) (cs : List Value) (x : DataW H × List MemPlace), DataW.trod enc P W 0 (fun _ => true) true fuel t cs = some x → ∃ r, cs = K.cf r)
    (h : DataW.trod enc P W 0 (fun _ => true) true fuel T cs = some x) : ∃ p L c, cs = [.slice p L.length c] ∧ RowK K W p L ∧ L.length ≤ 9223372036854775807 ∧ (p = none → c = 0) := by
  rcases open_slice hT h with ⟨h, _⟩ | ⟨a, len, cap, m, n, D, Pl, h, _, hl, hm, hmm, _, hi⟩
  · exact ⟨none, [], 0, h, Or.inl rfl, by simp, fun _ => rfl⟩
  · subst h
    simp only [if_true] at hmm
    subst hmm
    unfold maxLen at hm
    have each : ∀ i, i < len → ∃ r : α, (∀ z, z < K.n → W.cell? ((a.add (i * K.n)).add z) = (K.cf r)[z]?) := fun i hin => by
      obtain ⟨cs', hcs, ht⟩ := hi i (by omega)
      rw [hC] at hcs
      obtain ⟨r, rfl⟩ := hel _ _ _ ht
      obtain ⟨_, _, hat⟩ := World.cells?_some hcs
      exact ⟨r, hat⟩
    have pick : ∃ f : Nat → α, ∀ i, i < len → (∀ z, z < K.n → W.cell? ((a.add (i * K.n)).add z) = (K.cf (f i))[z]?) :=
      ⟨fun i => if h : i < len then Classical.choose (each i h) else default, fun i h => by simp only [dif_pos h]; exact Classical.choose_spec (each i h)⟩
    obtain ⟨f, hf2⟩ := pick
    have hget : ∀ j, j < len → ((List.range len).map f).getD j default = f j := fun j hj => by simp [List.getD, hj]
    refine ⟨some a, (List.range len).map f, m, by simp, ?_, by simp; omega, fun h => by cases h⟩
    by_cases h0 : len = 0
    · exact Or.inl (by subst h0; rfl)
    · have hc0 := hf2 0 (by omega) 0 K.pos
      obtain ⟨b, off, spot⟩ := a
      obtain ⟨v0, hv0⟩ : ∃ v, (K.cf (f 0))[0]? = some v := ⟨_, List.getElem?_eq_getElem (by rw [K.len]; exact K.pos)⟩
      rw [hv0] at hc0
      have hc0' : W.cell? ⟨b, off + 0 * K.n + 0, spot⟩ = some v0 := by
        have e : ((⟨b, off, spot⟩ : Addr).add (0 * K.n)).add 0 = ⟨b, off, spot⟩ := by simp [Addr.add]
        rw [e] at hc0
        simpa using hc0
      have hsp : spot = none := Go.Proofs.cell_spot hc0'
      subst hsp
      refine Or.inr ⟨b, off, rfl, World.block_lt_of_cell? W _ hc0', fun j hj i hi' => ?_⟩
      have hj' : j < len := by simpa using hj
      have hz := hf2 j hj' i hi'
      rw [hget j hj']
      simp only [Addr.add_lit] at hz
      exact hz
end Go.Gz
