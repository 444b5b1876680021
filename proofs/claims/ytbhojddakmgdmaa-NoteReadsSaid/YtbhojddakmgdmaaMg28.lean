/-
  Several texts in one: OnSmall, OnArgs, ArgRow.
-/
import Derived.Test.YtbhojddakmgdmaaMg16
import Derived.Test.YtbhojddakmgdmaaMg26
import Derived.LoopTactic
import Derived.Deep.CutRange
import Derived.Test.YtbhojddakmgdmaaMg08
import Derived.Test.YtbhojddakmgdmaaMg09
import Derived.Test.YtbhojddakmgdmaaMg01
namespace Go.Proofs.Ytbhojddakmgdmaa
open Go.RowKit Go.Gz

/-- slice pointer p reads in w as the replies of X. -/
def RowP (w : World) (p : Option Addr) (X : List Ent) : Prop :=
  X = [] ∨ ∃ b off, p = some ⟨b, off, none⟩ ∧ b < w.heap.size ∧ ∀ j, j < X.length → ∀ i, i < 8 → w.cell? ⟨b, off + j * 8 + i, none⟩ = (X.getD j default).list[i + 1]?
theorem RowP.below {w w' : World} {p : Option Addr} {L : List Ent} (h : RowP w p L) (hb : Below w.heap.size w w') : RowP w' p L := by
  rcases h with h | ⟨b, off, hp, hlt, hc⟩
  · exact Or.inl h
  · exact Or.inr ⟨b, off, hp, Nat.lt_of_lt_of_le hlt hb.size, fun j hj i hi => by rw [hb.cell (p := ⟨b, off + j * 8 + i, none⟩) hlt]; exact hc j hj i hi⟩
theorem rep_cells {W wr : World} {p : Option Addr} {L : List Ent} (h : RowP W p L) (hb : Below W.heap.size W wr) {j : Nat} (hj : j < L.length) : ∃ b o, p = some ⟨b, o, none⟩ ∧ b < W.heap.size ∧ ∀ i, i < 8 → wr.cell? ⟨b, o + j * 8 + i, none⟩ = (L.getD j default).list[i + 1]? := by
  rcases h with h | ⟨b, o, hp, h1, h2⟩
  · rw [h] at hj; simp at hj
  · exact ⟨b, o, hp, h1, fun i hi => by rw [hb.cell (p := ⟨b, o + j * 8 + i, none⟩) h1]; exact h2 j hj i hi⟩
/-- an argument's reply. -/
structure ArgIn (w : World) (e : Ent) : Prop where
  rs : Recs w e.p e.r.ls
  lo : e.r.ls.length ≤ 9223372036854775807
  pc : e.p = none → e.k = 0
  wf : (Lit.int .i64 e.r.c).wf = true
  s : e.s = e.r.s
def RetSl (w : World) (X : List Ent) (e : Ending) (w' : World) : Prop := ∃ b, e = .returned (.bool b) ∧ (b = true → X.length ≤ 101 ∧ ∀ e ∈ X, e.r.ls.length ≤ 300) ∧ Below w.heap.size w w'

end Go.Proofs.Ytbhojddakmgdmaa
namespace Go.Proofs.Ytbhojddakmgdmaa
open Go.RowKit Go.ChangeShapes Go.WideShapes Go.Gz Go.Deep

theorem one_int_wf {H : Type} {enc : TypeId × Value → H} {P : Program} {W : World} {t : TypeId} {k : IntKind} {fuel : Nat} {v : Value} {x : DataW H × List MemPlace} (ht : P.underlying t = some (.int k)) (h : DataW.trod enc P W 0 (fun _ => true) true fuel t [v] = some x) : ∃ n : Int, v = .int k n ∧ (Lit.int k n).wf = true := by
  cases fuel with
  | zero => simp [DataW.trod] at h
  | succ n =>
    unfold DataW.trod at h
    rw [ht] at h
    split at h <;> simp_all
set_option maxRecDepth 100000 in
/-- a row of records as it is read: of nothing there is no room. -/
theorem recs_none {H : Type} {enc : TypeId × Value → H} {W : World} {fuel : Nat} {p : Option Addr} {n c : Nat} {x : DataW H × List MemPlace} (hf : DataW.trod enc Try.prog W 0 (fun _ => true) true fuel 26 [.slice p n c] = some x) : p = none → c = 0 := by
  intro hp
  rcases open_slice Try.underlying26 hf with ⟨h, _⟩ | ⟨a, len, cap, m, n', D, Pl, h, _⟩
  · injection h with h _
    injection h with _ _ h
  · injection h with h _
    injection h with h _ _
    rw [hp] at h; cases h
set_option maxRecDepth 100000 in
theorem rep_of2 {H : Type} {enc : TypeId × Value → H} {W : World} {fuel : Nat} {cs : List Value} {x : DataW H × List MemPlace} (h : DataW.trod enc Try.prog W 0 (fun _ => true) true fuel 28 cs = some x) :
    ∃ e : Ent, cs = e.list.tail ∧ ArgIn W e := by
  obtain ⟨ys, n, _, _, hlen, hyl, hf⟩ := DataW.trod_struct Try.underlying28 h
  have hC : Try.prog.cellsOf 28 = 8 := by kernel_rfl
  rw [hC] at hlen
  have c1 : Try.prog.cellsOf 9 = 1 := by kernel_rfl
  have c3 : Try.prog.cellsOf 3 = 1 := by kernel_rfl
  have c4 : Try.prog.cellsOf 4 = 1 := by kernel_rfl
  have c5 : Try.prog.cellsOf 25 = 1 := by kernel_rfl
  have c6 : Try.prog.cellsOf 26 = 1 := by kernel_rfl
  match cs, hlen with
  | [v0, v1, v2, v3, v4, v5, v6, v7], _ =>
    match ys, hyl with
    | [y0, y1, y2, y3, y4, y5, y6, y7], _ =>
      have h0 : DataW.trod enc Try.prog W 0 (fun _ => true) true n 3 [v0] = some y0 := by simpa [c1, c3, c4, c5, c6] using hf 0 _ rfl
      have h1 : DataW.trod enc Try.prog W 0 (fun _ => true) true n 3 [v1] = some y1 := by simpa [c1, c3, c4, c5, c6] using hf 1 _ rfl
      have h2 : DataW.trod enc Try.prog W 0 (fun _ => true) true n 25 [v2] = some y2 := by simpa [c1, c3, c4, c5, c6] using hf 2 _ rfl
      have h3 : DataW.trod enc Try.prog W 0 (fun _ => true) true n 4 [v3] = some y3 := by simpa [c1, c3, c4, c5, c6] using hf 3 _ rfl
      have h4 : DataW.trod enc Try.prog W 0 (fun _ => true) true n 9 [v4] = some y4 := by simpa [c1, c3, c4, c5, c6] using hf 4 _ rfl
      have h5 : DataW.trod enc Try.prog W 0 (fun _ => true) true n 26 [v5] = some y5 := by simpa [c1, c3, c4, c5, c6] using hf 5 _ rfl
      have h6 : DataW.trod enc Try.prog W 0 (fun _ => true) true n 9 [v6] = some y6 := by simpa [c1, c3, c4, c5, c6] using hf 6 _ rfl
      have h7 : DataW.trod enc Try.prog W 0 (fun _ => true) true n 4 [v7] = some y7 := by simpa [c1, c3, c4, c5, c6] using hf 7 _ rfl
      obtain ⟨c, rfl, hwf⟩ := one_int_wf Try.underlying3 h0
      obtain ⟨s, rfl, _⟩ := one_int_wf Try.underlying3 h1
      obtain ⟨e, rfl, _⟩ := one_int_wf Try.underlying25 h2
      obtain ⟨fd, rfl⟩ := one_bool Try.underlying4 h3
      obtain ⟨v, rfl, _⟩ := one_text Try.underlying9 h4
      obtain ⟨p, ls, k, e5, h9, h10⟩ := recs_of h5
      obtain ⟨nx, rfl, _⟩ := one_text Try.underlying9 h6
      obtain ⟨mr, rfl⟩ := one_bool Try.underlying4 h7
      injection e5 with e5 _
      subst e5
      exact ⟨⟨s, ⟨c, s, e, fd, v, ls, nx, mr⟩, p, k⟩, rfl, h9, h10, recs_none h5, hwf, rfl⟩

set_option maxRecDepth 100000 in
/-- an argument that is a list of replies. -/
theorem arg_reps {H : Type} {enc : TypeId × Value → H} {W : World} {b0 : Nat} {v : Value} {d : DataW H} {ps : List MemPlace} (hval : Value.okWide Try.prog W .any b0 31 v) (hd : DataW.Trod enc Try.prog W 0 (fun _ => true) true 31 v d ps) :
    ∃ p X c, v = .slice p X.length c ∧ RowP W p X ∧ (∀ e ∈ X, ArgIn W e) ∧ X.length ≤ 9223372036854775807 := by
  obtain ⟨a0, len, cap, rfl⟩ := okWide_slice Try.underlying31 hval
  obtain ⟨fuel, hf⟩ := hd
  rcases open_slice Try.underlying31 hf with ⟨h, _⟩ | ⟨a, len', cap', m, n, D, Pl, h, _, hl, hm, hmm, hdl, hi⟩
  · simp [Value.cells] at h
    obtain ⟨rfl, rfl, rfl⟩ := h
    exact ⟨none, [], 0, rfl, Or.inl rfl, fun x hx => by simp at hx, by simp⟩
  · simp [Value.cells] at h
    obtain ⟨rfl, rfl, rfl⟩ := h
    simp only [if_true] at hmm
    subst hmm
    unfold maxLen at hm
    have hC : Try.prog.cellsOf 28 = 8 := by kernel_rfl
    have each : ∀ i, i < len → ∃ e : Ent, ArgIn W e ∧ ∀ z, z < 8 → W.cell? ((a.add (i * 8)).add z) = e.list[z + 1]? := fun i hin => by
      obtain ⟨cs', hcs, ht⟩ := hi i (by omega)
      rw [hC] at hcs
      obtain ⟨e, rfl, he⟩ := rep_of2 ht
      obtain ⟨_, _, hat⟩ := World.cells?_some hcs
      refine ⟨e, he, fun z hz => ?_⟩
      rw [hat z hz, List.getElem?_tail]
    have pick : ∃ f : Nat → Ent, ∀ i, i < len → ArgIn W (f i) ∧ ∀ z, z < 8 → W.cell? ((a.add (i * 8)).add z) = (f i).list[z + 1]? :=
      ⟨fun i => if h : i < len then Classical.choose (each i h) else default, fun i h => by simp only [dif_pos h]; exact Classical.choose_spec (each i h)⟩
    obtain ⟨f, hf2⟩ := pick
    have hget : ∀ j, j < len → ((List.range len).map f).getD j default = f j := fun j hj => by simp [List.getD, hj]
    refine ⟨some a, (List.range len).map f, m, by simp, ?_, fun e he => ?_, by simp; omega⟩
    · by_cases h0 : len = 0
      · exact Or.inl (by subst h0; rfl)
      · have hc0 := (hf2 0 (by omega)).2 0 (by omega)
        obtain ⟨b, off, spot⟩ := a
        have hc0' : W.cell? ⟨b, off, spot⟩ = some (.int .i64 (f 0).r.c) := by
          have e : ((⟨b, off, spot⟩ : Addr).add (0 * 8)).add 0 = ⟨b, off, spot⟩ := by simp [Addr.add]
          rw [e] at hc0
          rw [hc0]; rfl
        have hsp : spot = none := Go.Proofs.cell_spot hc0'
        subst hsp
        refine Or.inr ⟨b, off, rfl, World.block_lt_of_cell? W _ hc0', fun j hj z hz => ?_⟩
        have hj' : j < len := by simpa using hj
        rw [hget j hj']
        have h3 := (hf2 j hj').2 z hz
        simp only [Addr.add_lit] at h3
        exact h3
    · obtain ⟨i, hi', rfl⟩ := List.mem_map.1 he
      exact (hf2 i (by simpa using hi')).1
end Go.Proofs.Ytbhojddakmgdmaa
namespace Go.Gz
open Go.RowKit Go.ChangeShapes Go.WideShapes Go.Deep

theorem rowk_of {H α : Type} [Inhabited α] (K : SK α) {enc : TypeId × Value → H} {P : Program} {W : World} {t T : TypeId} {fuel : Nat} {cs : List Value} {x : DataW H × List MemPlace} (hT : P.underlying T = some (.slice t)) (hC : P.cellsOf t = K.n)
    (hel : ∀ (fuel : Nat) (cs : List Value) (x : DataW H × List MemPlace), DataW.trod enc P W 0 (fun _ => true) true fuel t cs = some x → ∃ r, cs = K.cf r)
    (h : DataW.trod enc P W 0 (fun _ => true) true fuel T cs = some x) : ∃ p L c, cs = [.slice p L.length c] ∧ RowK K W p L ∧ L.length ≤ 9223372036854775807 ∧ (p = none → c = 0) := by
  rcases open_slice hT h with ⟨h, _⟩ | ⟨a, len, cap, m, n, D, Pl, h, _, hl, hm, hmm, _, hi⟩
  · exact ⟨none, [], 0, h, Or.inl rfl, by simp, fun _ => rfl⟩
  · subst h
    simp only [if_true] at hmm
    subst hmm
    unfold maxLen at hm
    have each : ∀ i, i < len → ∃ r : α, (∀ z, z < K.n → W.cell? ((a.add (i * K.n)).add z) = (K.cf r)[z]?) := fun i hin => by
      obtain ⟨cs', hcs, ht⟩ := hi i (by omega)
      rw [hC] at hcs
      obtain ⟨r, rfl⟩ := hel _ _ _ ht
      obtain ⟨_, _, hat⟩ := World.cells?_some hcs
      exact ⟨r, hat⟩
    have pick : ∃ f : Nat → α, ∀ i, i < len → (∀ z, z < K.n → W.cell? ((a.add (i * K.n)).add z) = (K.cf (f i))[z]?) :=
      ⟨fun i => if h : i < len then Classical.choose (each i h) else default, fun i h => by simp only [dif_pos h]; exact Classical.choose_spec (each i h)⟩
    obtain ⟨f, hf2⟩ := pick
    have hget : ∀ j, j < len → ((List.range len).map f).getD j default = f j := fun j hj => by simp [List.getD, hj]
    refine ⟨some a, (List.range len).map f, m, by simp, ?_, by simp; omega, fun h => by cases h⟩
    by_cases h0 : len = 0
    · exact Or.inl (by subst h0; rfl)
    · have hc0 := hf2 0 (by omega) 0 K.pos
      obtain ⟨b, off, spot⟩ := a
      obtain ⟨v0, hv0⟩ : ∃ v, (K.cf (f 0))[0]? = some v := ⟨_, List.getElem?_eq_getElem (by rw [K.len]; exact K.pos)⟩
      rw [hv0] at hc0
      have hc0' : W.cell? ⟨b, off + 0 * K.n + 0, spot⟩ = some v0 := by
        have e : ((⟨b, off, spot⟩ : Addr).add (0 * K.n)).add 0 = ⟨b, off, spot⟩ := by simp [Addr.add]
        rw [e] at hc0
        simpa using hc0
      have hsp : spot = none := Go.Proofs.cell_spot hc0'
      subst hsp
      refine Or.inr ⟨b, off, rfl, World.block_lt_of_cell? W _ hc0', fun j hj i hi' => ?_⟩
      have hj' : j < len := by simpa using hj
      have hz := hf2 j hj' i hi'
      rw [hget j hj']
      simp only [Addr.add_lit] at hz
      exact hz
end Go.Gz
