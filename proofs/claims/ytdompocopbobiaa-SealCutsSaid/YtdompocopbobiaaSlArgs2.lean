/-
  Layer seal: an argument of rows of bytes, of a pair of numbers.
-/
import Derived.Test.YtdompocopbobiaaSlArgs
import Derived.OpenShut
namespace Go.Proofs.Ytdompocopbobiaa
open Go.RowKit Go.ChangeShapes Go.WideShapes Go.Gz Go.Deep

structure BR where
  p : Option Addr
  l : List UInt8
  c : Nat
  deriving Inhabited
def BR.v (r : BR) : Value := .slice r.p r.l.length r.c
structure BR.At (W : World) (r : BR) : Prop where
  row : Row W .u8 r.p (nums r.l)
  le : r.l.length ≤ r.c
  nil : r.p = none → r.c = 0
theorem BR.At.below {w w' : World} {r : BR} (h : r.At w) (hb : Below w.heap.size w w') : r.At w' := ⟨h.row.below hb, h.le, h.nil⟩
/-- slice pointer p reads in w as the rows rs. -/
def BRows (w : World) (p : Option Addr) (rs : List BR) : Prop := rs = [] ∨ ∃ b off, p = some ⟨b, off, none⟩ ∧ b < w.heap.size ∧ ∀ j, j < rs.length → w.cell? ⟨b, off + j, none⟩ = some (rs[j]!.v) ∧ rs[j]!.At w
theorem BRows.below {w w' : World} {p : Option Addr} {rs : List BR} (h : BRows w p rs) (hb : Below w.heap.size w w') : BRows w' p rs := by
  rcases h with h | ⟨b, off, hp, hlt, hc⟩
  · exact Or.inl h
  · exact Or.inr ⟨b, off, hp, Nat.lt_of_lt_of_le hlt hb.size, fun j hj => ⟨by rw [hb.cell (p := ⟨b, off + j, none⟩) hlt]; exact (hc j hj).1, (hc j hj).2.below hb⟩⟩
theorem brow_at {w : World} {p : Option Addr} {rs : List BR} (h : BRows w p rs) {j : Nat} (hj : j < rs.length) : ∃ b o, p = some ⟨b, o, none⟩ ∧ b < w.heap.size ∧ w.cell? ⟨b, o + j, none⟩ = some (rs[j]!.v) ∧ rs[j]!.At w := by
  rcases h with h | ⟨b, o, hp, h1, h2⟩
  · rw [h] at hj; simp at hj
  · exact ⟨b, o, hp, h1, h2 j hj⟩

set_option maxRecDepth 100000 in
theorem arg_byterows {H : Type} {enc : TypeId × Value → H} {W : World} {b0 : Nat} {v : Value} {d : DataW H} {ps : List MemPlace} (hval : Value.okWide Try.prog W .any b0 34 v) (hd : DataW.Trod enc Try.prog W 0 (fun _ => true) true 34 v d ps) :
    ∃ p rs c, v = .slice p rs.length c ∧ BRows W p rs ∧ rs.length ≤ 9223372036854775807 ∧ ∀ r ∈ rs, r.l.length ≤ 9223372036854775807 := by
  obtain ⟨a0, len, cap, rfl⟩ := okWide_slice Try.underlying34 hval
  obtain ⟨fuel, hf⟩ := hd
  rcases open_slice Try.underlying34 hf with ⟨h, _⟩ | ⟨a, len', cap', m, n, D, Pl, h, _, hl, hm, hmm, _, hi⟩
  · simp [Value.cells] at h
    obtain ⟨rfl, rfl, rfl⟩ := h
    exact ⟨none, [], 0, rfl, Or.inl rfl, by simp, by simp⟩
  · simp [Value.cells] at h
    obtain ⟨rfl, rfl, rfl⟩ := h
    simp only [if_true] at hmm
    subst hmm
    unfold maxLen at hm
    have hC : Try.prog.cellsOf 22 = 1 := by kernel_rfl
    have hC8 : Try.prog.cellsOf 5 = 1 := by kernel_rfl
    have each : ∀ i, i < len → ∃ r : BR, W.cell? (a.add i) = some r.v ∧ r.At W ∧ r.l.length ≤ 9223372036854775807 := fun i hin => by
      obtain ⟨cs', hcs, htr⟩ := hi i (by omega)
      rw [hC] at hcs
      obtain ⟨p, l, c, rfl, h1, h2, h3, h4⟩ := bytes_of Try.underlying22 Try.underlying5 hC8 htr
      obtain ⟨_, _, hat⟩ := World.cells?_some hcs
      have h5 := hat 0 (by omega)
      have e : (a.add (i * 1)).add 0 = a.add i := by simp [Addr.add]
      rw [e] at h5
      exact ⟨⟨p, l, c⟩, h5, ⟨h1, h2, h3⟩, h4⟩
    have pick : ∃ f : Nat → BR, ∀ i, i < len → W.cell? (a.add i) = some (f i).v ∧ (f i).At W ∧ (f i).l.length ≤ 9223372036854775807 :=
      ⟨fun i => if h : i < len then Classical.choose (each i h) else default, fun i h => by simp only [dif_pos h]; exact Classical.choose_spec (each i h)⟩
    obtain ⟨f, hf2⟩ := pick
    have hget : ∀ j, j < len → ((List.range len).map f)[j]! = f j := fun j hj => by
      rw [getElem!_pos _ j (by simpa using hj)]; simp
    refine ⟨some a, (List.range len).map f, m, by simp, ?_, by simp; omega, fun x hx => ?_⟩
    · by_cases h0 : len = 0
      · exact Or.inl (by subst h0; rfl)
      · have hc0 := (hf2 0 (by omega)).1
        obtain ⟨b, off, spot⟩ := a
        have hsp : spot = none := Go.Proofs.cell_spot (o := off + 0) hc0
        subst hsp
        refine Or.inr ⟨b, off, rfl, World.block_lt_of_cell? W _ hc0, fun j hj => ?_⟩
        have hj' : j < len := by simpa using hj
        rw [hget j hj']
        have h1 := (hf2 j hj').1
        rw [Addr.add_lit] at h1
        exact ⟨h1, (hf2 j hj').2.1⟩
    · obtain ⟨i, hi', rfl⟩ := List.mem_map.1 hx
      exact (hf2 i (List.mem_range.1 hi')).2.2

theorem arg_u16pair {H : Type} {enc : TypeId × Value → H} {W : World} {b0 : Nat} {v : Value} {d : DataW H} {ps : List MemPlace} (hval : Value.okWide Try.prog W .any b0 38 v) (hd : DataW.Trod enc Try.prog W 0 (fun _ => true) true 38 v d ps) :
    ∃ a b : Nat, v = .agg #[.int .u16 a, .int .u16 b] ∧ a < 65536 ∧ b < 65536 := by
  simp only [Value.okWide, Try.underlying38] at hval
  obtain ⟨cs, rfl, h2, _⟩ := hval
  have hC : Try.prog.cellsOf 38 = 2 := by kernel_rfl
  have c1 : Try.prog.cellsOf 37 = 1 := by kernel_rfl
  rw [hC] at h2
  obtain ⟨l⟩ := cs
  match l, h2 with
  | [v0, v1], _ =>
    obtain ⟨fuel, hf⟩ := hd
    obtain ⟨xs, m, _, _, _, hxl, hf2⟩ := DataW.trod_array Try.underlying38 hf
    have hcl : (Value.agg ⟨[v0, v1]⟩).cells.toList = [v0, v1] := rfl
    rw [hcl, c1] at hf2
    match xs, hxl with
    | [y0, y1], _ =>
      have g0 : DataW.trod enc Try.prog W 0 (fun _ => true) true m 37 [v0] = some y0 := by simpa using hf2 0 (by omega)
      have g1 : DataW.trod enc Try.prog W 0 (fun _ => true) true m 37 [v1] = some y1 := by simpa using hf2 1 (by omega)
      obtain ⟨a, ea, _, wa⟩ := DataW.trod_int Try.underlying37 g0
      obtain ⟨b, eb, _, wb⟩ := DataW.trod_int Try.underlying37 g1
      simp at ea eb
      subst ea eb
      obtain ⟨a', ha, rfl⟩ := nat_u16 wa
      obtain ⟨b', hb, rfl⟩ := nat_u16 wb
      exact ⟨a', b', rfl, ha, hb⟩
end Go.Proofs.Ytdompocopbobiaa
