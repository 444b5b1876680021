/-
  One row of integers of the call's own that grows, beside other blocks that stay; an argument of bytes.
-/
import Derived.Test.YtcocmmndonlhkaaDoorLaw2
import Derived.Maps.AppendAt
namespace Go.Proofs.YtcocmmndonlhkaaDoor
open Go.RowKit Go.ChangeShapes Go.WideShapes

/-- since w0 only block x of it has turned, and new ones: there the slice v holds xs. -/
structure Grow1 (e : TypeId) (k : IntKind) (w0 : World) (x : Nat) (wr : World) (v : Value) (xs : List Int) : Prop where
  own : Own wr 0 e k v xs
  keep : w0.grownBy wr (some x)
  at_ : ∀ g, v.ownBlock = some g → g = x ∨ w0.heap.size ≤ g

theorem Grow1.alloc {e : TypeId} {k : IntKind} {w0 wr : World} {x : Nat} {v : Value} {xs : List Int} (h : Grow1 e k w0 x wr v xs) (o : Obj) : Grow1 e k w0 x (wr.alloc o) v xs :=
  ⟨h.own.alloc o, ⟨h.keep.os, h.keep.tape, h.keep.output, Nat.le_trans h.keep.size (by simp), fun i hi hne => (Below.heap_alloc wr o i (Nat.lt_of_lt_of_le hi h.keep.size)).trans (h.keep.block i hi hne)⟩, h.at_⟩
theorem Grow1.drewN {e : TypeId} {k : IntKind} {w0 wr : World} {x : Nat} {v : Value} {xs : List Int} (h : Grow1 e k w0 x wr v xs) (n : Nat) : Grow1 e k w0 x (wr.drewN n) v xs :=
  ⟨h.own, ⟨h.keep.os, h.keep.tape, h.keep.output, h.keep.size, h.keep.block⟩, h.at_⟩
theorem Grow1.below {e : TypeId} {k : IntKind} {w0 wr : World} {x B : Nat} {v : Value} {xs : List Int} (h : Grow1 e k w0 x wr v xs) {W : World} (hb : Below B W w0) (hx : B ≤ x) (hB : B ≤ W.heap.size) : Below B W wr :=
  ⟨h.keep.os.trans hb.os, h.keep.tape.trans hb.tape, h.keep.output.trans hb.output, Nat.le_trans hb.size h.keep.size, fun i hi => (h.keep.block i (Nat.lt_of_lt_of_le hi (Nat.le_trans hB hb.size)) (by intro hc; injection hc with hc; omega)).trans (hb.block i hi)⟩
theorem Grow1.cell {e : TypeId} {k : IntKind} {w0 wr : World} {x : Nat} {v : Value} {xs : List Int} (h : Grow1 e k w0 x wr v xs) {b o : Nat} {u : Value} (_hlt : b < w0.heap.size) (hne : b ≠ x) (hc : w0.cell? ⟨b, o, none⟩ = some u) : wr.cell? ⟨b, o, none⟩ = some u :=
  h.keep.cell hc (by intro hh; injection hh with hh; exact hne hh)
theorem Grow1.row {e : TypeId} {k k' : IntKind} {w0 wr : World} {x : Nat} {v : Value} {xs ys : List Int} {p : Option Addr} (h : Grow1 e k w0 x wr v xs) (hr : Row w0 k' p ys) (hne : ∀ b o, p = some ⟨b, o, none⟩ → b ≠ x) : Row wr k' p ys := by
  rcases hr with hr | ⟨b, off, hp, hlt, hc⟩
  · exact Or.inl hr
  · exact Or.inr ⟨b, off, hp, Nat.lt_of_lt_of_le hlt h.keep.size, fun j hj => h.cell hlt (hne b off hp) (hc j hj)⟩

/-- append of one element onto it: the law for the walk. -/
theorem wpList_grow1 {P : Program} {w : World} {ops : Array Oper} {rest : List Oper} {o : Oper} {a : Act} {Q : Exit → Act → World → Prop}
    (hg : o.guard = none) (s x : Operand) (t : TypeId) (hop : o.op = Op.call { callee := Callee.builtin Builtin.append, args := #[s, x], argTypes := #[t, t] })
    (e : TypeId) (k : IntKind) (bytes : Nat) (h1 : P.underlying t = some (.slice e)) (hinfo : (P.info? e).map (fun i => (i.zero, i.size, i.bytes)) = some (some (.int k 0), 1, bytes)) (hby : bytes ≤ 8)
    (w0 : World) (b : Nat) (v : Value) (xs : List Int) (hs : a.eval s = v) (hown : Grow1 e k w0 b w v xs)
    (G m c : Nat) (ys : List Int) (hx : a.eval x = .slice (some ⟨G, 0, none⟩) m c) (hn : ys.length = m) (hc : ∀ j, j < m → w.cell? ⟨G, j, none⟩ = some (.int k (ys.getD j 0)))
    (hlen : xs.length + m ≤ 1000000)
    (hK : ∀ v' w', Grow1 e k w0 b w' v' (xs ++ ys) → wpList P ops Q rest (a.put o.dst v') w') :
    wpList P ops Q (o :: rest) a w := by
  obtain ⟨i0, hi, hz0, hz1, hz2⟩ := info_parts hinfo
  subst hn
  refine wpList_append_own_at w hg s x t hop 0 e i0 (.int k 0) 1 bytes h1 hi hz0 hz1 hz2 rfl (by decide) v xs.length (xs.map (Value.int k)) hs hown.own ⟨G, 0, none⟩ ys.length c (ys.map (Value.int k)) hx (by simp) ?_ ?_ (by unfold maxLen; omega) ?_ (Nat.zero_le _) ?_
  · intro j u hj
    obtain ⟨hj', rfl⟩ := List.getElem?_eq_some_iff.1 hj
    simp only [List.length_map] at hj'
    rw [Addr.add_lit, Nat.zero_add, hc j hj']
    simp [List.getD, hj']
  · intro u hu
    obtain ⟨y, _, rfl⟩ := List.mem_map.1 hu
    rfl
  · have : (xs.length + ys.length) * bytes ≤ (xs.length + ys.length) * 8 := Nat.mul_le_mul_left _ hby
    omega
  · intro v' w' ho hgr _ hat
    refine hK v' w' ⟨?_, ⟨hgr.os.trans hown.keep.os, hgr.tape.trans hown.keep.tape, hgr.output.trans hown.keep.output, Nat.le_trans hown.keep.size hgr.size, fun i hi hne => ?_⟩, fun g hg' => ?_⟩
    · unfold Own
      rw [List.length_append, List.map_append]
      exact ho
    · refine (hgr.block i (Nat.lt_of_lt_of_le hi hown.keep.size) fun hh => ?_).trans (hown.keep.block i hi hne)
      rcases hown.at_ i hh.symm with h | h
      · exact hne (by rw [h])
      · omega
    · rcases hat with h | h
      · exact hown.at_ g (h ▸ hg')
      · rw [h] at hg'
        injection hg' with hg'
        exact Or.inr (hg' ▸ hown.keep.size)

theorem own_lit (w : World) (b : Nat) (e : TypeId) (k : IntKind) (xs : List Int) (h : w.heap[b]? = some (.cells (xs.map (Value.int k)).toArray e (0, 0))) (hl : xs.length ≤ 1000000) : Own w 0 e k (.slice (some ⟨b, 0, none⟩) xs.length xs.length) xs :=
  ⟨by simp, Or.inr ⟨b, xs.length, (xs.map (Value.int k)).toArray, rfl, Nat.zero_le _, h, Nat.le_refl _, by unfold maxLen; omega, by simp, by simp only [Nat.mul_one]; exact List.take_of_length_le (by simp)⟩⟩
theorem Grow1.start (w : World) (b : Nat) (e : TypeId) (k : IntKind) (xs : List Int) (h : w.heap[b]? = some (.cells (xs.map (Value.int k)).toArray e (0, 0))) (hl : xs.length ≤ 1000000) : Grow1 e k w b w (.slice (some ⟨b, 0, none⟩) xs.length xs.length) xs :=
  ⟨own_lit w b e k xs h hl, World.grownBy.refl _ _, fun g hg => Or.inl (by simpa [Value.ownBlock] using hg.symm)⟩

/-- an argument that is a slice of bytes. -/
theorem arg_u8s {H : Type} {enc : TypeId × Value → H} {P : Program} {W : World} {b0 : Nat} {t e : TypeId} {v : Value} {d : DataW H} {ps : List MemPlace} (ht : P.underlying t = some (.slice e)) (he : P.underlying e = some (.int .u8)) (hc : P.cellsOf e = 1)
    (hval : Value.okWide P W .any b0 t v) (hd : DataW.Trod enc P W 0 (fun _ => true) true t v d ps) :
    ∃ p xs c, v = .slice p xs.length c ∧ Row W .u8 p xs ∧ xs.length ≤ 9223372036854775807 ∧ ∀ n ∈ xs, 0 ≤ n ∧ n ≤ 255 := by
  obtain ⟨a0, len, cap, rfl⟩ := okWide_slice ht hval
  obtain ⟨fuel, hf⟩ := hd
  rcases open_ints ht he hc hf with ⟨h, _⟩ | ⟨a, len', cap', zs, h, _, hl, hm, hz, _, hcell, hw⟩
  · simp [Value.cells] at h
    obtain ⟨rfl, rfl, rfl⟩ := h
    exact ⟨none, [], 0, rfl, Or.inl rfl, by simp, fun n hn => by simp at hn⟩
  · simp [Value.cells] at h
    obtain ⟨rfl, rfl, rfl⟩ := h
    simp only [if_true] at hz
    unfold maxLen at hm
    have hlen : (zs.take len).length = len := by rw [List.length_take]; omega
    refine ⟨some a, zs.take len, cap, by rw [hlen], ?_, by rw [hlen]; omega, fun n hn => ?_⟩
    · by_cases h0 : len = 0
      · exact Or.inl (by subst h0; rfl)
      · have hc0 := hcell 0 (by omega)
        obtain ⟨b, off, spot⟩ := a
        have hsp : spot = none := Go.Proofs.cell_spot (o := off + 0) hc0
        subst hsp
        refine Or.inr ⟨b, off, rfl, World.block_lt_of_cell? W _ hc0, fun j hj => ?_⟩
        rw [hlen] at hj
        have := hcell j (by omega)
        rw [Addr.add_lit] at this
        rw [this]
        simp [List.getD, hj]
    · obtain ⟨h1, h2⟩ := wf_bounds (hw n (List.mem_of_mem_take hn))
      have e1 : IntKind.u8.min = 0 := by decide
      have e2 : IntKind.u8.max = 255 := by decide
      omega
end Go.Proofs.YtcocmmndonlhkaaDoor
