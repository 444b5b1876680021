/-
  An argument that is a table, opened.
-/
import Derived.Test.YticjgmhgpeihjaaGreatDoorLoArgs
import Derived.Test.YticjgmhgpeihjaaGreatDoorWeRows
namespace Go.Proofs.YticjgmhgpeihjaaGreatDoor
open Go.RowKit Go.ChangeShapes Go.WideShapes Go.Gz Go.Deep

set_option maxRecDepth 100000 in
/-- a row of lores as it is read. -/
theorem lores_of {H : Type} {enc : TypeId × Value → H} {W : World} {fuel : Nat} {cs : List Value} {x : DataW H × List MemPlace} (hf : DataW.trod enc Tryz.prog W 0 (fun _ => true) true fuel 22 cs = some x) :
    ∃ p ls c, cs = [.slice p ls.length c] ∧ Lores W p ls ∧ ls.length ≤ 9223372036854775807 ∧ ∀ x ∈ ls, x.to.length ≤ 9223372036854775807 := by
  rcases open_slice Tryz.underlying22 hf with ⟨h, _⟩ | ⟨a, len, cap, m, n, D, Pl, h, _, hl, hm, hmm, _, hi⟩
  · exact ⟨none, [], 0, h, Or.inl rfl, by simp, fun x hx => by simp at hx⟩
  · simp only [if_true] at hmm
    subst hmm
    unfold maxLen at hm
    have hC : Tryz.prog.cellsOf 49 = 3 := by kernel_rfl
    have each : ∀ i, i < len → ∃ r : LR, (∀ z, z < 3 → W.cell? ((a.add (i * 3)).add z) = [Value.int .i32 r.r, .int .i64 r.c, .slice r.p r.to.length r.cap][z]?) ∧ ToAt W r ∧ r.to.length ≤ 9223372036854775807 := fun i hin => by
      obtain ⟨cs', hcs, ht⟩ := hi i (by omega)
      rw [hC] at hcs
      obtain ⟨r, rfl, h1, h2⟩ := lr_of ht
      obtain ⟨_, _, hat⟩ := World.cells?_some hcs
      exact ⟨r, hat, h1, h2⟩
    have pick : ∃ f : Nat → LR, ∀ i, i < len → (∀ z, z < 3 → W.cell? ((a.add (i * 3)).add z) = [Value.int .i32 (f i).r, .int .i64 (f i).c, .slice (f i).p (f i).to.length (f i).cap][z]?) ∧ ToAt W (f i) ∧ (f i).to.length ≤ 9223372036854775807 :=
      ⟨fun i => if h : i < len then Classical.choose (each i h) else default, fun i h => by simp only [dif_pos h]; exact Classical.choose_spec (each i h)⟩
    obtain ⟨f, hf2⟩ := pick
    have hget : ∀ j, j < len → ((List.range len).map f)[j]! = f j := fun j hj => by
      rw [getElem!_pos _ j (by simpa using hj)]; simp
    refine ⟨some a, (List.range len).map f, m, by simp [h], ?_, by simp; omega, fun x hx => ?_⟩
    · by_cases h0 : len = 0
      · exact Or.inl (by subst h0; rfl)
      · have hc0 := (hf2 0 (by omega)).1 0 (by omega)
        obtain ⟨b, off, spot⟩ := a
        have hc0' : W.cell? ⟨b, off + 0 * 3 + 0, spot⟩ = some (.int .i32 (f 0).r) := by
          have e : ((⟨b, off, spot⟩ : Addr).add (0 * 3)).add 0 = ⟨b, off, spot⟩ := by simp [Addr.add]
          rw [e] at hc0
          simpa using hc0
        have hsp : spot = none := Go.Proofs.cell_spot hc0'
        subst hsp
        refine Or.inr ⟨b, off, rfl, World.block_lt_of_cell? W _ hc0', fun j hj => ?_⟩
        have hj' : j < len := by simpa using hj
        obtain ⟨hz, h1, _⟩ := hf2 j hj'
        rw [hget j hj']
        have z0 := hz 0 (by omega)
        have z1 := hz 1 (by omega)
        have z2 := hz 2 (by omega)
        simp only [Addr.add_lit] at z0 z1 z2
        exact ⟨z0, z1, z2, h1⟩
    · obtain ⟨i, hi', rfl⟩ := List.mem_map.1 hx
      exact (hf2 i (List.mem_range.1 hi')).2.2

set_option maxRecDepth 100000 in
/-- an element as it is read. -/
theorem el_of {H : Type} {enc : TypeId × Value → H} {W : World} {fuel : Nat} {cs : List Value} {x : DataW H × List MemPlace} (h : DataW.trod enc Tryz.prog W 0 (fun _ => true) true fuel 44 cs = some x) :
    ∃ r : EL, cs = [.int .i64 r.p, .int .i64 r.s, .int .i64 r.t] := by
  obtain ⟨ys, n, _, _, hlen, hyl, hf⟩ := DataW.trod_struct Tryz.underlying44 h
  have hC : Tryz.prog.cellsOf 44 = 3 := by kernel_rfl
  rw [hC] at hlen
  have c64 : Tryz.prog.cellsOf 3 = 1 := by kernel_rfl
  match cs, hlen with
  | [v0, v1, v2], _ =>
    match ys, hyl with
    | [y0, y1, y2], _ =>
      have h0 : DataW.trod enc Tryz.prog W 0 (fun _ => true) true n 3 [v0] = some y0 := by simpa [c64] using hf 0 _ rfl
      have h1 : DataW.trod enc Tryz.prog W 0 (fun _ => true) true n 3 [v1] = some y1 := by simpa [c64] using hf 1 _ rfl
      have h2 : DataW.trod enc Tryz.prog W 0 (fun _ => true) true n 3 [v2] = some y2 := by simpa [c64] using hf 2 _ rfl
      obtain ⟨p, rfl⟩ := one_int Tryz.underlying3 h0
      obtain ⟨s, rfl⟩ := one_int Tryz.underlying3 h1
      obtain ⟨t, rfl⟩ := one_int Tryz.underlying3 h2
      exact ⟨⟨p, s, t⟩, rfl⟩

set_option maxRecDepth 100000 in
/-- a row of elements as it is read. -/
theorem els_of {H : Type} {enc : TypeId × Value → H} {W : World} {fuel : Nat} {cs : List Value} {x : DataW H × List MemPlace} (hf : DataW.trod enc Tryz.prog W 0 (fun _ => true) true fuel 45 cs = some x) :
    ∃ p xs c, cs = [.slice p xs.length c] ∧ (Els W p xs ∧ xs.length ≤ c ∧ (p = none → c = 0)) ∧ xs.length ≤ 9223372036854775807 := by
  rcases open_slice Tryz.underlying45 hf with ⟨h, _⟩ | ⟨a, len, cap, m, n, D, Pl, h, _, hl, hm, hmm, _, hi⟩
  · exact ⟨none, [], 0, h, ⟨Or.inl rfl, Nat.le_refl _, fun _ => rfl⟩, by simp⟩
  · simp only [if_true] at hmm
    subst hmm
    unfold maxLen at hm
    have hC : Tryz.prog.cellsOf 44 = 3 := by kernel_rfl
    have each : ∀ i, i < len → ∃ r : EL, ∀ z, z < 3 → W.cell? ((a.add (i * 3)).add z) = [Value.int .i64 r.p, .int .i64 r.s, .int .i64 r.t][z]? := fun i hin => by
      obtain ⟨cs', hcs, ht⟩ := hi i (by omega)
      rw [hC] at hcs
      obtain ⟨r, rfl⟩ := el_of ht
      obtain ⟨_, _, hat⟩ := World.cells?_some hcs
      exact ⟨r, hat⟩
    have pick : ∃ f : Nat → EL, ∀ i, i < len → ∀ z, z < 3 → W.cell? ((a.add (i * 3)).add z) = [Value.int .i64 (f i).p, .int .i64 (f i).s, .int .i64 (f i).t][z]? :=
      ⟨fun i => if h : i < len then Classical.choose (each i h) else default, fun i h => by simp only [dif_pos h]; exact Classical.choose_spec (each i h)⟩
    obtain ⟨f, hf2⟩ := pick
    have hget : ∀ j, j < len → ((List.range len).map f)[j]! = f j := fun j hj => by
      rw [getElem!_pos _ j (by simpa using hj)]; simp
    refine ⟨some a, (List.range len).map f, m, by simp [h], ⟨?_, by simpa using hl, fun h => by cases h⟩, by simp; omega⟩
    by_cases h0 : len = 0
    · exact Or.inl (by subst h0; rfl)
    · have hc0 := hf2 0 (by omega) 0 (by omega)
      obtain ⟨b, off, spot⟩ := a
      have hc0' : W.cell? ⟨b, off + 0 * 3 + 0, spot⟩ = some (.int .i64 (f 0).p) := by
        have e : ((⟨b, off, spot⟩ : Addr).add (0 * 3)).add 0 = ⟨b, off, spot⟩ := by simp [Addr.add]
        rw [e] at hc0
        simpa using hc0
      have hsp : spot = none := Go.Proofs.cell_spot hc0'
      subst hsp
      refine Or.inr ⟨b, off, rfl, World.block_lt_of_cell? W _ hc0', fun j hj => ?_⟩
      have hj' : j < len := by simpa using hj
      have hz := hf2 j hj'
      rw [hget j hj']
      have z0 := hz 0 (by omega)
      have z1 := hz 1 (by omega)
      have z2 := hz 2 (by omega)
      simp only [Addr.add_lit] at z0 z1 z2
      exact ⟨z0, z1, z2⟩

set_option maxRecDepth 100000 in
/-- a row of a table as it is read. -/
theorem wr_of {H : Type} {enc : TypeId × Value → H} {W : World} {fuel : Nat} {cs : List Value} {x : DataW H × List MemPlace} (h : DataW.trod enc Tryz.prog W 0 (fun _ => true) true fuel 47 cs = some x) :
    ∃ r : WR, cs = [.slice r.op r.of.length r.oc, .slice r.tp r.to.length r.tc] ∧ RowAt W r ∧ r.of.length ≤ 9223372036854775807 ∧ r.to.length ≤ 9223372036854775807 := by
  obtain ⟨ys, n, _, _, hlen, hyl, hf⟩ := DataW.trod_struct Tryz.underlying47 h
  have hC : Tryz.prog.cellsOf 47 = 2 := by kernel_rfl
  rw [hC] at hlen
  have c32 : Tryz.prog.cellsOf 21 = 1 := by kernel_rfl
  have cs1 : Tryz.prog.cellsOf 36 = 1 := by kernel_rfl
  have cs2 : Tryz.prog.cellsOf 45 = 1 := by kernel_rfl
  match cs, hlen with
  | [v0, v1], _ =>
    match ys, hyl with
    | [y0, y1], _ =>
      have h0 : DataW.trod enc Tryz.prog W 0 (fun _ => true) true n 36 [v0] = some y0 := by simpa [cs1] using hf 0 _ rfl
      have h1 : DataW.trod enc Tryz.prog W 0 (fun _ => true) true n 45 [v1] = some y1 := by simpa [cs2] using hf 1 _ rfl
      obtain ⟨p, of, oc, rfl, hr, hl, hn, hb⟩ := to_of Tryz.underlying36 Tryz.underlying21 c32 h0
      obtain ⟨q, tz, tc, hv, he, hb2⟩ := els_of h1
      injection hv with hv _
      subst hv
      exact ⟨⟨p, of, oc, q, tz, tc⟩, rfl, ⟨⟨hr, hl, hn⟩, he⟩, hb, hb2⟩

set_option maxRecDepth 100000 in
/-- the rows of a table as they are read. -/
theorem wrs_of {H : Type} {enc : TypeId × Value → H} {W : World} {fuel : Nat} {cs : List Value} {x : DataW H × List MemPlace} (hf : DataW.trod enc Tryz.prog W 0 (fun _ => true) true fuel 23 cs = some x) :
    ∃ p rs c, cs = [.slice p rs.length c] ∧ Wrs W p rs ∧ rs.length ≤ 9223372036854775807 ∧ ∀ x ∈ rs, x.of.length ≤ 9223372036854775807 ∧ x.to.length ≤ 9223372036854775807 := by
  rcases open_slice Tryz.underlying23 hf with ⟨h, _⟩ | ⟨a, len, cap, m, n, D, Pl, h, _, hl, hm, hmm, _, hi⟩
  · exact ⟨none, [], 0, h, Or.inl rfl, by simp, fun x hx => by simp at hx⟩
  · simp only [if_true] at hmm
    subst hmm
    unfold maxLen at hm
    have hC : Tryz.prog.cellsOf 47 = 2 := by kernel_rfl
    have each : ∀ i, i < len → ∃ r : WR, (∀ z, z < 2 → W.cell? ((a.add (i * 2)).add z) = [Value.slice r.op r.of.length r.oc, .slice r.tp r.to.length r.tc][z]?) ∧ RowAt W r ∧ r.of.length ≤ 9223372036854775807 ∧ r.to.length ≤ 9223372036854775807 := fun i hin => by
      obtain ⟨cs', hcs, ht⟩ := hi i (by omega)
      rw [hC] at hcs
      obtain ⟨r, rfl, h1, h2⟩ := wr_of ht
      obtain ⟨_, _, hat⟩ := World.cells?_some hcs
      exact ⟨r, hat, h1, h2⟩
    have pick : ∃ f : Nat → WR, ∀ i, i < len → (∀ z, z < 2 → W.cell? ((a.add (i * 2)).add z) = [Value.slice (f i).op (f i).of.length (f i).oc, .slice (f i).tp (f i).to.length (f i).tc][z]?) ∧ RowAt W (f i) ∧ (f i).of.length ≤ 9223372036854775807 ∧ (f i).to.length ≤ 9223372036854775807 :=
      ⟨fun i => if h : i < len then Classical.choose (each i h) else default, fun i h => by simp only [dif_pos h]; exact Classical.choose_spec (each i h)⟩
    obtain ⟨f, hf2⟩ := pick
    have hget : ∀ j, j < len → ((List.range len).map f)[j]! = f j := fun j hj => by
      rw [getElem!_pos _ j (by simpa using hj)]; simp
    refine ⟨some a, (List.range len).map f, m, by simp [h], ?_, by simp; omega, fun x hx => ?_⟩
    · by_cases h0 : len = 0
      · exact Or.inl (by subst h0; rfl)
      · have hc0 := (hf2 0 (by omega)).1 0 (by omega)
        obtain ⟨b, off, spot⟩ := a
        have hc0' : W.cell? ⟨b, off + 0 * 2 + 0, spot⟩ = some (.slice (f 0).op (f 0).of.length (f 0).oc) := by
          have e : ((⟨b, off, spot⟩ : Addr).add (0 * 2)).add 0 = ⟨b, off, spot⟩ := by simp [Addr.add]
          rw [e] at hc0
          simpa using hc0
        have hsp : spot = none := Go.Proofs.cell_spot hc0'
        subst hsp
        refine Or.inr ⟨b, off, rfl, World.block_lt_of_cell? W _ hc0', fun j hj => ?_⟩
        have hj' : j < len := by simpa using hj
        obtain ⟨hz, h1, _⟩ := hf2 j hj'
        rw [hget j hj']
        have z0 := hz 0 (by omega)
        have z1 := hz 1 (by omega)
        simp only [Addr.add_lit] at z0 z1
        exact ⟨z0, z1, h1⟩
    · obtain ⟨i, hi', rfl⟩ := List.mem_map.1 hx
      exact (hf2 i (List.mem_range.1 hi')).2.2

theorem one_bool {H : Type} {enc : TypeId × Value → H} {P : Program} {W : World} {t : TypeId} {fuel : Nat} {v : Value} {x : DataW H × List MemPlace} (ht : P.underlying t = some .bool) (h : DataW.trod enc P W 0 (fun _ => true) true fuel t [v] = some x) : ∃ b : Bool, v = .bool b := by
  cases fuel with
  | zero => simp [DataW.trod] at h
  | succ n =>
    unfold DataW.trod at h
    rw [ht] at h
    split at h <;> simp_all

/-- what a table's argument says of itself. -/
structure TabIn (W : World) (T : TB) : Prop where
  lore : Lores W T.lp T.ls
  rows : Wrs W T.rp T.rs
  bl : T.ls.length ≤ 9223372036854775807
  bx : ∀ x ∈ T.ls, x.to.length ≤ 9223372036854775807
  br : T.rs.length ≤ 9223372036854775807
  by_ : ∀ x ∈ T.rs, x.of.length ≤ 9223372036854775807 ∧ x.to.length ≤ 9223372036854775807

set_option maxRecDepth 100000 in
/-- an argument that is a table. -/
theorem arg_table {H : Type} {enc : TypeId × Value → H} {W : World} {b0 : Nat} {v : Value} {d : DataW H} {ps : List MemPlace} (hval : Value.okWide Tryz.prog W .any b0 25 v) (hd : DataW.Trod enc Tryz.prog W 0 (fun _ => true) true 25 v d ps) :
    ∃ T : TB, v = .agg #[.slice T.lp T.ls.length T.lc, .slice T.rp T.rs.length T.rc, .int .i64 T.top, .bool T.sh] ∧ TabIn W T := by
  obtain ⟨cs, rfl, hsz⟩ := okWide_struct Tryz.underlying25 hval
  obtain ⟨fuel, hf0⟩ := hd
  obtain ⟨ys, n, _, _, hlen, hyl, hf⟩ := DataW.trod_struct Tryz.underlying25 hf0
  have hC : Tryz.prog.cellsOf 25 = 4 := by kernel_rfl
  rw [hC] at hlen hsz
  have c1 : Tryz.prog.cellsOf 22 = 1 := by kernel_rfl
  have c2 : Tryz.prog.cellsOf 23 = 1 := by kernel_rfl
  have c3 : Tryz.prog.cellsOf 3 = 1 := by kernel_rfl
  have c4 : Tryz.prog.cellsOf 4 = 1 := by kernel_rfl
  obtain ⟨cl⟩ := cs
  have hcl : (Value.agg ⟨cl⟩).cells.toList = cl := rfl
  rw [hcl] at hf
  match cl, hsz with
  | [v0, v1, v2, v3], _ =>
    match ys, hyl with
    | [y0, y1, y2, y3], _ =>
      have h0 : DataW.trod enc Tryz.prog W 0 (fun _ => true) true n 22 [v0] = some y0 := by simpa [c1] using hf 0 _ rfl
      have h1 : DataW.trod enc Tryz.prog W 0 (fun _ => true) true n 23 [v1] = some y1 := by simpa [c2] using hf 1 _ rfl
      have h2 : DataW.trod enc Tryz.prog W 0 (fun _ => true) true n 3 [v2] = some y2 := by simpa [c3] using hf 2 _ rfl
      have h3 : DataW.trod enc Tryz.prog W 0 (fun _ => true) true n 4 [v3] = some y3 := by simpa [c4] using hf 3 _ rfl
      obtain ⟨lp, ls, lc, e0, a1, a2, a3⟩ := lores_of h0
      obtain ⟨rp, rs, rc, e1, a4, a5, a6⟩ := wrs_of h1
      obtain ⟨top, rfl⟩ := one_int Tryz.underlying3 h2
      obtain ⟨sh, rfl⟩ := one_bool Tryz.underlying4 h3
      injection e0 with e0 _
      injection e1 with e1 _
      subst e0
      subst e1
      exact ⟨⟨lp, ls, lc, rp, rs, rc, top, sh⟩, rfl, ⟨a1, a4, a2, a3, a5, a6⟩⟩
end Go.Proofs.YticjgmhgpeihjaaGreatDoor
