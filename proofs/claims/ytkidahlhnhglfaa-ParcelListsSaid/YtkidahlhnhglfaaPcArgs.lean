/-
  Arguments of layer parcel's laws, opened: an ask, a reply, two replies.
-/
import Derived.Test.YtkidahlhnhglfaaLaw2
import Derived.Test.YtkidahlhnhglfaaPcEnc
import Derived.OpenShut
namespace Go.Proofs.Ytkidahlhnhglfaa
open Go.RowKit Go.ChangeShapes Go.WideShapes Go.Gz Go.Deep

theorem own : ownKnob Try.prog.godebug = none := by kernel_rfl
theorem laidOut : laidOutB Try.prog = true := by kernel_rfl
theorem laid_none (P : Program) (w : World) : laidMet P [] w := ⟨[], rfl, List.nodup_nil, fun b off h => by cases h⟩
theorem nat_u16 {n : Int} (h : (Lit.int .u16 n).wf = true) : ∃ k : Nat, k < 65536 ∧ n = k := by
  obtain ⟨h1, h2⟩ := wf_u16_of h
  exact ⟨n.toNat, by omega, by omega⟩

theorem one_text {H : Type} {enc : TypeId × Value → H} {P : Program} {W : World} {t : TypeId} {fuel : Nat} {v : Value} {x : DataW H × List MemPlace} (ht : P.underlying t = some .string) (h : DataW.trod enc P W 0 (fun _ => true) true fuel t [v] = some x) : ∃ s : List UInt8, v = .string (strB s) ∧ s.length ≤ 9223372036854775807 := by
  have : ∃ s : ByteArray, v = .string s ∧ s.size ≤ 9223372036854775807 := by
    cases fuel with
    | zero => simp [DataW.trod] at h
    | succ n =>
      unfold DataW.trod at h
      rw [ht] at h
      split at h <;> simp_all
      unfold maxLen at h
      exact h.1
  obtain ⟨s, rfl, hs⟩ := this
  refine ⟨s.data.toList, by rw [strB_of], ?_⟩
  rw [← strB_size, strB_of]; exact hs
theorem one_int {H : Type} {enc : TypeId × Value → H} {P : Program} {W : World} {t : TypeId} {k : IntKind} {fuel : Nat} {v : Value} {x : DataW H × List MemPlace} (ht : P.underlying t = some (.int k)) (h : DataW.trod enc P W 0 (fun _ => true) true fuel t [v] = some x) : ∃ n : Int, v = .int k n := by
  cases fuel with
  | zero => simp [DataW.trod] at h
  | succ n =>
    unfold DataW.trod at h
    rw [ht] at h
    split at h <;> simp_all
theorem one_bool {H : Type} {enc : TypeId × Value → H} {P : Program} {W : World} {t : TypeId} {fuel : Nat} {v : Value} {x : DataW H × List MemPlace} (ht : P.underlying t = some .bool) (h : DataW.trod enc P W 0 (fun _ => true) true fuel t [v] = some x) : ∃ b : Bool, v = .bool b := by
  cases fuel with
  | zero => simp [DataW.trod] at h
  | succ n =>
    unfold DataW.trod at h
    rw [ht] at h
    split at h <;> simp_all

set_option maxRecDepth 100000 in
theorem rec_of {H : Type} {enc : TypeId × Value → H} {W : World} {fuel : Nat} {cs : List Value} {x : DataW H × List MemPlace} (h : DataW.trod enc Try.prog W 0 (fun _ => true) true fuel 57 cs = some x) :
    ∃ s : RecL, cs = [.string (strB s.1), .string (strB s.2)] := by
  obtain ⟨ys, n, _, _, hlen, hyl, hf⟩ := DataW.trod_struct Try.underlying57 h
  have hC : Try.prog.cellsOf 57 = 2 := by kernel_rfl
  rw [hC] at hlen
  have c1 : Try.prog.cellsOf 9 = 1 := by kernel_rfl
  match cs, hlen with
  | [v0, v1], _ =>
    match ys, hyl with
    | [y0, y1], _ =>
      have h0 : DataW.trod enc Try.prog W 0 (fun _ => true) true n 9 [v0] = some y0 := by simpa [c1] using hf 0 _ rfl
      have h1 : DataW.trod enc Try.prog W 0 (fun _ => true) true n 9 [v1] = some y1 := by simpa [c1] using hf 1 _ rfl
      obtain ⟨a, rfl, _⟩ := one_text Try.underlying9 h0
      obtain ⟨b, rfl, _⟩ := one_text Try.underlying9 h1
      exact ⟨(a, b), rfl⟩

set_option maxRecDepth 100000 in
/-- a row of records as it is read. -/
theorem recs_of {H : Type} {enc : TypeId × Value → H} {W : World} {fuel : Nat} {cs : List Value} {x : DataW H × List MemPlace} (hf : DataW.trod enc Try.prog W 0 (fun _ => true) true fuel 35 cs = some x) :
    ∃ p ls c, cs = [.slice p ls.length c] ∧ Recs W p ls ∧ ls.length ≤ 9223372036854775807 := by
  rcases open_slice Try.underlying35 hf with ⟨h, _⟩ | ⟨a, len, cap, m, n, D, Pl, h, _, hl, hm, hmm, _, hi⟩
  · exact ⟨none, [], 0, h, Or.inl rfl, by simp⟩
  · simp only [if_true] at hmm
    subst hmm
    unfold maxLen at hm
    have hC : Try.prog.cellsOf 57 = 2 := by kernel_rfl
    have each : ∀ i, i < len → ∃ r : RecL, ∀ z, z < 2 → W.cell? ((a.add (i * 2)).add z) = [Value.string (strB r.1), .string (strB r.2)][z]? := fun i hin => by
      obtain ⟨cs', hcs, ht⟩ := hi i (by omega)
      rw [hC] at hcs
      obtain ⟨r, rfl⟩ := rec_of ht
      obtain ⟨_, _, hat⟩ := World.cells?_some hcs
      exact ⟨r, hat⟩
    have pick : ∃ f : Nat → RecL, ∀ i, i < len → ∀ z, z < 2 → W.cell? ((a.add (i * 2)).add z) = [Value.string (strB (f i).1), .string (strB (f i).2)][z]? :=
      ⟨fun i => if h : i < len then Classical.choose (each i h) else ([], []), fun i h => by simp only [dif_pos h]; exact Classical.choose_spec (each i h)⟩
    obtain ⟨f, hf2⟩ := pick
    have hget : ∀ j, j < len → ((List.range len).map f).getD j ([], []) = f j := fun j hj => by simp [List.getD, hj]
    refine ⟨some a, (List.range len).map f, m, by simp [h], ?_, by simp; omega⟩
    by_cases h0 : len = 0
    · exact Or.inl (by subst h0; rfl)
    · have hc0 := hf2 0 (by omega) 0 (by omega)
      obtain ⟨b, off, spot⟩ := a
      have hc0' : W.cell? ⟨b, off + 0 * 2 + 0, spot⟩ = some (.string (strB (f 0).1)) := by
        have e : ((⟨b, off, spot⟩ : Addr).add (0 * 2)).add 0 = ⟨b, off, spot⟩ := by simp [Addr.add]
        rw [e] at hc0
        simpa using hc0
      have hsp : spot = none := Go.Proofs.cell_spot hc0'
      subst hsp
      refine Or.inr ⟨b, off, rfl, World.block_lt_of_cell? W _ hc0', fun j hj => ?_⟩
      have hj' : j < len := by simpa using hj
      rw [hget j hj']
      have hz := hf2 j hj'
      have z0 := hz 0 (by omega)
      have z1 := hz 1 (by omega)
      simp only [Addr.add_lit] at z0 z1
      exact ⟨z0, z1⟩

set_option maxRecDepth 100000 in
/-- an argument that is an ask. -/
theorem arg_ask {H : Type} {enc : TypeId × Value → H} {W : World} {b0 : Nat} {v : Value} {d : DataW H} {ps : List MemPlace} (hval : Value.okWide Try.prog W .any b0 34 v) (hd : DataW.Trod enc Try.prog W 0 (fun _ => true) true 34 v d ps) :
    ∃ a : AskL, v = askV a := by
  obtain ⟨cs, rfl, hsz⟩ := okWide_struct Try.underlying34 hval
  obtain ⟨fuel, hf0⟩ := hd
  obtain ⟨ys, n, _, _, hlen, hyl, hf⟩ := DataW.trod_struct Try.underlying34 hf0
  have hC : Try.prog.cellsOf 34 = 8 := by kernel_rfl
  rw [hC] at hlen hsz
  have c1 : Try.prog.cellsOf 9 = 1 := by kernel_rfl
  have c3 : Try.prog.cellsOf 3 = 1 := by kernel_rfl
  obtain ⟨cl⟩ := cs
  have hcl : (Value.agg ⟨cl⟩).cells.toList = cl := rfl
  rw [hcl] at hf
  match cl, hsz with
  | [v0, v1, v2, v3, v4, v5, v6, v7], _ =>
    match ys, hyl with
    | [y0, y1, y2, y3, y4, y5, y6, y7], _ =>
      have h0 : DataW.trod enc Try.prog W 0 (fun _ => true) true n 3 [v0] = some y0 := by simpa [c1, c3] using hf 0 _ rfl
      have h1 : DataW.trod enc Try.prog W 0 (fun _ => true) true n 3 [v1] = some y1 := by simpa [c1, c3] using hf 1 _ rfl
      have h2 : DataW.trod enc Try.prog W 0 (fun _ => true) true n 3 [v2] = some y2 := by simpa [c1, c3] using hf 2 _ rfl
      have h3 : DataW.trod enc Try.prog W 0 (fun _ => true) true n 9 [v3] = some y3 := by simpa [c1, c3] using hf 3 _ rfl
      have h4 : DataW.trod enc Try.prog W 0 (fun _ => true) true n 9 [v4] = some y4 := by simpa [c1, c3] using hf 4 _ rfl
      have h5 : DataW.trod enc Try.prog W 0 (fun _ => true) true n 9 [v5] = some y5 := by simpa [c1, c3] using hf 5 _ rfl
      have h6 : DataW.trod enc Try.prog W 0 (fun _ => true) true n 9 [v6] = some y6 := by simpa [c1, c3] using hf 6 _ rfl
      have h7 : DataW.trod enc Try.prog W 0 (fun _ => true) true n 3 [v7] = some y7 := by simpa [c1, c3] using hf 7 _ rfl
      obtain ⟨d, rfl⟩ := one_int Try.underlying3 h0
      obtain ⟨c, rfl⟩ := one_int Try.underlying3 h1
      obtain ⟨s, rfl⟩ := one_int Try.underlying3 h2
      obtain ⟨t, rfl, _⟩ := one_text Try.underlying9 h3
      obtain ⟨v, rfl, _⟩ := one_text Try.underlying9 h4
      obtain ⟨f, rfl, _⟩ := one_text Try.underlying9 h5
      obtain ⟨u, rfl, _⟩ := one_text Try.underlying9 h6
      obtain ⟨m, rfl⟩ := one_int Try.underlying3 h7
      exact ⟨⟨d, c, s, t, v, f, u, m⟩, rfl⟩

set_option maxRecDepth 100000 in
theorem rep_of {H : Type} {enc : TypeId × Value → H} {W : World} {fuel : Nat} {cs : List Value} {x : DataW H × List MemPlace} (h : DataW.trod enc Try.prog W 0 (fun _ => true) true fuel 37 cs = some x) :
    ∃ (r : RepL) (p : Option Addr) (k : Nat), cs = [.int .i64 r.c, .int .i64 r.s, .int .i64 r.e, .bool r.fd, .string (strB r.v), .slice p r.ls.length k, .string (strB r.nx), .bool r.mr] ∧ Recs W p r.ls ∧ r.ls.length ≤ 9223372036854775807 := by
  obtain ⟨ys, n, _, _, hlen, hyl, hf⟩ := DataW.trod_struct Try.underlying37 h
  have hC : Try.prog.cellsOf 37 = 8 := by kernel_rfl
  rw [hC] at hlen
  have c1 : Try.prog.cellsOf 9 = 1 := by kernel_rfl
  have c3 : Try.prog.cellsOf 3 = 1 := by kernel_rfl
  have c4 : Try.prog.cellsOf 4 = 1 := by kernel_rfl
  have c5 : Try.prog.cellsOf 28 = 1 := by kernel_rfl
  have c6 : Try.prog.cellsOf 35 = 1 := by kernel_rfl
  match cs, hlen with
  | [v0, v1, v2, v3, v4, v5, v6, v7], _ =>
    match ys, hyl with
    | [y0, y1, y2, y3, y4, y5, y6, y7], _ =>
      have h0 : DataW.trod enc Try.prog W 0 (fun _ => true) true n 3 [v0] = some y0 := by simpa [c1, c3, c4, c5, c6] using hf 0 _ rfl
      have h1 : DataW.trod enc Try.prog W 0 (fun _ => true) true n 3 [v1] = some y1 := by simpa [c1, c3, c4, c5, c6] using hf 1 _ rfl
      have h2 : DataW.trod enc Try.prog W 0 (fun _ => true) true n 28 [v2] = some y2 := by simpa [c1, c3, c4, c5, c6] using hf 2 _ rfl
      have h3 : DataW.trod enc Try.prog W 0 (fun _ => true) true n 4 [v3] = some y3 := by simpa [c1, c3, c4, c5, c6] using hf 3 _ rfl
      have h4 : DataW.trod enc Try.prog W 0 (fun _ => true) true n 9 [v4] = some y4 := by simpa [c1, c3, c4, c5, c6] using hf 4 _ rfl
      have h5 : DataW.trod enc Try.prog W 0 (fun _ => true) true n 35 [v5] = some y5 := by simpa [c1, c3, c4, c5, c6] using hf 5 _ rfl
      have h6 : DataW.trod enc Try.prog W 0 (fun _ => true) true n 9 [v6] = some y6 := by simpa [c1, c3, c4, c5, c6] using hf 6 _ rfl
      have h7 : DataW.trod enc Try.prog W 0 (fun _ => true) true n 4 [v7] = some y7 := by simpa [c1, c3, c4, c5, c6] using hf 7 _ rfl
      obtain ⟨c, rfl⟩ := one_int Try.underlying3 h0
      obtain ⟨s, rfl⟩ := one_int Try.underlying3 h1
      obtain ⟨e, rfl⟩ := one_int Try.underlying28 h2
      obtain ⟨fd, rfl⟩ := one_bool Try.underlying4 h3
      obtain ⟨v, rfl, _⟩ := one_text Try.underlying9 h4
      obtain ⟨p, ls, k, e5, h9, h10⟩ := recs_of h5
      obtain ⟨nx, rfl, _⟩ := one_text Try.underlying9 h6
      obtain ⟨mr, rfl⟩ := one_bool Try.underlying4 h7
      injection e5 with e5 _
      subst e5
      exact ⟨⟨c, s, e, fd, v, ls, nx, mr⟩, p, k, rfl, h9, h10⟩

set_option maxRecDepth 100000 in
/-- an argument that is a reply. -/
theorem arg_reply {H : Type} {enc : TypeId × Value → H} {W : World} {b0 : Nat} {v : Value} {d : DataW H} {ps : List MemPlace} (hval : Value.okWide Try.prog W .any b0 37 v) (hd : DataW.Trod enc Try.prog W 0 (fun _ => true) true 37 v d ps) :
    ∃ (r : RepL) (p : Option Addr) (k : Nat), v = repV r p k ∧ Recs W p r.ls ∧ r.ls.length ≤ 9223372036854775807 := by
  obtain ⟨cs, rfl, hsz⟩ := okWide_struct Try.underlying37 hval
  obtain ⟨fuel, hf0⟩ := hd
  obtain ⟨r, p, k, h1, h2, h3⟩ := rep_of hf0
  obtain ⟨cl⟩ := cs
  have hcl : (Value.agg ⟨cl⟩).cells.toList = cl := rfl
  rw [hcl] at h1
  subst h1
  exact ⟨r, p, k, rfl, h2, h3⟩

/-- two replies side by side. -/
def repCs (r : RepL) (p : Option Addr) (k : Nat) : List Value := [.int .i64 r.c, .int .i64 r.s, .int .i64 r.e, .bool r.fd, .string (strB r.v), .slice p r.ls.length k, .string (strB r.nx), .bool r.mr]
set_option maxRecDepth 100000 in
theorem arg_replies {H : Type} {enc : TypeId × Value → H} {W : World} {b0 : Nat} {v : Value} {d : DataW H} {ps : List MemPlace} (hval : Value.okWide Try.prog W .any b0 48 v) (hd : DataW.Trod enc Try.prog W 0 (fun _ => true) true 48 v d ps) :
    ∃ (r r' : RepL) (p p' : Option Addr) (k k' : Nat), v = .agg ⟨repCs r p k ++ repCs r' p' k'⟩ ∧ (Recs W p r.ls ∧ r.ls.length ≤ 9223372036854775807) ∧ (Recs W p' r'.ls ∧ r'.ls.length ≤ 9223372036854775807) := by
  simp only [Value.okWide, Try.underlying48] at hval
  obtain ⟨cs, rfl, hsz, _⟩ := hval
  obtain ⟨fuel, hf0⟩ := hd
  obtain ⟨xs, m, _, _, hlen, hxl, hf⟩ := DataW.trod_array Try.underlying48 hf0
  have hC : Try.prog.cellsOf 48 = 16 := by kernel_rfl
  have c8 : Try.prog.cellsOf 37 = 8 := by kernel_rfl
  rw [hC] at hsz
  obtain ⟨cl⟩ := cs
  have hcl : (Value.agg ⟨cl⟩).cells.toList = cl := rfl
  rw [hcl, c8] at hf
  match cl, hsz with
  | [u0, u1, u2, u3, u4, u5, u6, u7, v0, v1, v2, v3, v4, v5, v6, v7], _ =>
    match xs, hxl with
    | [y0, y1], _ =>
      have h0 : DataW.trod enc Try.prog W 0 (fun _ => true) true m 37 [u0, u1, u2, u3, u4, u5, u6, u7] = some y0 := by simpa using hf 0 (by omega)
      have h1 : DataW.trod enc Try.prog W 0 (fun _ => true) true m 37 [v0, v1, v2, v3, v4, v5, v6, v7] = some y1 := by simpa using hf 1 (by omega)
      obtain ⟨r, p, k, e1, a1, a2⟩ := rep_of h0
      obtain ⟨r', p', k', e2, b1, b2⟩ := rep_of h1
      refine ⟨r, r', p, p', k, k', ?_, ⟨a1, a2⟩, ⟨b1, b2⟩⟩
      show Value.agg ⟨[u0, u1, u2, u3, u4, u5, u6, u7] ++ [v0, v1, v2, v3, v4, v5, v6, v7]⟩ = _
      rw [e1, e2]; rfl
end Go.Proofs.Ytkidahlhnhglfaa
