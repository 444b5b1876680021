/-
  Several texts in one: PcEnc, PcArgs, PcCan.
-/
import Derived.Test.YtbhojddakmgdmaaMg07
import Derived.Test.YtbhojddakmgdmaaMg01
import Derived.OpenShut
import Derived.Test.YtbhojddakmgdmaaMg02
namespace Go.Proofs.Ytbhojddakmgdmaa
open Go.RowKit

theorem layS_some {M : Nat} {st : Option (List UInt8)} {l b : List UInt8} (h : layS M st l = some b) : ∃ b0, st = some b0 ∧ b = b0 ++ l ∧ b.length ≤ M := by
  cases st with
  | none => cases h
  | some c =>
    by_cases hc : c.length + l.length ≤ M
    · rw [show layS M (some c) l = some (c ++ l) from if_pos hc] at h
      injection h with h
      subst h
      exact ⟨c, rfl, rfl, by rw [List.length_append]; exact hc⟩
    · rw [show layS M (some c) l = none from if_neg hc] at h
      cases h
theorem numS_some {M : Nat} {st : Option (List UInt8)} {x : Int} {b : List UInt8} (h : numS M st x = some b) : ∃ b0, st = some b0 ∧ (0 ≤ x ∧ x ≤ 268435455) ∧ b = b0 ++ numC.enc x.toNat ∧ b.length ≤ M := by
  unfold numS at h
  by_cases hx : 0 ≤ x ∧ x ≤ 268435455
  · rw [if_pos hx] at h
    obtain ⟨b0, h1, h2, h3⟩ := layS_some h
    exact ⟨b0, h1, hx, h2, h3⟩
  · rw [if_neg hx] at h; cases h
theorem textS_some {M : Nat} {st : Option (List UInt8)} {l b : List UInt8} (h : textS M st l = some b) : ∃ b0, st = some b0 ∧ textC.ok l ∧ b = b0 ++ textC.enc l ∧ b.length ≤ M := by
  obtain ⟨b1, h1, h2, h3⟩ := layS_some h
  obtain ⟨b0, h4, h5, h6, h7⟩ := numS_some h1
  refine ⟨b0, h4, (show l.length < 268435456 by omega), ?_, h3⟩
  rw [h2, h6, List.append_assoc]; rfl
theorem truthS_some {M : Nat} {st : Option (List UInt8)} {t : Bool} {b : List UInt8} (h : truthS M st t = some b) : ∃ b0, st = some b0 ∧ b = b0 ++ truthC.enc t ∧ b.length ≤ M := layS_some h
theorem textS_bd {M : Nat} {st : Option (List UInt8)} {l b : List UInt8} (h : textS M st l = some b) : b.length ≤ M := by
  obtain ⟨_, _, _, _, h4⟩ := textS_some h
  exact h4
theorem numS_bd {M : Nat} {st : Option (List UInt8)} {x : Int} {b : List UInt8} (h : numS M st x = some b) : b.length ≤ M := by
  obtain ⟨_, _, _, _, h4⟩ := numS_some h
  exact h4
theorem recsS_some : ∀ (ls : List RecL) {st : Option (List UInt8)} {b : List UInt8}, (∀ c, st = some c → c.length ≤ 32768) → recsS st ls = some b → ∃ b0, st = some b0 ∧ (∀ x ∈ ls, recC.ok x) ∧ b = b0 ++ encR recC ls ∧ b.length ≤ 32768
  | [], st, b, hst, h => ⟨b, h, (fun x hx => by cases hx), (List.append_nil b).symm, hst b h⟩
  | r :: ls, st, b, hst, h => by
    have h' : recsS (textS 32768 (textS 32768 st r.1) r.2) ls = some b := h
    obtain ⟨b1, h1, h2, h3, h4⟩ := recsS_some ls (fun c hc => textS_bd hc) h'
    obtain ⟨b2, h5, h6, h7, h8⟩ := textS_some h1
    obtain ⟨b3, h9, h10, h11, h12⟩ := textS_some h5
    refine ⟨b3, h9, ?_, ?_, h4⟩
    · intro x hx
      rcases List.mem_cons.1 hx with rfl | hx
      · exact ⟨h10, h6⟩
      · exact h2 x hx
    · rw [h3, h7, h11]
      show _ = b3 ++ ((textC.enc r.1 ++ textC.enc r.2) ++ encR recC ls)
      simp only [List.append_assoc]

def askU (a : AskL) : Nat × Nat × Nat × Nat × List UInt8 × List UInt8 × List UInt8 × List UInt8 := (a.d.toNat, a.c.toNat, a.s.toNat, a.m.toNat, a.t, a.v, a.f, a.u)
/-- an ask that was packed. -/
theorem ask_packed {a : AskL} {b : List UInt8} (h : askS a = some b) : askC.ok (askU a) ∧ b = askC.enc (askU a) ∧ b.length ≤ 32768 ∧ askT (askU a) = a := by
  obtain ⟨d, c, s, t, v, f, u, m⟩ := a
  have h' : textS 32768 (textS 32768 (textS 32768 (textS 32768 (numS 32768 (numS 32768 (numS 32768 (numS 32768 (some []) d) c) s) m) t) v) f) u = some b := h
  obtain ⟨b8, e8, o8, q8, l8⟩ := textS_some h'
  obtain ⟨b7, e7, o7, q7, -⟩ := textS_some e8
  obtain ⟨b6, e6, o6, q6, -⟩ := textS_some e7
  obtain ⟨b5, e5, o5, q5, -⟩ := textS_some e6
  obtain ⟨b4, e4, o4, q4, -⟩ := numS_some e5
  obtain ⟨b3, e3, o3, q3, -⟩ := numS_some e4
  obtain ⟨b2, e2, o2, q2, -⟩ := numS_some e3
  obtain ⟨b1, e1, o1, q1, -⟩ := numS_some e2
  injection e1 with e1
  subst e1
  refine ⟨⟨show _ < _ by show d.toNat < _; omega, show c.toNat < 268435456 by omega, show s.toNat < 268435456 by omega, show m.toNat < 268435456 by omega, o5, o6, o7, o8⟩, ?_, l8, ?_⟩
  · rw [q8, q7, q6, q5, q4, q3, q2, q1]
    show _ = numC.enc d.toNat ++ (numC.enc c.toNat ++ (numC.enc s.toNat ++ (numC.enc m.toNat ++ (textC.enc t ++ (textC.enc v ++ (textC.enc f ++ textC.enc u))))))
    simp only [List.append_assoc, List.nil_append]
  · show (⟨(d.toNat : Int), c.toNat, s.toNat, t, v, f, u, m.toNat⟩ : AskL) = _
    rw [Int.toNat_of_nonneg o1.1, Int.toNat_of_nonneg o2.1, Int.toNat_of_nonneg o3.1, Int.toNat_of_nonneg o4.1]

def repU (r : RepL) : Nat × Nat × Nat × Bool × List UInt8 × List (List UInt8 × List UInt8) × List UInt8 × Bool := (r.c.toNat, r.s.toNat, r.e.toNat, r.fd, r.v, r.ls, r.nx, r.mr)
/-- a reply that was packed. -/
theorem rep_packed {r : RepL} {b : List UInt8} (h : repS r = some b) : replyC.ok (repU r) ∧ b = replyC.enc (repU r) ∧ b.length ≤ 32768 ∧ repT (repU r) = r := by
  obtain ⟨c, s, e, fd, v, ls, nx, mr⟩ := r
  have h' : truthS 32768 (textS 32768 (recsS (numS 32768 (textS 32768 (truthS 32768 (numS 32768 (numS 32768 (numS 32768 (some []) c) s) e) fd) v) (ls.length : Int)) ls) nx) mr = some b := h
  obtain ⟨b8, e8, q8, l8⟩ := truthS_some h'
  obtain ⟨b7, e7, o7, q7, -⟩ := textS_some e8
  obtain ⟨b6, e6, o6, q6, -⟩ := recsS_some ls (fun c hc => numS_bd hc) e7
  obtain ⟨b5, e5, o5, q5, -⟩ := numS_some e6
  obtain ⟨b4, e4, o4, q4, -⟩ := textS_some e5
  obtain ⟨b3, e3, q3, -⟩ := truthS_some e4
  obtain ⟨b2, e2, o2, q2, -⟩ := numS_some e3
  obtain ⟨b1, e1, o1, q1, -⟩ := numS_some e2
  obtain ⟨b0, e0, o0, q0, -⟩ := numS_some e1
  injection e0 with e0
  subst e0
  refine ⟨⟨show c.toNat < 268435456 by omega, show s.toNat < 268435456 by omega, show e.toNat < 268435456 by omega, trivial, o4, ⟨show ls.length < 268435456 by omega, o6⟩, o7, trivial⟩, ?_, l8, ?_⟩
  · rw [q8, q7, q6, q5, q4, q3, q2, q1, q0]
    show _ = numC.enc c.toNat ++ (numC.enc s.toNat ++ (numC.enc e.toNat ++ (truthC.enc fd ++ (textC.enc v ++ ((numC.enc ls.length ++ encR recC ls) ++ (textC.enc nx ++ truthC.enc mr))))))
    rw [Int.toNat_natCast]
    simp only [List.append_assoc, List.nil_append]
  · show (⟨(c.toNat : Int), s.toNat, e.toNat, fd, v, ls, nx, mr⟩ : RepL) = _
    rw [Int.toNat_of_nonneg o0.1, Int.toNat_of_nonneg o1.1, Int.toNat_of_nonneg o2.1]

/-- what the cuts of packed bytes say. -/
theorem ask_cut {a : AskL} {b : List UInt8} (h : askS a = some b) (k : Nat) (hk : k < b.length) : rdAskE (b.take k) = 7 := by
  obtain ⟨h1, h2, h3, _⟩ := ask_packed h
  unfold rdAskE
  rw [if_neg (by rw [List.length_take]; omega), h2, read_cut askC _ h1 k (h2 ▸ hk)]; rfl
theorem ask_more {a : AskL} {b : List UInt8} (h : askS a = some b) (hl : b.length < 32768) : rdAskE (b ++ [0]) = 5 := by
  obtain ⟨h1, h2, h3, _⟩ := ask_packed h
  unfold rdAskE
  rw [if_neg (by rw [List.length_append, List.length_singleton]; omega), h2, read_more askC _ h1 0 []]; rfl
theorem rep_cut {r : RepL} {b : List UInt8} (h : repS r = some b) (k : Nat) (hk : k < b.length) : rdRepE (b.take k) = 7 := by
  obtain ⟨h1, h2, h3, _⟩ := rep_packed h
  unfold rdRepE
  rw [if_neg (by rw [List.length_take]; omega), h2, read_cut replyC _ h1 k (h2 ▸ hk)]; rfl
theorem rep_more {r : RepL} {b : List UInt8} (h : repS r = some b) (hl : b.length < 32768) : rdRepE (b ++ [0]) = 5 := by
  obtain ⟨h1, h2, h3, _⟩ := rep_packed h
  unfold rdRepE
  rw [if_neg (by rw [List.length_append, List.length_singleton]; omega), h2, read_more replyC _ h1 0 []]; rfl
/-- bytes alike are of asks alike. -/
theorem ask_inj {a a' : AskL} {b b' : List UInt8} (h : askS a = some b) (h' : askS a' = some b') : b = b' ↔ a = a' := by
  obtain ⟨h1, h2, _, h4⟩ := ask_packed h
  obtain ⟨k1, k2, _, k4⟩ := ask_packed h'
  constructor
  · intro e
    have := askC.inj h1 k1 (by rw [← h2, ← k2, e])
    rw [← h4, ← k4, this]
  · intro e
    rw [h2, k2, e]
theorem rep_inj {r r' : RepL} {b b' : List UInt8} (h : repS r = some b) (h' : repS r' = some b') : b = b' ↔ r = r' := by
  obtain ⟨h1, h2, _, h4⟩ := rep_packed h
  obtain ⟨k1, k2, _, k4⟩ := rep_packed h'
  constructor
  · intro e
    have := replyC.inj h1 k1 (by rw [← h2, ← k2, e])
    rw [← h4, ← k4, this]
  · intro e
    rw [h2, k2, e]
theorem askZ_packed : askS askZ = some (List.replicate 32 0) := by decide +kernel
theorem askZ_read : rdAskE (List.replicate 32 0) = 0 ∧ readL askC (List.replicate 32 0) = .ok (askU askZ) := by
  obtain ⟨h1, h2, h3, h4⟩ := ask_packed askZ_packed
  have h5 : readL askC (List.replicate 32 0) = .ok (askU askZ) := by rw [h2]; exact read_enc askC _ h1
  refine ⟨?_, h5⟩
  unfold rdAskE
  rw [if_neg (by decide), h5]; rfl
end Go.Proofs.Ytbhojddakmgdmaa
namespace Go.Proofs.Ytbhojddakmgdmaa
open Go.RowKit Go.ChangeShapes Go.WideShapes Go.Gz Go.Deep

theorem own : ownKnob Try.prog.godebug = none := by kernel_rfl
theorem laidOut : laidOutB Try.prog = true := by kernel_rfl
theorem laid_none (P : Program) (w : World) : laidMet P [] w := ⟨[], rfl, List.nodup_nil, fun b off h => by cases h⟩
theorem nat_u16 {n : Int} (h : (Lit.int .u16 n).wf = true) : ∃ k : Nat, k < 65536 ∧ n = k := by
  obtain ⟨h1, h2⟩ := wf_u16_of h
  exact ⟨n.toNat, by omega, by omega⟩

theorem one_text {H : Type} {enc : TypeId × Value → H} {P : Program} {W : World} {t : TypeId} {fuel : Nat} {v : Value} {x : DataW H × List MemPlace} (ht : P.underlying t = some .string) (h : DataW.trod enc P W 0 (fun _ => true) true fuel t [v] = some x) : ∃ s : List UInt8, v = .string (strB s) ∧ s.length ≤ 9223372036854775807 := by
  have : ∃ s : ByteArray, v = .string s ∧ s.size ≤ 9223372036854775807 := by
    cases fuel with
    | zero => simp [DataW.trod] at h
    | succ n =>
      unfold DataW.trod at h
      rw [ht] at h
      split at h <;> simp_all
      unfold maxLen at h
      exact h.1
  obtain ⟨s, rfl, hs⟩ := this
  refine ⟨s.data.toList, by rw [strB_of], ?_⟩
  rw [← strB_size, strB_of]; exact hs
theorem one_int {H : Type} {enc : TypeId × Value → H} {P : Program} {W : World} {t : TypeId} {k : IntKind} {fuel : Nat} {v : Value} {x : DataW H × List MemPlace} (ht : P.underlying t = some (.int k)) (h : DataW.trod enc P W 0 (fun _ => true) true fuel t [v] = some x) : ∃ n : Int, v = .int k n := by
  cases fuel with
  | zero => simp [DataW.trod] at h
  | succ n =>
    unfold DataW.trod at h
    rw [ht] at h
    split at h <;> simp_all
theorem one_bool {H : Type} {enc : TypeId × Value → H} {P : Program} {W : World} {t : TypeId} {fuel : Nat} {v : Value} {x : DataW H × List MemPlace} (ht : P.underlying t = some .bool) (h : DataW.trod enc P W 0 (fun _ => true) true fuel t [v] = some x) : ∃ b : Bool, v = .bool b := by
  cases fuel with
  | zero => simp [DataW.trod] at h
  | succ n =>
    unfold DataW.trod at h
    rw [ht] at h
    split at h <;> simp_all

set_option maxRecDepth 100000 in
theorem rec_of {H : Type} {enc : TypeId × Value → H} {W : World} {fuel : Nat} {cs : List Value} {x : DataW H × List MemPlace} (h : DataW.trod enc Try.prog W 0 (fun _ => true) true fuel 54 cs = some x) :
    ∃ s : RecL, cs = [.string (strB s.1), .string (strB s.2)] := by
  obtain ⟨ys, n, _, _, hlen, hyl, hf⟩ := DataW.trod_struct Try.underlying54 h
  have hC : Try.prog.cellsOf 54 = 2 := by kernel_rfl
  rw [hC] at hlen
  have c1 : Try.prog.cellsOf 9 = 1 := by kernel_rfl
  match cs, hlen with
  | [v0, v1], _ =>
    match ys, hyl with
    | [y0, y1], _ =>
      have h0 : DataW.trod enc Try.prog W 0 (fun _ => true) true n 9 [v0] = some y0 := by simpa [c1] using hf 0 _ rfl
      have h1 : DataW.trod enc Try.prog W 0 (fun _ => true) true n 9 [v1] = some y1 := by simpa [c1] using hf 1 _ rfl
      obtain ⟨a, rfl, _⟩ := one_text Try.underlying9 h0
      obtain ⟨b, rfl, _⟩ := one_text Try.underlying9 h1
      exact ⟨(a, b), rfl⟩

set_option maxRecDepth 100000 in
/-- a row of records as it is read. -/
theorem recs_of {H : Type} {enc : TypeId × Value → H} {W : World} {fuel : Nat} {cs : List Value} {x : DataW H × List MemPlace} (hf : DataW.trod enc Try.prog W 0 (fun _ => true) true fuel 26 cs = some x) :
    ∃ p ls c, cs = [.slice p ls.length c] ∧ Recs W p ls ∧ ls.length ≤ 9223372036854775807 := by
  rcases open_slice Try.underlying26 hf with ⟨h, _⟩ | ⟨a, len, cap, m, n, D, Pl, h, _, hl, hm, hmm, _, hi⟩
  · exact ⟨none, [], 0, h, Or.inl rfl, by simp⟩
  · simp only [if_true] at hmm
    subst hmm
    unfold maxLen at hm
    have hC : Try.prog.cellsOf 54 = 2 := by kernel_rfl
    have each : ∀ i, i < len → ∃ r : RecL, ∀ z, z < 2 → W.cell? ((a.add (i * 2)).add z) = [Value.string (strB r.1), .string (strB r.2)][z]? := fun i hin => by
      obtain ⟨cs', hcs, ht⟩ := hi i (by omega)
      rw [hC] at hcs
      obtain ⟨r, rfl⟩ := rec_of ht
      obtain ⟨_, _, hat⟩ := World.cells?_some hcs
      exact ⟨r, hat⟩
    have pick : ∃ f : Nat → RecL, ∀ i, i < len → ∀ z, z < 2 → W.cell? ((a.add (i * 2)).add z) = [Value.string (strB (f i).1), .string (strB (f i).2)][z]? :=
      ⟨fun i => if h : i < len then Classical.choose (each i h) else ([], []), fun i h => by simp only [dif_pos h]; exact Classical.choose_spec (each i h)⟩
    obtain ⟨f, hf2⟩ := pick
    have hget : ∀ j, j < len → ((List.range len).map f).getD j ([], []) = f j := fun j hj => by simp [List.getD, hj]
    refine ⟨some a, (List.range len).map f, m, by simp [h], ?_, by simp; omega⟩
    by_cases h0 : len = 0
    · exact Or.inl (by subst h0; rfl)
    · have hc0 := hf2 0 (by omega) 0 (by omega)
      obtain ⟨b, off, spot⟩ := a
      have hc0' : W.cell? ⟨b, off + 0 * 2 + 0, spot⟩ = some (.string (strB (f 0).1)) := by
        have e : ((⟨b, off, spot⟩ : Addr).add (0 * 2)).add 0 = ⟨b, off, spot⟩ := by simp [Addr.add]
        rw [e] at hc0
        simpa using hc0
      have hsp : spot = none := Go.Proofs.cell_spot hc0'
      subst hsp
      refine Or.inr ⟨b, off, rfl, World.block_lt_of_cell? W _ hc0', fun j hj => ?_⟩
      have hj' : j < len := by simpa using hj
      rw [hget j hj']
      have hz := hf2 j hj'
      have z0 := hz 0 (by omega)
      have z1 := hz 1 (by omega)
      simp only [Addr.add_lit] at z0 z1
      exact ⟨z0, z1⟩

set_option maxRecDepth 100000 in
/-- an argument that is an ask. -/
theorem arg_ask {H : Type} {enc : TypeId × Value → H} {W : World} {b0 : Nat} {v : Value} {d : DataW H} {ps : List MemPlace} (hval : Value.okWide Try.prog W .any b0 24 v) (hd : DataW.Trod enc Try.prog W 0 (fun _ => true) true 24 v d ps) :
    ∃ a : AskL, v = askV a := by
  obtain ⟨cs, rfl, hsz⟩ := okWide_struct Try.underlying24 hval
  obtain ⟨fuel, hf0⟩ := hd
  obtain ⟨ys, n, _, _, hlen, hyl, hf⟩ := DataW.trod_struct Try.underlying24 hf0
  have hC : Try.prog.cellsOf 24 = 8 := by kernel_rfl
  rw [hC] at hlen hsz
  have c1 : Try.prog.cellsOf 9 = 1 := by kernel_rfl
  have c3 : Try.prog.cellsOf 3 = 1 := by kernel_rfl
  obtain ⟨cl⟩ := cs
  have hcl : (Value.agg ⟨cl⟩).cells.toList = cl := rfl
  rw [hcl] at hf
  match cl, hsz with
  | [v0, v1, v2, v3, v4, v5, v6, v7], _ =>
    match ys, hyl with
    | [y0, y1, y2, y3, y4, y5, y6, y7], _ =>
      have h0 : DataW.trod enc Try.prog W 0 (fun _ => true) true n 3 [v0] = some y0 := by simpa [c1, c3] using hf 0 _ rfl
      have h1 : DataW.trod enc Try.prog W 0 (fun _ => true) true n 3 [v1] = some y1 := by simpa [c1, c3] using hf 1 _ rfl
      have h2 : DataW.trod enc Try.prog W 0 (fun _ => true) true n 3 [v2] = some y2 := by simpa [c1, c3] using hf 2 _ rfl
      have h3 : DataW.trod enc Try.prog W 0 (fun _ => true) true n 9 [v3] = some y3 := by simpa [c1, c3] using hf 3 _ rfl
      have h4 : DataW.trod enc Try.prog W 0 (fun _ => true) true n 9 [v4] = some y4 := by simpa [c1, c3] using hf 4 _ rfl
      have h5 : DataW.trod enc Try.prog W 0 (fun _ => true) true n 9 [v5] = some y5 := by simpa [c1, c3] using hf 5 _ rfl
      have h6 : DataW.trod enc Try.prog W 0 (fun _ => true) true n 9 [v6] = some y6 := by simpa [c1, c3] using hf 6 _ rfl
      have h7 : DataW.trod enc Try.prog W 0 (fun _ => true) true n 3 [v7] = some y7 := by simpa [c1, c3] using hf 7 _ rfl
      obtain ⟨d, rfl⟩ := one_int Try.underlying3 h0
      obtain ⟨c, rfl⟩ := one_int Try.underlying3 h1
      obtain ⟨s, rfl⟩ := one_int Try.underlying3 h2
      obtain ⟨t, rfl, _⟩ := one_text Try.underlying9 h3
      obtain ⟨v, rfl, _⟩ := one_text Try.underlying9 h4
      obtain ⟨f, rfl, _⟩ := one_text Try.underlying9 h5
      obtain ⟨u, rfl, _⟩ := one_text Try.underlying9 h6
      obtain ⟨m, rfl⟩ := one_int Try.underlying3 h7
      exact ⟨⟨d, c, s, t, v, f, u, m⟩, rfl⟩

set_option maxRecDepth 100000 in
theorem rep_of {H : Type} {enc : TypeId × Value → H} {W : World} {fuel : Nat} {cs : List Value} {x : DataW H × List MemPlace} (h : DataW.trod enc Try.prog W 0 (fun _ => true) true fuel 28 cs = some x) :
    ∃ (r : RepL) (p : Option Addr) (k : Nat), cs = [.int .i64 r.c, .int .i64 r.s, .int .i64 r.e, .bool r.fd, .string (strB r.v), .slice p r.ls.length k, .string (strB r.nx), .bool r.mr] ∧ Recs W p r.ls ∧ r.ls.length ≤ 9223372036854775807 := by
  obtain ⟨ys, n, _, _, hlen, hyl, hf⟩ := DataW.trod_struct Try.underlying28 h
  have hC : Try.prog.cellsOf 28 = 8 := by kernel_rfl
  rw [hC] at hlen
  have c1 : Try.prog.cellsOf 9 = 1 := by kernel_rfl
  have c3 : Try.prog.cellsOf 3 = 1 := by kernel_rfl
  have c4 : Try.prog.cellsOf 4 = 1 := by kernel_rfl
  have c5 : Try.prog.cellsOf 25 = 1 := by kernel_rfl
  have c6 : Try.prog.cellsOf 26 = 1 := by kernel_rfl
  match cs, hlen with
  | [v0, v1, v2, v3, v4, v5, v6, v7], _ =>
    match ys, hyl with
    | [y0, y1, y2, y3, y4, y5, y6, y7], _ =>
      have h0 : DataW.trod enc Try.prog W 0 (fun _ => true) true n 3 [v0] = some y0 := by simpa [c1, c3, c4, c5, c6] using hf 0 _ rfl
      have h1 : DataW.trod enc Try.prog W 0 (fun _ => true) true n 3 [v1] = some y1 := by simpa [c1, c3, c4, c5, c6] using hf 1 _ rfl
      have h2 : DataW.trod enc Try.prog W 0 (fun _ => true) true n 25 [v2] = some y2 := by simpa [c1, c3, c4, c5, c6] using hf 2 _ rfl
      have h3 : DataW.trod enc Try.prog W 0 (fun _ => true) true n 4 [v3] = some y3 := by simpa [c1, c3, c4, c5, c6] using hf 3 _ rfl
      have h4 : DataW.trod enc Try.prog W 0 (fun _ => true) true n 9 [v4] = some y4 := by simpa [c1, c3, c4, c5, c6] using hf 4 _ rfl
      have h5 : DataW.trod enc Try.prog W 0 (fun _ => true) true n 26 [v5] = some y5 := by simpa [c1, c3, c4, c5, c6] using hf 5 _ rfl
      have h6 : DataW.trod enc Try.prog W 0 (fun _ => true) true n 9 [v6] = some y6 := by simpa [c1, c3, c4, c5, c6] using hf 6 _ rfl
      have h7 : DataW.trod enc Try.prog W 0 (fun _ => true) true n 4 [v7] = some y7 := by simpa [c1, c3, c4, c5, c6] using hf 7 _ rfl
      obtain ⟨c, rfl⟩ := one_int Try.underlying3 h0
      obtain ⟨s, rfl⟩ := one_int Try.underlying3 h1
      obtain ⟨e, rfl⟩ := one_int Try.underlying25 h2
      obtain ⟨fd, rfl⟩ := one_bool Try.underlying4 h3
      obtain ⟨v, rfl, _⟩ := one_text Try.underlying9 h4
      obtain ⟨p, ls, k, e5, h9, h10⟩ := recs_of h5
      obtain ⟨nx, rfl, _⟩ := one_text Try.underlying9 h6
      obtain ⟨mr, rfl⟩ := one_bool Try.underlying4 h7
      injection e5 with e5 _
      subst e5
      exact ⟨⟨c, s, e, fd, v, ls, nx, mr⟩, p, k, rfl, h9, h10⟩

set_option maxRecDepth 100000 in
/-- an argument that is a reply. -/
theorem arg_reply {H : Type} {enc : TypeId × Value → H} {W : World} {b0 : Nat} {v : Value} {d : DataW H} {ps : List MemPlace} (hval : Value.okWide Try.prog W .any b0 28 v) (hd : DataW.Trod enc Try.prog W 0 (fun _ => true) true 28 v d ps) :
    ∃ (r : RepL) (p : Option Addr) (k : Nat), v = repV r p k ∧ Recs W p r.ls ∧ r.ls.length ≤ 9223372036854775807 := by
  obtain ⟨cs, rfl, hsz⟩ := okWide_struct Try.underlying28 hval
  obtain ⟨fuel, hf0⟩ := hd
  obtain ⟨r, p, k, h1, h2, h3⟩ := rep_of hf0
  obtain ⟨cl⟩ := cs
  have hcl : (Value.agg ⟨cl⟩).cells.toList = cl := rfl
  rw [hcl] at h1
  subst h1
  exact ⟨r, p, k, rfl, h2, h3⟩

/-- two replies side by side. -/
def repCs (r : RepL) (p : Option Addr) (k : Nat) : List Value := [.int .i64 r.c, .int .i64 r.s, .int .i64 r.e, .bool r.fd, .string (strB r.v), .slice p r.ls.length k, .string (strB r.nx), .bool r.mr]
end Go.Proofs.Ytbhojddakmgdmaa
namespace Go.Proofs.Ytbhojddakmgdmaa

/-- what is read off bytes is what they begin with. -/
def Can {α : Type} (C : Codec α) : Prop := ∀ b x r, C.dec b = .ok (x, r) → b = C.enc x ++ r ∧ C.ok x
theorem be4_numL : ∀ (l : List UInt8), l.length = 4 → be4 (numL l) = l
  | [a, b, c, d], _ => by
    have ha := u8_lt a
    have hb := u8_lt b
    have hc := u8_lt c
    have hd := u8_lt d
    simp only [numL, be4, List.foldl]
    have e1 : UInt8.ofNat ((((0 * 256 + a.toNat) * 256 + b.toNat) * 256 + c.toNat) * 256 + d.toNat) = d := UInt8.toNat_inj.1 (by rw [of8]; omega)
    have e2 : UInt8.ofNat (((((0 * 256 + a.toNat) * 256 + b.toNat) * 256 + c.toNat) * 256 + d.toNat) / 256) = c := UInt8.toNat_inj.1 (by rw [of8]; omega)
    have e3 : UInt8.ofNat (((((0 * 256 + a.toNat) * 256 + b.toNat) * 256 + c.toNat) * 256 + d.toNat) / 65536) = b := UInt8.toNat_inj.1 (by rw [of8]; omega)
    have e4 : UInt8.ofNat (((((0 * 256 + a.toNat) * 256 + b.toNat) * 256 + c.toNat) * 256 + d.toNat) / 16777216) = a := UInt8.toNat_inj.1 (by rw [of8]; omega)
    rw [e1, e2, e3, e4]
theorem can_num : Can numC := by
  intro b x r h
  have h : decN b = .ok (x, r) := h
  unfold decN at h
  by_cases h4 : b.length < 4
  · rw [if_pos h4] at h; cases h
  · rw [if_neg h4] at h
    by_cases h5 : 268435456 ≤ numL (b.take 4)
    · rw [if_pos h5] at h; cases h
    · rw [if_neg h5] at h
      injection h with h
      injection h with h1 h2
      subst h1 h2
      refine ⟨?_, by show _ < _; omega⟩
      show b = be4 (numL (b.take 4)) ++ b.drop 4
      rw [be4_numL _ (by rw [List.length_take]; omega), List.take_append_drop]
theorem can_text : Can textC := by
  intro b x r h
  have h : decT b = .ok (x, r) := h
  unfold decT at h
  cases hn : decN b with
  | error e => rw [hn] at h; cases h
  | ok y =>
    obtain ⟨n, s⟩ := y
    rw [hn] at h
    simp only at h
    obtain ⟨h1, h2⟩ := can_num b n s hn
    have h2 : n < 268435456 := h2
    by_cases hs : s.length < n
    · rw [if_pos hs] at h; cases h
    · rw [if_neg hs] at h
      injection h with h
      injection h with h3 h4
      subst h3 h4
      have hl : (s.take n).length = n := by rw [List.length_take]; omega
      refine ⟨?_, by show _ < _; omega⟩
      show b = (be4 (s.take n).length ++ s.take n) ++ s.drop n
      rw [hl, List.append_assoc, List.take_append_drop]; exact h1
theorem can_truth : Can truthC := by
  intro b x r h
  have h : decB b = .ok (x, r) := h
  cases b with
  | nil => cases h
  | cons y s =>
    have h : (if y = 0 then .ok (false, s) else if y = 1 then .ok (true, s) else .error 5 : Except Nat (Bool × List UInt8)) = .ok (x, r) := h
    by_cases h0 : y = 0
    · rw [if_pos h0] at h
      injection h with h
      injection h with h1 h2
      subst h0 h1 h2
      exact ⟨rfl, trivial⟩
    · rw [if_neg h0] at h
      by_cases h1 : y = 1
      · rw [if_pos h1] at h
        injection h with h
        injection h with h2 h3
        subst h1 h2 h3
        exact ⟨rfl, trivial⟩
      · rw [if_neg h1] at h; cases h
theorem can_pair {α β : Type} {A : Codec α} {B : Codec β} (ha : Can A) (hb : Can B) : Can (A.pair B) := by
  intro b x r h
  have h : decP A B b = .ok (x, r) := h
  unfold decP at h
  cases h1 : A.dec b with
  | error e => rw [h1] at h; cases h
  | ok y =>
    obtain ⟨u, s⟩ := y
    rw [h1] at h
    simp only at h
    cases h2 : B.dec s with
    | error e => rw [h2] at h; cases h
    | ok z =>
      obtain ⟨v, t⟩ := z
      rw [h2] at h
      injection h with h
      injection h with h3 h4
      subst h3 h4
      obtain ⟨e1, o1⟩ := ha b u s h1
      obtain ⟨e2, o2⟩ := hb s v t h2
      refine ⟨?_, o1, o2⟩
      show b = (A.enc u ++ B.enc v) ++ t
      rw [e1, e2, List.append_assoc]
theorem can_rows {α : Type} {A : Codec α} (ha : Can A) : ∀ (n : Nat) (b : List UInt8) (l : List α) (r : List UInt8), decR A n b = .ok (l, r) → b = encR A l ++ r ∧ l.length = n ∧ ∀ x ∈ l, A.ok x
  | 0, b, l, r, h => by
    injection h with h
    injection h with h1 h2
    subst h1 h2
    exact ⟨rfl, rfl, fun x hx => by cases hx⟩
  | n + 1, b, l, r, h => by
    unfold decR at h
    cases h1 : A.dec b with
    | error e => rw [h1] at h; cases h
    | ok y =>
      obtain ⟨u, s⟩ := y
      rw [h1] at h
      simp only at h
      cases h2 : decR A n s with
      | error e => rw [h2] at h; cases h
      | ok z =>
        obtain ⟨v, t⟩ := z
        rw [h2] at h
        injection h with h
        injection h with h3 h4
        subst h3 h4
        obtain ⟨e1, o1⟩ := ha b u s h1
        obtain ⟨e2, l2, o2⟩ := can_rows ha n s v t h2
        refine ⟨?_, by rw [List.length_cons, l2], fun x hx => ?_⟩
        · show b = (A.enc u ++ encR A v) ++ t
          rw [e1, e2, List.append_assoc]
        · rcases List.mem_cons.1 hx with rfl | hx
          · exact o1
          · exact o2 x hx
theorem can_list {α : Type} {A : Codec α} (ha : Can A) : Can (Codec.list A) := by
  intro b x r h
  have h : decL A b = .ok (x, r) := h
  unfold decL at h
  cases hn : decN b with
  | error e => rw [hn] at h; cases h
  | ok y =>
    obtain ⟨n, s⟩ := y
    rw [hn] at h
    simp only at h
    obtain ⟨h1, h2⟩ := can_num b n s hn
    have h2 : n < 268435456 := h2
    obtain ⟨e2, l2, o2⟩ := can_rows ha n s x r h
    refine ⟨?_, ⟨by omega, o2⟩⟩
    show b = (be4 x.length ++ encR A x) ++ r
    rw [l2, List.append_assoc, ← e2]; exact h1

/-- a part that is packed itself: a text of at most M bytes that is read wholly. -/
def rdPart {α : Type} (M : Nat) (A : Codec α) (t : List UInt8) : Except Nat α := if M < t.length then .error 3 else readL A t
def decPart {α : Type} (M : Nat) (A : Codec α) (b : List UInt8) : Except Nat (α × List UInt8) :=
  match decT b with
  | .error e => .error e
  | .ok (t, r) => match rdPart M A t with
    | .error e => .error e
    | .ok x => .ok (x, r)
def Codec.part {α : Type} (M : Nat) (A : Codec α) : Codec α where
  enc x := encT (A.enc x)
  ok x := A.ok x ∧ (A.enc x).length ≤ M ∧ (A.enc x).length < 268435456
  dec := decPart M A
  rt x r h := by
    unfold decPart
    rw [show decT (encT (A.enc x) ++ r) = .ok (A.enc x, r) from textC.rt (A.enc x) r h.2.2]
    simp only
    unfold rdPart
    rw [if_neg (by omega), read_enc A x h.1]
  cut x k h hk := by
    unfold decPart
    rw [show decT ((encT (A.enc x)).take k) = .error 7 from textC.cut (A.enc x) k h.2.2 hk]
theorem can_part {α : Type} {A : Codec α} (M : Nat) (ha : Can A) : Can (A.part M) := by
  intro b x r h
  have h : decPart M A b = .ok (x, r) := h
  unfold decPart at h
  cases h1 : decT b with
  | error e => rw [h1] at h; cases h
  | ok y =>
    obtain ⟨t, s⟩ := y
    rw [h1] at h
    simp only at h
    obtain ⟨e1, o1⟩ := can_text b t s h1
    cases h2 : rdPart M A t with
    | error e => rw [h2] at h; cases h
    | ok z =>
      rw [h2] at h
      injection h with h
      injection h with h3 h4
      subst h3 h4
      unfold rdPart at h2
      by_cases hM : M < t.length
      · rw [if_pos hM] at h2; cases h2
      · rw [if_neg hM] at h2
        unfold readL at h2
        cases h5 : A.dec t with
        | error e => rw [h5] at h2; cases h2
        | ok y =>
          obtain ⟨u, q⟩ := y
          rw [h5] at h2
          simp only at h2
          by_cases hq : q = []
          · rw [if_pos hq] at h2
            injection h2 with h2
            subst h2 hq
            obtain ⟨e5, o5⟩ := ha t u [] h5
            rw [List.append_nil] at e5
            subst e5
            exact ⟨e1, o5, by omega, o1⟩
          · rw [if_neg hq] at h2; cases h2
theorem read_can {α : Type} {A : Codec α} (ha : Can A) {b : List UInt8} {x : α} (h : readL A b = .ok x) : b = A.enc x ∧ A.ok x := by
  unfold readL at h
  cases h5 : A.dec b with
  | error e => rw [h5] at h; cases h
  | ok y =>
    obtain ⟨u, q⟩ := y
    rw [h5] at h
    simp only at h
    by_cases hq : q = []
    · rw [if_pos hq] at h
      injection h with h
      subst h hq
      obtain ⟨e5, o5⟩ := ha b u [] h5
      rw [List.append_nil] at e5
      exact ⟨e5, o5⟩
    · rw [if_neg hq] at h; cases h
theorem can_ask : Can askC := can_pair can_num (can_pair can_num (can_pair can_num (can_pair can_num (can_pair can_text (can_pair can_text (can_pair can_text can_text))))))
theorem can_reply : Can replyC := can_pair can_num (can_pair can_num (can_pair can_num (can_pair can_truth (can_pair can_text (can_pair (can_list (can_pair can_text can_text)) (can_pair can_text can_truth))))))
end Go.Proofs.Ytbhojddakmgdmaa
