/-
  Layer parcel, pure: what a packer laid is what the codecs write.
-/
import Derived.Test.YtkidahlhnhglfaaPcRdRep
namespace Go.Proofs.Ytkidahlhnhglfaa
open Go.RowKit

theorem layS_some {M : Nat} {st : Option (List UInt8)} {l b : List UInt8} (h : layS M st l = some b) : ∃ b0, st = some b0 ∧ b = b0 ++ l ∧ b.length ≤ M := by
  cases st with
  | none => cases h
  | some c =>
    by_cases hc : c.length + l.length ≤ M
    · rw [show layS M (some c) l = some (c ++ l) from if_pos hc] at h
      injection h with h
      subst h
      exact ⟨c, rfl, rfl, by rw [List.length_append]; exact hc⟩
    · rw [show layS M (some c) l = none from if_neg hc] at h
      cases h
theorem numS_some {M : Nat} {st : Option (List UInt8)} {x : Int} {b : List UInt8} (h : numS M st x = some b) : ∃ b0, st = some b0 ∧ (0 ≤ x ∧ x ≤ 268435455) ∧ b = b0 ++ numC.enc x.toNat ∧ b.length ≤ M := by
  unfold numS at h
  by_cases hx : 0 ≤ x ∧ x ≤ 268435455
  · rw [if_pos hx] at h
    obtain ⟨b0, h1, h2, h3⟩ := layS_some h
    exact ⟨b0, h1, hx, h2, h3⟩
  · rw [if_neg hx] at h; cases h
theorem textS_some {M : Nat} {st : Option (List UInt8)} {l b : List UInt8} (h : textS M st l = some b) : ∃ b0, st = some b0 ∧ textC.ok l ∧ b = b0 ++ textC.enc l ∧ b.length ≤ M := by
  obtain ⟨b1, h1, h2, h3⟩ := layS_some h
  obtain ⟨b0, h4, h5, h6, h7⟩ := numS_some h1
  refine ⟨b0, h4, (show l.length < 268435456 by omega), ?_, h3⟩
  rw [h2, h6, List.append_assoc]; rfl
theorem truthS_some {M : Nat} {st : Option (List UInt8)} {t : Bool} {b : List UInt8} (h : truthS M st t = some b) : ∃ b0, st = some b0 ∧ b = b0 ++ truthC.enc t ∧ b.length ≤ M := layS_some h
theorem textS_bd {M : Nat} {st : Option (List UInt8)} {l b : List UInt8} (h : textS M st l = some b) : b.length ≤ M := by
  obtain ⟨_, _, _, _, h4⟩ := textS_some h
  exact h4
theorem numS_bd {M : Nat} {st : Option (List UInt8)} {x : Int} {b : List UInt8} (h : numS M st x = some b) : b.length ≤ M := by
  obtain ⟨_, _, _, _, h4⟩ := numS_some h
  exact h4
theorem recsS_some : ∀ (ls : List RecL) {st : Option (List UInt8)} {b : List UInt8}, (∀ c, st = some c → c.length ≤ 32768) → recsS st ls = some b → ∃ b0, st = some b0 ∧ (∀ x ∈ ls, recC.ok x) ∧ b = b0 ++ encR recC ls ∧ b.length ≤ 32768
  | [], st, b, hst, h => ⟨b, h, (fun x hx => by cases hx), (List.append_nil b).symm, hst b h⟩
  | r :: ls, st, b, hst, h => by
    have h' : recsS (textS 32768 (textS 32768 st r.1) r.2) ls = some b := h
    obtain ⟨b1, h1, h2, h3, h4⟩ := recsS_some ls (fun c hc => textS_bd hc) h'
    obtain ⟨b2, h5, h6, h7, h8⟩ := textS_some h1
    obtain ⟨b3, h9, h10, h11, h12⟩ := textS_some h5
    refine ⟨b3, h9, ?_, ?_, h4⟩
    · intro x hx
      rcases List.mem_cons.1 hx with rfl | hx
      · exact ⟨h10, h6⟩
      · exact h2 x hx
    · rw [h3, h7, h11]
      show _ = b3 ++ ((textC.enc r.1 ++ textC.enc r.2) ++ encR recC ls)
      simp only [List.append_assoc]

def askU (a : AskL) : Nat × Nat × Nat × Nat × List UInt8 × List UInt8 × List UInt8 × List UInt8 := (a.d.toNat, a.c.toNat, a.s.toNat, a.m.toNat, a.t, a.v, a.f, a.u)
/-- an ask that was packed. -/
theorem ask_packed {a : AskL} {b : List UInt8} (h : askS a = some b) : askC.ok (askU a) ∧ b = askC.enc (askU a) ∧ b.length ≤ 32768 ∧ askT (askU a) = a := by
  obtain ⟨d, c, s, t, v, f, u, m⟩ := a
  have h' : textS 32768 (textS 32768 (textS 32768 (textS 32768 (numS 32768 (numS 32768 (numS 32768 (numS 32768 (some []) d) c) s) m) t) v) f) u = some b := h
  obtain ⟨b8, e8, o8, q8, l8⟩ := textS_some h'
  obtain ⟨b7, e7, o7, q7, -⟩ := textS_some e8
  obtain ⟨b6, e6, o6, q6, -⟩ := textS_some e7
  obtain ⟨b5, e5, o5, q5, -⟩ := textS_some e6
  obtain ⟨b4, e4, o4, q4, -⟩ := numS_some e5
  obtain ⟨b3, e3, o3, q3, -⟩ := numS_some e4
  obtain ⟨b2, e2, o2, q2, -⟩ := numS_some e3
  obtain ⟨b1, e1, o1, q1, -⟩ := numS_some e2
  injection e1 with e1
  subst e1
  refine ⟨⟨show _ < _ by show d.toNat < _; omega, show c.toNat < 268435456 by omega, show s.toNat < 268435456 by omega, show m.toNat < 268435456 by omega, o5, o6, o7, o8⟩, ?_, l8, ?_⟩
  · rw [q8, q7, q6, q5, q4, q3, q2, q1]
    show _ = numC.enc d.toNat ++ (numC.enc c.toNat ++ (numC.enc s.toNat ++ (numC.enc m.toNat ++ (textC.enc t ++ (textC.enc v ++ (textC.enc f ++ textC.enc u))))))
    simp only [List.append_assoc, List.nil_append]
  · show (⟨(d.toNat : Int), c.toNat, s.toNat, t, v, f, u, m.toNat⟩ : AskL) = _
    rw [Int.toNat_of_nonneg o1.1, Int.toNat_of_nonneg o2.1, Int.toNat_of_nonneg o3.1, Int.toNat_of_nonneg o4.1]

def repU (r : RepL) : Nat × Nat × Nat × Bool × List UInt8 × List (List UInt8 × List UInt8) × List UInt8 × Bool := (r.c.toNat, r.s.toNat, r.e.toNat, r.fd, r.v, r.ls, r.nx, r.mr)
/-- a reply that was packed. -/
theorem rep_packed {r : RepL} {b : List UInt8} (h : repS r = some b) : replyC.ok (repU r) ∧ b = replyC.enc (repU r) ∧ b.length ≤ 32768 ∧ repT (repU r) = r := by
  obtain ⟨c, s, e, fd, v, ls, nx, mr⟩ := r
  have h' : truthS 32768 (textS 32768 (recsS (numS 32768 (textS 32768 (truthS 32768 (numS 32768 (numS 32768 (numS 32768 (some []) c) s) e) fd) v) (ls.length : Int)) ls) nx) mr = some b := h
  obtain ⟨b8, e8, q8, l8⟩ := truthS_some h'
  obtain ⟨b7, e7, o7, q7, -⟩ := textS_some e8
  obtain ⟨b6, e6, o6, q6, -⟩ := recsS_some ls (fun c hc => numS_bd hc) e7
  obtain ⟨b5, e5, o5, q5, -⟩ := numS_some e6
  obtain ⟨b4, e4, o4, q4, -⟩ := textS_some e5
  obtain ⟨b3, e3, q3, -⟩ := truthS_some e4
  obtain ⟨b2, e2, o2, q2, -⟩ := numS_some e3
  obtain ⟨b1, e1, o1, q1, -⟩ := numS_some e2
  obtain ⟨b0, e0, o0, q0, -⟩ := numS_some e1
  injection e0 with e0
  subst e0
  refine ⟨⟨show c.toNat < 268435456 by omega, show s.toNat < 268435456 by omega, show e.toNat < 268435456 by omega, trivial, o4, ⟨show ls.length < 268435456 by omega, o6⟩, o7, trivial⟩, ?_, l8, ?_⟩
  · rw [q8, q7, q6, q5, q4, q3, q2, q1, q0]
    show _ = numC.enc c.toNat ++ (numC.enc s.toNat ++ (numC.enc e.toNat ++ (truthC.enc fd ++ (textC.enc v ++ ((numC.enc ls.length ++ encR recC ls) ++ (textC.enc nx ++ truthC.enc mr))))))
    rw [Int.toNat_natCast]
    simp only [List.append_assoc, List.nil_append]
  · show (⟨(c.toNat : Int), s.toNat, e.toNat, fd, v, ls, nx, mr⟩ : RepL) = _
    rw [Int.toNat_of_nonneg o0.1, Int.toNat_of_nonneg o1.1, Int.toNat_of_nonneg o2.1]

/-- what the cuts of packed bytes say. -/
theorem ask_cut {a : AskL} {b : List UInt8} (h : askS a = some b) (k : Nat) (hk : k < b.length) : rdAskE (b.take k) = 7 := by
  obtain ⟨h1, h2, h3, _⟩ := ask_packed h
  unfold rdAskE
  rw [if_neg (by rw [List.length_take]; omega), h2, read_cut askC _ h1 k (h2 ▸ hk)]; rfl
theorem ask_more {a : AskL} {b : List UInt8} (h : askS a = some b) (hl : b.length < 32768) : rdAskE (b ++ [0]) = 5 := by
  obtain ⟨h1, h2, h3, _⟩ := ask_packed h
  unfold rdAskE
  rw [if_neg (by rw [List.length_append, List.length_singleton]; omega), h2, read_more askC _ h1 0 []]; rfl
theorem rep_cut {r : RepL} {b : List UInt8} (h : repS r = some b) (k : Nat) (hk : k < b.length) : rdRepE (b.take k) = 7 := by
  obtain ⟨h1, h2, h3, _⟩ := rep_packed h
  unfold rdRepE
  rw [if_neg (by rw [List.length_take]; omega), h2, read_cut replyC _ h1 k (h2 ▸ hk)]; rfl
theorem rep_more {r : RepL} {b : List UInt8} (h : repS r = some b) (hl : b.length < 32768) : rdRepE (b ++ [0]) = 5 := by
  obtain ⟨h1, h2, h3, _⟩ := rep_packed h
  unfold rdRepE
  rw [if_neg (by rw [List.length_append, List.length_singleton]; omega), h2, read_more replyC _ h1 0 []]; rfl
/-- bytes alike are of asks alike. -/
theorem ask_inj {a a' : AskL} {b b' : List UInt8} (h : askS a = some b) (h' : askS a' = some b') : b = b' ↔ a = a' := by
  obtain ⟨h1, h2, _, h4⟩ := ask_packed h
  obtain ⟨k1, k2, _, k4⟩ := ask_packed h'
  constructor
  · intro e
    have := askC.inj h1 k1 (by rw [← h2, ← k2, e])
    rw [← h4, ← k4, this]
  · intro e
    rw [h2, k2, e]
theorem rep_inj {r r' : RepL} {b b' : List UInt8} (h : repS r = some b) (h' : repS r' = some b') : b = b' ↔ r = r' := by
  obtain ⟨h1, h2, _, h4⟩ := rep_packed h
  obtain ⟨k1, k2, _, k4⟩ := rep_packed h'
  constructor
  · intro e
    have := replyC.inj h1 k1 (by rw [← h2, ← k2, e])
    rw [← h4, ← k4, this]
  · intro e
    rw [h2, k2, e]
theorem askZ_packed : askS askZ = some (List.replicate 32 0) := by decide +kernel
theorem askZ_read : rdAskE (List.replicate 32 0) = 0 ∧ readL askC (List.replicate 32 0) = .ok (askU askZ) := by
  obtain ⟨h1, h2, h3, h4⟩ := ask_packed askZ_packed
  have h5 : readL askC (List.replicate 32 0) = .ok (askU askZ) := by rw [h2]; exact read_enc askC _ h1
  refine ⟨?_, h5⟩
  unfold rdAskE
  rw [if_neg (by decide), h5]; rfl
end Go.Proofs.Ytkidahlhnhglfaa
