/-
  Layer seal: a row of rows of bytes that the call owns.
-/
import Derived.Test.YtlbkpgpkokgcbaaSlConcat
namespace Go.Proofs.Ytlbkpgpkokgcbaa
open Go.RowKit Go.Gz

theorem info_row : (Try.prog.info? 36).map (fun i => (i.zero, i.size, i.bytes)) = some (some (.slice none 0 0), 1, 24) := by kernel_rfl

/-- v is a row of slices that the call owns. -/
def OwnL (w : World) (B : Nat) (v : Value) (vs : List Value) : Prop := w.ownsRow B 36 1 v vs.length vs
theorem OwnL.nil (w : World) (B : Nat) : OwnL w B (.slice none 0 0) [] := World.ownsRow_nil w B _ 1
theorem OwnL.alloc {w : World} {B : Nat} {v : Value} {vs : List Value} (h : OwnL w B v vs) (o : Obj) : OwnL (w.alloc o) B v vs := World.ownsRow.alloc h o
theorem OwnL.lt {w : World} {B : Nat} {v : Value} {vs : List Value} (h : OwnL w B v vs) : ∀ g, v.ownBlock = some g → B ≤ g := fun g hg => (World.ownsRow.lt h g hg).1
theorem OwnL.below {w w' : World} {B : Nat} {v : Value} {vs : List Value} (h : OwnL w B v vs) (hb : Below w.heap.size w w') : OwnL w' B v vs := by
  obtain ⟨h1, h2⟩ := h
  refine ⟨h1, ?_⟩
  rcases h2 with h2 | ⟨g, cap, cur, e, hg, hh, r⟩
  · exact Or.inl h2
  · exact Or.inr ⟨g, cap, cur, e, hg, by rw [hb.block g (Array.getElem?_eq_some_iff.1 hh).1]; exact hh, r⟩
theorem OwnL.row {w : World} {B : Nat} {v : Value} {vs : List Value} (h : OwnL w B v vs) : ∃ p c, v = .slice p vs.length c ∧ vs.length ≤ c ∧ (p = none → c = 0) ∧ (vs = [] ∨ ∃ g, p = some ⟨g, 0, none⟩ ∧ g < w.heap.size ∧ ∀ j u, vs[j]? = some u → w.cell? ⟨g, j, none⟩ = some u) := by
  obtain ⟨h1, ⟨rfl, h0⟩ | ⟨g, cap, cur, rfl, hg, hh, hc, hm, hs, ht⟩⟩ := h
  · have : vs = [] := List.eq_nil_of_length_eq_zero h0
    subst this
    exact ⟨none, 0, rfl, Nat.le_refl _, fun _ => rfl, Or.inl rfl⟩
  · refine ⟨_, cap, rfl, hc, (fun h => by cases h), Or.inr ⟨g, rfl, (Array.getElem?_eq_some_iff.1 hh).1, fun j u hj => ?_⟩⟩
    have hjl := (List.getElem?_eq_some_iff.1 hj).1
    have e1 : cur[j]? = some u := by
      have := congrArg (·[j]?) ht
      simp only [Nat.mul_one, List.getElem?_take, hjl, if_true, Array.getElem?_toList] at this
      rw [this]; exact hj
    simp only [World.cell?, hh]
    exact e1
/-- a row of bytes lies in another block than a row of slices. -/
theorem own_apart {w w' : World} {B B' : Nat} {u v : Value} {vs : List Value} {xs : List Int} (h : Own w B 5 .u8 u xs) (hv : OwnL w B' v vs) (hg : w.grownBy w' v.ownBlock) : Own w' B 5 .u8 u xs := by
  obtain ⟨h1, h2⟩ := h
  refine ⟨h1, ?_⟩
  rcases h2 with h2 | ⟨g, cap, cur, e, hgB, hh, r⟩
  · exact Or.inl h2
  · refine Or.inr ⟨g, cap, cur, e, hgB, ?_, r⟩
    rw [hg.block g (Array.getElem?_eq_some_iff.1 hh).1]
    · exact hh
    · intro he
      obtain ⟨_, ⟨rfl, _⟩ | ⟨g', cap', cur', rfl, _, hh', _⟩⟩ := hv
      · cases he
      · have : g = g' := by simpa [Value.ownBlock] using he
        subst this
        rw [hh] at hh'
        injection hh' with hh'
        injection hh' with _ ht _
        exact absurd ht (by decide)

/-- the rows are the bytes of rs. -/
def Items (w : World) (B : Nat) (vs : List Value) (rs : List (List UInt8)) : Prop := vs.length = rs.length ∧ ∀ i, i < rs.length → ∃ v, vs[i]? = some v ∧ Own w B 5 .u8 v (nums (rs.getD i []))
theorem Items.nil (w : World) (B : Nat) : Items w B [] [] := ⟨rfl, fun i h => by simp at h⟩
theorem Items.below {w w' : World} {B : Nat} {vs : List Value} {rs : List (List UInt8)} (h : Items w B vs rs) (hb : Below w.heap.size w w') : Items w' B vs rs :=
  ⟨h.1, fun i hi => by obtain ⟨v, h1, h2⟩ := h.2 i hi; exact ⟨v, h1, below_own h2 hb⟩⟩
theorem Items.grown {w w' : World} {B B' : Nat} {vs us : List Value} {v : Value} {rs : List (List UInt8)} (h : Items w B vs rs) (hv : OwnL w B' v us) (hg : w.grownBy w' v.ownBlock) : Items w' B vs rs :=
  ⟨h.1, fun i hi => by obtain ⟨u, h1, h2⟩ := h.2 i hi; exact ⟨u, h1, own_apart h2 hv hg⟩⟩
theorem Items.snoc {w : World} {B : Nat} {vs : List Value} {rs : List (List UInt8)} {v : Value} {r : List UInt8} (h : Items w B vs rs) (hv : Own w B 5 .u8 v (nums r)) : Items w B (vs ++ [v]) (rs ++ [r]) := by
  refine ⟨by simp [h.1], fun i hi => ?_⟩
  rw [List.length_append, List.length_singleton] at hi
  by_cases hlt : i < rs.length
  · obtain ⟨u, h1, h2⟩ := h.2 i hlt
    refine ⟨u, ?_, ?_⟩
    · rw [List.getElem?_append_left (by rw [h.1]; exact hlt)]; exact h1
    · rw [show (rs ++ [r]).getD i [] = rs.getD i [] by simp [List.getD, List.getElem?_append_left hlt]]; exact h2
  · obtain rfl : i = rs.length := by omega
    refine ⟨v, ?_, ?_⟩
    · rw [← h.1]; simp
    · simpa [List.getD] using hv

/-- append of one row. -/
theorem wpList_push_row {w : World} {ops : Array Oper} {rest : List Oper} {o : Oper} {a : Act} {Q : Exit → Act → World → Prop}
    (hg : o.guard = none) (s x : Operand) (hop : o.op = Op.call { callee := Callee.builtin Builtin.append, args := #[s, x], argTypes := #[76, 76] })
    (B : Nat) (v : Value) (vs : List Value) (hs : a.eval s = v) (hown : OwnL w B v vs)
    (G c : Nat) (q : Option Addr) (m d : Nat) (hx : a.eval x = .slice (some ⟨G, 0, none⟩) 1 c) (hc0 : w.cell? ⟨G, 0, none⟩ = some (.slice q m d))
    (hlen : vs.length ≤ 1000000) (hB : B ≤ w.heap.size)
    (hK : ∀ v' w', OwnL w' B v' (vs ++ [.slice q m d]) → w.grownBy w' v.ownBlock → wpList Try.prog ops Q rest (a.put o.dst v') w') :
    wpList Try.prog ops Q (o :: rest) a w := by
  obtain ⟨i0, hi, hz0, hz1, hz2⟩ := info_parts info_row
  refine wpList_append_own w hg s x 76 hop B 36 i0 (.slice none 0 0) 1 24 Try.underlying76 hi hz0 hz1 hz2 rfl (by decide) v vs.length vs hs hown ⟨G, 0, none⟩ 1 c [.slice q m d] hx rfl ?_ ?_ (by unfold maxLen; omega) (by omega) hB ?_
  · intro j u hj
    rw [Addr.add_lit, Nat.zero_add]
    match j, hj with
    | 0, hj => simp at hj; subst hj; exact hc0
    | j + 1, hj => simp at hj
  · intro u hu
    simp only [List.mem_cons, List.not_mem_nil, or_false] at hu
    subst hu; rfl
  · intro v' w' ho hgr _
    refine hK v' w' ?_ hgr
    unfold OwnL
    rw [List.length_append]
    exact ho
end Go.Proofs.Ytlbkpgpkokgcbaa
