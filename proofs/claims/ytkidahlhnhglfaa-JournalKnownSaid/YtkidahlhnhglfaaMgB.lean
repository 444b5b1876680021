/-
  Several texts in one: SlConcat, SlRows, SlAll, SlStep.
-/
import Derived.Test.YtkidahlhnhglfaaSlClone
import Derived.Test.YtkidahlhnhglfaaByCat
import Derived.Test.YtkidahlhnhglfaaSlOpen
import Derived.Maps.AppendAt

namespace Go.Proofs.Ytkidahlhnhglfaa
open Go.RowKit Go.Gz

theorem info_row : (Try.prog.info? 25).map (fun i => (i.zero, i.size, i.bytes)) = some (some (.slice none 0 0), 1, 24) := by kernel_rfl

/-- v is a row of slices that the call owns. -/
def OwnL (w : World) (B : Nat) (v : Value) (vs : List Value) : Prop := w.ownsRow B 25 1 v vs.length vs
theorem OwnL.nil (w : World) (B : Nat) : OwnL w B (.slice none 0 0) [] := World.ownsRow_nil w B _ 1
theorem OwnL.alloc {w : World} {B : Nat} {v : Value} {vs : List Value} (h : OwnL w B v vs) (o : Obj) : OwnL (w.alloc o) B v vs := World.ownsRow.alloc h o
theorem OwnL.lt {w : World} {B : Nat} {v : Value} {vs : List Value} (h : OwnL w B v vs) : ∀ g, v.ownBlock = some g → B ≤ g := fun g hg => (World.ownsRow.lt h g hg).1
theorem OwnL.below {w w' : World} {B : Nat} {v : Value} {vs : List Value} (h : OwnL w B v vs) (hb : Below w.heap.size w w') : OwnL w' B v vs := by
  obtain ⟨h1, h2⟩ := h
  refine ⟨h1, ?_⟩
  rcases h2 with h2 | ⟨g, cap, cur, e, hg, hh, r⟩
  · exact Or.inl h2
  · exact Or.inr ⟨g, cap, cur, e, hg, by rw [hb.block g (Array.getElem?_eq_some_iff.1 hh).1]; exact hh, r⟩
theorem OwnL.row {w : World} {B : Nat} {v : Value} {vs : List Value} (h : OwnL w B v vs) : ∃ p c, v = .slice p vs.length c ∧ vs.length ≤ c ∧ (p = none → c = 0) ∧ (vs = [] ∨ ∃ g, p = some ⟨g, 0, none⟩ ∧ g < w.heap.size ∧ ∀ j u, vs[j]? = some u → w.cell? ⟨g, j, none⟩ = some u) := by
  obtain ⟨h1, ⟨rfl, h0⟩ | ⟨g, cap, cur, rfl, hg, hh, hc, hm, hs, ht⟩⟩ := h
  · have : vs = [] := List.eq_nil_of_length_eq_zero h0
    subst this
    exact ⟨none, 0, rfl, Nat.le_refl _, fun _ => rfl, Or.inl rfl⟩
  · refine ⟨_, cap, rfl, hc, (fun h => by cases h), Or.inr ⟨g, rfl, (Array.getElem?_eq_some_iff.1 hh).1, fun j u hj => ?_⟩⟩
    have hjl := (List.getElem?_eq_some_iff.1 hj).1
    have e1 : cur[j]? = some u := by
      have := congrArg (·[j]?) ht
      simp only [Nat.mul_one, List.getElem?_take, hjl, if_true, Array.getElem?_toList] at this
      rw [this]; exact hj
    simp only [World.cell?, hh]
    exact e1
/-- a row of bytes lies in another block than a row of slices. -/
theorem own_apart {w w' : World} {B B' : Nat} {u v : Value} {vs : List Value} {xs : List Int} (h : Own w B 5 .u8 u xs) (hv : OwnL w B' v vs) (hg : w.grownBy w' v.ownBlock) : Own w' B 5 .u8 u xs := by
  obtain ⟨h1, h2⟩ := h
  refine ⟨h1, ?_⟩
  rcases h2 with h2 | ⟨g, cap, cur, e, hgB, hh, r⟩
  · exact Or.inl h2
  · refine Or.inr ⟨g, cap, cur, e, hgB, ?_, r⟩
    rw [hg.block g (Array.getElem?_eq_some_iff.1 hh).1]
    · exact hh
    · intro he
      obtain ⟨_, ⟨rfl, _⟩ | ⟨g', cap', cur', rfl, _, hh', _⟩⟩ := hv
      · cases he
      · have : g = g' := by simpa [Value.ownBlock] using he
        subst this
        rw [hh] at hh'
        injection hh' with hh'
        injection hh' with _ ht _
        exact absurd ht (by decide)

/-- the rows are the bytes of rs. -/
def Items (w : World) (B : Nat) (vs : List Value) (rs : List (List UInt8)) : Prop := vs.length = rs.length ∧ ∀ i, i < rs.length → ∃ v, vs[i]? = some v ∧ Own w B 5 .u8 v (nums (rs.getD i []))
theorem Items.nil (w : World) (B : Nat) : Items w B [] [] := ⟨rfl, fun i h => by simp at h⟩
theorem Items.below {w w' : World} {B : Nat} {vs : List Value} {rs : List (List UInt8)} (h : Items w B vs rs) (hb : Below w.heap.size w w') : Items w' B vs rs :=
  ⟨h.1, fun i hi => by obtain ⟨v, h1, h2⟩ := h.2 i hi; exact ⟨v, h1, below_own h2 hb⟩⟩
theorem Items.grown {w w' : World} {B B' : Nat} {vs us : List Value} {v : Value} {rs : List (List UInt8)} (h : Items w B vs rs) (hv : OwnL w B' v us) (hg : w.grownBy w' v.ownBlock) : Items w' B vs rs :=
  ⟨h.1, fun i hi => by obtain ⟨u, h1, h2⟩ := h.2 i hi; exact ⟨u, h1, own_apart h2 hv hg⟩⟩
theorem Items.snoc {w : World} {B : Nat} {vs : List Value} {rs : List (List UInt8)} {v : Value} {r : List UInt8} (h : Items w B vs rs) (hv : Own w B 5 .u8 v (nums r)) : Items w B (vs ++ [v]) (rs ++ [r]) := by
  refine ⟨by simp [h.1], fun i hi => ?_⟩
  rw [List.length_append, List.length_singleton] at hi
  by_cases hlt : i < rs.length
  · obtain ⟨u, h1, h2⟩ := h.2 i hlt
    refine ⟨u, ?_, ?_⟩
    · rw [List.getElem?_append_left (by rw [h.1]; exact hlt)]; exact h1
    · rw [show (rs ++ [r]).getD i [] = rs.getD i [] by simp [List.getD, List.getElem?_append_left hlt]]; exact h2
  · obtain rfl : i = rs.length := by omega
    refine ⟨v, ?_, ?_⟩
    · rw [← h.1]; simp
    · simpa [List.getD] using hv

/-- append of one row. -/
theorem wpList_push_row {w : World} {ops : Array Oper} {rest : List Oper} {o : Oper} {a : Act} {Q : Exit → Act → World → Prop}
    (hg : o.guard = none) (s x : Operand) (hop : o.op = Op.call { callee := Callee.builtin Builtin.append, args := #[s, x], argTypes := #[117, 117] })
    (B : Nat) (v : Value) (vs : List Value) (hs : a.eval s = v) (hown : OwnL w B v vs)
    (G c : Nat) (q : Option Addr) (m d : Nat) (hx : a.eval x = .slice (some ⟨G, 0, none⟩) 1 c) (hc0 : w.cell? ⟨G, 0, none⟩ = some (.slice q m d))
    (hlen : vs.length ≤ 1000000) (hB : B ≤ w.heap.size)
    (hK : ∀ v' w', OwnL w' B v' (vs ++ [.slice q m d]) → w.grownBy w' v.ownBlock → wpList Try.prog ops Q rest (a.put o.dst v') w') :
    wpList Try.prog ops Q (o :: rest) a w := by
  obtain ⟨i0, hi, hz0, hz1, hz2⟩ := info_parts info_row
  refine wpList_append_own w hg s x 117 hop B 25 i0 (.slice none 0 0) 1 24 Try.underlying117 hi hz0 hz1 hz2 rfl (by decide) v vs.length vs hs hown ⟨G, 0, none⟩ 1 c [.slice q m d] hx rfl ?_ ?_ (by unfold maxLen; omega) (by omega) hB ?_
  · intro j u hj
    rw [Addr.add_lit, Nat.zero_add]
    match j, hj with
    | 0, hj => simp at hj; subst hj; exact hc0
    | j + 1, hj => simp at hj
  · intro u hu
    simp only [List.mem_cons, List.not_mem_nil, or_false] at hu
    subst hu; rfl
  · intro v' w' ho hgr _
    refine hK v' w' ?_ hgr
    unfold OwnL
    rw [List.length_append]
    exact ho
end Go.Proofs.Ytkidahlhnhglfaa
namespace Go.Proofs.Ytkidahlhnhglfaa
open Go.RowKit Go.Gz

theorem AllIs.inv {b : List UInt8} {rs : List (List UInt8)} {n : Nat} (h : AllIs b rs n) : (errL b ≠ 0 ∧ rs = [] ∧ n = 0) ∨ (errL b = 0 ∧ ∃ r' n', rs = (kindL b :: dataL b) :: r' ∧ n = 7 + manyL b + n' ∧ AllIs (b.drop (7 + manyL b)) r' n') := by
  cases h with
  | stop h => exact Or.inl ⟨h, rfl, rfl⟩
  | step h h2 => exact Or.inr ⟨h, _, _, rfl, rfl, h2⟩

theorem one_byte {w : World} {b : Nat} {x : UInt8} (h : w.cell? ⟨b, 0, none⟩ = some (.int .u8 x.toNat)) (hb : b < w.heap.size) : Row w .u8 (some ⟨b, 0, none⟩) (nums [x]) := by
  refine Or.inr ⟨b, 0, rfl, hb, fun j hj => ?_⟩
  have hj0 : j = 0 := by simpa [nums] using hj
  subst hj0
  exact h

def RetAll (w : World) (rs : List (List UInt8)) (U : Nat) (e : Ending) (w' : World) : Prop :=
  ∃ v vs, e = .returned (.tuple #[v, .int .i64 U]) ∧ OwnL w' w.heap.size v vs ∧ Items w' w.heap.size vs rs ∧ Below w.heap.size w w'

structure AllR (w : World) (l : List UInt8) (rs : List (List UInt8)) (U : Nat) (va vu : Value) (wr : World) (u : Nat) (vs : List Value) (pre suf : List (List UInt8)) : Prop where
  ev : vu = .int .i64 u
  sp : pre ++ suf = rs
  ai : AllIs (l.drop u) suf (U - u)
  le : u ≤ U
  ul : U ≤ l.length
  own : OwnL wr w.heap.size va vs
  it : Items wr w.heap.size vs pre
  bl : Below w.heap.size w wr
  ct : pre.length ≤ u

end Go.Proofs.Ytkidahlhnhglfaa
namespace Go.Proofs.Ytkidahlhnhglfaa
open Go.RowKit Go.Gz

theorem stepI_own_row {ops : Array Oper} {Q : Exit → Act → World → Prop} {i : Nat} {o : Oper} {a : Act} {w : World} {J : Value → World → Prop} (hgd : o.guard = none) (s x : Operand)
    (ho : o.op = .call { callee := .builtin .append, args := #[s, x], argTypes := #[25, 25] })
    (B : Nat) (v : Value) (xs : List Int) (hs : a.eval s = v) (hown : Own w B 5 .u8 v xs)
    (p : Option Addr) (c : Nat) (ys : List Int) (hx : a.eval x = .slice p ys.length c) (hrow : Row w .u8 p ys) (hpc : p = none → c = 0) (hlen : xs.length + ys.length ≤ 1000000) (hB : B ≤ w.heap.size)
    (hJ : ∀ v' w', Own w' B 5 .u8 v' (xs ++ ys) → w.grownBy w' v.ownBlock → J v' w') : StepI Try.prog ops Q i o a w J := by
  obtain ⟨i0, hi, hz0, hz1, hz2⟩ := info_parts info_byte
  cases p with
  | none =>
    obtain rfl : ys = [] := by
      rcases hrow with h | ⟨b, off, hp', _⟩
      · exact h
      · cases hp'
    obtain rfl := hpc rfl
    have hrun := run_append_owned_none (P := Try.prog) (w := w) B 25 o.type 5 i0 1 Try.underlying25 hi v xs.length (xs.map (Value.int .u8)) hown
    have hx' : a.eval x = .slice none 0 0 := hx
    refine step_run hgd (v := v) (w' := w) ?_ (hJ v w (by rw [List.append_nil]; exact hown) (World.grownBy.refl _ _))
    simp [execOp, ho, resolve, invoke, builtin, hs, hx', hrun, Result.andThen]
  | some ad =>
    obtain ⟨v', w', hr, h2, h3, _, h5⟩ := run_append_own_at (P := Try.prog) (w := w) B 25 o.type 5 i0 (.int .u8 0) 1 1 Try.underlying25 hi hz0 hz1 hz2 rfl (by decide) v xs.length (xs.map (Value.int .u8)) hown ad ys.length c (ys.map (Value.int .u8)) (by simp) (by
      intro j u hj
      obtain ⟨hj', rfl⟩ := List.getElem?_eq_some_iff.1 hj
      simp only [List.length_map] at hj'
      rcases hrow with h | ⟨b, off, hp', _, hc⟩
      · rw [h] at hj'; simp at hj'
      · cases hp'
        rw [Addr.add_lit, hc j hj']
        simp [List.getD, hj']) (by
      intro u hu
      obtain ⟨y, _, rfl⟩ := List.mem_map.1 hu
      rfl) (by unfold maxLen; omega) (by omega) hB
    refine step_run hgd (v := v') (w' := w') ?_ (hJ v' w' (by unfold Own; rw [List.length_append, List.map_append]; exact h2) h3)
    simp [execOp, ho, resolve, invoke, builtin, hs, hx, hr, Result.andThen]

structure KnI (q : Option Addr) (d : Nat) (F : List UInt8) (rs : List (List UInt8)) (w0 : World) (L : Nat → Bool) (vals : Nat → Value) (x : World) : Prop where
  v0 : L 0 = true → L 2 = false → Own x w0.heap.size 5 .u8 (vals 0) []
  v1 : L 1 = true → vals 1 = .slice q 16 d
  v2 : L 2 = true → L 5 = false → Own x w0.heap.size 5 .u8 (vals 2) (nums F)
  v3 : L 3 = true → vals 3 = .slice q 16 d
  v4 : L 4 = true → vals 4 = .slice q 9 d
  v5 : L 5 = true → Own x w0.heap.size 5 .u8 (vals 5) (nums (F ++ F.take 9))
  bl : Below w0.heap.size w0 x
  post : L 6 = true → ∃ va vs, vals 6 = .tuple #[va, .int .i64 16] ∧ (L 7 = true → vals 7 = .tuple #[va, .int .i64 16]) ∧ (L 8 = true → vals 8 = va) ∧ (L 9 = true → vals 9 = .int .i64 16) ∧ (L 10 = true → vals 10 = va) ∧ (L 11 = true → vals 11 = .int .i64 16) ∧
    OwnL x w0.heap.size va vs ∧ Items x w0.heap.size vs rs
theorem ownL_mono {w : World} {B B' : Nat} {v : Value} {vs : List Value} (h : OwnL w B v vs) (hB : B' ≤ B) : OwnL w B' v vs := by
  obtain ⟨h1, h2⟩ := h
  refine ⟨h1, ?_⟩
  rcases h2 with h2 | ⟨g, cap, cur, e, hg, r⟩
  · exact Or.inl h2
  · exact Or.inr ⟨g, cap, cur, e, by omega, r⟩
theorem Items.mono {w : World} {B B' : Nat} {vs : List Value} {rs : List (List UInt8)} (h : Items w B vs rs) (hB : B' ≤ B) : Items w B' vs rs :=
  ⟨h.1, fun i hi => by obtain ⟨v, h1, h2⟩ := h.2 i hi; exact ⟨v, h1, own_mono h2 hB⟩⟩
end Go.Proofs.Ytkidahlhnhglfaa
