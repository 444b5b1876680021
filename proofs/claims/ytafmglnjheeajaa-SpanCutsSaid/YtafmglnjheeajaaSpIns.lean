/-
  The region that lays a place more: its invariant.
-/
import Derived.Test.YtafmglnjheeajaaSpSlice
namespace Go.Proofs.Ytafmglnjheeajaa
open Go.RowKit Go.Gz

/-- append of a row of texts onto a row of texts of the call's own, at a step of a region. -/
theorem stepI_app_str {ops : Array Oper} {Q : Exit → Act → World → Prop} {i : Nat} {o : Oper} {a : Act} {w : World} {J : Value → World → Prop} (hgd : o.guard = none) (s x : Operand)
    (ho : o.op = .call { callee := .builtin .append, args := #[s, x], argTypes := #[32, 32] })
    (B : Nat) (v : Value) (ss : List ByteArray) (hs : a.eval s = v) (hown : OwnS w B v ss)
    (p : Option Addr) (c : Nat) (ys : List ByteArray) (hx : a.eval x = .slice p ys.length c) (hrow : Strs w p ys) (hpc : p = none → c = 0) (hlen : ss.length + ys.length ≤ 1000000) (hB : B ≤ w.heap.size)
    (hJ : ∀ v' w', OwnS w' B v' (ss ++ ys) → w.grownBy w' v.ownBlock → (v'.ownBlock = v.ownBlock ∨ v'.ownBlock = some w.heap.size) → J v' w') : StepI Try.prog ops Q i o a w J := by
  obtain ⟨i0, hi, hz0, hz1, hz2⟩ := info_parts info_str
  cases p with
  | none =>
    obtain rfl : ys = [] := by
      rcases hrow with h | ⟨b, off, hp', _⟩
      · exact h
      · cases hp'
    obtain rfl := hpc rfl
    have hrun := run_append_owned_none (P := Try.prog) (w := w) B 32 o.type 9 i0 1 Try.underlying32 hi v ss.length (ss.map Value.string) hown
    have hx' : a.eval x = .slice none 0 0 := hx
    refine step_run hgd (v := v) (w' := w) ?_ (hJ v w (by rw [List.append_nil]; exact hown) (World.grownBy.refl _ _) (Or.inl rfl))
    simp [execOp, ho, resolve, invoke, builtin, hs, hx', hrun, Result.andThen]
  | some ad =>
    obtain ⟨v', w', hr, h2, h3, _, h5⟩ := run_append_own_at (P := Try.prog) (w := w) B 32 o.type 9 i0 (.string ⟨#[]⟩) 1 16 Try.underlying32 hi hz0 hz1 hz2 rfl (by decide) v ss.length (ss.map Value.string) hown ad ys.length c (ys.map Value.string) (by simp) (by
      intro j u hj
      obtain ⟨hj', rfl⟩ := List.getElem?_eq_some_iff.1 hj
      simp only [List.length_map] at hj'
      rcases hrow with h | ⟨b, off, hp', _, hc⟩
      · rw [h] at hj'; simp at hj'
      · cases hp'
        rw [Addr.add_lit, hc j hj']
        simp [List.getD, hj']) (by
      intro u hu
      obtain ⟨y, _, rfl⟩ := List.mem_map.1 hu
      rfl) (by unfold maxLen; omega) (by omega) hB
    refine step_run hgd (v := v') (w' := w') ?_ (hJ v' w' (by unfold OwnS; rw [List.length_append, List.map_append]; exact h2) h3 h5)
    simp [execOp, ho, resolve, invoke, builtin, hs, hx, hr, Result.andThen]

/-- what holds in the region that lays a place more, whatever has run. -/
structure InsI (w0 : World) (AT CU S1 S2 : Value) (ad : Addr) (k i : Nat) (ss : List ByteArray) (ct : ByteArray) (L : Nat → Bool) (vals : Nat → Value) (w : World) : Prop where
  bel : Below w0.heap.size w0 w
  a0 : L 0 = true → L 4 = false → OwnS w w0.heap.size (vals 0) []
  a1 : L 1 = true → vals 1 = AT
  a2 : L 2 = true → vals 2 = .int .i64 k
  a3 : L 3 = true → vals 3 = S1
  a4 : L 4 = true → L 10 = false → OwnS w w0.heap.size (vals 4) (ss.take k)
  a5 : L 5 = true → vals 5 = CU
  a6 : L 6 = true → vals 6 = .int .i64 i
  a7 : L 7 = true → vals 7 = .pointer (some ad)
  a8 : L 8 = true → vals 8 = .string ct
  a9 : L 9 = true → L 10 = false → ∃ g, vals 9 = .slice (some ⟨g, 0, none⟩) 1 1 ∧ g < w.heap.size ∧ w.cell? ⟨g, 0, none⟩ = some (.string ct) ∧ (L 0 = true → L 4 = false → (vals 0).ownBlock ≠ some g) ∧ (L 4 = true → (vals 4).ownBlock ≠ some g)
  a10 : L 10 = true → L 14 = false → OwnS w w0.heap.size (vals 10) (ss.take k ++ [ct])
  a11 : L 11 = true → vals 11 = AT
  a12 : L 12 = true → vals 12 = .int .i64 k
  a13 : L 13 = true → vals 13 = S2
  a14 : L 14 = true → OwnS w w0.heap.size (vals 14) (insL ss ct k)
  a15 : L 15 = true → vals 15 = vals 14
  d4 : L 4 = true → L 0 = true
  d9 : L 10 = true → L 9 = true
  d10 : L 10 = true → L 4 = true
  d14 : L 14 = true → L 10 = true
  d15 : L 15 = true → L 1 = true ∧ L 11 = true ∧ L 14 = true

theorem no_of {a b : Bool} (h : a = true → b = true) (hb : b = false) : a = false := by
  cases a with
  | false => rfl
  | true => rw [h rfl] at hb; cases hb
theorem strs_one {w : World} {g : Nat} {s : ByteArray} (h : w.cell? ⟨g, 0, none⟩ = some (.string s)) : Strs w (some ⟨g, 0, none⟩) [s] :=
  Or.inr ⟨g, 0, rfl, World.block_lt_of_cell? w _ h, fun j hj => by
    obtain rfl : j = 0 := by simpa using hj
    exact h⟩
theorem ownS_made (w : World) (B : Nat) (hB : B ≤ w.heap.size) : OwnS (w.alloc (.cells #[] 9)) B (.slice (some ⟨w.heap.size, 0, none⟩) 0 0) [] :=
  World.ownsRow_made w #[] 0 hB (by unfold maxLen; omega) rfl
end Go.Proofs.Ytafmglnjheeajaa
