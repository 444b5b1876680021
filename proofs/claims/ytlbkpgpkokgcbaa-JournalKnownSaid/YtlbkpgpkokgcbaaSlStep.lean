/-
  Layer seal: append of a row of bytes at a step of a drawn region; the region of SealKnown that lays two frames, and asks for all.
-/
import Derived.Test.YtlbkpgpkokgcbaaSlAll
import Derived.Maps.AppendAt
namespace Go.Proofs.Ytlbkpgpkokgcbaa
open Go.RowKit Go.Gz

theorem stepI_own_row {ops : Array Oper} {Q : Exit → Act → World → Prop} {i : Nat} {o : Oper} {a : Act} {w : World} {J : Value → World → Prop} (hgd : o.guard = none) (s x : Operand)
    (ho : o.op = .call { callee := .builtin .append, args := #[s, x], argTypes := #[36, 36] })
    (B : Nat) (v : Value) (xs : List Int) (hs : a.eval s = v) (hown : Own w B 5 .u8 v xs)
    (p : Option Addr) (c : Nat) (ys : List Int) (hx : a.eval x = .slice p ys.length c) (hrow : Row w .u8 p ys) (hpc : p = none → c = 0) (hlen : xs.length + ys.length ≤ 1000000) (hB : B ≤ w.heap.size)
    (hJ : ∀ v' w', Own w' B 5 .u8 v' (xs ++ ys) → w.grownBy w' v.ownBlock → J v' w') : StepI Try.prog ops Q i o a w J := by
  obtain ⟨i0, hi, hz0, hz1, hz2⟩ := info_parts info_byte
  cases p with
  | none =>
    obtain rfl : ys = [] := by
      rcases hrow with h | ⟨b, off, hp', _⟩
      · exact h
      · cases hp'
    obtain rfl := hpc rfl
    have hrun := run_append_owned_none (P := Try.prog) (w := w) B 36 o.type 5 i0 1 Try.underlying36 hi v xs.length (xs.map (Value.int .u8)) hown
    have hx' : a.eval x = .slice none 0 0 := hx
    refine step_run hgd (v := v) (w' := w) ?_ (hJ v w (by rw [List.append_nil]; exact hown) (World.grownBy.refl _ _))
    simp [execOp, ho, resolve, invoke, builtin, hs, hx', hrun, Result.andThen]
  | some ad =>
    obtain ⟨v', w', hr, h2, h3, _, h5⟩ := run_append_own_at (P := Try.prog) (w := w) B 36 o.type 5 i0 (.int .u8 0) 1 1 Try.underlying36 hi hz0 hz1 hz2 rfl (by decide) v xs.length (xs.map (Value.int .u8)) hown ad ys.length c (ys.map (Value.int .u8)) (by simp) (by
      intro j u hj
      obtain ⟨hj', rfl⟩ := List.getElem?_eq_some_iff.1 hj
      simp only [List.length_map] at hj'
      rcases hrow with h | ⟨b, off, hp', _, hc⟩
      · rw [h] at hj'; simp at hj'
      · cases hp'
        rw [Addr.add_lit, hc j hj']
        simp [List.getD, hj']) (by
      intro u hu
      obtain ⟨y, _, rfl⟩ := List.mem_map.1 hu
      rfl) (by unfold maxLen; omega) (by omega) hB
    refine step_run hgd (v := v') (w' := w') ?_ (hJ v' w' (by unfold Own; rw [List.length_append, List.map_append]; exact h2) h3)
    simp [execOp, ho, resolve, invoke, builtin, hs, hx, hr, Result.andThen]

structure KnI (q : Option Addr) (d : Nat) (F : List UInt8) (rs : List (List UInt8)) (w0 : World) (L : Nat → Bool) (vals : Nat → Value) (x : World) : Prop where
  v0 : L 0 = true → L 2 = false → Own x w0.heap.size 5 .u8 (vals 0) []
  v1 : L 1 = true → vals 1 = .slice q 16 d
  v2 : L 2 = true → L 5 = false → Own x w0.heap.size 5 .u8 (vals 2) (nums F)
  v3 : L 3 = true → vals 3 = .slice q 16 d
  v4 : L 4 = true → vals 4 = .slice q 9 d
  v5 : L 5 = true → Own x w0.heap.size 5 .u8 (vals 5) (nums (F ++ F.take 9))
  bl : Below w0.heap.size w0 x
  post : L 6 = true → ∃ va vs, vals 6 = .tuple #[va, .int .i64 16] ∧ (L 7 = true → vals 7 = .tuple #[va, .int .i64 16]) ∧ (L 8 = true → vals 8 = va) ∧ (L 9 = true → vals 9 = .int .i64 16) ∧ (L 10 = true → vals 10 = va) ∧ (L 11 = true → vals 11 = .int .i64 16) ∧
    OwnL x w0.heap.size va vs ∧ Items x w0.heap.size vs rs
theorem ownL_mono {w : World} {B B' : Nat} {v : Value} {vs : List Value} (h : OwnL w B v vs) (hB : B' ≤ B) : OwnL w B' v vs := by
  obtain ⟨h1, h2⟩ := h
  refine ⟨h1, ?_⟩
  rcases h2 with h2 | ⟨g, cap, cur, e, hg, r⟩
  · exact Or.inl h2
  · exact Or.inr ⟨g, cap, cur, e, by omega, r⟩
theorem Items.mono {w : World} {B B' : Nat} {vs : List Value} {rs : List (List UInt8)} (h : Items w B vs rs) (hB : B' ≤ B) : Items w B' vs rs :=
  ⟨h.1, fun i hi => by obtain ⟨v, h1, h2⟩ := h.2 i hi; exact ⟨v, h1, own_mono h2 hB⟩⟩
end Go.Proofs.Ytlbkpgpkokgcbaa
