/-
  WeighKnown: the region of twenty-nine operations: what holds in it, whatever has run.
-/
import Derived.Test.YtcocmmndonlhkaaWkM
import Derived.Test.YtcocmmndonlhkaaRegInv
import Derived.Maps.AppendAt
namespace Go.Proofs.Ytcocmmndonlhkaa
open Go.RowKit Go.Gz Go.Sort

theorem ownE_lit (w : World) (B : Nat) (hB : B ≤ w.heap.size) (es : List EL) (hl : es.length ≤ 1000) : OwnE (w.alloc (.cells (flatE es).toArray 25)) B (.slice (some ⟨w.heap.size, 0, none⟩) es.length es.length) es :=
  ⟨flatE_length es, Or.inr ⟨w.heap.size, es.length, (flatE es).toArray, rfl, hB, by show (w.heap.push _)[w.heap.size]? = _; simp, Nat.le_refl _, by unfold maxLen; omega, by simp [flatE_length], by rw [List.take_of_length_le (by simp [flatE_length])]⟩⟩

/-- which operation takes a row over. -/
def wkN (r : Nat) : Option Nat := match r with | 3 => some 6 | 8 => some 12 | 14 => some 17 | 17 => some 20 | _ => none
def wkRow (r : Nat) : Bool := match r with | 1 | 3 | 5 | 6 | 8 | 11 | 12 | 14 | 16 | 17 | 19 | 20 | 25 | 26 => true | _ => false
def wkE (r : Nat) : List EL := match r with
  | 1 => [⟨2, 1, 1⟩] | 3 => [⟨3, 1, 1⟩] | 5 => [⟨0, 7, 1⟩] | 6 => [⟨3, 1, 1⟩, ⟨0, 7, 1⟩] | 8 => [⟨1, 1, 1⟩] | 11 => [⟨0, 6, 1⟩, ⟨0, 5, 1⟩] | 12 => [⟨1, 1, 1⟩, ⟨0, 6, 1⟩, ⟨0, 5, 1⟩] | 14 => [⟨1, 1, 1⟩] | 16 => [⟨3, 1, 1⟩] | 17 => [⟨1, 1, 1⟩, ⟨3, 1, 1⟩] | 19 => [⟨4, 1, 1⟩] | 20 => [⟨1, 1, 1⟩, ⟨3, 1, 1⟩, ⟨4, 1, 1⟩] | 25 => [⟨64000, 32, 2⟩, ⟨60123, 0, 0⟩] | _ => []
def wkLive (L : Nat → Bool) (r : Nat) : Bool := wkRow r && L r && match wkN r with | some n => !L n | none => true
structure WkI (w0 : World) (vv : Nat → Value) (L : Nat → Bool) (vals : Nat → Value) (w : World) : Prop where
  bel : Below w0.heap.size w0 w
  own : ∀ r, wkLive L r = true → OwnE w w0.heap.size (vals r) (wkE r)
  far : ∀ r r', wkLive L r = true → wkLive L r' = true → r ≠ r' → ∀ g, (vals r).ownBlock = some g → (vals r').ownBlock ≠ some g
  val : ∀ r, r < 27 → wkRow r = false → L r = true → vals r = vv r
  fin : L 27 = true → ∃ g, vals 27 = .slice (some ⟨g, 0, none⟩) 6 6 ∧ w.heap[g]? = some (.cells #[vals 1, vals 6, vals 12, vals 20, vals 25, vals 26] 23 (0, 0))
  fin2 : L 28 = true → vals 28 = vals 27

theorem wkLive_row {L : Nat → Bool} {r : Nat} (h : wkLive L r = true) : wkRow r = true ∧ L r = true := by
  unfold wkLive at h
  simp only [Bool.and_eq_true] at h
  exact h.1
/-- a value that no row is. -/
theorem WkI.value {w0 : World} {vv : Nat → Value} {L : Nat → Bool} {vals : Nat → Value} {w : World} (h : WkI w0 vv L vals w) {i : Nat} (hi : i < 27) (hr : wkRow i = false) (h27 : L 27 = false) (h28 : L 28 = false) : WkI w0 vv (updL L i) (updV vals i (vv i)) w := by
  have hl : ∀ r, wkLive (updL L i) r = true → wkLive L r = true ∧ r ≠ i := fun r hr' => by
    have hri : r ≠ i := fun e => by have := (wkLive_row hr').1; rw [e, hr] at this; cases this
    refine ⟨?_, hri⟩
    unfold wkLive updL at hr'
    unfold wkLive
    rw [if_neg hri] at hr'
    cases hn : wkN r with
    | none => rw [hn] at hr'; exact hr'
    | some n =>
      rw [hn] at hr'
      have hni : n ≠ i := fun e => by
        subst e
        unfold wkN at hn
        split at hn <;> first | (injection hn with hn; subst hn; cases hr) | cases hn
      simp only [if_neg hni] at hr'
      exact hr'
  refine ⟨h.bel, fun r hr' => ?_, fun r r' h1 h2 hne g hg => ?_, fun r h1 h2 h3 => ?_, fun hc => ?_, fun hc => ?_⟩
  · obtain ⟨a, b⟩ := hl r hr'
    unfold updV; rw [if_neg b]; exact h.own r a
  · obtain ⟨a, b⟩ := hl r h1
    obtain ⟨a', b'⟩ := hl r' h2
    unfold updV at hg ⊢
    rw [if_neg b] at hg
    rw [if_neg b']
    exact h.far r r' a a' hne g hg
  · unfold updV updL at *
    by_cases e : r = i
    · rw [if_pos e, e]
    · rw [if_neg e] at h3 ⊢; exact h.val r h1 h2 h3
  · unfold updL at hc; rw [if_neg (by omega), h27] at hc; cases hc
  · unfold updL at hc; rw [if_neg (by omega), h28] at hc; cases hc
/-- a row in a new block. -/
theorem WkI.row {w0 : World} {vv : Nat → Value} {L : Nat → Bool} {vals : Nat → Value} {w w' : World} (h : WkI w0 vv L vals w) {i : Nat} (hi : i < 27) (hr : wkRow i = true) (hn : ∀ r, wkN r ≠ some i) (h27 : L 27 = false) (h28 : L 28 = false) {v : Value} (hb : Below w.heap.size w w')
    (hown : OwnE w' w0.heap.size v (wkE i)) (hat : ∀ g, v.ownBlock = some g → w.heap.size ≤ g) : WkI w0 vv (updL L i) (updV vals i v) w' := by
  have hl : ∀ r, wkLive (updL L i) r = true → r ≠ i → wkLive L r = true := fun r hr' hri => by
    unfold wkLive updL at hr'
    unfold wkLive
    rw [if_neg hri] at hr'
    cases hn' : wkN r with
    | none => rw [hn'] at hr'; exact hr'
    | some n =>
      rw [hn'] at hr'
      have hni : n ≠ i := fun e => hn r (by rw [hn', e])
      simp only [if_neg hni] at hr'
      exact hr'
  have hlt : ∀ r, wkLive L r = true → ∀ g, (vals r).ownBlock = some g → g < w.heap.size := fun r hr' g hg => (World.ownsRow.lt (h.own r hr') g hg).2
  refine ⟨h.bel.trans (hb.mono h.bel.size), fun r hr' => ?_, fun r r' h1 h2 hne g hg => ?_, fun r h1 h2 h3 => ?_, fun hc => ?_, fun hc => ?_⟩
  · unfold updV
    by_cases e : r = i
    · rw [if_pos e, e]; exact hown
    · rw [if_neg e]; exact (h.own r (hl r hr' e)).below hb
  · unfold updV at hg ⊢
    by_cases e : r = i
    · rw [if_pos e] at hg
      rw [if_neg (fun e' => hne (e.trans e'.symm))]
      intro hc
      have h3 := hat g hg
      have h4 := hlt r' (hl r' h2 (fun e' => hne (e.trans e'.symm))) g hc
      omega
    · rw [if_neg e] at hg
      have h4 := hlt r (hl r h1 e) g hg
      by_cases e' : r' = i
      · rw [if_pos e']; intro hc; have := hat g hc; omega
      · rw [if_neg e']; exact h.far r r' (hl r h1 e) (hl r' h2 e') hne g hg
  · unfold updV updL at *
    have e : r ≠ i := fun e => by rw [e, hr] at h2; cases h2
    rw [if_neg e] at h3 ⊢
    exact h.val r h1 h2 h3
  · unfold updL at hc; rw [if_neg (by omega), h27] at hc; cases hc
  · unfold updL at hc; rw [if_neg (by omega), h28] at hc; cases hc
/-- a row that is taken over. -/
theorem WkI.app {w0 : World} {vv : Nat → Value} {L : Nat → Bool} {vals : Nat → Value} {w w' : World} (h : WkI w0 vv L vals w) {i r0 : Nat} (hi : i < 27) (hr : wkRow i = true) (hn : ∀ r, wkN r = some i ↔ r = r0) (h0 : wkLive L r0 = true) (h27 : L 27 = false) (h28 : L 28 = false) (hLi : L i = false) {v : Value}
    (hgr : w.grownBy w' (vals r0).ownBlock) (hown : OwnE w' w0.heap.size v (wkE i)) (hat : v.ownBlock = (vals r0).ownBlock ∨ v.ownBlock = some w.heap.size) : WkI w0 vv (updL L i) (updV vals i v) w' := by
  have hr0 : r0 ≠ i := fun e => by have := (wkLive_row h0).2; rw [e, hLi] at this; cases this
  have hl : ∀ r, wkLive (updL L i) r = true → r ≠ i → wkLive L r = true ∧ r ≠ r0 := fun r hr' hri => by
    unfold wkLive updL at hr'
    unfold wkLive
    rw [if_neg hri] at hr'
    cases hn' : wkN r with
    | none =>
      rw [hn'] at hr'
      exact ⟨hr', fun e => by have := (hn r).2 e; rw [hn'] at this; cases this⟩
    | some n =>
      rw [hn'] at hr'
      by_cases hni : n = i
      · simp [hni] at hr'
      · simp only [if_neg hni] at hr'
        exact ⟨hr', fun e => hni (by have := (hn r).2 e; rw [hn'] at this; injection this)⟩
  have hlt : ∀ r, wkLive L r = true → ∀ g, (vals r).ownBlock = some g → g < w.heap.size := fun r hr' g hg => (World.ownsRow.lt (h.own r hr') g hg).2
  have hv : ∀ r g, wkLive L r = true → r ≠ r0 → (vals r).ownBlock = some g → v.ownBlock ≠ some g := fun r g h1 h2 hg hc => by
    rcases hat with hat | hat
    · rw [hat] at hc; exact h.far r r0 h1 h0 h2 g hg hc
    · rw [hat] at hc; injection hc with hc; have := hlt r h1 g hg; omega
  refine ⟨h.bel.grown hgr h.bel.size (fun g hg => (World.ownsRow.lt (h.own r0 h0) g hg).1), fun r hr' => ?_, fun r r' h1 h2 hne g hg => ?_, fun r h1 h2 h3 => ?_, fun hc => ?_, fun hc => ?_⟩
  · unfold updV
    by_cases e : r = i
    · rw [if_pos e, e]; exact hown
    · rw [if_neg e]
      obtain ⟨a, b⟩ := hl r hr' e
      refine World.ownsRow.kept (h.own r a) hgr ?_
      cases hb : (vals r).ownBlock with
      | none => exact Or.inl rfl
      | some g => exact Or.inr (fun e2 => h.far r r0 a h0 b g hb e2.symm)
  · unfold updV at hg ⊢
    by_cases e : r = i
    · rw [if_pos e] at hg
      have e' : r' ≠ i := fun e' => hne (e.trans e'.symm)
      rw [if_neg e']
      obtain ⟨a, b⟩ := hl r' h2 e'
      intro hc
      exact hv r' g a b hc hg
    · rw [if_neg e] at hg
      obtain ⟨a, b⟩ := hl r h1 e
      by_cases e' : r' = i
      · rw [if_pos e']; exact hv r g a b hg
      · rw [if_neg e']; exact h.far r r' a (hl r' h2 e').1 hne g hg
  · unfold updV updL at *
    have e : r ≠ i := fun e => by rw [e, hr] at h2; cases h2
    rw [if_neg e] at h3 ⊢
    exact h.val r h1 h2 h3
  · unfold updL at hc; rw [if_neg (by omega), h27] at hc; cases hc
  · unfold updL at hc; rw [if_neg (by omega), h28] at hc; cases hc
/-- the row of rows. -/
theorem WkI.last {w0 : World} {vv : Nat → Value} {L : Nat → Bool} {vals : Nat → Value} {w : World} (h : WkI w0 vv L vals w) (h28 : L 28 = false) :
    WkI w0 vv (updL L 27) (updV vals 27 (.slice (some ⟨w.heap.size, 0, none⟩) 6 6)) (w.alloc (.cells #[vals 1, vals 6, vals 12, vals 20, vals 25, vals 26] 23)) := by
  have hl : ∀ r, wkLive (updL L 27) r = true → wkLive L r = true ∧ r ≠ 27 := fun r hr' => by
    have hri : r ≠ 27 := fun e => by have := (wkLive_row hr').1; rw [e] at this; cases this
    refine ⟨?_, hri⟩
    unfold wkLive updL at hr'
    unfold wkLive
    rw [if_neg hri] at hr'
    cases hn : wkN r with
    | none => rw [hn] at hr'; exact hr'
    | some n =>
      rw [hn] at hr'
      have hni : n ≠ 27 := fun e => by
        subst e
        unfold wkN at hn
        split at hn <;> first | (injection hn with hn; omega) | cases hn
      simp only [if_neg hni] at hr'
      exact hr'
  have hb : Below w.heap.size w (w.alloc (.cells #[vals 1, vals 6, vals 12, vals 20, vals 25, vals 26] 23)) := (Below.refl _ _).alloc (Nat.le_refl _) _
  refine ⟨h.bel.trans (hb.mono h.bel.size), fun r hr' => ?_, fun r r' h1 h2 hne g hg => ?_, fun r h1 h2 h3 => ?_, fun _ => ?_, fun hc => ?_⟩
  · obtain ⟨a, b⟩ := hl r hr'
    unfold updV; rw [if_neg b]; exact (h.own r a).below hb
  · obtain ⟨a, b⟩ := hl r h1
    obtain ⟨a', b'⟩ := hl r' h2
    unfold updV at hg ⊢
    rw [if_neg b] at hg
    rw [if_neg b']
    exact h.far r r' a a' hne g hg
  · unfold updV updL at *
    have e : r ≠ 27 := by omega
    rw [if_neg e] at h3 ⊢
    exact h.val r h1 h2 h3
  · refine ⟨w.heap.size, by unfold updV; rfl, ?_⟩
    show (w.heap.push _)[w.heap.size]? = _
    rw [Array.getElem?_push_size]
    rfl
  · unfold updL at hc; rw [if_neg (by omega), h28] at hc; cases hc
theorem WkI.done {w0 : World} {vv : Nat → Value} {L : Nat → Bool} {vals : Nat → Value} {w : World} (h : WkI w0 vv L vals w) (h27 : L 27 = true) : WkI w0 vv (updL L 28) (updV vals 28 (vals 27)) w := by
  have hl : ∀ r, wkLive (updL L 28) r = true → wkLive L r = true ∧ r ≠ 28 := fun r hr' => by
    have hri : r ≠ 28 := fun e => by have := (wkLive_row hr').1; rw [e] at this; cases this
    refine ⟨?_, hri⟩
    unfold wkLive updL at hr'
    unfold wkLive
    rw [if_neg hri] at hr'
    cases hn : wkN r with
    | none => rw [hn] at hr'; exact hr'
    | some n =>
      rw [hn] at hr'
      have hni : n ≠ 28 := fun e => by
        subst e
        unfold wkN at hn
        split at hn <;> first | (injection hn with hn; omega) | cases hn
      simp only [if_neg hni] at hr'
      exact hr'
  refine ⟨h.bel, fun r hr' => ?_, fun r r' h1 h2 hne g hg => ?_, fun r h1 h2 h3 => ?_, fun _ => ?_, fun hc => ?_⟩
  · obtain ⟨a, b⟩ := hl r hr'
    unfold updV; rw [if_neg b]; exact h.own r a
  · obtain ⟨a, b⟩ := hl r h1
    obtain ⟨a', b'⟩ := hl r' h2
    unfold updV at hg ⊢
    rw [if_neg b] at hg
    rw [if_neg b']
    exact h.far r r' a a' hne g hg
  · unfold updV updL at *
    have e : r ≠ 28 := by omega
    rw [if_neg e] at h3 ⊢
    exact h.val r h1 h2 h3
  · exact h.fin h27
  · rfl
/-- the answers that are wanted, in memory. -/
structure WantAt (w : World) (g : Nat) : Prop where
  lt : g < w.heap.size
  at_ : ∀ i, i < 6 → ∃ p c, w.cell? ⟨g, i, none⟩ = some (.slice p wkOut[i]!.length c) ∧ Els w p wkOut[i]!
theorem WantAt.below {w w' : World} {g : Nat} (h : WantAt w g) (hb : Below w.heap.size w w') : WantAt w' g :=
  ⟨Nat.lt_of_lt_of_le h.lt hb.size, fun i hi => by
    obtain ⟨p, c, h1, h2⟩ := h.at_ i hi
    exact ⟨p, c, cell_below hb h1 h.lt, h2.below hb⟩⟩
theorem WkI.want {w0 : World} {vv : Nat → Value} {vals : Nat → Value} {w : World} (h : WkI w0 vv (fun i => decide (i < 29)) vals w) : ∃ g, vals 28 = .slice (some ⟨g, 0, none⟩) 6 6 ∧ WantAt w g := by
  obtain ⟨g, h1, h2⟩ := h.fin rfl
  refine ⟨g, (h.fin2 rfl).trans h1, (Array.getElem?_eq_some_iff.1 h2).1, fun i hi => ?_⟩
  have key : ∀ r, wkLive (fun i => decide (i < 29)) r = true → ∀ k, (#[vals 1, vals 6, vals 12, vals 20, vals 25, vals 26] : Array Value)[k]? = some (vals r) → ∃ p c, w.cell? ⟨g, k, none⟩ = some (.slice p (wkE r).length c) ∧ Els w p (wkE r) := fun r hr k hk => by
    obtain ⟨p, c, e, _, _, he⟩ := (h.own r hr).row
    refine ⟨p, c, ?_, he⟩
    unfold World.cell?
    rw [h2]
    show (#[vals 1, vals 6, vals 12, vals 20, vals 25, vals 26] : Array Value)[k]? = _
    rw [hk, e]
  obtain rfl | rfl | rfl | rfl | rfl | rfl : i = 0 ∨ i = 1 ∨ i = 2 ∨ i = 3 ∨ i = 4 ∨ i = 5 := by omega
  · exact key 1 rfl 0 rfl
  · exact key 6 rfl 1 rfl
  · exact key 12 rfl 2 rfl
  · exact key 20 rfl 3 rfl
  · exact key 25 rfl 4 rfl
  · exact key 26 rfl 5 rfl
set_option maxRecDepth 100000 in
/-- append of a row of elements onto a row of elements of the call's own, at a step of a region. -/
theorem stepI_app_el {ops : Array Oper} {Q : Exit → Act → World → Prop} {i : Nat} {o : Oper} {a : Act} {w : World} {J : Value → World → Prop} (hgd : o.guard = none) (s x : Operand)
    (ho : o.op = .call { callee := .builtin .append, args := #[s, x], argTypes := #[23, 23] })
    (B : Nat) (v : Value) (xs : List EL) (hs : a.eval s = v) (hown : OwnE w B v xs)
    (p : Option Addr) (c : Nat) (ys : List EL) (hx : a.eval x = .slice p ys.length c) (hrow : Els w p ys) (hpc : p = none → c = 0) (hlen : xs.length + ys.length ≤ 1000000) (hB : B ≤ w.heap.size)
    (hJ : ∀ v' w', OwnE w' B v' (xs ++ ys) → w.grownBy w' v.ownBlock → (v'.ownBlock = v.ownBlock ∨ v'.ownBlock = some w.heap.size) → J v' w') : StepI Try.prog ops Q i o a w J := by
  obtain ⟨i0, hi, hz0, hz1, hz2⟩ := info_parts info_el
  cases p with
  | none =>
    obtain rfl : ys = [] := by
      rcases hrow with h | ⟨b, off, hp', _⟩
      · exact h
      · cases hp'
    obtain rfl := hpc rfl
    have hrun := run_append_owned_none (P := Try.prog) (w := w) B 23 o.type 25 i0 3 Try.underlying23 hi v xs.length (flatE xs) hown
    have hx' : a.eval x = .slice none 0 0 := hx
    refine step_run hgd (v := v) (w' := w) ?_ (hJ v w (by rw [List.append_nil]; exact hown) (World.grownBy.refl _ _) (Or.inl rfl))
    simp [execOp, ho, resolve, invoke, builtin, hs, hx', hrun, Result.andThen]
  | some ad =>
    obtain ⟨v', w', hr, h2, h3, _, h5⟩ := run_append_own_at (P := Try.prog) (w := w) B 23 o.type 25 i0 (.agg #[.int .i64 0, .int .i64 0, .int .i64 0]) 3 24 Try.underlying23 hi hz0 hz1 hz2 rfl (by decide) v xs.length (flatE xs) hown ad ys.length c (flatE ys) (flatE_length ys) (by
      intro j u hj
      have hrow' := hrow
      rcases hrow with h | ⟨b, off, hp', _, hc⟩
      · subst h; simp [flatE] at hj
      · injection hp' with hp'; subst hp'
        rw [Addr.add_lit]
        exact hrow'.flat j u hj) (flatE_one ys) (by unfold maxLen; omega) (by omega) hB
    refine step_run hgd (v := v') (w' := w') ?_ (hJ v' w' (by unfold OwnE; rw [List.length_append, flatE_append]; exact h2) h3 h5)
    simp [execOp, ho, resolve, invoke, builtin, hs, hx, hr, Result.andThen]
def wkV (hb : Nat) (r : Nat) : Value := match r with
  | 0 => .func (.func 5) #[] #[]
  | 2 => .func (.func 5) #[] #[]
  | 7 => .func (.func 5) #[] #[]
  | 13 => .func (.func 5) #[] #[]
  | 15 => .func (.func 5) #[] #[]
  | 18 => .func (.func 5) #[] #[]
  | 4 => .agg #[.int .i64 0, .int .i64 7, .int .i64 1]
  | 9 => .agg #[.int .i64 0, .int .i64 6, .int .i64 1]
  | 10 => .agg #[.int .i64 0, .int .i64 5, .int .i64 1]
  | 22 => .agg #[.int .i64 64000, .int .i64 32, .int .i64 2]
  | 24 => .agg #[.int .i64 60123, .int .i64 0, .int .i64 0]
  | 21 => .pointer (some ⟨hb, 0, none⟩)
  | 23 => .pointer (some ⟨hb, 3, none⟩)
  | _ => undef
theorem falseOf {a b : Bool} (h : a = true → b = true) (hb : b = false) : a = false := by
  cases a with
  | false => rfl
  | true => rw [h rfl] at hb; cases hb
theorem WkI.start (w0 : World) (vv : Nat → Value) (vals : Nat → Value) : WkI w0 vv (fun _ => false) vals w0.drew :=
  ⟨(Below.refl _ _).drew, (fun _ h => by have := (wkLive_row h).2; cases this), (fun _ _ h => by have := (wkLive_row h).2; cases this), (fun _ _ _ h => by cases h), (fun h => by cases h), (fun h => by cases h)⟩
theorem wkN_1 : ∀ r, wkN r ≠ some 1 := by intro r; unfold wkN; split <;> simp
theorem wkN_3 : ∀ r, wkN r ≠ some 3 := by intro r; unfold wkN; split <;> simp
theorem wkN_5 : ∀ r, wkN r ≠ some 5 := by intro r; unfold wkN; split <;> simp
theorem wkN_8 : ∀ r, wkN r ≠ some 8 := by intro r; unfold wkN; split <;> simp
theorem wkN_11 : ∀ r, wkN r ≠ some 11 := by intro r; unfold wkN; split <;> simp
theorem wkN_14 : ∀ r, wkN r ≠ some 14 := by intro r; unfold wkN; split <;> simp
theorem wkN_16 : ∀ r, wkN r ≠ some 16 := by intro r; unfold wkN; split <;> simp
theorem wkN_19 : ∀ r, wkN r ≠ some 19 := by intro r; unfold wkN; split <;> simp
theorem wkN_25 : ∀ r, wkN r ≠ some 25 := by intro r; unfold wkN; split <;> simp
theorem wkN_26 : ∀ r, wkN r ≠ some 26 := by intro r; unfold wkN; split <;> simp
theorem wkA_6 : ∀ r, wkN r = some 6 ↔ r = 3 := by intro r; unfold wkN; split <;> simp_all
theorem wkA_12 : ∀ r, wkN r = some 12 ↔ r = 8 := by intro r; unfold wkN; split <;> simp_all
theorem wkA_17 : ∀ r, wkN r = some 17 ↔ r = 14 := by intro r; unfold wkN; split <;> simp_all
theorem wkA_20 : ∀ r, wkN r = some 20 ↔ r = 17 := by intro r; unfold wkN; split <;> simp_all
theorem atNew {b n c g : Nat} (h : (Value.slice (some ⟨b, 0, none⟩) n c).ownBlock = some g) : b ≤ g := by
  have : b = g := by simpa [Value.ownBlock] using h
  omega
end Go.Proofs.Ytcocmmndonlhkaa
