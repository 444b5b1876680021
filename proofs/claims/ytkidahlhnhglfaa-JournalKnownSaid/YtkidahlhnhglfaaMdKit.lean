/-
  Layer medium: a medium in memory, its two rows of its own; what has changed and what has not; append with where the new row lies.
-/
import Derived.Test.YtkidahlhnhglfaaMdBase
import Derived.Maps.AppendAt
import Derived.Deep.AppendLies
import Derived.Deep.RegionLaw
namespace Go.Proofs.Ytkidahlhnhglfaa
open Go.RowKit Go.Gz

/-- all is as it was but for the blocks of F, and new ones. -/
structure Kept (F : Nat → Prop) (w w' : World) : Prop where
  os : w'.os = w.os
  tape : w'.tape = w.tape
  output : w'.output = w.output
  size : w.heap.size ≤ w'.heap.size
  block : ∀ k, k < w.heap.size → ¬ F k → w'.heap[k]? = w.heap[k]?
theorem Kept.refl (F : Nat → Prop) (w : World) : Kept F w w := ⟨rfl, rfl, rfl, Nat.le_refl _, fun _ _ _ => rfl⟩
theorem Kept.of_below {F : Nat → Prop} {w w' : World} (h : Below w.heap.size w w') : Kept F w w' := ⟨h.os, h.tape, h.output, h.size, fun k hk _ => h.block k hk⟩
theorem Kept.trans {F G : Nat → Prop} {a b c : World} (h : Kept F a b) (k : Kept G b c) (hG : ∀ i, i < a.heap.size → G i → F i) : Kept F a c :=
  ⟨k.os.trans h.os, k.tape.trans h.tape, k.output.trans h.output, Nat.le_trans h.size k.size, fun i hi hF => (k.block i (by have := h.size; omega) fun e => hF (hG i hi e)).trans (h.block i hi hF)⟩
theorem Kept.mono {F G : Nat → Prop} {a b : World} (h : Kept F a b) (hG : ∀ i, i < a.heap.size → F i → G i) : Kept G a b :=
  ⟨h.os, h.tape, h.output, h.size, fun i hi hF => h.block i hi fun e => hF (hG i hi e)⟩
theorem Kept.grown {F : Nat → Prop} {w w' : World} {row : Option Nat} (h : w.grownBy w' row) (hF : ∀ g, row = some g → F g) : Kept F w w' :=
  ⟨h.os, h.tape, h.output, h.size, fun k hk hn => h.block k hk fun e => hn (hF k e.symm)⟩
theorem Kept.set {F : Nat → Prop} {w : World} {a : Addr} (u : Value) (hF : F a.block) : Kept F w (w.setCell a u) :=
  ⟨rfl, rfl, rfl, by simp [World.setCell], fun k _ hn => Below.heap_setCell _ _ _ _ fun e => hn (e ▸ hF)⟩
theorem Kept.below {F : Nat → Prop} {B : Nat} {w w' : World} (h : Kept F w w') (hF : ∀ k, F k → B ≤ k) (hB : B ≤ w.heap.size) : Below B w w' :=
  ⟨h.os, h.tape, h.output, h.size, fun k hk => h.block k (by omega) fun e => by have := hF k e; omega⟩
theorem Kept.cell {F : Nat → Prop} {w w' : World} (h : Kept F w w') {p : Addr} (hb : p.block < w.heap.size) (hF : ¬ F p.block) : w'.cell? p = w.cell? p := World.cell?_of_block (w := w) (h.block p.block hb hF)
theorem Kept.drew {F : Nat → Prop} {a w : World} (h : Kept F a w) : Kept F a w.drew := ⟨h.os, h.tape, h.output, h.size, h.block⟩

theorem Row.kept {F : Nat → Prop} {w w' : World} {k : IntKind} {p : Option Addr} {xs : List Int} (h : Row w k p xs) (hk : Kept F w w') (hF : ∀ b, (p.map (·.block)) = some b → ¬ F b) : Row w' k p xs := by
  rcases h with h | ⟨b, off, hp, hlt, hc⟩
  · exact Or.inl h
  · exact Or.inr ⟨b, off, hp, Nat.lt_of_lt_of_le hlt hk.size, fun j hj => by rw [hk.cell (p := ⟨b, off + j, none⟩) hlt (hF b (by rw [hp]; rfl))]; exact hc j hj⟩
theorem Own.kept {F : Nat → Prop} {w w' : World} {B : Nat} {e : TypeId} {k : IntKind} {v : Value} {xs : List Int} (h : Own w B e k v xs) (hk : Kept F w w') (hF : ∀ g, v.ownBlock = some g → ¬ F g) : Own w' B e k v xs := by
  obtain ⟨h1, h2⟩ := h
  refine ⟨h1, ?_⟩
  rcases h2 with h2 | ⟨g, cap, cur, e, hg, hh, hc, hm, hs, ht⟩
  · exact Or.inl h2
  · exact Or.inr ⟨g, cap, cur, e, hg, by rw [hk.block g (Array.getElem?_eq_some_iff.1 hh).1 (hF g (by rw [e]; rfl))]; exact hh, hc, hm, hs, ht⟩
theorem Own.slice {w : World} {B : Nat} {e : TypeId} {k : IntKind} {v : Value} {xs : List Int} (h : Own w B e k v xs) {m : Nat} (hm : xs.length = m) : ∃ q d, v = .slice q m d := by
  obtain ⟨q, d, e, _⟩ := own_row h
  exact ⟨q, d, by rw [e, hm]⟩
theorem Own.ltB {w : World} {B : Nat} {e : TypeId} {k : IntKind} {v : Value} {xs : List Int} (h : Own w B e k v xs) : ∀ g, v.ownBlock = some g → B ≤ g ∧ g < w.heap.size := fun g hg => World.ownsRow.lt h g hg
theorem Own.type {w : World} {B : Nat} {e : TypeId} {k : IntKind} {v : Value} {xs : List Int} (h : Own w B e k v xs) : ∀ g, v.ownBlock = some g → ∃ cs fz, w.heap[g]? = some (.cells cs e fz) := by
  intro g hg
  obtain ⟨_, ⟨rfl, _⟩ | ⟨g', cap, cur, rfl, _, hh, _⟩⟩ := h
  · cases hg
  · simp only [Value.ownBlock, Option.some.injEq] at hg
    subst hg
    exact ⟨cur, _, hh⟩

/-- append of a whole slice onto a row that the call owns, with where the new row lies. -/
theorem wpList_own_row_at {P : Program} {w : World} {ops : Array Oper} {rest : List Oper} {o : Oper} {a : Act} {Q : Exit → Act → World → Prop}
    (hg : o.guard = none) (s x : Operand) (t : TypeId) (hop : o.op = Op.call { callee := Callee.builtin Builtin.append, args := #[s, x], argTypes := #[t, t] })
    (e : TypeId) (k : IntKind) (bytes : Nat) (h1 : P.underlying t = some (.slice e)) (hinfo : (P.info? e).map (fun i => (i.zero, i.size, i.bytes)) = some (some (.int k 0), 1, bytes)) (hby : bytes ≤ 8)
    (B : Nat) (v : Value) (xs : List Int) (hs : a.eval s = v) (hown : Own w B e k v xs)
    (p : Option Addr) (c : Nat) (ys : List Int) (hx : a.eval x = .slice p ys.length c) (hrow : Row w k p ys) (hpc : p = none → c = 0)
    (hlen : xs.length + ys.length ≤ 1000000) (hB : B ≤ w.heap.size)
    (hK : ∀ v' w', Own w' B e k v' (xs ++ ys) → w.grownBy w' v.ownBlock → (v'.ownBlock = v.ownBlock ∨ v'.ownBlock = some w.heap.size) → wpList P ops Q rest (a.put o.dst v') w') :
    wpList P ops Q (o :: rest) a w := by
  obtain ⟨i0, hi, hz0, hz1, hz2⟩ := info_parts hinfo
  have hys : p = none → ys = [] := fun hp => by
    rcases hrow with h | ⟨b, off, hp', _⟩
    · exact h
    · rw [hp] at hp'; cases hp'
  cases p with
  | none =>
    obtain rfl := hys rfl
    obtain rfl := hpc rfl
    refine wpList_append_own_none hg s x t hop B e i0 1 h1 hi v xs.length (xs.map (Value.int k)) hs hown hx ?_
    refine hK v w ?_ (World.grownBy.refl _ _) (Or.inl rfl)
    rw [List.append_nil]; exact hown
  | some ad =>
    refine wpList_append_own_at w hg s x t hop B e i0 (.int k 0) 1 bytes h1 hi hz0 hz1 hz2 rfl (by decide) v xs.length (xs.map (Value.int k)) hs hown ad ys.length c (ys.map (Value.int k)) hx (by simp) ?_ ?_ (by unfold maxLen; omega) ?_ hB ?_
    · intro j u hj
      obtain ⟨hj', rfl⟩ := List.getElem?_eq_some_iff.1 hj
      simp only [List.length_map] at hj'
      rcases hrow with h | ⟨b, off, hp', _, hc⟩
      · rw [h] at hj'; simp at hj'
      · cases hp'
        rw [Addr.add_lit, hc j hj']
        simp [List.getD, hj']
    · intro u hu
      obtain ⟨y, _, rfl⟩ := List.mem_map.1 hu
      rfl
    · have : (xs.length + ys.length) * bytes ≤ (xs.length + ys.length) * 8 := Nat.mul_le_mul_left _ hby
      omega
    · intro v' w' ho hgr _ hat
      refine hK v' w' ?_ hgr hat
      unfold Own
      rw [List.length_append, List.map_append]
      exact ho

/-- append of a whole slice onto a row that the call owns, run. -/
theorem run_own_row_at {P : Program} (w : World) (t ty : TypeId) (e : TypeId) (k : IntKind) (bytes : Nat) (h1 : P.underlying t = some (.slice e)) (hinfo : (P.info? e).map (fun i => (i.zero, i.size, i.bytes)) = some (some (.int k 0), 1, bytes)) (hby : bytes ≤ 8)
    (B : Nat) (v : Value) (xs : List Int) (hown : Own w B e k v xs) (p : Option Addr) (c : Nat) (ys : List Int) (hrow : Row w k p ys) (hpc : p = none → c = 0)
    (hlen : xs.length + ys.length ≤ 1000000) (hB : B ≤ w.heap.size) :
    ∃ v' w', (Builtin.append_ #[t, t] ty #[v, .slice p ys.length c]).run P w = .ok v' w' ∧ Own w' B e k v' (xs ++ ys) ∧ w.grownBy w' v.ownBlock ∧ (v'.ownBlock = v.ownBlock ∨ v'.ownBlock = some w.heap.size) := by
  obtain ⟨i0, hi, hz0, hz1, hz2⟩ := info_parts hinfo
  have hys : p = none → ys = [] := fun hp => by
    rcases hrow with h | ⟨b, off, hp', _⟩
    · exact h
    · rw [hp] at hp'; cases hp'
  cases p with
  | none =>
    obtain rfl := hys rfl
    obtain rfl := hpc rfl
    have hrun := run_append_owned_none (P := P) (w := w) B t ty e i0 1 h1 hi v xs.length (xs.map (Value.int k)) hown
    exact ⟨v, w, hrun, by rw [List.append_nil]; exact hown, World.grownBy.refl _ _, Or.inl rfl⟩
  | some ad =>
    obtain ⟨v', w', hr, h2, h3, _, h5⟩ := run_append_own_at (P := P) w B t ty e i0 (.int k 0) 1 bytes h1 hi hz0 hz1 hz2 rfl (by decide) v xs.length (xs.map (Value.int k)) hown ad ys.length c (ys.map (Value.int k)) (by simp) (by
      intro j u hj
      obtain ⟨hj', rfl⟩ := List.getElem?_eq_some_iff.1 hj
      simp only [List.length_map] at hj'
      rcases hrow with h | ⟨b, off, hp', _, hc⟩
      · rw [h] at hj'; simp at hj'
      · cases hp'
        rw [Addr.add_lit, hc j hj']
        simp [List.getD, hj']) (by
      intro u hu
      obtain ⟨y, _, rfl⟩ := List.mem_map.1 hu
      rfl) (by unfold maxLen; omega) (by
      have : (xs.length + ys.length) * bytes ≤ (xs.length + ys.length) * 8 := Nat.mul_le_mul_left _ hby
      omega) hB
    refine ⟨v', w', hr, ?_, h3, h5⟩
    unfold Own
    rw [List.length_append, List.map_append]
    exact h2
theorem step_own_row_at {P : Program} {w : World} {ops : Array Oper} {o : Oper} {a : Act} {K : Act → World → Prop} {Q : Exit → Act → World → Prop} {E : Prop} (hg : o.guard = none) (s x : Operand) (t : TypeId)
    (hop : o.op = Op.call { callee := Callee.builtin Builtin.append, args := #[s, x], argTypes := #[t, t] })
    (e : TypeId) (k : IntKind) (bytes : Nat) (h1 : P.underlying t = some (.slice e)) (hinfo : (P.info? e).map (fun i => (i.zero, i.size, i.bytes)) = some (some (.int k 0), 1, bytes)) (hby : bytes ≤ 8)
    (B : Nat) (v : Value) (xs : List Int) (hs : a.eval s = v) (hown : Own w B e k v xs) (p : Option Addr) (c : Nat) (ys : List Int) (hx : a.eval x = .slice p ys.length c) (hrow : Row w k p ys) (hpc : p = none → c = 0)
    (hlen : xs.length + ys.length ≤ 1000000) (hB : B ≤ w.heap.size)
    (hK : ∀ v' w', Own w' B e k v' (xs ++ ys) → w.grownBy w' v.ownBlock → (v'.ownBlock = v.ownBlock ∨ v'.ownBlock = some w.heap.size) → K (a.put o.dst v') w') :
    if Region.wanted o (yielded ops a.tmps) = true then Oper.wp P o a w K Q else E := by
  have hw : Region.wanted o (yielded ops a.tmps) = true := by simp [Region.wanted, hg]
  rw [if_pos hw]
  obtain ⟨v', w', hr, h2, h3, h4⟩ := run_own_row_at w t o.type e k bytes h1 hinfo hby B v xs hown p c ys hrow hpc hlen hB
  unfold Oper.wp execOp
  simp only [hop, resolve, invoke, builtin, Sem.run_bind, Sem.run_pure, Result.andThen_ok, List.map_toArray, List.map_cons, List.map_nil, hs, hx, hr]
  exact hK _ _ h2 h3 h4

/-- the blocks of a medium. -/
def InF (M : Nat) (vs vl : Value) (k : Nat) : Prop := k = M ∨ vs.ownBlock = some k ∨ vl.ownBlock = some k
/-- a medium at block M: S is synced, L is loose. -/
structure MedAt (w : World) (B M : Nat) (vs vl : Value) (S L : List UInt8) : Prop where
  c : w.heap[M]? = some (.cells #[vs, vl] 93 (0, 0))
  b : B ≤ M
  s : Own w B 5 .u8 vs (nums S)
  l : Own w B 5 .u8 vl (nums L)
  ne : ∀ g, vs.ownBlock = some g → vl.ownBlock ≠ some g
namespace MedAt
variable {w : World} {B M : Nat} {vs vl : Value} {S L : List UInt8}
theorem lt (h : MedAt w B M vs vl S L) : M < w.heap.size := (Array.getElem?_eq_some_iff.1 h.c).1
theorem hB (h : MedAt w B M vs vl S L) : B ≤ w.heap.size := by have := h.lt; have := h.b; omega
theorem c0 (h : MedAt w B M vs vl S L) : w.cell? ⟨M, 0, none⟩ = some vs := by simp [World.cell?, h.c]
theorem c1 (h : MedAt w B M vs vl S L) : w.cell? ⟨M, 1, none⟩ = some vl := by simp [World.cell?, h.c]
theorem f0 (h : MedAt w B M vs vl S L) : w.frozen? ⟨M, 0, none⟩ = false := by simp [World.frozen?, h.c]
theorem f1 (h : MedAt w B M vs vl S L) : w.frozen? ⟨M, 1, none⟩ = false := by simp [World.frozen?, h.c]
theorem low (h : MedAt w B M vs vl S L) : ∀ k, InF M vs vl k → B ≤ k ∧ k < w.heap.size := by
  rintro k (rfl | h1 | h1)
  · exact ⟨h.b, h.lt⟩
  · exact h.s.ltB k h1
  · exact h.l.ltB k h1
theorem neS (h : MedAt w B M vs vl S L) : vs.ownBlock ≠ some M := fun e => by
  obtain ⟨cs, fz, hh⟩ := h.s.type M e
  have := h.c.symm.trans hh
  simp at this
theorem neL (h : MedAt w B M vs vl S L) : vl.ownBlock ≠ some M := fun e => by
  obtain ⟨cs, fz, hh⟩ := h.l.type M e
  have := h.c.symm.trans hh
  simp at this
/-- it stays as it is where its blocks are not changed. -/
theorem kept {F : Nat → Prop} {w' : World} (h : MedAt w B M vs vl S L) (hk : Kept F w w') (hF : ∀ k, InF M vs vl k → ¬ F k) : MedAt w' B M vs vl S L :=
  ⟨(hk.block M h.lt (hF M (Or.inl rfl))).trans h.c, h.b, h.s.kept hk fun g hg => hF g (Or.inr (Or.inl hg)), h.l.kept hk fun g hg => hF g (Or.inr (Or.inr hg)), h.ne⟩
theorem drew (h : MedAt w B M vs vl S L) : MedAt w.drew B M vs vl S L := ⟨h.c, h.b, h.s.drewN 1, h.l.drewN 1, h.ne⟩
/-- a field is set. -/
theorem set1 (h : MedAt w B M vs vl S L) {w1 : World} {v : Value} {X : List UInt8} (hk : Kept (fun k => vl.ownBlock = some k) w w1) (ho : Own w1 B 5 .u8 v (nums X)) (hat : v.ownBlock = vl.ownBlock ∨ v.ownBlock = some w.heap.size ∨ v.ownBlock = none) :
    MedAt (w1.setCell ⟨M, 1, none⟩ v) B M vs v S X := by
  have hM : w1.heap[M]? = some (.cells #[vs, vl] 93 (0, 0)) := (hk.block M h.lt h.neL).trans h.c
  have hk2 : Kept (fun k => k = M) w1 (w1.setCell ⟨M, 1, none⟩ v) := Kept.set v rfl
  have hneM : ∀ g, v.ownBlock = some g → g ≠ M := by
    rintro g hg rfl
    obtain ⟨cs, fz, hh⟩ := ho.type g hg
    have := hM.symm.trans hh
    simp at this
  refine ⟨?_, h.b, (h.s.kept hk fun g hg => h.ne g hg).kept hk2 fun g hg e => h.neS (e ▸ hg), ho.kept hk2 hneM, fun g hg e => ?_⟩
  · simp only [World.setCell, Array.getElem?_modify, if_true, hM, Option.map_some]
    rfl
  · rcases hat with h1 | h1 | h1
    · exact h.ne g hg (h1.symm.trans e)
    · have := (h.s.ltB g hg).2
      rw [h1] at e; injection e with e; omega
    · rw [h1] at e; cases e
/-- behind an append onto the synced row. -/
theorem afterS (h : MedAt w B M vs vl S L) {w1 : World} (hg : w.grownBy w1 vs.ownBlock) : w1.heap[M]? = some (.cells #[vs, vl] 93 (0, 0)) :=
  (hg.block M h.lt fun e => h.neS e.symm).trans h.c
theorem after0 (h : MedAt w B M vs vl S L) {w1 : World} (hg : w.drew.grownBy w1 vs.ownBlock) : ∃ x, w1.cell? ⟨M, 0, none⟩ = some x := ⟨vs, by simp [World.cell?, (hg.block M h.lt fun e => h.neS e.symm).trans h.c]⟩
theorem after1 (h : MedAt w B M vs vl S L) {w1 : World} (hg : w.drew.grownBy w1 vs.ownBlock) : w1.cell? ⟨M, 1, none⟩ = some vl := by simp [World.cell?, (hg.block M h.lt fun e => h.neS e.symm).trans h.c]
theorem after2 (h : MedAt w B M vs vl S L) {w1 : World} (hg : w.drew.grownBy w1 vs.ownBlock) : w1.frozen? ⟨M, 0, none⟩ = false := by simp [World.frozen?, (hg.block M h.lt fun e => h.neS e.symm).trans h.c]
theorem after3 (h : MedAt w B M vs vl S L) {w1 : World} (hg : w.drew.grownBy w1 vs.ownBlock) : w1.frozen? ⟨M, 1, none⟩ = false := by simp [World.frozen?, (hg.block M h.lt fun e => h.neS e.symm).trans h.c]
/-- both fields are set: the second to nothing. -/
theorem set01 (h : MedAt w B M vs vl S L) {w1 : World} {v : Value} {X : List UInt8} (hk : Kept (fun k => vs.ownBlock = some k) w w1) (ho : Own w1 B 5 .u8 v (nums X)) :
    MedAt ((w1.setCell ⟨M, 0, none⟩ v).setCell ⟨M, 1, none⟩ (.slice none 0 0)) B M v (.slice none 0 0) X [] := by
  have hM : w1.heap[M]? = some (.cells #[vs, vl] 93 (0, 0)) := (hk.block M h.lt h.neS).trans h.c
  have hk2 : Kept (fun k => k = M) w1 (w1.setCell ⟨M, 0, none⟩ v) := Kept.set v rfl
  have hk3 : Kept (fun k => k = M) (w1.setCell ⟨M, 0, none⟩ v) ((w1.setCell ⟨M, 0, none⟩ v).setCell ⟨M, 1, none⟩ (.slice none 0 0)) := Kept.set _ rfl
  have hneM : ∀ g, v.ownBlock = some g → g ≠ M := by
    rintro g hg rfl
    obtain ⟨cs, fz, hh⟩ := ho.type g hg
    have := hM.symm.trans hh
    simp at this
  refine ⟨?_, h.b, (ho.kept hk2 hneM).kept hk3 hneM, Own.nil _ _ _ _, fun g hg e => by cases e⟩
  simp only [World.setCell, Array.getElem?_modify, if_true, hM, Option.map_some]
  rfl
end MedAt

/-- what a call makes of a medium. -/
def Turned (w : World) (B M : Nat) (vs vl : Value) (S' L' : List UInt8) (w' : World) : Prop :=
  ∃ vs' vl', MedAt w' B M vs' vl' S' L' ∧ Kept (InF M vs vl) w w' ∧ ∀ k, InF M vs' vl' k → InF M vs vl k ∨ w.heap.size ≤ k
theorem Turned.after {w w2 w3 : World} {B M : Nat} {vs vl vs' vl' : Value} {S L : List UInt8} (hk : Kept (InF M vs vl) w w2) (hsub : ∀ k, InF M vs' vl' k → InF M vs vl k ∨ w.heap.size ≤ k) (h : Turned w2 B M vs' vl' S L w3) : Turned w B M vs vl S L w3 := by
  obtain ⟨a, b, h1, h2, h3⟩ := h
  refine ⟨a, b, h1, hk.trans h2 fun i hi e => ?_, fun k hk' => ?_⟩
  · rcases hsub i e with h | h
    · exact h
    · omega
  · rcases h3 k hk' with h | h
    · exact hsub k h
    · exact Or.inr (by have := hk.size; omega)
/-- .. where both fields were set. -/
theorem MedAt.turned01 {w w0 w1 : World} {B M : Nat} {vs vl v : Value} {S L X : List UInt8} (h : MedAt w B M vs vl S L) (hk : Kept (fun k => vs.ownBlock = some k) w w1) (ho : Own w1 B 5 .u8 v (nums X)) (hat : v.ownBlock = vs.ownBlock ∨ ∀ g, v.ownBlock = some g → w.heap.size ≤ g)
    (hw0 : w0 = (w1.setCell ⟨M, 0, none⟩ v).setCell ⟨M, 1, none⟩ (.slice none 0 0)) : Turned w B M vs vl X [] w0 := by
  subst hw0
  refine ⟨v, _, h.set01 hk ho, ((hk.mono fun i _ e => (Or.inr (Or.inl e) : InF M vs vl i)).trans (Kept.set (F := fun k => k = M) _ rfl) fun i _ e => Or.inl e).trans (Kept.set (F := fun k => k = M) _ rfl) fun i _ e => Or.inl e, ?_⟩
  rintro k (rfl | h1 | h1)
  · exact Or.inl (Or.inl rfl)
  · rcases hat with h2 | h2
    · exact Or.inl (Or.inr (Or.inl (h2.symm.trans h1)))
    · exact Or.inr (h2 k h1)
  · cases h1
theorem own_trunc {w : World} {B : Nat} {q : Option Addr} {n c : Nat} {xs : List Int} {e : TypeId} {k : IntKind} (h : Own w B e k (.slice q n c) xs) {j : Nat} (hj : j ≤ n) : Own w B e k (.slice q j c) (xs.take j) := by
  obtain ⟨h1, ⟨h2, h0⟩ | ⟨g, cap, cur, h2, hg, hh, hc, hm, hs, ht⟩⟩ := h
  · injection h2 with e1 e2 e3
    subst e1 e2 e3
    have : xs = [] := List.eq_nil_of_length_eq_zero h0
    subst this
    obtain rfl : j = 0 := by omega
    exact Own.nil _ _ _ _
  · injection h2 with e1 e2 e3
    subst e1 e2 e3
    have hl : (xs.take j).length = j := by rw [List.length_take]; omega
    unfold Own
    rw [hl]
    refine ⟨by simp; omega, Or.inr ⟨g, c, cur, rfl, hg, hh, by omega, hm, hs, ?_⟩⟩
    rw [List.map_take, ← ht, List.take_take, Nat.mul_one, Nat.mul_one, Nat.min_eq_left hj]
end Go.Proofs.Ytkidahlhnhglfaa
