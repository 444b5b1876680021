/-
  Several texts in one: ByCat, MdBase, MdKit, OnMem.
-/
import Derived.Test.YtfadpiipigkocaaMg07
import Derived.Lib.AppendZerosOnto
import Derived.Lib.Walk
import Derived.Maps.AppendAt
import Derived.Deep.AppendLies
import Derived.Deep.RegionLaw
import Derived.Test.YtfadpiipigkocaaMg05
namespace Go.Proofs.Ytfadpiipigkocaa
open Go.RowKit Go.Gz

def RetOwn (w : World) (l : List UInt8) (e : Ending) (w' : World) : Prop := ∃ v, e = .returned v ∧ Own w' w.heap.size 5 .u8 v (nums l) ∧ Below w.heap.size w w'
def CcR (A B : List UInt8) (k : Nat) (l : List UInt8) : Prop := (k = 0 ∧ l = []) ∨ (k = 1 ∧ l = A) ∨ (k = 2 ∧ l = A ++ B)

end Go.Proofs.Ytfadpiipigkocaa
namespace Go.Proofs.Ytfadpiipigkocaa
open Go.RowKit Go.Gz

theorem mixedMd : Try.prog.follows .mixedOrders = true := by kernel_rfl
end Go.Proofs.Ytfadpiipigkocaa
namespace Go.Proofs.Ytfadpiipigkocaa
open Go.RowKit Go.Gz

/-- all is as it was but for the blocks of F, and new ones. -/
structure Kept (F : Nat → Prop) (w w' : World) : Prop where
  os : w'.os = w.os
  tape : w'.tape = w.tape
  output : w'.output = w.output
  size : w.heap.size ≤ w'.heap.size
  block : ∀ k, k < w.heap.size → ¬ F k → w'.heap[k]? = w.heap[k]?
theorem Kept.refl (F : Nat → Prop) (w : World) : Kept F w w := ⟨rfl, rfl, rfl, Nat.le_refl _, fun _ _ _ => rfl⟩
theorem Kept.of_below {F : Nat → Prop} {w w' : World} (h : Below w.heap.size w w') : Kept F w w' := ⟨h.os, h.tape, h.output, h.size, fun k hk _ => h.block k hk⟩
theorem Kept.trans {F G : Nat → Prop} {a b c : World} (h : Kept F a b) (k : Kept G b c) (hG : ∀ i, i < a.heap.size → G i → F i) : Kept F a c :=
  ⟨k.os.trans h.os, k.tape.trans h.tape, k.output.trans h.output, Nat.le_trans h.size k.size, fun i hi hF => (k.block i (by have := h.size; omega) fun e => hF (hG i hi e)).trans (h.block i hi hF)⟩
theorem Kept.mono {F G : Nat → Prop} {a b : World} (h : Kept F a b) (hG : ∀ i, i < a.heap.size → F i → G i) : Kept G a b :=
  ⟨h.os, h.tape, h.output, h.size, fun i hi hF => h.block i hi fun e => hF (hG i hi e)⟩
theorem Kept.grown {F : Nat → Prop} {w w' : World} {row : Option Nat} (h : w.grownBy w' row) (hF : ∀ g, row = some g → F g) : Kept F w w' :=
  ⟨h.os, h.tape, h.output, h.size, fun k hk hn => h.block k hk fun e => hn (hF k e.symm)⟩
theorem Kept.set {F : Nat → Prop} {w : World} {a : Addr} (u : Value) (hF : F a.block) : Kept F w (w.setCell a u) :=
  ⟨rfl, rfl, rfl, by simp [World.setCell], fun k _ hn => Below.heap_setCell _ _ _ _ fun e => hn (e ▸ hF)⟩
theorem Kept.below {F : Nat → Prop} {B : Nat} {w w' : World} (h : Kept F w w') (hF : ∀ k, F k → B ≤ k) (hB : B ≤ w.heap.size) : Below B w w' :=
  ⟨h.os, h.tape, h.output, h.size, fun k hk => h.block k (by omega) fun e => by have := hF k e; omega⟩
theorem Kept.cell {F : Nat → Prop} {w w' : World} (h : Kept F w w') {p : Addr} (hb : p.block < w.heap.size) (hF : ¬ F p.block) : w'.cell? p = w.cell? p := World.cell?_of_block (w := w) (h.block p.block hb hF)
theorem Kept.drew {F : Nat → Prop} {a w : World} (h : Kept F a w) : Kept F a w.drew := ⟨h.os, h.tape, h.output, h.size, h.block⟩

theorem Row.kept {F : Nat → Prop} {w w' : World} {k : IntKind} {p : Option Addr} {xs : List Int} (h : Row w k p xs) (hk : Kept F w w') (hF : ∀ b, (p.map (·.block)) = some b → ¬ F b) : Row w' k p xs := by
  rcases h with h | ⟨b, off, hp, hlt, hc⟩
  · exact Or.inl h
  · exact Or.inr ⟨b, off, hp, Nat.lt_of_lt_of_le hlt hk.size, fun j hj => by rw [hk.cell (p := ⟨b, off + j, none⟩) hlt (hF b (by rw [hp]; rfl))]; exact hc j hj⟩
theorem Own.kept {F : Nat → Prop} {w w' : World} {B : Nat} {e : TypeId} {k : IntKind} {v : Value} {xs : List Int} (h : Own w B e k v xs) (hk : Kept F w w') (hF : ∀ g, v.ownBlock = some g → ¬ F g) : Own w' B e k v xs := by
  obtain ⟨h1, h2⟩ := h
  refine ⟨h1, ?_⟩
  rcases h2 with h2 | ⟨g, cap, cur, e, hg, hh, hc, hm, hs, ht⟩
  · exact Or.inl h2
  · exact Or.inr ⟨g, cap, cur, e, hg, by rw [hk.block g (Array.getElem?_eq_some_iff.1 hh).1 (hF g (by rw [e]; rfl))]; exact hh, hc, hm, hs, ht⟩
theorem Own.slice {w : World} {B : Nat} {e : TypeId} {k : IntKind} {v : Value} {xs : List Int} (h : Own w B e k v xs) {m : Nat} (hm : xs.length = m) : ∃ q d, v = .slice q m d := by
  obtain ⟨q, d, e, _⟩ := own_row h
  exact ⟨q, d, by rw [e, hm]⟩
theorem Own.ltB {w : World} {B : Nat} {e : TypeId} {k : IntKind} {v : Value} {xs : List Int} (h : Own w B e k v xs) : ∀ g, v.ownBlock = some g → B ≤ g ∧ g < w.heap.size := fun g hg => World.ownsRow.lt h g hg
theorem Own.type {w : World} {B : Nat} {e : TypeId} {k : IntKind} {v : Value} {xs : List Int} (h : Own w B e k v xs) : ∀ g, v.ownBlock = some g → ∃ cs fz, w.heap[g]? = some (.cells cs e fz) := by
  intro g hg
  obtain ⟨_, ⟨rfl, _⟩ | ⟨g', cap, cur, rfl, _, hh, _⟩⟩ := h
  · cases hg
  · simp only [Value.ownBlock, Option.some.injEq] at hg
    subst hg
    exact ⟨cur, _, hh⟩

/-- append of a whole slice onto a row that the call owns, with where the new row lies. -/
theorem wpList_own_row_at {P : Program} {w : World} {ops : Array Oper} {rest : List Oper} {o : Oper} {a : Act} {Q : Exit → Act → World → Prop}
    (hg : o.guard = none) (s x : Operand) (t : TypeId) (hop : o.op = Op.call { callee := Callee.builtin Builtin.append, args := #[s, x], argTypes := #[t, t] })
    (e : TypeId) (k : IntKind) (bytes : Nat) (h1 : P.underlying t = some (.slice e)) (hinfo : (P.info? e).map (fun i => (i.zero, i.size, i.bytes)) = some (some (.int k 0), 1, bytes)) (hby : bytes ≤ 8)
    (B : Nat) (v : Value) (xs : List Int) (hs : a.eval s = v) (hown : Own w B e k v xs)
    (p : Option Addr) (c : Nat) (ys : List Int) (hx : a.eval x = .slice p ys.length c) (hrow : Row w k p ys) (hpc : p = none → c = 0)
    (hlen : xs.length + ys.length ≤ 1000000) (hB : B ≤ w.heap.size)
    (hK : ∀ v' w', Own w' B e k v' (xs ++ ys) → w.grownBy w' v.ownBlock → (v'.ownBlock = v.ownBlock ∨ v'.ownBlock = some w.heap.size) → wpList P ops Q rest (a.put o.dst v') w') :
    wpList P ops Q (o :: rest) a w := by
  obtain ⟨i0, hi, hz0, hz1, hz2⟩ := info_parts hinfo
  have hys : p = none → ys = [] := fun hp => by
    rcases hrow with h | ⟨b, off, hp', _⟩
    · exact h
    · rw [hp] at hp'; cases hp'
  cases p with
  | none =>
    obtain rfl := hys rfl
    obtain rfl := hpc rfl
    refine wpList_append_own_none hg s x t hop B e i0 1 h1 hi v xs.length (xs.map (Value.int k)) hs hown hx ?_
    refine hK v w ?_ (World.grownBy.refl _ _) (Or.inl rfl)
    rw [List.append_nil]; exact hown
  | some ad =>
    refine wpList_append_own_at w hg s x t hop B e i0 (.int k 0) 1 bytes h1 hi hz0 hz1 hz2 rfl (by decide) v xs.length (xs.map (Value.int k)) hs hown ad ys.length c (ys.map (Value.int k)) hx (by simp) ?_ ?_ (by unfold maxLen; omega) ?_ hB ?_
    · intro j u hj
      obtain ⟨hj', rfl⟩ := List.getElem?_eq_some_iff.1 hj
      simp only [List.length_map] at hj'
      rcases hrow with h | ⟨b, off, hp', _, hc⟩
      · rw [h] at hj'; simp at hj'
      · cases hp'
        rw [Addr.add_lit, hc j hj']
        simp [List.getD, hj']
    · intro u hu
      obtain ⟨y, _, rfl⟩ := List.mem_map.1 hu
      rfl
    · have : (xs.length + ys.length) * bytes ≤ (xs.length + ys.length) * 8 := Nat.mul_le_mul_left _ hby
      omega
    · intro v' w' ho hgr _ hat
      refine hK v' w' ?_ hgr hat
      unfold Own
      rw [List.length_append, List.map_append]
      exact ho

/-- append of a whole slice onto a row that the call owns, run. -/
theorem run_own_row_at {P : Program} (w : World) (t ty : TypeId) (e : TypeId) (k : IntKind) (bytes : Nat) (h1 : P.underlying t = some (.slice e)) (hinfo : (P.info? e).map (fun i => (i.zero, i.size, i.bytes)) = some (some (.int k 0), 1, bytes)) (hby : bytes ≤ 8)
    (B : Nat) (v : Value) (xs : List Int) (hown : Own w B e k v xs) (p : Option Addr) (c : Nat) (ys : List Int) (hrow : Row w k p ys) (hpc : p = none → c = 0)
    (hlen : xs.length + ys.length ≤ 1000000) (hB : B ≤ w.heap.size) :
    ∃ v' w', (Builtin.append_ #[t, t] ty #[v, .slice p ys.length c]).run P w = .ok v' w' ∧ Own w' B e k v' (xs ++ ys) ∧ w.grownBy w' v.ownBlock ∧ (v'.ownBlock = v.ownBlock ∨ v'.ownBlock = some w.heap.size) := by
  obtain ⟨i0, hi, hz0, hz1, hz2⟩ := info_parts hinfo
  have hys : p = none → ys = [] := fun hp => by
    rcases hrow with h | ⟨b, off, hp', _⟩
    · exact h
    · rw [hp] at hp'; cases hp'
  cases p with
  | none =>
    obtain rfl := hys rfl
    obtain rfl := hpc rfl
    have hrun := run_append_owned_none (P := P) (w := w) B t ty e i0 1 h1 hi v xs.length (xs.map (Value.int k)) hown
    exact ⟨v, w, hrun, by rw [List.append_nil]; exact hown, World.grownBy.refl _ _, Or.inl rfl⟩
  | some ad =>
    obtain ⟨v', w', hr, h2, h3, _, h5⟩ := run_append_own_at (P := P) w B t ty e i0 (.int k 0) 1 bytes h1 hi hz0 hz1 hz2 rfl (by decide) v xs.length (xs.map (Value.int k)) hown ad ys.length c (ys.map (Value.int k)) (by simp) (by
      intro j u hj
      obtain ⟨hj', rfl⟩ := List.getElem?_eq_some_iff.1 hj
      simp only [List.length_map] at hj'
      rcases hrow with h | ⟨b, off, hp', _, hc⟩
      · rw [h] at hj'; simp at hj'
      · cases hp'
        rw [Addr.add_lit, hc j hj']
        simp [List.getD, hj']) (by
      intro u hu
      obtain ⟨y, _, rfl⟩ := List.mem_map.1 hu
      rfl) (by unfold maxLen; omega) (by
      have : (xs.length + ys.length) * bytes ≤ (xs.length + ys.length) * 8 := Nat.mul_le_mul_left _ hby
      omega) hB
    refine ⟨v', w', hr, ?_, h3, h5⟩
    unfold Own
    rw [List.length_append, List.map_append]
    exact h2
theorem step_own_row_at {P : Program} {w : World} {ops : Array Oper} {o : Oper} {a : Act} {K : Act → World → Prop} {Q : Exit → Act → World → Prop} {E : Prop} (hg : o.guard = none) (s x : Operand) (t : TypeId)
    (hop : o.op = Op.call { callee := Callee.builtin Builtin.append, args := #[s, x], argTypes := #[t, t] })
    (e : TypeId) (k : IntKind) (bytes : Nat) (h1 : P.underlying t = some (.slice e)) (hinfo : (P.info? e).map (fun i => (i.zero, i.size, i.bytes)) = some (some (.int k 0), 1, bytes)) (hby : bytes ≤ 8)
    (B : Nat) (v : Value) (xs : List Int) (hs : a.eval s = v) (hown : Own w B e k v xs) (p : Option Addr) (c : Nat) (ys : List Int) (hx : a.eval x = .slice p ys.length c) (hrow : Row w k p ys) (hpc : p = none → c = 0)
    (hlen : xs.length + ys.length ≤ 1000000) (hB : B ≤ w.heap.size)
    (hK : ∀ v' w', Own w' B e k v' (xs ++ ys) → w.grownBy w' v.ownBlock → (v'.ownBlock = v.ownBlock ∨ v'.ownBlock = some w.heap.size) → K (a.put o.dst v') w') :
    if Region.wanted o (yielded ops a.tmps) = true then Oper.wp P o a w K Q else E := by
  have hw : Region.wanted o (yielded ops a.tmps) = true := by simp [Region.wanted, hg]
  rw [if_pos hw]
  obtain ⟨v', w', hr, h2, h3, h4⟩ := run_own_row_at w t o.type e k bytes h1 hinfo hby B v xs hown p c ys hrow hpc hlen hB
  unfold Oper.wp execOp
  simp only [hop, resolve, invoke, builtin, Sem.run_bind, Sem.run_pure, Result.andThen_ok, List.map_toArray, List.map_cons, List.map_nil, hs, hx, hr]
  exact hK _ _ h2 h3 h4

/-- the blocks of a medium. -/
def InF (M : Nat) (vs vl : Value) (k : Nat) : Prop := k = M ∨ vs.ownBlock = some k ∨ vl.ownBlock = some k
namespace MedAt
variable {w : World} {B M : Nat} {vs vl : Value} {S L : List UInt8}
end MedAt

theorem own_trunc {w : World} {B : Nat} {q : Option Addr} {n c : Nat} {xs : List Int} {e : TypeId} {k : IntKind} (h : Own w B e k (.slice q n c) xs) {j : Nat} (hj : j ≤ n) : Own w B e k (.slice q j c) (xs.take j) := by
  obtain ⟨h1, ⟨h2, h0⟩ | ⟨g, cap, cur, h2, hg, hh, hc, hm, hs, ht⟩⟩ := h
  · injection h2 with e1 e2 e3
    subst e1 e2 e3
    have : xs = [] := List.eq_nil_of_length_eq_zero h0
    subst this
    obtain rfl : j = 0 := by omega
    exact Own.nil _ _ _ _
  · injection h2 with e1 e2 e3
    subst e1 e2 e3
    have hl : (xs.take j).length = j := by rw [List.length_take]; omega
    unfold Own
    rw [hl]
    refine ⟨by simp; omega, Or.inr ⟨g, c, cur, rfl, hg, hh, by omega, hm, hs, ?_⟩⟩
    rw [List.map_take, ← ht, List.take_take, Nat.mul_one, Nat.mul_one, Nat.min_eq_left hj]
end Go.Proofs.Ytfadpiipigkocaa
namespace Go.Proofs.Ytfadpiipigkocaa
open Go.RowKit Go.Gz

theorem mixedOn : Try.prog.follows .mixedOrders = true := by kernel_rfl
def zeroLast : Value := .agg #[.int .i64 0, .int .i64 0, .int .i64 0, .int .i64 0, .bool false, .string ⟨#[]⟩, .slice none 0 0, .string ⟨#[]⟩, .bool false]
/-- a type of entries, its slices' type. -/
structure EntT (t T : TypeId) : Prop where
  sl : Try.prog.underlying T = some (.slice t)
  info : (Try.prog.info? t).map (fun i => (i.zero, i.size, i.bytes)) = some (some zeroLast, 9, 104)
theorem ent_once : EntT 84 38 := ⟨Try.underlying38, by kernel_rfl⟩
theorem ent_ref : EntT 66 67 := ⟨Try.underlying67, by kernel_rfl⟩

def flatE (L : List Ent) : List Value := L.flatMap Ent.list
theorem flatE_len (L : List Ent) : (flatE L).length = L.length * 9 := by
  induction L with
  | nil => rfl
  | cons e t ih =>
    show (e.list ++ flatE t).length = _
    rw [List.length_append, ih, List.length_cons]
    show 9 + _ = _
    omega
theorem flatE_app (L M : List Ent) : flatE (L ++ M) = flatE L ++ flatE M := by simp [flatE]
theorem flatE_at (L : List Ent) : ∀ j, j < L.length → ∀ i, i < 9 → (flatE L)[j * 9 + i]? = (L.getD j default).list[i]? := by
  induction L with
  | nil => intro j hj; simp at hj
  | cons e t ih =>
    intro j hj i hi
    show (e.list ++ flatE t)[j * 9 + i]? = _
    cases j with
    | zero => rw [List.getElem?_append_left (by show 0 * 9 + i < 9; omega)]; simp
    | succ j =>
      rw [List.getElem?_append_right (by show 9 ≤ _; omega), show (j + 1) * 9 + i - e.list.length = j * 9 + i by show _ - 9 = _; omega, ih j (by simpa using hj) i hi]
      simp
theorem flatE_one (L : List Ent) : ∀ u ∈ flatE L, u.oneCell' = true := by
  intro u hu
  obtain ⟨e, _, hu⟩ := List.mem_flatMap.1 hu
  simp only [Ent.list, List.mem_cons, List.not_mem_nil, or_false] at hu
  rcases hu with rfl | rfl | rfl | rfl | rfl | rfl | rfl | rfl | rfl <;> rfl

/-- slice pointer p reads in w as the entries L. -/
def RowE (w : World) (p : Option Addr) (L : List Ent) : Prop :=
  L = [] ∨ ∃ b off, p = some ⟨b, off, none⟩ ∧ b < w.heap.size ∧ ∀ j, j < L.length → ∀ i, i < 9 → w.cell? ⟨b, off + j * 9 + i, none⟩ = (L.getD j default).list[i]?
theorem RowE.below {w w' : World} {p : Option Addr} {L : List Ent} (h : RowE w p L) (hb : Below w.heap.size w w') : RowE w' p L := by
  rcases h with h | ⟨b, off, hp, hlt, hc⟩
  · exact Or.inl h
  · exact Or.inr ⟨b, off, hp, Nat.lt_of_lt_of_le hlt hb.size, fun j hj i hi => by rw [hb.cell (p := ⟨b, off + j * 9 + i, none⟩) hlt]; exact hc j hj i hi⟩
theorem ent_cells {W wr : World} {p : Option Addr} {L : List Ent} (h : RowE W p L) (hb : Below W.heap.size W wr) {j : Nat} (hj : j < L.length) : ∃ b o, p = some ⟨b, o, none⟩ ∧ b < W.heap.size ∧ ∀ i, i < 9 → wr.cell? ⟨b, o + j * 9 + i, none⟩ = (L.getD j default).list[i]? := by
  rcases h with h | ⟨b, o, hp, h1, h2⟩
  · rw [h] at hj; simp at hj
  · exact ⟨b, o, hp, h1, fun i hi => by rw [hb.cell (p := ⟨b, o + j * 9 + i, none⟩) h1]; exact h2 j hj i hi⟩
theorem RowE.nil_of {w : World} {L : List Ent} (h : RowE w none L) : L = [] := by
  rcases h with h | ⟨b, off, hp, _⟩
  · exact h
  · cases hp
theorem RowE.flat {w : World} {b off : Nat} {L : List Ent} (h : RowE w (some ⟨b, off, none⟩) L) : ∀ j u, (flatE L)[j]? = some u → w.cell? ((⟨b, off, none⟩ : Addr).add j) = some u := by
  intro j u hj
  have hl := (List.getElem?_eq_some_iff.1 hj).1
  rw [flatE_len] at hl
  rcases h with h | ⟨b', off', hp, _, hc⟩
  · rw [h] at hl; simp at hl
  · injection hp with hp
    injection hp with h1 h2 _
    subst h1 h2
    have e := hc (j / 9) (by omega) (j % 9) (by omega)
    rw [← flatE_at L (j / 9) (by omega) (j % 9) (by omega), show j / 9 * 9 + j % 9 = j by omega, hj] at e
    rw [Addr.add_lit]
    rw [← e, show off + j / 9 * 9 + j % 9 = off + j by omega]
theorem RowE.take {w : World} {p : Option Addr} {L : List Ent} (h : RowE w p L) (k : Nat) : RowE w p (L.take k) := by
  rcases h with h | ⟨b, off, hp, hlt, hc⟩
  · exact Or.inl (by rw [h, List.take_nil])
  · refine Or.inr ⟨b, off, hp, hlt, fun j hj i hi => ?_⟩
    rw [List.length_take] at hj
    rw [hc j (by omega) i hi]
    simp [List.getD, show j < k by omega]
theorem RowE.drop {w : World} {b off : Nat} {L : List Ent} (h : RowE w (some ⟨b, off, none⟩) L) (k : Nat) : RowE w (some ⟨b, off + k * 9, none⟩) (L.drop k) := by
  rcases h with h | ⟨b', off', hp, hlt, hc⟩
  · exact Or.inl (by rw [h, List.drop_nil])
  · injection hp with hp
    injection hp with h1 h2 _
    subst h1 h2
    refine Or.inr ⟨b, off + k * 9, rfl, hlt, fun j hj i hi => ?_⟩
    rw [List.length_drop] at hj
    rw [show off + k * 9 + j * 9 + i = off + (k + j) * 9 + i by omega, hc (k + j) (by omega) i hi]
    simp [List.getD]

/-- v is a row of entries that the call owns. -/
def OwnE (w : World) (B : Nat) (t : TypeId) (v : Value) (L : List Ent) : Prop := w.ownsRow B t 9 v L.length (flatE L)
section
variable {w w' : World} {B : Nat} {t T : TypeId} {v : Value} {L : List Ent}
theorem OwnE.nil (w : World) (B : Nat) (t : TypeId) : OwnE w B t (.slice none 0 0) [] := World.ownsRow_nil w B t 9
theorem OwnE.row (h : OwnE w B t v L) : ∃ p c, v = .slice p L.length c ∧ L.length ≤ c ∧ (p = none → c = 0) ∧ RowE w p L ∧ (∀ a, p = some a → ∃ g, a = ⟨g, 0, none⟩ ∧ B ≤ g ∧ g < w.heap.size) := by
  obtain ⟨h1, ⟨rfl, h0⟩ | ⟨g, cap, cur, rfl, hg, hh, hc, hm, hs, ht⟩⟩ := h
  · have : L = [] := List.eq_nil_of_length_eq_zero h0
    subst this
    exact ⟨none, 0, rfl, Nat.le_refl _, fun _ => rfl, Or.inl rfl, fun a h => by cases h⟩
  · have hlt := (Array.getElem?_eq_some_iff.1 hh).1
    refine ⟨_, cap, rfl, hc, (fun h => by cases h), Or.inr ⟨g, 0, rfl, hlt, fun j hj i hi => ?_⟩, fun a ha => ⟨g, by injection ha with ha; exact ha.symm, hg, hlt⟩⟩
    rw [← flatE_at L j hj i hi, ← ht, List.getElem?_take, if_pos (by omega), Array.getElem?_toList]
    simp [World.cell?, hh]
theorem OwnE.lt (h : OwnE w B t v L) : ∀ g, v.ownBlock = some g → B ≤ g := fun g hg => (World.ownsRow.lt h g hg).1
theorem OwnE.ltB (h : OwnE w B t v L) : ∀ g, v.ownBlock = some g → B ≤ g ∧ g < w.heap.size := fun g hg => World.ownsRow.lt h g hg
theorem OwnE.type (h : OwnE w B t v L) : ∀ g, v.ownBlock = some g → ∃ cs fz, w.heap[g]? = some (.cells cs t fz) := by
  intro g hg
  obtain ⟨_, ⟨rfl, _⟩ | ⟨g', cap, cur, rfl, _, hh, _⟩⟩ := h
  · cases hg
  · simp only [Value.ownBlock, Option.some.injEq] at hg
    subst hg
    exact ⟨cur, _, hh⟩
theorem OwnE.alloc (h : OwnE w B t v L) (o : Obj) : OwnE (w.alloc o) B t v L := World.ownsRow.alloc h o
theorem OwnE.drewN (h : OwnE w B t v L) (n : Nat) : OwnE (w.drewN n) B t v L := h
theorem OwnE.mono {B' : Nat} (h : OwnE w B t v L) (hB : B' ≤ B) : OwnE w B' t v L := by
  obtain ⟨h1, h2⟩ := h
  refine ⟨h1, ?_⟩
  rcases h2 with h2 | ⟨g, cap, cur, e, hg, r⟩
  · exact Or.inl h2
  · exact Or.inr ⟨g, cap, cur, e, by omega, r⟩
theorem OwnE.raise {B' : Nat} (h : OwnE w B t v L) (hB : ∀ g, v.ownBlock = some g → B' ≤ g) : OwnE w B' t v L := by
  obtain ⟨h1, h2⟩ := h
  refine ⟨h1, ?_⟩
  rcases h2 with h2 | ⟨g, cap, cur, e, hg, r⟩
  · exact Or.inl h2
  · exact Or.inr ⟨g, cap, cur, e, hB g (by rw [e]; rfl), r⟩
theorem OwnE.kept {F : Nat → Prop} (h : OwnE w B t v L) (hk : Kept F w w') (hF : ∀ g, v.ownBlock = some g → ¬ F g) : OwnE w' B t v L := by
  obtain ⟨h1, h2⟩ := h
  refine ⟨h1, ?_⟩
  rcases h2 with h2 | ⟨g, cap, cur, e, hg, hh, r⟩
  · exact Or.inl h2
  · exact Or.inr ⟨g, cap, cur, e, hg, by rw [hk.block g (Array.getElem?_eq_some_iff.1 hh).1 (hF g (by rw [e]; rfl))]; exact hh, r⟩
theorem OwnE.below (h : OwnE w B t v L) (hb : Below w.heap.size w w') : OwnE w' B t v L := h.kept (Kept.of_below hb (F := fun _ => False)) fun _ _ e => e
theorem OwnE.grown {row : Option Nat} (h : OwnE w B t v L) (hg : w.grownBy w' row) (hr : ∀ g, v.ownBlock = some g → row ≠ some g) : OwnE w' B t v L :=
  h.kept (Kept.grown (F := fun k => row = some k) hg fun _ e => e) fun g e f => hr g e f

/-- append of entries, run. -/
theorem run_app_ents (ET : EntT t T) (ty : TypeId) (h : OwnE w B t v L) (p : Option Addr) (c : Nat) (M : List Ent) (hrow : RowE w p M) (hpc : p = none → c = 0) (hlen : L.length + M.length ≤ 1000000000000) (hB : B ≤ w.heap.size) :
    ∃ v' w', (Builtin.append_ #[T, T] ty #[v, .slice p M.length c]).run Try.prog w = .ok v' w' ∧ OwnE w' B t v' (L ++ M) ∧ w.grownBy w' v.ownBlock ∧ (v'.ownBlock = v.ownBlock ∨ v'.ownBlock = some w.heap.size) := by
  obtain ⟨i0, hi, hz0, hz1, hz2⟩ := info_parts ET.info
  cases p with
  | none =>
    obtain rfl := hrow.nil_of
    obtain rfl := hpc rfl
    have hrun := run_append_owned_none (P := Try.prog) (w := w) B T ty t i0 9 ET.sl hi v L.length (flatE L) h
    exact ⟨v, w, hrun, by rw [List.append_nil]; exact h, World.grownBy.refl _ _, Or.inl rfl⟩
  | some ad =>
    have hpt : M ≠ [] → ∃ b off, ad = ⟨b, off, none⟩ := fun hne => by
      rcases hrow with h | ⟨b, off, hp, _⟩
      · exact absurd h hne
      · injection hp with hp; exact ⟨b, off, hp⟩
    obtain ⟨v', w', hr, h2, h3, _, h5⟩ := run_append_own_at (P := Try.prog) w B T ty t i0 zeroLast 9 104 ET.sl hi hz0 hz1 hz2 rfl (by decide) v L.length (flatE L) h ad M.length c (flatE M) (flatE_len M) (by
      intro j u hj
      have hne : M ≠ [] := fun e => by rw [e] at hj; simp [flatE] at hj
      obtain ⟨b, off, rfl⟩ := hpt hne
      exact hrow.flat j u hj) (flatE_one M) (by unfold maxLen; omega) (by omega) hB
    refine ⟨v', w', hr, ?_, h3, h5⟩
    unfold OwnE
    rw [List.length_append, flatE_app]
    exact h2
theorem wpList_app_ents (ET : EntT t T) {ops : Array Oper} {rest : List Oper} {o : Oper} {a : Act} {Q : Exit → Act → World → Prop}
    (hg : o.guard = none) (s x : Operand) (hop : o.op = Op.call { callee := Callee.builtin Builtin.append, args := #[s, x], argTypes := #[T, T] })
    (hs : a.eval s = v) (h : OwnE w B t v L) (p : Option Addr) (c : Nat) (M : List Ent) (hx : a.eval x = .slice p M.length c) (hrow : RowE w p M) (hpc : p = none → c = 0) (hlen : L.length + M.length ≤ 1000000000000) (hB : B ≤ w.heap.size)
    (hK : ∀ v' w', OwnE w' B t v' (L ++ M) → w.grownBy w' v.ownBlock → (v'.ownBlock = v.ownBlock ∨ v'.ownBlock = some w.heap.size) → wpList Try.prog ops Q rest (a.put o.dst v') w') :
    wpList Try.prog ops Q (o :: rest) a w := by
  obtain ⟨v', w', hr, h2, h3, h4⟩ := run_app_ents ET o.type h p c M hrow hpc hlen hB
  refine wpList_plain hg fun K' hK' => ?_
  unfold Oper.wp
  simp only [execOp, hop, resolve, invoke, builtin, Sem.run_bind, Sem.run_pure, Result.andThen_ok, List.map_toArray, List.map_cons, List.map_nil, hs, hx, hr]
  exact hK' _ _ (hK v' w' h2 h3 h4)
theorem step_app_ents (ET : EntT t T) {ops : Array Oper} {o : Oper} {a : Act} {K : Act → World → Prop} {Q : Exit → Act → World → Prop} {E : Prop} (hg : o.guard = none) (s x : Operand)
    (hop : o.op = Op.call { callee := Callee.builtin Builtin.append, args := #[s, x], argTypes := #[T, T] })
    (hs : a.eval s = v) (h : OwnE w B t v L) (p : Option Addr) (c : Nat) (M : List Ent) (hx : a.eval x = .slice p M.length c) (hrow : RowE w p M) (hpc : p = none → c = 0) (hlen : L.length + M.length ≤ 1000000000000) (hB : B ≤ w.heap.size)
    (hK : ∀ v' w', OwnE w' B t v' (L ++ M) → w.grownBy w' v.ownBlock → (v'.ownBlock = v.ownBlock ∨ v'.ownBlock = some w.heap.size) → K (a.put o.dst v') w') :
    if Region.wanted o (yielded ops a.tmps) = true then Oper.wp Try.prog o a w K Q else E := by
  have hw : Region.wanted o (yielded ops a.tmps) = true := by simp [Region.wanted, hg]
  rw [if_pos hw]
  obtain ⟨v', w', hr, h2, h3, h4⟩ := run_app_ents ET o.type h p c M hrow hpc hlen hB
  unfold Oper.wp execOp
  simp only [hop, resolve, invoke, builtin, Sem.run_bind, Sem.run_pure, Result.andThen_ok, List.map_toArray, List.map_cons, List.map_nil, hs, hx, hr]
  exact hK _ _ h2 h3 h4
theorem stepI_app_ents (ET : EntT t T) {ops : Array Oper} {Q : Exit → Act → World → Prop} {i : Nat} {o : Oper} {a : Act} {J : Value → World → Prop} (hgd : o.guard = none) (s x : Operand)
    (hop : o.op = Op.call { callee := Callee.builtin Builtin.append, args := #[s, x], argTypes := #[T, T] })
    (hs : a.eval s = v) (h : OwnE w B t v L) (p : Option Addr) (c : Nat) (M : List Ent) (hx : a.eval x = .slice p M.length c) (hrow : RowE w p M) (hpc : p = none → c = 0) (hlen : L.length + M.length ≤ 1000000000000) (hB : B ≤ w.heap.size)
    (hJ : ∀ v' w', OwnE w' B t v' (L ++ M) → w.grownBy w' v.ownBlock → (v'.ownBlock = v.ownBlock ∨ v'.ownBlock = some w.heap.size) → J v' w') : StepI Try.prog ops Q i o a w J := by
  obtain ⟨v', w', hr, h2, h3, h4⟩ := run_app_ents ET o.type h p c M hrow hpc hlen hB
  refine step_run hgd (v := v') (w' := w') ?_ (hJ v' w' h2 h3 h4)
  simp only [execOp, hop, resolve, invoke, builtin, Sem.run_bind, Sem.run_pure, Result.andThen_ok, List.map_toArray, List.map_cons, List.map_nil, hs, hx, hr]
end

/-- cells of a block are written, one behind the other. -/
def sets (w : World) (g : Nat) : Nat → List Value → World
  | _, [] => w
  | o, v :: t => sets (w.setCell ⟨g, o, none⟩ v) g (o + 1) t
theorem sets_kept (g : Nat) : ∀ (vs : List Value) (o : Nat) (w : World), Kept (fun k => k = g) w (sets w g o vs)
  | [], _, w => Kept.refl _ w
  | v :: t, o, _ => (Kept.set (F := fun k => k = g) v rfl).trans (sets_kept g t (o + 1) _) fun _ _ e => e
theorem set_block {w : World} {b : Nat} {cs : Array Value} {t : TypeId} {fz : Nat × Nat} (h : w.heap[b]? = some (.cells cs t fz)) (i : Nat) (u : Value) : (w.setCell ⟨b, i, none⟩ u).heap[b]? = some (.cells (cs.setIfInBounds i u) t fz) := by
  simp only [World.setCell, Array.getElem?_modify, if_true, h, Option.map_some]
  rfl
theorem sets_block (g : Nat) (t : TypeId) (fz : Nat × Nat) : ∀ (vs : List Value) (pre : List Value) (post : List Value) (w : World), post.length = vs.length → w.heap[g]? = some (.cells (pre ++ post).toArray t fz) → (sets w g pre.length vs).heap[g]? = some (.cells (pre ++ vs).toArray t fz)
  | [], pre, post, w, hl, h => by
    obtain rfl : post = [] := List.eq_nil_of_length_eq_zero hl
    exact h
  | v :: r, pre, post, w, hl, h => by
    cases post with
    | nil => simp at hl
    | cons x post =>
      have h1 := set_block h pre.length v
      have e : ((pre ++ x :: post).toArray.setIfInBounds pre.length v) = ((pre ++ [v]) ++ post).toArray := by simp
      rw [e] at h1
      have h2 := sets_block g t fz r (pre ++ [v]) post _ (by simpa using hl) h1
      simp only [List.length_append, List.length_cons, List.length_nil, List.append_assoc, List.cons_append, List.nil_append] at h2
      exact h2
theorem sets_all {g : Nat} {t : TypeId} {fz : Nat × Nat} {w : World} {cs : Array Value} (vs : List Value) (h : w.heap[g]? = some (.cells cs t fz)) (hl : cs.size = vs.length) : (sets w g 0 vs).heap[g]? = some (.cells vs.toArray t fz) :=
  sets_block g t fz vs [] cs.toList w (by simpa using hl) (by simpa using h)

/-- the one entry of a block. -/
theorem one_ent {w : World} {G : Nat} {e : Ent} {t : TypeId} {fz : Nat × Nat} (h : w.heap[G]? = some (.cells #[.int .i64 e.s, .int .i64 e.r.c, .int .i64 e.r.s, .int .i64 e.r.e, .bool e.r.fd, .string (strB e.r.v), .slice e.p e.r.ls.length e.k, .string (strB e.r.nx), .bool e.r.mr] t fz)) : RowE w (some ⟨G, 0, none⟩) [e] := by
  refine Or.inr ⟨G, 0, rfl, (Array.getElem?_eq_some_iff.1 h).1, fun j hj i hi => ?_⟩
  obtain rfl : j = 0 := by simpa using hj
  simp only [World.cell?, h]
  match i, hi with
  | 0, _ => rfl
  | 1, _ => rfl
  | 2, _ => rfl
  | 3, _ => rfl
  | 4, _ => rfl
  | 5, _ => rfl
  | 6, _ => rfl
  | 7, _ => rfl
  | 8, _ => rfl

/-- an entry is as it should be: its records lie in w. -/
structure EntIn (w : World) (e : Ent) : Prop where
  rs : Recs w e.p e.r.ls
  few : e.r.ls.length ≤ 300
  pc : e.p = none → e.k = 0
  wf : (Lit.int .i64 e.r.c).wf = true
theorem EntIn.below {w w' : World} {e : Ent} (h : EntIn w e) (hb : Below w.heap.size w w') : EntIn w' e := ⟨h.rs.below hb, h.few, h.pc, h.wf⟩
def EntsIn (w : World) (L : List Ent) : Prop := ∀ e ∈ L, EntIn w e
theorem EntsIn.below {w w' : World} {L : List Ent} (h : EntsIn w L) (hb : Below w.heap.size w w') : EntsIn w' L := fun e he => (h e he).below hb
/-- a block in which no text stands. -/
def NoText (w : World) (k : Nat) : Prop := ∀ o s, w.cell? ⟨k, o, none⟩ ≠ some (.string s)
theorem Recs.kept {F : Nat → Prop} {w w' : World} {p : Option Addr} {ls : List RecL} (h : Recs w p ls) (hk : Kept F w w') (hF : ∀ k, F k → NoText w k) : Recs w' p ls := by
  by_cases h0 : ls.length = 0
  · exact Or.inl (List.eq_nil_of_length_eq_zero h0)
  rcases h with h | ⟨b, off, hp, hlt, hc⟩
  · exact Or.inl h
  · have hnf : ¬ F b := fun hf => hF b hf _ _ (hc 0 (by omega)).1
    exact Or.inr ⟨b, off, hp, Nat.lt_of_lt_of_le hlt hk.size, fun j hj => ⟨by rw [hk.cell (p := ⟨b, off + j * 2, none⟩) hlt hnf]; exact (hc j hj).1, by rw [hk.cell (p := ⟨b, off + j * 2 + 1, none⟩) hlt hnf]; exact (hc j hj).2⟩⟩
theorem EntIn.kept {F : Nat → Prop} {w w' : World} {e : Ent} (h : EntIn w e) (hk : Kept F w w') (hF : ∀ k, F k → NoText w k) : EntIn w' e := ⟨h.rs.kept hk hF, h.few, h.pc, h.wf⟩
theorem EntsIn.kept {F : Nat → Prop} {w w' : World} {L : List Ent} (h : EntsIn w L) (hk : Kept F w w') (hF : ∀ k, F k → NoText w k) : EntsIn w' L := fun e he => (h e he).kept hk hF
end Go.Proofs.Ytfadpiipigkocaa
