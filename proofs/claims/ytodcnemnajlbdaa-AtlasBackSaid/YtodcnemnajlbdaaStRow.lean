/-
  Rows of structs in memory, of whatever kind: a slice reads as a list of them; a row of the call's own; append of a row; a part of a row.
-/
import Derived.Test.YtodcnemnajlbdaaRegInv
import Derived.Maps.AppendAt
import Derived.Laws.OwnMore
import Derived.OwnWalk
namespace Go.Gz
open Go.RowKit

/-- all is as it was but for the blocks of F, and new ones. -/
structure KeptF (F : Nat → Prop) (w w' : World) : Prop where
  os : w'.os = w.os
  tape : w'.tape = w.tape
  output : w'.output = w.output
  size : w.heap.size ≤ w'.heap.size
  block : ∀ k, k < w.heap.size → ¬ F k → w'.heap[k]? = w.heap[k]?
theorem KeptF.refl (F : Nat → Prop) (w : World) : KeptF F w w := ⟨rfl, rfl, rfl, Nat.le_refl _, fun _ _ _ => rfl⟩
theorem KeptF.trans {F G : Nat → Prop} {a b c : World} (h : KeptF F a b) (k : KeptF G b c) (hG : ∀ i, i < a.heap.size → G i → F i) : KeptF F a c :=
  ⟨k.os.trans h.os, k.tape.trans h.tape, k.output.trans h.output, Nat.le_trans h.size k.size, fun i hi hF => (k.block i (by have := h.size; omega) fun e => hF (hG i hi e)).trans (h.block i hi hF)⟩
theorem KeptF.drew {F : Nat → Prop} {a w : World} (h : KeptF F a w) : KeptF F a w.drew := ⟨h.os, h.tape, h.output, h.size, h.block⟩
theorem KeptF.drewN {F : Nat → Prop} {a w : World} (h : KeptF F a w) (n : Nat) : KeptF F a (w.drewN n) := ⟨h.os, h.tape, h.output, h.size, h.block⟩
theorem KeptF.alloc {F : Nat → Prop} {a w : World} (h : KeptF F a w) (o : Obj) : KeptF F a (w.alloc o) :=
  ⟨h.os, h.tape, h.output, by have := h.size; simp; omega, fun k hk hn => (Below.heap_alloc _ _ _ (by have := h.size; omega)).trans (h.block k hk hn)⟩
theorem KeptF.set {F : Nat → Prop} {a w : World} (h : KeptF F a w) {p : Addr} (hp : F p.block) (u : Value) : KeptF F a (w.setCell p u) :=
  ⟨h.os, h.tape, h.output, by have := h.size; simp [World.setCell]; exact this, fun k hk hn => (Below.heap_setCell _ _ _ _ (fun e => hn (by rw [e]; exact hp))).trans (h.block k hk hn)⟩
theorem KeptF.cell {F : Nat → Prop} {w w' : World} (h : KeptF F w w') {p : Addr} (hb : p.block < w.heap.size) (hF : ¬ F p.block) : w'.cell? p = w.cell? p := World.cell?_of_block (w := w) (h.block p.block hb hF)
theorem KeptF.of_below {F : Nat → Prop} {w w' : World} (h : Below w.heap.size w w') : KeptF F w w' := ⟨h.os, h.tape, h.output, h.size, fun k hk _ => h.block k hk⟩
theorem KeptF.grown {F : Nat → Prop} {w w' : World} {row : Option Nat} (h : w.grownBy w' row) (hF : ∀ g, row = some g → F g) : KeptF F w w' :=
  ⟨h.os, h.tape, h.output, h.size, fun k hk hn => h.block k hk fun e => hn (hF k e.symm)⟩
theorem KeptF.below {F : Nat → Prop} {B : Nat} {w w' : World} (h : KeptF F w w') (hF : ∀ k, F k → B ≤ k) (hB : B ≤ w.heap.size) : Below B w w' :=
  ⟨h.os, h.tape, h.output, h.size, fun k hk => h.block k (by omega) fun e => by have := hF k e; omega⟩

theorem alloc_at (w : World) (x : Obj) : (w.alloc x).heap[w.heap.size]? = some x := by show (w.heap.push x)[w.heap.size]? = _; simp

/-- a kind of struct: its cells. -/
structure SK (α : Type) where
  cf : α → List Value
  n : Nat
  len : ∀ x, (cf x).length = n
  one : ∀ x, ∀ u ∈ cf x, u.oneCell' = true
  pos : 0 < n
section
variable {α : Type} {K : SK α}
def SK.flat (K : SK α) (L : List α) : List Value := L.flatMap K.cf
theorem SK.flat_len (K : SK α) (L : List α) : (K.flat L).length = L.length * K.n := by
  induction L with
  | nil => simp [SK.flat]
  | cons e t ih =>
    show (K.cf e ++ K.flat t).length = _
    rw [List.length_append, ih, List.length_cons, K.len, Nat.add_mul]
    omega
theorem SK.flat_app (K : SK α) (L M : List α) : K.flat (L ++ M) = K.flat L ++ K.flat M := by simp [SK.flat]
theorem SK.flat_at [Inhabited α] (K : SK α) (L : List α) : ∀ j, j < L.length → ∀ i, i < K.n → (K.flat L)[j * K.n + i]? = (K.cf (L.getD j default))[i]? := by
  induction L with
  | nil => intro j hj; simp at hj
  | cons e t ih =>
    intro j hj i hi
    show (K.cf e ++ K.flat t)[j * K.n + i]? = _
    have hl := K.len e
    cases j with
    | zero => rw [List.getElem?_append_left (by omega)]; simp
    | succ j =>
      rw [Nat.add_mul, List.getElem?_append_right (by omega), show j * K.n + 1 * K.n + i - (K.cf e).length = j * K.n + i by omega, ih j (by simpa using hj) i hi]
      simp
theorem SK.flat_one (K : SK α) (L : List α) : ∀ u ∈ K.flat L, u.oneCell' = true := by
  intro u hu
  obtain ⟨e, _, hu⟩ := List.mem_flatMap.1 hu
  exact K.one e u hu

/-- slice pointer p reads in w as the structs L. -/
def RowK [Inhabited α] (K : SK α) (w : World) (p : Option Addr) (L : List α) : Prop :=
  L = [] ∨ ∃ b off, p = some ⟨b, off, none⟩ ∧ b < w.heap.size ∧ ∀ j, j < L.length → ∀ i, i < K.n → w.cell? ⟨b, off + j * K.n + i, none⟩ = (K.cf (L.getD j default))[i]?
variable {w w' W wr : World} {p : Option Addr} {L M : List α} {b off B : Nat}
theorem RowK.empty [Inhabited α] (K : SK α) (w : World) (p : Option Addr) : RowK K w p [] := Or.inl rfl
theorem RowK.below [Inhabited α] (h : RowK K w p L) (hb : Below w.heap.size w w') : RowK K w' p L := by
  rcases h with h | ⟨b, off, hp, hlt, hc⟩
  · exact Or.inl h
  · exact Or.inr ⟨b, off, hp, Nat.lt_of_lt_of_le hlt hb.size, fun j hj i hi => by rw [hb.cell (p := ⟨b, off + j * K.n + i, none⟩) hlt]; exact hc j hj i hi⟩
theorem RowK.kept [Inhabited α] {F : Nat → Prop} (h : RowK K w p L) (hk : KeptF F w w') (hF : ∀ a, p = some a → ¬ F a.block) : RowK K w' p L := by
  rcases h with h | ⟨b, off, hp, hlt, hc⟩
  · exact Or.inl h
  · exact Or.inr ⟨b, off, hp, Nat.lt_of_lt_of_le hlt hk.size, fun j hj i hi => by rw [World.cell?_of_block (w := w) (a := ⟨b, off + j * K.n + i, none⟩) (hk.block b hlt (hF _ hp))]; exact hc j hj i hi⟩
theorem RowK.cells [Inhabited α] (h : RowK K W p L) (hb : Below W.heap.size W wr) {j : Nat} (hj : j < L.length) : ∃ b o, p = some ⟨b, o, none⟩ ∧ b < W.heap.size ∧ ∀ i, i < K.n → wr.cell? ⟨b, o + j * K.n + i, none⟩ = (K.cf (L.getD j default))[i]? := by
  rcases h with h | ⟨b, o, hp, h1, h2⟩
  · rw [h] at hj; simp at hj
  · exact ⟨b, o, hp, h1, fun i hi => by rw [hb.cell (p := ⟨b, o + j * K.n + i, none⟩) h1]; exact h2 j hj i hi⟩
theorem RowK.nil_of [Inhabited α] (h : RowK K w none L) : L = [] := by
  rcases h with h | ⟨b, off, hp, _⟩
  · exact h
  · cases hp
theorem RowK.flat [Inhabited α] (h : RowK K w (some ⟨b, off, none⟩) L) : ∀ j u, (K.flat L)[j]? = some u → w.cell? ((⟨b, off, none⟩ : Addr).add j) = some u := by
  intro j u hj
  have hl := (List.getElem?_eq_some_iff.1 hj).1
  rw [K.flat_len] at hl
  have hn := K.pos
  have hjn : j / K.n < L.length := (Nat.div_lt_iff_lt_mul hn).2 hl
  have hjm : j % K.n < K.n := Nat.mod_lt _ hn
  have hdm : j / K.n * K.n + j % K.n = j := by rw [Nat.mul_comm]; exact Nat.div_add_mod j K.n
  rcases h with h | ⟨b', off', hp, _, hc⟩
  · rw [h] at hl; simp at hl
  · injection hp with hp
    injection hp with h1 h2 _
    subst h1 h2
    have e := hc (j / K.n) hjn (j % K.n) hjm
    rw [← K.flat_at L (j / K.n) hjn (j % K.n) hjm, hdm, hj] at e
    rw [Addr.add_lit]
    rw [← e, Nat.add_assoc, hdm]
theorem RowK.take [Inhabited α] (h : RowK K w p L) (k : Nat) : RowK K w p (L.take k) := by
  rcases h with h | ⟨b, off, hp, hlt, hc⟩
  · exact Or.inl (by rw [h, List.take_nil])
  · refine Or.inr ⟨b, off, hp, hlt, fun j hj i hi => ?_⟩
    rw [List.length_take] at hj
    rw [hc j (by omega) i hi]
    simp [List.getD, show j < k by omega]
theorem RowK.drop [Inhabited α] (h : RowK K w (some ⟨b, off, none⟩) L) (k : Nat) : RowK K w (some ⟨b, off + k * K.n, none⟩) (L.drop k) := by
  rcases h with h | ⟨b', off', hp, hlt, hc⟩
  · exact Or.inl (by rw [h, List.drop_nil])
  · injection hp with hp
    injection hp with h1 h2 _
    subst h1 h2
    refine Or.inr ⟨b, off + k * K.n, rfl, hlt, fun j hj i hi => ?_⟩
    rw [List.length_drop] at hj
    rw [show off + k * K.n + j * K.n + i = off + (k + j) * K.n + i by rw [Nat.add_mul]; omega, hc (k + j) (by omega) i hi]
    simp [List.getD]
/-- the structs that a block holds. -/
theorem RowK.block [Inhabited α] {t : TypeId} {fz : Nat × Nat} (K : SK α) (h : w.heap[b]? = some (.cells (K.flat L).toArray t fz)) : RowK K w (some ⟨b, 0, none⟩) L := by
  refine Or.inr ⟨b, 0, rfl, (Array.getElem?_eq_some_iff.1 h).1, fun j hj i hi => ?_⟩
  simp only [World.cell?, h, Nat.zero_add, List.getElem?_toArray]
  exact K.flat_at L j hj i hi

/-- v is a row of structs that the call owns. -/
def OwnK (K : SK α) (w : World) (B : Nat) (t : TypeId) (v : Value) (L : List α) : Prop := w.ownsRow B t K.n v L.length (K.flat L)
variable {t T : TypeId} {v : Value}
theorem OwnK.nil (K : SK α) (w : World) (B : Nat) (t : TypeId) : OwnK K w B t (.slice none 0 0) [] := World.ownsRow_nil w B t K.n
theorem OwnK.row [Inhabited α] (h : OwnK K w B t v L) : ∃ p c, v = .slice p L.length c ∧ L.length ≤ c ∧ (p = none → c = 0) ∧ RowK K w p L ∧ (∀ a, p = some a → ∃ g, a = ⟨g, 0, none⟩ ∧ B ≤ g ∧ g < w.heap.size) := by
  obtain ⟨h1, ⟨rfl, h0⟩ | ⟨g, cap, cur, rfl, hg, hh, hc, hm, hs, ht⟩⟩ := h
  · have : L = [] := List.eq_nil_of_length_eq_zero h0
    subst this
    exact ⟨none, 0, rfl, Nat.le_refl _, fun _ => rfl, Or.inl rfl, fun a h => by cases h⟩
  · have hlt := (Array.getElem?_eq_some_iff.1 hh).1
    refine ⟨_, cap, rfl, hc, (fun h => by cases h), Or.inr ⟨g, 0, rfl, hlt, fun j hj i hi => ?_⟩, fun a ha => ⟨g, by injection ha with ha; exact ha.symm, hg, hlt⟩⟩
    have hb : j * K.n + i < L.length * K.n := by
      have : (j + 1) * K.n ≤ L.length * K.n := Nat.mul_le_mul_right _ hj
      rw [Nat.add_mul] at this
      omega
    rw [← K.flat_at L j hj i hi, ← ht, List.getElem?_take, if_pos hb, Array.getElem?_toList]
    simp [World.cell?, hh]
theorem OwnK.ltB (h : OwnK K w B t v L) : ∀ g, v.ownBlock = some g → B ≤ g ∧ g < w.heap.size := fun g hg => World.ownsRow.lt h g hg
theorem OwnK.type (h : OwnK K w B t v L) : ∀ g, v.ownBlock = some g → ∃ cs fz, w.heap[g]? = some (.cells cs t fz) := by
  intro g hg
  obtain ⟨_, ⟨rfl, _⟩ | ⟨g', cap, cur, rfl, _, hh, _⟩⟩ := h
  · cases hg
  · simp only [Value.ownBlock, Option.some.injEq] at hg
    subst hg
    exact ⟨cur, _, hh⟩
theorem OwnK.alloc (h : OwnK K w B t v L) (o : Obj) : OwnK K (w.alloc o) B t v L := World.ownsRow.alloc h o
theorem OwnK.drewN (h : OwnK K w B t v L) (n : Nat) : OwnK K (w.drewN n) B t v L := h
theorem OwnK.mono {B' : Nat} (h : OwnK K w B t v L) (hB : B' ≤ B) : OwnK K w B' t v L := by
  obtain ⟨h1, h2⟩ := h
  refine ⟨h1, ?_⟩
  rcases h2 with h2 | ⟨g, cap, cur, e, hg, r⟩
  · exact Or.inl h2
  · exact Or.inr ⟨g, cap, cur, e, by omega, r⟩
theorem OwnK.raise {B' : Nat} (h : OwnK K w B t v L) (hB : ∀ g, v.ownBlock = some g → B' ≤ g) : OwnK K w B' t v L := by
  obtain ⟨h1, h2⟩ := h
  refine ⟨h1, ?_⟩
  rcases h2 with h2 | ⟨g, cap, cur, e, hg, r⟩
  · exact Or.inl h2
  · exact Or.inr ⟨g, cap, cur, e, hB g (by rw [e]; rfl), r⟩
theorem OwnK.kept {F : Nat → Prop} (h : OwnK K w B t v L) (hk : KeptF F w w') (hF : ∀ g, v.ownBlock = some g → ¬ F g) : OwnK K w' B t v L := by
  obtain ⟨h1, h2⟩ := h
  refine ⟨h1, ?_⟩
  rcases h2 with h2 | ⟨g, cap, cur, e, hg, hh, r⟩
  · exact Or.inl h2
  · exact Or.inr ⟨g, cap, cur, e, hg, by rw [hk.block g (Array.getElem?_eq_some_iff.1 hh).1 (hF g (by rw [e]; rfl))]; exact hh, r⟩
theorem OwnK.below (h : OwnK K w B t v L) (hb : Below w.heap.size w w') : OwnK K w' B t v L := h.kept (KeptF.of_below hb (F := fun _ => False)) fun _ _ e => e
theorem OwnK.grown {row : Option Nat} (h : OwnK K w B t v L) (hg : w.grownBy w' row) (hr : ∀ g, v.ownBlock = some g → row ≠ some g) : OwnK K w' B t v L :=
  h.kept (KeptF.grown (F := fun k => row = some k) hg fun _ e => e) fun g e f => hr g e f
theorem OwnK.setCell (h : OwnK K w B t v L) {a : Addr} (ha : v.ownBlock ≠ some a.block) (u : Value) : OwnK K (w.setCell a u) B t v L :=
  h.kept (F := fun k => k = a.block) ⟨rfl, rfl, rfl, by simp [World.setCell], fun k _ hn => Below.heap_setCell _ _ _ _ hn⟩ fun g e f => ha (by rw [e, f])

/-- what the program says of the kind: its type, the type of slices of it. -/
structure SKT (P : Program) (K : SK α) (t T : TypeId) (z : Value) (bytes : Nat) : Prop where
  sl : P.underlying T = some (.slice t)
  info : (P.info? t).map (fun i => (i.zero, i.size, i.bytes)) = some (some z, K.n, bytes)
  zn : z.cells.size = K.n
  by_ : bytes ≤ 1000
variable {P : Program} {z : Value} {bytes : Nat}
/-- append of a row of structs, run. -/
theorem run_app_k [Inhabited α] (ET : SKT P K t T z bytes) (ty : TypeId) (h : OwnK K w B t v L) (p : Option Addr) (c : Nat) (M : List α) (hrow : RowK K w p M) (hpc : p = none → c = 0) (hlen : L.length + M.length ≤ 100000000) (hB : B ≤ w.heap.size) :
    ∃ v' w', (Builtin.append_ #[T, T] ty #[v, .slice p M.length c]).run P w = .ok v' w' ∧ OwnK K w' B t v' (L ++ M) ∧ w.grownBy w' v.ownBlock ∧ (v'.ownBlock = v.ownBlock ∨ v'.ownBlock = some w.heap.size) := by
  obtain ⟨i0, hi, hz0, hz1, hz2⟩ := info_parts ET.info
  cases p with
  | none =>
    obtain rfl := hrow.nil_of
    obtain rfl := hpc rfl
    have hrun := run_append_owned_none (P := P) (w := w) B T ty t i0 K.n ET.sl hi v L.length (K.flat L) h
    exact ⟨v, w, hrun, by rw [List.append_nil]; exact h, World.grownBy.refl _ _, Or.inl rfl⟩
  | some ad =>
    have hpt : M ≠ [] → ∃ b off, ad = ⟨b, off, none⟩ := fun hne => by
      rcases hrow with h | ⟨b, off, hp, _⟩
      · exact absurd h hne
      · injection hp with hp; exact ⟨b, off, hp⟩
    have hby := ET.by_
    obtain ⟨v', w', hr, h2, h3, _, h5⟩ := run_append_own_at (P := P) (w := w) B T ty t i0 z K.n bytes ET.sl hi hz0 hz1 hz2 ET.zn K.pos v L.length (K.flat L) h ad M.length c (K.flat M) (K.flat_len M) (by
      intro j u hj
      have hne : M ≠ [] := fun e => by rw [e] at hj; simp [SK.flat] at hj
      obtain ⟨b, off, rfl⟩ := hpt hne
      exact hrow.flat j u hj) (K.flat_one M) (by unfold maxLen; omega) (Nat.le_trans (Nat.mul_le_mul hlen hby) (by decide)) hB
    refine ⟨v', w', hr, ?_, h3, h5⟩
    unfold OwnK
    rw [List.length_append, K.flat_app]
    exact h2
theorem wpList_app_k [Inhabited α] (ET : SKT P K t T z bytes) {ops : Array Oper} {rest : List Oper} {o : Oper} {a : Act} {Q : Exit → Act → World → Prop}
    (hg : o.guard = none) (s x : Operand) (hop : o.op = Op.call { callee := Callee.builtin Builtin.append, args := #[s, x], argTypes := #[T, T] })
    (hs : a.eval s = v) (h : OwnK K w B t v L) (p : Option Addr) (c : Nat) (M : List α) (hx : a.eval x = .slice p M.length c) (hrow : RowK K w p M) (hpc : p = none → c = 0) (hlen : L.length + M.length ≤ 100000000) (hB : B ≤ w.heap.size)
    (hK : ∀ v' w', OwnK K w' B t v' (L ++ M) → w.grownBy w' v.ownBlock → (v'.ownBlock = v.ownBlock ∨ v'.ownBlock = some w.heap.size) → wpList P ops Q rest (a.put o.dst v') w') :
    wpList P ops Q (o :: rest) a w := by
  obtain ⟨v', w', hr, h2, h3, h4⟩ := run_app_k ET o.type h p c M hrow hpc hlen hB
  refine wpList_plain hg fun K' hK' => ?_
  unfold Oper.wp
  simp only [execOp, hop, resolve, invoke, builtin, Sem.run_bind, Sem.run_pure, Result.andThen_ok, List.map_toArray, List.map_cons, List.map_nil, hs, hx, hr]
  exact hK' _ _ (hK v' w' h2 h3 h4)
theorem step_app_k [Inhabited α] (ET : SKT P K t T z bytes) {ops : Array Oper} {o : Oper} {a : Act} {K' : Act → World → Prop} {Q : Exit → Act → World → Prop} {E : Prop} (hg : o.guard = none) (s x : Operand)
    (hop : o.op = Op.call { callee := Callee.builtin Builtin.append, args := #[s, x], argTypes := #[T, T] })
    (hs : a.eval s = v) (h : OwnK K w B t v L) (p : Option Addr) (c : Nat) (M : List α) (hx : a.eval x = .slice p M.length c) (hrow : RowK K w p M) (hpc : p = none → c = 0) (hlen : L.length + M.length ≤ 100000000) (hB : B ≤ w.heap.size)
    (hK : ∀ v' w', OwnK K w' B t v' (L ++ M) → w.grownBy w' v.ownBlock → (v'.ownBlock = v.ownBlock ∨ v'.ownBlock = some w.heap.size) → K' (a.put o.dst v') w') :
    if Region.wanted o (yielded ops a.tmps) = true then Oper.wp P o a w K' Q else E := by
  have hw : Region.wanted o (yielded ops a.tmps) = true := by simp [Region.wanted, hg]
  rw [if_pos hw]
  obtain ⟨v', w', hr, h2, h3, h4⟩ := run_app_k ET o.type h p c M hrow hpc hlen hB
  unfold Oper.wp execOp
  simp only [hop, resolve, invoke, builtin, Sem.run_bind, Sem.run_pure, Result.andThen_ok, List.map_toArray, List.map_cons, List.map_nil, hs, hx, hr]
  exact hK _ _ h2 h3 h4
theorem stepI_app_k [Inhabited α] (ET : SKT P K t T z bytes) {ops : Array Oper} {Q : Exit → Act → World → Prop} {i : Nat} {o : Oper} {a : Act} {J : Value → World → Prop} (hgd : o.guard = none) (s x : Operand)
    (hop : o.op = Op.call { callee := Callee.builtin Builtin.append, args := #[s, x], argTypes := #[T, T] })
    (hs : a.eval s = v) (h : OwnK K w B t v L) (p : Option Addr) (c : Nat) (M : List α) (hx : a.eval x = .slice p M.length c) (hrow : RowK K w p M) (hpc : p = none → c = 0) (hlen : L.length + M.length ≤ 100000000) (hB : B ≤ w.heap.size)
    (hJ : ∀ v' w', OwnK K w' B t v' (L ++ M) → w.grownBy w' v.ownBlock → (v'.ownBlock = v.ownBlock ∨ v'.ownBlock = some w.heap.size) → J v' w') : StepI P ops Q i o a w J := by
  obtain ⟨v', w', hr, h2, h3, h4⟩ := run_app_k ET o.type h p c M hrow hpc hlen hB
  refine step_run hgd (v := v') (w' := w') ?_ (hJ v' w' h2 h3 h4)
  simp only [execOp, hop, resolve, invoke, builtin, Sem.run_bind, Sem.run_pure, Result.andThen_ok, List.map_toArray, List.map_cons, List.map_nil, hs, hx, hr]
end
end Go.Gz
