/-
  Layer once: OnceKeeps, the pure half; an array of 256 numbers in memory.
-/
import Derived.Test.YtjlkfoaccllflaaOnRun
import Derived.Test.YtjlkfoaccllflaaOnAwake
namespace Go.Proofs.Ytjlkfoaccllflaa
open Go.RowKit Go.Gz

def lastS (S : List (Int × RepL)) (c : Int) : Int := match findK sk c S with | none => -1 | some y => y.1
def PosS (S : List (Int × RepL)) : Prop := ∀ y ∈ S, 0 ≤ y.1
def LowS (S : List (Int × RepL)) : Prop := ∀ y ∈ S, 0 ≤ sk y ∧ sk y < 256
theorem newS_last {S : List (Int × RepL)} {r : RepL} (h : 0 ≤ r.s) : newS S r = decide (lastS S r.c < r.s) := by
  unfold newS lastS
  rw [decide_eq_true h, Bool.true_and]
  cases findK sk r.c S with
  | none => simp only; rw [decide_eq_true (by omega)]
  | some y => rfl
theorem ordS_note {S : List (Int × RepL)} {r : RepL} (h : OrdK sk S) : OrdK sk (noteS S r) := by unfold noteS; split; exact ord_putK h; exact h
theorem memS_note {S : List (Int × RepL)} {r : RepL} {y : Int × RepL} (h : y ∈ noteS S r) : y = (r.s, r) ∨ y ∈ S := by
  unfold noteS at h
  split at h
  · exact mem_putK h
  · exact Or.inr h
theorem posS_note {S : List (Int × RepL)} {r : RepL} (h : PosS S) (hr : 0 ≤ r.s) : PosS (noteS S r) := fun y hy => by
  rcases memS_note hy with rfl | hy
  · exact hr
  · exact h y hy
theorem lowS_note {S : List (Int × RepL)} {r : RepL} (h : LowS S) (h0 : 0 ≤ r.c) (h1 : r.c < 256) : LowS (noteS S r) := fun y hy => by
  rcases memS_note hy with rfl | hy
  · exact ⟨h0, h1⟩
  · exact h y hy
theorem last_note {S : List (Int × RepL)} {r : RepL} (ho : OrdK sk S) (h : 0 ≤ r.s) (c : Int) : lastS (noteS S r) c = if r.c = c ∧ lastS S r.c < r.s then r.s else lastS S c := by
  unfold noteS
  rw [newS_last h]
  by_cases hn : lastS S r.c < r.s
  · rw [if_pos (decide_eq_true hn)]
    unfold lastS
    rw [findK_putK ho]
    by_cases hc : r.c = c
    · rw [if_pos (show sk (r.s, r) = c from hc), if_pos ⟨hc, by unfold lastS at hn; exact hn⟩]
    · rw [if_neg (show ¬ sk (r.s, r) = c from hc), if_neg (fun a => hc a.1)]
  · rw [if_neg (by simp [hn]), if_neg (fun a => hn a.2)]
theorem last_le {S : List (Int × RepL)} {r : RepL} (ho : OrdK sk S) (h : 0 ≤ r.s) : r.s ≤ lastS (noteS S r) r.c := by
  rw [last_note ho h]
  by_cases hn : lastS S r.c < r.s
  · rw [if_pos ⟨rfl, hn⟩]; omega
  · rw [if_neg (fun a => hn a.2)]; omega
theorem see_last {S : List (Int × RepL)} {c n : Int} (hn : 0 ≤ n) (hl : n ≤ lastS S c) : seeS S c n = if n = lastS S c then 1 else 2 := by
  unfold seeS aboveS
  unfold lastS at hl ⊢
  cases hf : findK sk c S with
  | none => rw [hf] at hl; simp only at hl; omega
  | some y =>
    rw [hf] at hl
    simp only at hl ⊢
    rw [if_neg (by rw [decide_eq_true_eq]; omega)]
    by_cases he : y.1 = n
    · rw [if_pos he, if_pos he.symm]
    · rw [if_neg he, if_neg fun h => he h.symm]
theorem last_neg {S : List (Int × RepL)} (hp : PosS S) (c : Int) : lastS S c < 0 ↔ findK sk c S = none := by
  unfold lastS
  cases hf : findK sk c S with
  | none => simp
  | some y => have := hp y (findK_mem hf).1; simp; omega

section
variable {α : Type} [Inhabited α] {key : α → Int} {L : List α} {c : Int} {k : Nat}
theorem IdxAt.start (h : ∀ e ∈ L, 0 ≤ key e) : IdxAt key L 0 0 := ⟨Nat.zero_le _, fun j hj => by omega, fun hk => h _ (by simp [List.getD, hk])⟩
theorem IdxAt.none (h : IdxAt key L c k) (ho : OrdK key L) (hf : findK key c L = none) : IdxAt key L (c + 1) k :=
  ⟨h.le, fun j hj => by have := h.lo j hj; omega, fun hk => by
    have h1 := h.hi hk
    have h2 := h.find ho
    rw [hf] at h2
    by_cases he : key (L.getD k default) = c
    · rw [if_pos ⟨hk, he⟩] at h2; cases h2
    · omega⟩
theorem IdxAt.some {y : α} (h : IdxAt key L c k) (ho : OrdK key L) (hf : findK key c L = some y) : k < L.length ∧ L.getD k default = y ∧ IdxAt key L (c + 1) (k + 1) := by
  have h2 := h.find ho
  rw [hf] at h2
  by_cases he : k < L.length ∧ key (L.getD k default) = c
  · rw [if_pos he] at h2
    refine ⟨he.1, (Option.some.inj h2).symm, ⟨he.1, fun j hj => ?_, fun hk => ?_⟩⟩
    · by_cases hjk : j < k
      · have := h.lo j hjk; omega
      · obtain rfl : j = k := by omega
        omega
    · have h3 : key (L.getD k default) < key (L.getD (k + 1) default) := by
        have e1 : L.getD k default = L[k] := by simp [List.getD, he.1]
        have e2 : L.getD (k + 1) default = L[k + 1] := by simp [List.getD, hk]
        rw [e1, e2]
        exact List.pairwise_iff_getElem.1 ho k (k + 1) he.1 hk (by omega)
      omega
  · rw [if_neg he] at h2; cases h2
theorem IdxAt.all (h : IdxAt key L c k) (hl : ∀ e ∈ L, key e < c) : k = L.length := by
  rcases Nat.lt_or_ge k L.length with hk | hk
  · have h1 := h.hi hk
    have h2 := hl (L.getD k default) (by simp [List.getD, hk])
    omega
  · have := h.le; omega
end

/-- an array of 256 numbers. -/
def ArrAt (w : World) (P : Nat) (f : Nat → Int) : Prop := w.heap[P]? = some (.cells ((List.range 256).map fun i => Value.int .i64 (f i)).toArray 45 (0, 0))
theorem ArrAt.cell {w : World} {P : Nat} {f : Nat → Int} (h : ArrAt w P f) (i : Nat) (hi : i < 256) : w.cell? ⟨P, i, none⟩ = some (.int .i64 (f i)) := by
  rw [cell_at h i]
  simp [hi]
theorem ArrAt.frozen {w : World} {P : Nat} {f : Nat → Int} (h : ArrAt w P f) (i : Nat) : w.frozen? ⟨P, i, none⟩ = false := frozen_at h i
theorem ArrAt.set {w : World} {P : Nat} {f g : Nat → Int} (h : ArrAt w P f) (i : Nat) (x : Int) (hi : i < 256) (hx : g i = x) (hg : ∀ j, j ≠ i → g j = f j) : ArrAt (w.setCell ⟨P, i, none⟩ (.int .i64 x)) P g := by
  unfold ArrAt
  rw [set_block h i (.int .i64 x)]
  congr 2
  apply Array.ext
  · simp
  · intro j h1 h2
    simp only [List.size_toArray, List.length_map, List.length_range] at h2
    by_cases e : j = i
    · subst e; simp [hx]
    · simp [Ne.symm e, hg j e]
theorem ArrAt.block {w w' : World} {P : Nat} {f : Nat → Int} (h : ArrAt w P f) (hb : w'.heap[P]? = w.heap[P]?) : ArrAt w' P f := hb.trans h
theorem ArrAt.same {w : World} {P : Nat} {f g : Nat → Int} (h : ArrAt w P f) (hg : ∀ i, i < 256 → g i = f i) : ArrAt w P g := by
  unfold ArrAt at h ⊢
  rw [h]
  congr 3
  refine List.map_congr_left fun i hi => ?_
  rw [hg i (List.mem_range.1 hi)]
theorem ArrAt.noText {w : World} {P : Nat} {f : Nat → Int} (h : ArrAt w P f) : NoText w P := fun o s hc => by
  rw [cell_at h o] at hc
  obtain ⟨h1, h2⟩ := Array.getElem?_eq_some_iff.1 hc
  simp at h2
theorem ArrAt.lt {w : World} {P : Nat} {f : Nat → Int} (h : ArrAt w P f) : P < w.heap.size := (Array.getElem?_eq_some_iff.1 h).1

/-- Note, told, and what it leaves alone. -/
theorem note_tab2 {W w : World} {T : Nat} {S : List (Int × RepL)} {n : Nat} (h : Tab W T S n w) (hn : n ≤ 1000000) (r : RepL) (p : Option Addr) (cap : Nat) (hp : Recs w p r.ls) (hl : r.ls.length ≤ 300) (hpc : p = none → cap = 0) (hwf : (Lit.int .i64 r.c).wf = true) :
    Calls Try.prog 14 #[.pointer (some ⟨T, 0, none⟩), repV r p cap] w fun e w' => e = .returned (.bool (newS S r)) ∧ Tab W T (noteS S r) (n + 1) w' ∧ (∀ i cs t fz, w.heap[i]? = some (.cells cs t fz) → i ≠ T → w'.heap[i]? = w.heap[i]?) ∧ w.heap.size ≤ w'.heap.size := by
  obtain ⟨mb, L, h1, rfl, h3, h4⟩ := h.at_
  refine (note_any w T mb L h1 (by omega) r p cap hp hl hpc hwf).mono ?_
  rintro e w' ⟨rfl, mb', p', k', ht, hk, hb⟩
  have hk' : Kept (fun i => i = T ∨ W.heap.size ≤ i) w w' := hk.mono fun i _ e => by
    rcases e with rfl | e
    · exact Or.inl rfl
    · exact Or.inr (h4 i e)
  refine ⟨by rw [newB_sem], ⟨⟨mb', _, ht, note_sem rfl, by have := length_note (L := L) (x := ⟨r.s, r, p', k'⟩); omega, fun b e => ?_⟩, h.kept.trans hk' fun i hi e => ?_, h.lt⟩, fun i cs t fz hi hT => ?_, hk.size⟩
  · rcases hb b e with e | e
    · exact h4 b e
    · have := h.kept.size; omega
  · rcases e with rfl | e
    · rfl
    · omega
  · refine hk.block i (Array.getElem?_eq_some_iff.1 hi).1 fun e => ?_
    rcases e with e | e
    · exact hT e
    · rcases h1.m with ⟨h, _⟩ | ⟨b', hb', hm⟩
      · rw [h] at e; cases e
      · rw [hb'] at e; injection e with e; subst e
        obtain ⟨es, clock, ho⟩ := hm.obj
        rw [hi] at ho; cases ho
theorem Tab.off {W w w' : World} {T P n : Nat} {S : List (Int × RepL)} (h : Tab W T S n w) (hk : Kept (fun i => i = P) w w') (hP : W.heap.size ≤ P) (hc : ∃ cs t fz, w.heap[P]? = some (.cells cs t fz)) (hn : NoText w P) : Tab W T S n w' := by
  obtain ⟨mb, L, h1, h2, h3, h4⟩ := h.at_
  have hTP : T ≠ P := by have := h.lt; omega
  obtain ⟨cs, t, fz, hc⟩ := hc
  have hmb : ∀ b, mb = some b → b ≠ P := fun b hb e => by
    rcases h1.m with ⟨h, _⟩ | ⟨b', hb', hm⟩
    · rw [h] at hb; cases hb
    · rw [hb'] at hb; injection hb with hb; subst hb
      obtain ⟨es, clock, ho⟩ := hm.obj
      rw [e, hc] at ho; cases ho
  refine ⟨⟨mb, L, ⟨(hk.block T h1.lt hTP).trans h1.c, h1.m.keep fun b e => hk.block b (h1.m.lt b e) (hmb b e), h1.e.kept hk (fun i hi => hi ▸ hn), h1.n⟩, h2, h3, h4⟩, h.kept.trans hk fun i hi e => by omega, h.lt⟩
theorem Tab.ord {W w : World} {T n : Nat} {S : List (Int × RepL)} (h : Tab W T S n w) : OrdK sk S := by
  obtain ⟨mb, L, h1, rfl, _⟩ := h.at_
  exact ord_sem.2 h1.m.ord
theorem Tab.len {W w : World} {T n : Nat} {S : List (Int × RepL)} (h : Tab W T S n w) : S.length ≤ n := by
  obtain ⟨mb, L, h1, rfl, h3, _⟩ := h.at_
  simpa [semL] using h3
end Go.Proofs.Ytjlkfoaccllflaa
