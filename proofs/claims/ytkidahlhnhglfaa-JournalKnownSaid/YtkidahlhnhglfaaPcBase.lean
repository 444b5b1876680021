/-
  Layer parcel: the packer in memory; what stays while it packs; strings of bytes.
-/
import Derived.Test.YtkidahlhnhglfaaSlBase
import Derived.Test.YtkidahlhnhglfaaPcMath
import Derived.Lib.AppendStr
namespace Go.Proofs.Ytkidahlhnhglfaa
open Go.RowKit

theorem set_at {w : World} {b : Nat} {cs : Array Value} {t : TypeId} (h : w.heap[b]? = some (.cells cs t (0, 0))) (i : Nat) (u : Value) : (w.setCell ⟨b, i, none⟩ u).heap[b]? = some (.cells (cs.setIfInBounds i u) t (0, 0)) := by
  simp only [World.setCell, Array.getElem?_modify, if_true, h, Option.map_some]
  rfl
theorem cell_at {w : World} {b : Nat} {cs : Array Value} {t : TypeId} (h : w.heap[b]? = some (.cells cs t (0, 0))) (i : Nat) : w.cell? ⟨b, i, none⟩ = cs[i]? := by
  simp only [World.cell?, h]
  rfl
theorem frozen_at {w : World} {b : Nat} {cs : Array Value} {t : TypeId} (h : w.heap[b]? = some (.cells cs t (0, 0))) (i : Nat) : w.frozen? ⟨b, i, none⟩ = false := by
  simp [World.frozen?, h]

/-- the string of these bytes. -/
def strB (l : List UInt8) : ByteArray := ⟨l.toArray⟩
theorem strB_size (l : List UInt8) : (strB l).size = l.length := by show l.toArray.size = _; simp
theorem strB_list (l : List UInt8) : (strB l).data.toList = l := rfl
theorem strB_of (s : ByteArray) : strB s.data.toList = s := rfl
theorem strB_inj {a b : List UInt8} (h : strB a = strB b) : a = b := congrArg (fun s : ByteArray => s.data.toList) h
theorem cells_strB (l : List UInt8) : Lib.strCells (strB l) = (nums l).map (Value.int .u8) := by
  simp [Lib.strCells, strB, nums]

/-- a block of cells at which the own row lies has bytes. -/
theorem own_block {w : World} {B : Nat} {e : TypeId} {k : IntKind} {v : Value} {xs : List Int} (h : Own w B e k v xs) : ∀ g, v.ownBlock = some g → ∃ cur, w.heap[g]? = some (.cells cur e (0, 0)) := by
  obtain ⟨_, ⟨rfl, _⟩ | ⟨b, cap, cur, rfl, _, hh, _⟩⟩ := h
  · intro g hg; cases hg
  · intro g hg
    injection hg with hg
    subst hg
    exact ⟨cur, hh⟩

/-- what is neither a row of bytes nor a packer is as it was. -/
structure Fr (w w' : World) : Prop where
  size : w.heap.size ≤ w'.heap.size
  keep : ∀ (k : Nat) (c : Array Value) (t : TypeId) (f : Nat × Nat), w.heap[k]? = some (Obj.cells c t f) → t ≠ 5 → t ≠ 107 → w'.heap[k]? = some (Obj.cells c t f)
theorem Fr.refl (w : World) : Fr w w := ⟨Nat.le_refl _, fun _ _ _ _ h _ _ => h⟩
theorem Fr.trans {a b c : World} (h : Fr a b) (k : Fr b c) : Fr a c := ⟨Nat.le_trans h.size k.size, fun i x t f hx h1 h2 => k.keep i x t f (h.keep i x t f hx h1 h2) h1 h2⟩
theorem Fr.of_below {w w' : World} (h : Below w.heap.size w w') : Fr w w' := ⟨h.size, fun k c t f hk _ _ => by rw [h.block k (Array.getElem?_eq_some_iff.1 hk).1]; exact hk⟩

/-- a packer in memory: room for M bytes; what is laid, or that it refused. -/
structure PkAt (w : World) (B g M : Nat) (st : Option (List UInt8)) : Prop where
  lo : B ≤ g
  bd : ∀ b, st = some b → b.length ≤ M
  at_ : ∃ v, w.heap[g]? = some (.cells #[.int .i64 M, v, .bool st.isNone] 107 (0, 0)) ∧ Own w B 5 .u8 v (nums (st.getD []))
theorem PkAt.lt {w : World} {B g M : Nat} {st : Option (List UInt8)} (h : PkAt w B g M st) : g < w.heap.size := by
  obtain ⟨v, h1, _⟩ := h.at_
  exact (Array.getElem?_eq_some_iff.1 h1).1
theorem PkAt.below {w w' : World} {B g M : Nat} {st : Option (List UInt8)} (h : PkAt w B g M st) (hb : Below w.heap.size w w') : PkAt w' B g M st := by
  obtain ⟨v, h1, h2⟩ := h.at_
  exact ⟨h.lo, h.bd, v, by rw [hb.block g h.lt]; exact h1, below_own h2 hb⟩
theorem packer_bytes : (5 : TypeId) ≠ 107 := by decide
theorem PkAt.apart {w : World} {B g : Nat} {v : Value} {xs : List Int} {c : Array Value} (h : w.heap[g]? = some (.cells c 107 (0, 0))) (ho : Own w B 5 .u8 v xs) : some g ≠ v.ownBlock := by
  intro e
  obtain ⟨cur, hc⟩ := own_block ho g e.symm
  rw [h] at hc
  injection hc with hc
  injection hc with _ hc _
  exact packer_bytes hc.symm

/-- two words are stored. -/
theorem fr_set {w : World} {g o : Nat} {u : Value} {c : Array Value} (h : w.heap[g]? = some (.cells c 107 (0, 0))) : Fr w (w.setCell ⟨g, o, none⟩ u) :=
  ⟨by simp [World.setCell], fun k x t f hk _ hp => by
    have : k ≠ g := fun e => by
      subst e
      rw [h] at hk
      injection hk with hk
      injection hk with _ hk _
      exact hp hk.symm
    rw [Below.heap_setCell _ _ _ _ this]; exact hk⟩
theorem fr_grown {w w' : World} {B : Nat} {v : Value} {xs : List Int} (ho : Own w B 5 .u8 v xs) (hg : w.grownBy w' v.ownBlock) : Fr w w' :=
  ⟨hg.size, fun k x t f hk hu _ => by
    have : some k ≠ v.ownBlock := fun e => by
      obtain ⟨cur, hc⟩ := own_block ho k e.symm
      rw [hk] at hc
      injection hc with hc
      injection hc with _ hc _
      exact hu hc
    rw [hg.block k (Array.getElem?_eq_some_iff.1 hk).1 this]; exact hk⟩
theorem fr_alloc {w w' : World} (h : Fr w w') (o : Obj) : Fr w (w'.alloc o) := h.trans (Fr.of_below ((Below.refl _ _).alloc (Nat.le_refl _) _))

/-- own rows by a store in another block. -/
theorem own_set {w : World} {B : Nat} {k : IntKind} {e : TypeId} {v : Value} {xs : List Int} (h : Own w B e k v xs) {g o : Nat} {u : Value} (hg : some g ≠ v.ownBlock) : Own (w.setCell ⟨g, o, none⟩ u) B e k v xs := by
  obtain ⟨h1, h2⟩ := h
  refine ⟨h1, ?_⟩
  rcases h2 with h2 | ⟨b, cap, cur, rfl, hb, hh, r⟩
  · exact Or.inl h2
  · exact Or.inr ⟨b, cap, cur, rfl, hb, by rw [Below.heap_setCell _ _ _ _ (fun e => hg (by subst e; rfl))]; exact hh, r⟩

/-- append of a string onto a row that the call owns. -/
theorem wpList_own_str {w : World} {ops : Array Oper} {rest : List Oper} {o : Oper} {a : Act} {Q : Exit → Act → World → Prop} (hgd : o.guard = none) (sl x : Operand)
    (ho : o.op = .call { callee := .builtin .append, args := #[sl, x], argTypes := #[25, 9] })
    (B : Nat) (v : Value) (l : List UInt8) (hs : a.eval sl = v) (hown : Own w B 5 .u8 v (nums l)) (s : List UInt8) (hx : a.eval x = .string (strB s)) (hlen : l.length + s.length ≤ 1000000000000) (hB : B ≤ w.heap.size)
    (hK : ∀ v' w', Own w' B 5 .u8 v' (nums (l ++ s)) → w.grownBy w' v.ownBlock → wpList Try.prog ops Q rest (a.put o.dst v') w') : wpList Try.prog ops Q (o :: rest) a w := by
  obtain ⟨i0, hi, hz0, hz1, hz2⟩ := info_parts info_byte
  have hn : (nums l).length = l.length := nums_length l
  refine Lib.wpList_append_own_string w hgd sl x 25 9 ho B 5 i0 Try.underlying25 Try.underlying9 hi hz0 hz1 hz2 v (nums l).length ((nums l).map (Value.int .u8)) hs hown (strB s) hx (by rw [strB_size]; unfold maxLen; omega) (by rw [strB_size]; omega) hB ?_
  intro v' w' h1 h2 _
  refine hK v' w' ?_ h2
  unfold Own
  have hlen2 : (nums (l ++ s)).length = (nums l).length + (strB s).size := by rw [nums_append, List.length_append, nums_length s, strB_size]
  have hmap : (nums (l ++ s)).map (Value.int .u8) = (nums l).map (Value.int .u8) ++ Lib.strCells (strB s) := by rw [nums_append, List.map_append, cells_strB]
  rw [hlen2, hmap]
  exact h1
end Go.Proofs.Ytkidahlhnhglfaa
