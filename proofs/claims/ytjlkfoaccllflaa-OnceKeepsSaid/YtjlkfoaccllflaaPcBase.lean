/-
  Layer parcel: the packer in memory; what stays while it packs; strings of bytes.
-/
import Derived.Test.YtjlkfoaccllflaaSlBase
import Derived.Test.YtjlkfoaccllflaaPcMath
import Derived.Lib.AppendStr
namespace Go.Proofs.Ytjlkfoaccllflaa
open Go.RowKit

theorem set_at {w : World} {b : Nat} {cs : Array Value} {t : TypeId} (h : w.heap[b]? = some (.cells cs t (0, 0))) (i : Nat) (u : Value) : (w.setCell ⟨b, i, none⟩ u).heap[b]? = some (.cells (cs.setIfInBounds i u) t (0, 0)) := by
  simp only [World.setCell, Array.getElem?_modify, if_true, h, Option.map_some]
  rfl
theorem cell_at {w : World} {b : Nat} {cs : Array Value} {t : TypeId} (h : w.heap[b]? = some (.cells cs t (0, 0))) (i : Nat) : w.cell? ⟨b, i, none⟩ = cs[i]? := by
  simp only [World.cell?, h]
  rfl
theorem frozen_at {w : World} {b : Nat} {cs : Array Value} {t : TypeId} (h : w.heap[b]? = some (.cells cs t (0, 0))) (i : Nat) : w.frozen? ⟨b, i, none⟩ = false := by
  simp [World.frozen?, h]

/-- the string of these bytes. -/
def strB (l : List UInt8) : ByteArray := ⟨l.toArray⟩
theorem strB_size (l : List UInt8) : (strB l).size = l.length := by show l.toArray.size = _; simp
theorem strB_list (l : List UInt8) : (strB l).data.toList = l := rfl
theorem strB_of (s : ByteArray) : strB s.data.toList = s := rfl
theorem strB_inj {a b : List UInt8} (h : strB a = strB b) : a = b := congrArg (fun s : ByteArray => s.data.toList) h
theorem cells_strB (l : List UInt8) : Lib.strCells (strB l) = (nums l).map (Value.int .u8) := by
  simp [Lib.strCells, strB, nums]

/-- a block of cells at which the own row lies has bytes. -/
theorem own_block {w : World} {B : Nat} {e : TypeId} {k : IntKind} {v : Value} {xs : List Int} (h : Own w B e k v xs) : ∀ g, v.ownBlock = some g → ∃ cur, w.heap[g]? = some (.cells cur e (0, 0)) := by
  obtain ⟨_, ⟨rfl, _⟩ | ⟨b, cap, cur, rfl, _, hh, _⟩⟩ := h
  · intro g hg; cases hg
  · intro g hg
    injection hg with hg
    subst hg
    exact ⟨cur, hh⟩

/-- own rows by a store in another block. -/
theorem own_set {w : World} {B : Nat} {k : IntKind} {e : TypeId} {v : Value} {xs : List Int} (h : Own w B e k v xs) {g o : Nat} {u : Value} (hg : some g ≠ v.ownBlock) : Own (w.setCell ⟨g, o, none⟩ u) B e k v xs := by
  obtain ⟨h1, h2⟩ := h
  refine ⟨h1, ?_⟩
  rcases h2 with h2 | ⟨b, cap, cur, rfl, hb, hh, r⟩
  · exact Or.inl h2
  · exact Or.inr ⟨b, cap, cur, rfl, hb, by rw [Below.heap_setCell _ _ _ _ (fun e => hg (by subst e; rfl))]; exact hh, r⟩

/-- append of a string onto a row that the call owns. -/
theorem wpList_own_str {w : World} {ops : Array Oper} {rest : List Oper} {o : Oper} {a : Act} {Q : Exit → Act → World → Prop} (hgd : o.guard = none) (sl x : Operand)
    (ho : o.op = .call { callee := .builtin .append, args := #[sl, x], argTypes := #[47, 9] })
    (B : Nat) (v : Value) (l : List UInt8) (hs : a.eval sl = v) (hown : Own w B 5 .u8 v (nums l)) (s : List UInt8) (hx : a.eval x = .string (strB s)) (hlen : l.length + s.length ≤ 1000000) (hB : B ≤ w.heap.size)
    (hK : ∀ v' w', Own w' B 5 .u8 v' (nums (l ++ s)) → w.grownBy w' v.ownBlock → wpList Try.prog ops Q rest (a.put o.dst v') w') : wpList Try.prog ops Q (o :: rest) a w := by
  obtain ⟨i0, hi, hz0, hz1, hz2⟩ := info_parts info_byte
  have hn : (nums l).length = l.length := nums_length l
  refine Lib.wpList_append_own_string w hgd sl x 47 9 ho B 5 i0 Try.underlying47 Try.underlying9 hi hz0 hz1 hz2 v (nums l).length ((nums l).map (Value.int .u8)) hs hown (strB s) hx (by rw [strB_size]; unfold maxLen; omega) (by rw [strB_size]; omega) hB ?_
  intro v' w' h1 h2 _
  refine hK v' w' ?_ h2
  unfold Own
  have hlen2 : (nums (l ++ s)).length = (nums l).length + (strB s).size := by rw [nums_append, List.length_append, nums_length s, strB_size]
  have hmap : (nums (l ++ s)).map (Value.int .u8) = (nums l).map (Value.int .u8) ++ Lib.strCells (strB s) := by rw [nums_append, List.map_append, cells_strB]
  rw [hlen2, hmap]
  exact h1
end Go.Proofs.Ytjlkfoaccllflaa
