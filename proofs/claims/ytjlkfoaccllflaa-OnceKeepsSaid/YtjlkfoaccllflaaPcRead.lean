/-
  Layer parcel: the reader in memory; take, fail.
-/
import Derived.Test.YtjlkfoaccllflaaPcReply
namespace Go.Proofs.Ytjlkfoaccllflaa
open Go.RowKit

/-- all is as it was but for block g. -/
structure Chg (g : Nat) (w w' : World) : Prop where
  os : w'.os = w.os
  tape : w'.tape = w.tape
  output : w'.output = w.output
  size : w.heap.size ≤ w'.heap.size
  block : ∀ k, k < w.heap.size → k ≠ g → w'.heap[k]? = w.heap[k]?
theorem Chg.refl (g : Nat) (w : World) : Chg g w w := ⟨rfl, rfl, rfl, Nat.le_refl _, fun _ _ _ => rfl⟩
theorem Chg.of_below {g : Nat} {w w' : World} (h : Below w.heap.size w w') : Chg g w w' := ⟨h.os, h.tape, h.output, h.size, fun k hk _ => h.block k hk⟩
theorem Chg.trans {g : Nat} {a b c : World} (h : Chg g a b) (k : Chg g b c) : Chg g a c :=
  ⟨k.os.trans h.os, k.tape.trans h.tape, k.output.trans h.output, Nat.le_trans h.size k.size, fun i hi hg => (k.block i (by have := h.size; omega) hg).trans (h.block i hi hg)⟩
theorem Chg.set {g : Nat} {w : World} (o : Nat) (u : Value) : Chg g w (w.setCell ⟨g, o, none⟩ u) :=
  ⟨rfl, rfl, rfl, by simp [World.setCell], fun k _ hg => Below.heap_setCell _ _ _ _ hg⟩
theorem Chg.alloc {g : Nat} {w w' : World} (h : Chg g w w') (o : Obj) : Chg g w (w'.alloc o) := h.trans (Chg.of_below ((Below.refl _ _).alloc (Nat.le_refl _) _))
theorem Chg.cell {g : Nat} {w w' : World} (h : Chg g w w') {b o : Nat} (hb : b < w.heap.size) (hg : b ≠ g) : w'.cell? ⟨b, o, none⟩ = w.cell? ⟨b, o, none⟩ := World.cell?_of_block (w := w) (h.block b hb hg)
theorem Chg.below {g B : Nat} {w w' : World} (h : Chg g w w') (hg : B ≤ g) (hB : B ≤ w.heap.size) : Below B w w' :=
  ⟨h.os, h.tape, h.output, h.size, fun k hk => h.block k (by omega) (by omega)⟩

abbrev St := Except Nat (List UInt8)
def restS : St → List UInt8
  | .ok s => s
  | .error _ => []
def errS : St → Nat
  | .ok _ => 0
  | .error e => e
def takeV (st : St) (n : Nat) : List UInt8 :=
  match st with
  | .ok s => if n ≤ s.length then s.take n else []
  | .error _ => []
def takeR (st : St) (n : Nat) : St :=
  match st with
  | .ok s => if n ≤ s.length then .ok (s.drop n) else .error 7
  | .error e => .error e
theorem takeV_le (st : St) (n : Nat) : (takeV st n).length ≤ n := by
  cases st with
  | error e => exact Nat.zero_le _
  | ok s =>
    by_cases h : n ≤ s.length
    · rw [show takeV (.ok s) n = s.take n from if_pos h, List.length_take]; omega
    · rw [show takeV (.ok s) n = [] from if_neg h]; exact Nat.zero_le _

theorem take_str (s : List UInt8) (n : Nat) : (strB s).extract 0 n = strB (s.take n) := by
  apply ByteArray.ext
  apply Array.toList_inj.1
  simp [strB]
theorem drop_str (s : List UInt8) (n : Nat) : (strB s).extract n (strB s).size = strB (s.drop n) := by
  apply ByteArray.ext
  apply Array.toList_inj.1
  rw [strB_size]
  simp only [strB, ByteArray.data_extract, Array.toList_extract, List.extract_eq_take_drop]
  exact List.take_of_length_le (by simp)

end Go.Proofs.Ytjlkfoaccllflaa
