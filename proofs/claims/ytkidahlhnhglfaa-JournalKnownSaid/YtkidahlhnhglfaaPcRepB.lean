/-
  Layer parcel: replies and records in memory, and what is laid of them.
-/
import Derived.Test.YtkidahlhnhglfaaPcAsk
namespace Go.Proofs.Ytkidahlhnhglfaa
open Go.RowKit

abbrev RecL := List UInt8 × List UInt8
/-- slice pointer p reads in w as the records ls. -/
def Recs (w : World) (p : Option Addr) (ls : List RecL) : Prop :=
  ls = [] ∨ ∃ b off, p = some ⟨b, off, none⟩ ∧ b < w.heap.size ∧ ∀ j, j < ls.length → w.cell? ⟨b, off + j * 2, none⟩ = some (.string (strB (ls.getD j ([], [])).1)) ∧ w.cell? ⟨b, off + j * 2 + 1, none⟩ = some (.string (strB (ls.getD j ([], [])).2))
theorem Recs.below {w w' : World} {p : Option Addr} {ls : List RecL} (h : Recs w p ls) (hb : Below w.heap.size w w') : Recs w' p ls := by
  rcases h with h | ⟨b, off, hp, hlt, hc⟩
  · exact Or.inl h
  · exact Or.inr ⟨b, off, hp, Nat.lt_of_lt_of_le hlt hb.size, fun j hj => ⟨by rw [hb.cell (p := ⟨b, off + j * 2, none⟩) hlt]; exact (hc j hj).1, by rw [hb.cell (p := ⟨b, off + j * 2 + 1, none⟩) hlt]; exact (hc j hj).2⟩⟩
theorem rec_cell {W wr : World} {p : Option Addr} {ls : List RecL} (h : Recs W p ls) (hb : Below W.heap.size W wr) {j : Nat} (hj : j < ls.length) : ∃ b o, p = some ⟨b, o, none⟩ ∧ b < W.heap.size ∧ wr.cell? ⟨b, o + j * 2, none⟩ = some (.string (strB (ls.getD j ([], [])).1)) ∧ wr.cell? ⟨b, o + j * 2 + 1, none⟩ = some (.string (strB (ls.getD j ([], [])).2)) := by
  rcases h with h | ⟨b, o, hp, h1, h2⟩
  · rw [h] at hj; simp at hj
  · exact ⟨b, o, hp, h1, by rw [hb.cell (p := ⟨b, o + j * 2, none⟩) h1]; exact (h2 j hj).1, by rw [hb.cell (p := ⟨b, o + j * 2 + 1, none⟩) h1]; exact (h2 j hj).2⟩

/-- a reply, but for where its records lie. -/
structure RepL where
  c : Int
  s : Int
  e : Int
  fd : Bool
  v : List UInt8
  ls : List RecL
  nx : List UInt8
  mr : Bool
def repV (r : RepL) (p : Option Addr) (k : Nat) : Value := .agg #[.int .i64 r.c, .int .i64 r.s, .int .i64 r.e, .bool r.fd, .string (strB r.v), .slice p r.ls.length k, .string (strB r.nx), .bool r.mr]
def recsS (st : Option (List UInt8)) (ls : List RecL) : Option (List UInt8) := ls.foldl (fun st r => textsS 32768 st [r.1, r.2]) st
def repS0 (r : RepL) : Option (List UInt8) := numsS 32768 (textsS 32768 (truthS 32768 (numsS 32768 (some []) [r.c, r.s, r.e]) r.fd) [r.v]) [(r.ls.length : Int)]
def repS (r : RepL) : Option (List UInt8) := truthS 32768 (textsS 32768 (recsS (repS0 r) r.ls) [r.nx]) r.mr
/-- the same, with room for M bytes. -/
def recsM (M : Nat) (st : Option (List UInt8)) (ls : List RecL) : Option (List UInt8) := ls.foldl (fun st r => textsS M st [r.1, r.2]) st
theorem recsM_snoc (M : Nat) (st : Option (List UInt8)) (xs : List RecL) (k : Nat) (h : k < xs.length) : recsM M st (xs.take (k + 1)) = textsS M (recsM M st (xs.take k)) [(xs.getD k ([], [])).1, (xs.getD k ([], [])).2] := by
  rw [List.take_succ_eq_append_getElem h]
  unfold recsM
  rw [List.foldl_append]
  simp [List.getD, h]
theorem recsS_snoc (st : Option (List UInt8)) (xs : List RecL) (k : Nat) (h : k < xs.length) : recsS st (xs.take (k + 1)) = textsS 32768 (recsS st (xs.take k)) [(xs.getD k ([], [])).1, (xs.getD k ([], [])).2] := by
  rw [List.take_succ_eq_append_getElem h]
  unfold recsS
  rw [List.foldl_append]
  simp [List.getD, h]

theorem new_block (w : World) (c : Array Value) (t : TypeId) : (w.alloc (.cells c t)).heap[w.heap.size]? = some (.cells c t (0, 0)) := by
  show (w.heap.push _)[w.heap.size]? = _
  simp
/-- numbers and texts in fresh blocks, as the walk calls them. -/
theorem nums1 (w : World) (B g M : Nat) (st : Option (List UInt8)) (x : Int) (hB : B ≤ w.heap.size) (h : PkAt w B g M st) (hM : M ≤ 1000000000000) :
    Calls Try.prog 40 #[.pointer (some ⟨g, 0, none⟩), .slice (some ⟨w.heap.size, 0, none⟩) 1 1] (w.alloc (.cells #[.int .i64 x] 3)) fun e w' => e = .returned (.tuple #[]) ∧ Laid w B g M (numsS M st [x]) w' :=
  (numbers_any (w.alloc (.cells #[.int .i64 x] 3)) B g M w.heap.size st [x] (by simp; omega) ((Laid.refl h).alloc hB _).pk (by omega) (Or.inl hM) (new_block _ _ _) (by simp)).mono fun e w' h' => ⟨h'.1, ((Laid.refl h).alloc hB _).trans h'.2⟩
theorem nums3 (w : World) (B g M : Nat) (st : Option (List UInt8)) (x y z : Int) (hB : B ≤ w.heap.size) (h : PkAt w B g M st) (hM : M ≤ 1000000000000) :
    Calls Try.prog 40 #[.pointer (some ⟨g, 0, none⟩), .slice (some ⟨w.heap.size, 0, none⟩) 3 3] (w.alloc (.cells #[.int .i64 x, .int .i64 y, .int .i64 z] 3)) fun e w' => e = .returned (.tuple #[]) ∧ Laid w B g M (numsS M st [x, y, z]) w' :=
  (numbers_any (w.alloc (.cells #[.int .i64 x, .int .i64 y, .int .i64 z] 3)) B g M w.heap.size st [x, y, z] (by simp; omega) ((Laid.refl h).alloc hB _).pk (by omega) (Or.inl hM) (new_block _ _ _) (by simp)).mono fun e w' h' => ⟨h'.1, ((Laid.refl h).alloc hB _).trans h'.2⟩
theorem texts1 (w : World) (B g M : Nat) (st : Option (List UInt8)) (x : List UInt8) (hB : B ≤ w.heap.size) (h : PkAt w B g M st) (hM : M ≤ 1000000000000) :
    Calls Try.prog 32 #[.pointer (some ⟨g, 0, none⟩), .slice (some ⟨w.heap.size, 0, none⟩) 1 1] (w.alloc (.cells #[.string (strB x)] 9)) fun e w' => e = .returned (.tuple #[]) ∧ Laid w B g M (textsS M st [x]) w' :=
  (texts_any (w.alloc (.cells #[.string (strB x)] 9)) B g M w.heap.size st [x] (by simp; omega) ((Laid.refl h).alloc hB _).pk (by omega) (Or.inl hM) (new_block _ _ _) (by simp)).mono fun e w' h' => ⟨h'.1, ((Laid.refl h).alloc hB _).trans h'.2⟩
theorem texts2 (w : World) (B g M : Nat) (st : Option (List UInt8)) (x y : List UInt8) (hB : B ≤ w.heap.size) (h : PkAt w B g M st) (hM : M ≤ 1000000000000) :
    Calls Try.prog 32 #[.pointer (some ⟨g, 0, none⟩), .slice (some ⟨w.heap.size, 0, none⟩) 2 2] (w.alloc (.cells #[.string (strB x), .string (strB y)] 9)) fun e w' => e = .returned (.tuple #[]) ∧ Laid w B g M (textsS M st [x, y]) w' :=
  (texts_any (w.alloc (.cells #[.string (strB x), .string (strB y)] 9)) B g M w.heap.size st [x, y] (by simp; omega) ((Laid.refl h).alloc hB _).pk (by omega) (Or.inl hM) (new_block _ _ _) (by simp)).mono fun e w' h' => ⟨h'.1, ((Laid.refl h).alloc hB _).trans h'.2⟩

end Go.Proofs.Ytkidahlhnhglfaa
