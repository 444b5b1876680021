/-
  Layer medium: the laws' awake; what a call leaves of a medium.
-/
import Derived.Test.YtkidahlhnhglfaaMdSame
import Derived.Lib.SlBytesConst
namespace Go.Proofs.Ytkidahlhnhglfaa
open Go.RowKit Go.Gz

section
variable {w w1 : World} {B M : Nat} {vs vl : Value} {S L : List UInt8}
theorem MedAt.below (h : MedAt w B M vs vl S L) (hb : Below w.heap.size w w1) : MedAt w1 B M vs vl S L := h.kept (Kept.of_below (F := fun _ => False) hb) fun _ _ h => h
theorem Turned.next (h : MedAt w B M vs vl S L) {S' L' : List UInt8} (ht : Turned w B M vs vl S' L' w1) : ∃ vs' vl', MedAt w1 B M vs' vl' S' L' ∧ Below B w w1 := by
  obtain ⟨vs', vl', h1, h2, -⟩ := ht
  exact ⟨vs', vl', h1, h2.below (fun k hk => (h.low k hk).1) h.hB⟩
end
/-- a medium with S and L, whatever lies where. -/
def Med (w : World) (B M : Nat) (S L : List UInt8) : Prop := ∃ vs vl, MedAt w B M vs vl S L
section
variable {w w1 : World} {B M : Nat} {S L : List UInt8}
theorem Med.hB (h : Med w B M S L) : B ≤ w.heap.size := by obtain ⟨_, _, h⟩ := h; exact h.hB
theorem Med.below (h : Med w B M S L) (hb : Below w.heap.size w w1) : Med w1 B M S L := by obtain ⟨a, b, h⟩ := h; exact ⟨a, b, h.below hb⟩
theorem Med.alloc (h : Med w B M S L) (o : Obj) : Med (w.alloc o) B M S L := h.below ((Below.refl _ _).alloc (Nat.le_refl _) o)

theorem med_new (w : World) : Calls Try.prog 20 #[] w fun e w' => e = .returned (.pointer (some ⟨w.heap.size, 0, none⟩)) ∧ Med w' w.heap.size w.heap.size [] [] ∧ Below w.heap.size w w' :=
  (new_any w).mono fun _ _ ⟨h1, h2, h3⟩ => ⟨h1, ⟨_, _, h2⟩, h3⟩
theorem med_append (h : Med w B M S L) (b : List UInt8) (hb : L.length + b.length ≤ 1000000) (n : Nat) (hn : b.length = n) (p : Option Addr) (c : Nat) (hp : Row w .u8 p (nums b)) (hpc : p = none → c = 0) :
    Calls Try.prog 24 #[.pointer (some ⟨M, 0, none⟩), .slice p n c] w fun e w' => e = .returned (.tuple #[]) ∧ Med w' B M S (L ++ b) ∧ Below B w w' := by
  obtain ⟨_, _, h⟩ := h
  exact (append_any h b hb n hn p c hp hpc).mono fun _ _ ⟨h1, h2⟩ => by obtain ⟨a, b, h3, h4⟩ := Turned.next h h2; exact ⟨h1, ⟨a, b, h3⟩, h4⟩
theorem med_swap (h : Med w B M S L) (b : List UInt8) (hb : b.length ≤ 900000) (n : Nat) (hn : b.length = n) (p : Option Addr) (c : Nat) (hp : Row w .u8 p (nums b)) (hpc : p = none → c = 0) :
    Calls Try.prog 53 #[.pointer (some ⟨M, 0, none⟩), .slice p n c] w fun e w' => e = .returned (.tuple #[]) ∧ Med w' B M b [] ∧ Below B w w' := by
  obtain ⟨_, _, h⟩ := h
  exact (swap_any h b hb n hn p c hp hpc).mono fun _ _ ⟨h1, h2⟩ => by obtain ⟨a, b, h3, h4⟩ := Turned.next h h2; exact ⟨h1, ⟨a, b, h3⟩, h4⟩
/-- its bytes, and what 'string' makes of them. -/
theorem med_bytes (h : Med w B M S L) (hS : S.length ≤ 400000) (hL : L.length ≤ 400000) (n : Nat) (hn : (S ++ L).length = n) :
    Calls Try.prog 23 #[.pointer (some ⟨M, 0, none⟩)] w fun e w' => ∃ q d, e = .returned (.slice q n d) ∧ Own w' w.heap.size 5 .u8 (.slice q n d) (nums (S ++ L)) ∧ Med w' B M S L ∧ Below w.heap.size w w' := by
  obtain ⟨_, _, h⟩ := h
  refine (bytes_any h hS hL).mono ?_
  rintro e w' ⟨v, rfl, h1, h2⟩
  obtain ⟨q, d, rfl⟩ := h1.slice ((nums_length _).trans hn)
  exact ⟨q, d, rfl, h1, ⟨_, _, h.below h2⟩, h2⟩
end

theorem row_lit8 (w : World) (l : List UInt8) (xs : List Value) (k : Nat × Nat) (h : xs = (nums l).map (Value.int .u8)) : Row (w.alloc (.cells xs.toArray 5 k)) .u8 (some ⟨w.heap.size, 0, none⟩) (nums l) := by
  subst h
  refine Or.inr ⟨w.heap.size, 0, rfl, by simp, fun j hj => ?_⟩
  have hh : (w.alloc (.cells ((nums l).map (Value.int .u8)).toArray 5 k)).heap[w.heap.size]? = some (.cells ((nums l).map (Value.int .u8)).toArray 5 k) := by
    show (w.heap.push _)[w.heap.size]? = _
    simp
  simp only [World.cell?, hh, Nat.zero_add]
  simp [List.getD, List.getElem?_eq_getElem hj]

end Go.Proofs.Ytkidahlhnhglfaa
