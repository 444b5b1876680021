/-
  Layer lore: rows of runes with their classes; classify; a piece of such a row sorted.
-/
import Derived.Test.YticjgmhgpeihjaaGreatDoorLoApart
import Derived.Test.YticjgmhgpeihjaaGreatDoorLoMath
import Derived.Test.YticjgmhgpeihjaaGreatDoorStabAll
import Derived.Laws.MakeOwn
namespace Go.Proofs.YticjgmhgpeihjaaGreatDoor
open Go.RowKit Go.Gz Go.Sort

/-- block blk holds from off on the runes xs with their classes, and may be written there. -/
def PRow (cls : Int → Int) (w : World) (blk off : Nat) (xs : List Int) : Prop := ∀ i, i < xs.length →
  (w.cell? ⟨blk, off + i * 2, none⟩ = some (.int .i32 (xs.getD i 0)) ∧ w.frozen? ⟨blk, off + i * 2, none⟩ = false) ∧
    (w.cell? ⟨blk, off + i * 2 + 1, none⟩ = some (.int .i64 (cls (xs.getD i 0))) ∧ w.frozen? ⟨blk, off + i * 2 + 1, none⟩ = false)

theorem getD_toArray (xs : List Int) (i : Nat) (h : i < xs.length) : xs.toArray[i]! = xs.getD i 0 := by
  simp [List.getD, h]
theorem PRow.holds {cls : Int → Int} {w : World} {blk off : Nat} {xs : List Int} (h : PRow cls w blk off xs) : HoldsK (encC cls) 2 w blk off xs.toArray := by
  intro j hj
  rw [size_flatK] at hj
  have hq : j / 2 < xs.length := by simp at hj; omega
  rw [get_flatK _ _ _ _ hj]
  obtain ⟨h0, h1⟩ := h (j / 2) hq
  rw [getD_toArray xs _ hq]
  by_cases c : j % 2 = 0
  · rw [c]
    rw [show off + j / 2 * 2 = off + j by omega] at h0
    exact h0
  · rw [show j % 2 = 1 by omega]
    rw [show off + j / 2 * 2 + 1 = off + j by omega] at h1
    exact h1
theorem PRow.piece {cls : Int → Int} {w : World} {blk off : Nat} {A S C : List Int} (h : PRow cls w blk off (A ++ S ++ C)) : PRow cls w blk (off + A.length * 2) S := fun i hi => by
  have := h (A.length + i) (by simp; omega)
  rw [show (A ++ S ++ C).getD (A.length + i) 0 = S.getD i 0 by
    simp only [List.getD]
    rw [List.append_assoc, List.getElem?_append_right (by omega), show A.length + i - A.length = i by omega, List.getElem?_append_left hi]] at this
  rw [show off + (A.length + i) * 2 = off + A.length * 2 + i * 2 by omega] at this
  exact this
theorem PRow.below {cls : Int → Int} {w w' : World} {blk off : Nat} {xs : List Int} (h : PRow cls w blk off xs) (hb : Below w.heap.size w w') (hlt : blk < w.heap.size) : PRow cls w' blk off xs := fun i hi => by
  rw [hb.cell (p := ⟨blk, off + i * 2, none⟩) hlt, hb.cell (p := ⟨blk, off + i * 2 + 1, none⟩) hlt, hb.frozen (p := ⟨blk, off + i * 2, none⟩) hlt, hb.frozen (p := ⟨blk, off + i * 2 + 1, none⟩) hlt]
  exact h i hi

theorem swk_frozen {cls : Int → Int} {w W : World} {blk off : Nat} {d : Array Int} (S : SWK (encC cls) 2 w blk off d W) (a : Addr) (h : a.block < w.heap.size) : W.frozen? a = w.frozen? a := by
  obtain ⟨n, os, rfl⟩ := S
  unfold sortWorldK
  rw [frozen?_grow _ _ _ (by rw [size_putRowK]; exact h)]
  unfold putRowK
  rw [frozen?_putRow]
  rfl
theorem swk_out {cls : Int → Int} {w W : World} {blk off : Nat} {d : Array Int} (S : SWK (encC cls) 2 w blk off d W) (a : Addr) (h : a.block < w.heap.size) (ho : a.block ≠ blk ∨ a.off < off ∨ off + d.size * 2 ≤ a.off) : W.cell? a = w.cell? a := by
  obtain ⟨n, os, rfl⟩ := S
  unfold sortWorldK
  rw [cell?_grow _ _ _ (by rw [size_putRowK]; exact h)]
  unfold putRowK
  rw [cell?_putRow_other _ _ _ _ _ _ (by rw [size_flatK]; exact ho)]
  rfl
theorem swk_below {cls : Int → Int} {B : Nat} {a w W : World} {blk off : Nat} {d : Array Int} (S : SWK (encC cls) 2 w blk off d W) (hb : Below B a w) (hB : B ≤ blk) (hBa : B ≤ a.heap.size) : Below B a W := by
  obtain ⟨n, os, rfl⟩ := S
  have hs : (sortWorldK (encC cls) 2 w blk off n d os).heap.size = w.heap.size + os.size := by unfold sortWorldK; rw [size_grow, size_putRowK]; rfl
  refine ⟨hb.os, hb.tape, hb.output, by rw [hs]; have := hb.size; omega, fun i hi => ?_⟩
  have hiw : i < w.heap.size := Nat.lt_of_lt_of_le hi (Nat.le_trans hBa hb.size)
  rw [← hb.block i hi]
  unfold sortWorldK
  show ((putRowK (encC cls) 2 (Sort.ahead w n) blk off d).heap ++ os)[i]? = _
  rw [Array.getElem?_append_left (by rw [size_putRowK]; exact hiw)]
  unfold putRowK putRow mapBlock
  simp only [Array.getElem?_modify]
  rw [if_neg (by omega)]
  rfl

/-- a piece of a row sorted, where it stands. -/
theorem sort_piece (cls : Int → Int) (blk off cap : Nat) (A S C : List Int) (B : Nat) (W w : World) (h : PRow cls w blk 0 (A ++ S ++ C)) (hoff : S = [] ∨ off = A.length * 2) (hb : Below B W w) (hB : B ≤ blk) (hBW : B ≤ W.heap.size) (hblk : blk < w.heap.size) (hsz : S.length < 1000000) :
    Calls Tryz.prog 78 #[.slice (some ⟨blk, off, none⟩) S.length cap] w fun e w' => e = .returned (.tuple #[]) ∧ Hid (PRow cls w' blk 0 (A ++ isort cls S ++ C)) ∧ Hid (Below B W w') ∧ w.heap.size ≤ w'.heap.size := by
  have hH : HoldsK (encC cls) 2 w blk off S.toArray := by
    rcases hoff with h0 | h0
    · subst h0
      intro j hj
      simp at hj
    · have := (PRow.piece h).holds
      rw [Nat.zero_add, ← h0] at this
      exact this
  have hc := sortClasses_any cls blk off cap S.toArray w hH hblk (by simpa using hsz)
  simp only [List.size_toArray] at hc
  refine hc.mono fun _ w' ⟨h1, d', h2, h3⟩ => ⟨h1, Lib.hid ?_, Lib.hid (swk_below h3 hb hB hBW), h3.le⟩
  have hd : d'.toList = isort cls S := by
    have := done_isort (d := S.toArray) (d' := d') (by simpa using h2)
    simpa using this
  have hlen : d'.size = S.length := by simpa using h2.1.1
  intro i hi
  have hil := isort_length cls S
  simp only [List.length_append, hil] at hi
  rw [swk_frozen h3 ⟨blk, 0 + i * 2, none⟩ hblk, swk_frozen h3 ⟨blk, 0 + i * 2 + 1, none⟩ hblk]
  obtain ⟨⟨_, g1⟩, _, g2⟩ := h i (by simp; omega)
  by_cases hin : A.length ≤ i ∧ i < A.length + S.length
  · rcases hoff with h0 | h0
    · subst h0; simp at hin; omega
    · have R : RowK (encC cls) 2 w blk off S.toArray := ⟨fun _ => rfl, fun x v hv => by simp [encC] at hv; rcases hv with rfl | rfl <;> rfl, hH, hblk⟩
      obtain ⟨⟨c1, _⟩, c2, _⟩ := cells2 h3 R (by rw [hlen]; simp) (i - A.length) (by omega)
      have he : d'[i - A.length]! = (A ++ isort cls S ++ C).getD i 0 := by
        have e1 : d'[i - A.length]! = (isort cls S).getD (i - A.length) 0 := by
          rw [← hd]
          simp only [List.getD, getElem!_pos d' (i - A.length) (by omega)]
          simp [show i - A.length < d'.size by omega]
        rw [e1]
        simp only [List.getD]
        rw [List.append_assoc, List.getElem?_append_right hin.1, List.getElem?_append_left (by omega)]
      rw [he] at c1 c2
      rw [show off + (i - A.length) * 2 = 0 + i * 2 by omega] at c1 c2
      exact ⟨⟨c1, g1⟩, c2, g2⟩
  · obtain ⟨⟨k1, _⟩, k2, _⟩ := h i (by simp; omega)
    have he : (A ++ isort cls S ++ C).getD i 0 = (A ++ S ++ C).getD i 0 := by
      simp only [List.getD]
      congr 1
      by_cases c : i < A.length
      · rw [List.append_assoc, List.append_assoc, List.getElem?_append_left c, List.getElem?_append_left c]
      · rw [List.getElem?_append_right (by simp; omega), List.getElem?_append_right (by simp; omega)]
        simp [hil]
    rw [he]
    have ho : ∀ z, (z = 0 + i * 2 ∨ z = 0 + i * 2 + 1) → (z < off ∨ off + d'.size * 2 ≤ z) ∨ S = [] := fun z hz => by
      rcases hoff with h0 | h0
      · exact Or.inr h0
      · left; omega
    have cell : ∀ z, (z = 0 + i * 2 ∨ z = 0 + i * 2 + 1) → w'.cell? ⟨blk, z, none⟩ = w.cell? ⟨blk, z, none⟩ := fun z hz => by
      rcases ho z hz with h0 | h0
      · exact swk_out h3 ⟨blk, z, none⟩ hblk (Or.inr h0)
      · refine swk_out h3 ⟨blk, z, none⟩ hblk (Or.inr ?_)
        have : d'.size = 0 := by rw [hlen, h0]; rfl
        rw [this]
        show z < off ∨ off + 0 * 2 ≤ z
        omega
    rw [cell _ (Or.inl rfl), cell _ (Or.inr rfl)]
    exact ⟨⟨k1, g1⟩, k2, g2⟩
end Go.Proofs.YticjgmhgpeihjaaGreatDoor
