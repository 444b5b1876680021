/-
  Layer medium: New, Append, Loose, Swap.
-/
import Derived.Test.YtkidahlhnhglfaaMdKit
namespace Go.Proofs.Ytkidahlhnhglfaa
open Go.RowKit Go.Gz

theorem new_any (w : World) : Calls Try.prog 20 #[] w fun e w' => e = .returned (.pointer (some ⟨w.heap.size, 0, none⟩)) ∧ MedAt w' w.heap.size w.heap.size (.slice none 0 0) (.slice none 0 0) [] [] ∧ Below w.heap.size w w' := by
  have HF := Lib.hid (show MedAt (w.alloc (.cells #[.slice none 0 0, .slice none 0 0] 93)) w.heap.size w.heap.size (.slice none 0 0) (.slice none 0 0) [] [] from
    ⟨by show (w.heap.push _)[w.heap.size]? = _; simp, Nat.le_refl _, Own.nil _ _ _ _, Own.nil _ _ _ _, fun g hg => by cases hg⟩)
  go_enter Try.func20, Try.ntmps20
  go_wp2_with fail
  go_ret
  exact ⟨rfl, HF.out, (Below.refl _ _).alloc (Nat.le_refl _) _⟩

section
variable {w : World} {B M : Nat} {vs vl : Value} {S L : List UInt8}

theorem append_any (h : MedAt w B M vs vl S L) (b : List UInt8) (hb : L.length + b.length ≤ 1000000) (n : Nat) (hn : b.length = n) (p : Option Addr) (c : Nat) (hp : Row w .u8 p (nums b)) (hpc : p = none → c = 0) :
    Calls Try.prog 24 #[.pointer (some ⟨M, 0, none⟩), .slice p n c] w fun e w' => e = .returned (.tuple #[]) ∧ Turned w B M vs vl S (L ++ b) w' := by
  have c1 := h.c1
  have HH := Lib.hid h
  have HP := Lib.hid (And.intro hp (And.intro hpc (And.intro hb hn)))
  clear h hp hpc hb hn
  go_enter Try.func24, Try.ntmps24
  go_wp2_with (at_builtin; refine wpList_own_row_at rfl _ _ 25 rfl 5 .u8 1 Try.underlying25 info_byte (by decide) B _ _ rfl HH.out.l p c (nums b) (by rw [nums_length, HP.out.2.2.2]; rfl) HP.out.1 HP.out.2.1 (by simp only [nums_length]; exact HP.out.2.2.1) HH.out.hB ?_)
  intro v w1 hown hgrow hat
  obtain ⟨m, hm⟩ : ∃ m, (nums L ++ nums b).length = m := ⟨_, rfl⟩
  obtain ⟨q1, d1, rfl⟩ := hown.slice hm
  have hk : Kept (fun k => vl.ownBlock = some k) w w1 := Kept.grown hgrow fun g hg => hg
  have hown' : Own w1 B 5 .u8 (.slice q1 m d1) (nums (L ++ b)) := by rw [nums_append]; exact hown
  have HM := Lib.hid (HH.out.set1 hk hown' (hat.imp id Or.inl))
  have f1 : w1.frozen? ⟨M, 1, none⟩ = false := by rw [World.frozen?_of_block (w := w) (hk.block M HH.out.lt HH.out.neL)]; exact HH.out.f1
  obtain ⟨x1, hx1⟩ : ∃ x, w1.cell? ⟨M, 1, none⟩ = some x := ⟨vl, by rw [World.cell?_of_block (w := w) (hk.block M HH.out.lt HH.out.neL)]; exact c1⟩
  have HK := Lib.hid (show Kept (InF M vs vl) w (w1.setCell ⟨M, 1, none⟩ (.slice q1 m d1)) from
    (hk.mono fun i _ e => (Or.inr (Or.inr e) : InF M vs vl i)).trans (Kept.set (F := fun k => k = M) _ rfl) fun i _ e => Or.inl e)
  have HZ := Lib.hid (show ∀ k, InF M vs (.slice q1 m d1) k → InF M vs vl k ∨ w.heap.size ≤ k from by
    rintro k (rfl | h1 | h1)
    · exact Or.inl (Or.inl rfl)
    · exact Or.inl (Or.inr (Or.inl h1))
    · rcases hat with h2 | h2
      · exact Or.inl (Or.inr (Or.inr (h2.symm.trans h1)))
      · rw [h2] at h1; injection h1 with h1; exact Or.inr (by omega))
  clear hown hown' hgrow hat hk c1 hm
  go_wp2_with fail
  exact bodyPost_end (v := .tuple #[]) (by simp [results, Try.results24]) rfl ⟨rfl, vs, _, HM.out, HK.out, HZ.out⟩

theorem swap_any (h : MedAt w B M vs vl S L) (b : List UInt8) (hb : b.length ≤ 900000) (n : Nat) (hn : b.length = n) (p : Option Addr) (c : Nat) (hp : Row w .u8 p (nums b)) (hpc : p = none → c = 0) :
    Calls Try.prog 53 #[.pointer (some ⟨M, 0, none⟩), .slice p n c] w fun e w' => e = .returned (.tuple #[]) ∧ Turned w B M vs vl b [] w' := by
  have HH := Lib.hid h
  have C1 := Lib.hid (sclone_any b hb p c w hp hpc)
  rw [hn] at C1
  have HN := Lib.hid hn
  clear h hp hpc hb hn
  go_enter Try.func53, Try.ntmps53
  go_wp2_with fail
  refine C1.out.mono ?_
  rintro e w1 ⟨v, rfl, hown, hb1⟩
  obtain ⟨q1, d1, rfl⟩ := hown.slice ((nums_length b).trans HN.out)
  have hM : w1.heap[M]? = some (.cells #[vs, vl] 93 (0, 0)) := (hb1.block M HH.out.lt).trans HH.out.c
  have HT := Lib.hid (HH.out.turned01 (X := b) (Kept.of_below hb1) (own_mono hown HH.out.hB) (Or.inr fun g hg => (hown.ltB g hg).1) rfl)
  have c0 : w1.cell? ⟨M, 0, none⟩ = some vs := by simp [World.cell?, hM]
  have c1 : w1.cell? ⟨M, 1, none⟩ = some vl := by simp [World.cell?, hM]
  have f0 : w1.frozen? ⟨M, 0, none⟩ = false := by simp [World.frozen?, hM]
  have f1 : w1.frozen? ⟨M, 1, none⟩ = false := by simp [World.frozen?, hM]
  clear hown hb1 hM
  go_wp2_with fail
  exact bodyPost_end (v := .tuple #[]) (by simp [results, Try.results53]) rfl ⟨rfl, HT.out⟩

end
end Go.Proofs.Ytkidahlhnhglfaa
