/-
  Layer medium: New, Append, Loose, Swap.
-/
import Derived.Test.YtbolmfpcddgpgaaMdKit
namespace Go.Proofs.Ytbolmfpcddgpgaa
open Go.RowKit Go.Gz

theorem new_any (w : World) : Calls Try.prog 9 #[] w fun e w' => e = .returned (.pointer (some ⟨w.heap.size, 0, none⟩)) ∧ MedAt w' w.heap.size w.heap.size (.slice none 0 0) (.slice none 0 0) [] [] ∧ Below w.heap.size w w' := by
  have HF := Lib.hid (show MedAt (w.alloc (.cells #[.slice none 0 0, .slice none 0 0] 43)) w.heap.size w.heap.size (.slice none 0 0) (.slice none 0 0) [] [] from
    ⟨by show (w.heap.push _)[w.heap.size]? = _; simp, Nat.le_refl _, Own.nil _ _ _ _, Own.nil _ _ _ _, fun g hg => by cases hg⟩)
  go_enter Try.func9, Try.ntmps9
  go_wp2_with fail
  go_ret
  exact ⟨rfl, HF.out, (Below.refl _ _).alloc (Nat.le_refl _) _⟩

section
variable {w : World} {B M : Nat} {vs vl : Value} {S L : List UInt8}

theorem loose_any (h : MedAt w B M vs vl S L) (n : Nat) (hn : L.length = n) : Calls Try.prog 15 #[.pointer (some ⟨M, 0, none⟩)] w fun e w' => e = .returned (.int .i64 n) ∧ w = w' := by
  obtain ⟨q, c, rfl, -, -, -⟩ := own_row h.l
  have c1 := h.c1
  rw [nums_length, hn] at c1
  clear h
  go_enter Try.func15, Try.ntmps15
  go_wp2_with fail
  go_ret
  exact ⟨rfl, rfl⟩

theorem append_any (h : MedAt w B M vs vl S L) (b : List UInt8) (hb : L.length + b.length ≤ 1000000) (n : Nat) (hn : b.length = n) (p : Option Addr) (c : Nat) (hp : Row w .u8 p (nums b)) (hpc : p = none → c = 0) :
    Calls Try.prog 13 #[.pointer (some ⟨M, 0, none⟩), .slice p n c] w fun e w' => e = .returned (.tuple #[]) ∧ Turned w B M vs vl S (L ++ b) w' := by
  have c1 := h.c1
  have HH := Lib.hid h
  have HP := Lib.hid (And.intro hp (And.intro hpc (And.intro hb hn)))
  clear h hp hpc hb hn
  go_enter Try.func13, Try.ntmps13
  go_wp2_with (at_builtin; refine wpList_own_row_at rfl _ _ 28 rfl 5 .u8 1 Try.underlying28 info_byte (by decide) B _ _ rfl HH.out.l p c (nums b) (by rw [nums_length, HP.out.2.2.2]; rfl) HP.out.1 HP.out.2.1 (by simp only [nums_length]; exact HP.out.2.2.1) HH.out.hB ?_)
  intro v w1 hown hgrow hat
  obtain ⟨m, hm⟩ : ∃ m, (nums L ++ nums b).length = m := ⟨_, rfl⟩
  obtain ⟨q1, d1, rfl⟩ := hown.slice hm
  have hk : Kept (fun k => vl.ownBlock = some k) w w1 := Kept.grown hgrow fun g hg => hg
  have hown' : Own w1 B 5 .u8 (.slice q1 m d1) (nums (L ++ b)) := by rw [nums_append]; exact hown
  have HM := Lib.hid (HH.out.set1 hk hown' (hat.imp id Or.inl))
  have f1 : w1.frozen? ⟨M, 1, none⟩ = false := by rw [World.frozen?_of_block (w := w) (hk.block M HH.out.lt HH.out.neL)]; exact HH.out.f1
  obtain ⟨x1, hx1⟩ : ∃ x, w1.cell? ⟨M, 1, none⟩ = some x := ⟨vl, by rw [World.cell?_of_block (w := w) (hk.block M HH.out.lt HH.out.neL)]; exact c1⟩
  have HK := Lib.hid (show Kept (InF M vs vl) w (w1.setCell ⟨M, 1, none⟩ (.slice q1 m d1)) from
    (hk.mono fun i _ e => (Or.inr (Or.inr e) : InF M vs vl i)).trans (Kept.set (F := fun k => k = M) _ rfl) fun i _ e => Or.inl e)
  have HZ := Lib.hid (show ∀ k, InF M vs (.slice q1 m d1) k → InF M vs vl k ∨ w.heap.size ≤ k from by
    rintro k (rfl | h1 | h1)
    · exact Or.inl (Or.inl rfl)
    · exact Or.inl (Or.inr (Or.inl h1))
    · rcases hat with h2 | h2
      · exact Or.inl (Or.inr (Or.inr (h2.symm.trans h1)))
      · rw [h2] at h1; injection h1 with h1; exact Or.inr (by omega))
  clear hown hown' hgrow hat hk c1 hm
  go_wp2_with fail
  exact bodyPost_end (v := .tuple #[]) (by simp [results, Try.results13]) rfl ⟨rfl, vs, _, HM.out, HK.out, HZ.out⟩

theorem sync_any (h : MedAt w B M vs vl S L) (hl : S.length + L.length ≤ 1000000) :
    Calls Try.prog 14 #[.pointer (some ⟨M, 0, none⟩)] w fun e w' => e = .returned (.tuple #[]) ∧ Turned w B M vs vl (S ++ L) [] w' := by
  have c0 := h.c0
  have c1 := h.c1
  have f0 := h.f0
  have f1 := h.f1
  have HH := Lib.hid h
  have HP := Lib.hid hl
  obtain ⟨q, c, rfl, hqc, hq0, hrow⟩ := own_row h.l
  have HR := Lib.hid (And.intro hrow (And.intro hqc hq0))
  clear h hl hrow hqc hq0
  rw [nums_length] at c1 HR HH ⊢
  go_enter Try.func14, Try.ntmps14
  go_wp2_with fail
  obtain ⟨m, hm⟩ : ∃ m, (nums S ++ nums L).length = m := ⟨_, rfl⟩
  have HM := Lib.hid hm
  clear hm
  go_region_law (refine step_own_row_at rfl (.tmp 9) (.tmp 13) 28 rfl 5 .u8 1 Try.underlying28 info_byte (by decide) B vs (nums S) (by simp [Act.eval]) HH.out.s.drew q c (nums L) (by simp [Act.eval]) HR.out.1 HR.out.2.2 (by simp only [nums_length]; exact HP.out) HH.out.hB ?_; intro v w1 hown hgrow hat; obtain ⟨q1, d1, rfl⟩ := hown.slice HM.out; have HW1 := Lib.hid (And.intro hown (And.intro hgrow hat)); have hc0 : ∃ x, w1.cell? ⟨M, 0, none⟩ = some x := HH.out.after0 hgrow; obtain ⟨x0, hx0⟩ := hc0; have hx1 : w1.cell? ⟨M, 1, none⟩ = some _ := HH.out.after1 hgrow; have g0 : w1.frozen? ⟨M, 0, none⟩ = false := HH.out.after2 hgrow; have g1 : w1.frozen? ⟨M, 1, none⟩ = false := HH.out.after3 hgrow; have HW2 := Lib.hid (HH.out.turned01 (X := S ++ L) (Kept.grown (w := w) ⟨hgrow.os, hgrow.tape, hgrow.output, hgrow.size, hgrow.block⟩ fun g hg => hg) (by rw [nums_append]; exact hown) (hat.imp id fun h g hg => by rw [h] at hg; injection hg with hg; rw [← hg]; exact Nat.le_refl _) rfl); clear hown hgrow hat HW1)
  all_goals exact bodyPost_end (v := .tuple #[]) (by simp [results, Try.results14]) rfl ⟨rfl, HW2.out⟩

theorem swap_any (h : MedAt w B M vs vl S L) (b : List UInt8) (hb : b.length ≤ 900000) (n : Nat) (hn : b.length = n) (p : Option Addr) (c : Nat) (hp : Row w .u8 p (nums b)) (hpc : p = none → c = 0) :
    Calls Try.prog 18 #[.pointer (some ⟨M, 0, none⟩), .slice p n c] w fun e w' => e = .returned (.tuple #[]) ∧ Turned w B M vs vl b [] w' := by
  have HH := Lib.hid h
  have C1 := Lib.hid (clone_any b hb p c w hp hpc)
  rw [hn] at C1
  have HN := Lib.hid hn
  clear h hp hpc hb hn
  go_enter Try.func18, Try.ntmps18
  go_wp2_with fail
  refine C1.out.mono ?_
  rintro e w1 ⟨v, rfl, hown, hb1⟩
  obtain ⟨q1, d1, rfl⟩ := hown.slice ((nums_length b).trans HN.out)
  have hM : w1.heap[M]? = some (.cells #[vs, vl] 43 (0, 0)) := (hb1.block M HH.out.lt).trans HH.out.c
  have HT := Lib.hid (HH.out.turned01 (X := b) (Kept.of_below hb1) (own_mono hown HH.out.hB) (Or.inr fun g hg => (hown.ltB g hg).1) rfl)
  have c0 : w1.cell? ⟨M, 0, none⟩ = some vs := by simp [World.cell?, hM]
  have c1 : w1.cell? ⟨M, 1, none⟩ = some vl := by simp [World.cell?, hM]
  have f0 : w1.frozen? ⟨M, 0, none⟩ = false := by simp [World.frozen?, hM]
  have f1 : w1.frozen? ⟨M, 1, none⟩ = false := by simp [World.frozen?, hM]
  clear hown hb1 hM
  go_wp2_with fail
  exact bodyPost_end (v := .tuple #[]) (by simp [results, Try.results18]) rfl ⟨rfl, HT.out⟩

theorem crash_any (h : MedAt w B M vs vl S L) (hl : S.length + L.length ≤ 1000000) (keep : Int) (k : Nat) (hk : min (max keep 0) (L.length : Int) = (k : Int)) :
    Calls Try.prog 16 #[.pointer (some ⟨M, 0, none⟩), .int .i64 keep] w fun e w' => e = .returned (.tuple #[]) ∧ Turned w B M vs vl (S ++ L.take k) [] w' := by
  obtain ⟨q, c, rfl, hqc, hq0, hrow⟩ := own_row h.l
  rw [nums_length] at h hqc ⊢
  have hkl : k ≤ L.length := by omega
  have hM1 : MedAt (w.setCell ⟨M, 1, none⟩ (.slice q k c)).drew B M vs (.slice q k c) S (L.take k) := MedAt.drew <| h.set1 (w1 := w) (Kept.refl _ _) (by rw [nums_take]; exact own_trunc h.l hkl) (by cases q <;> exact Or.inl rfl)
  have C2 := Lib.hid (sync_any hM1 (by rw [List.length_take]; omega))
  have HT := Lib.hid (fun w3 (hw3 : Turned (w.setCell ⟨M, 1, none⟩ (.slice q k c)).drew B M vs (.slice q k c) (S ++ L.take k) [] w3) => Turned.after (w := w) (vs := vs) (vl := .slice q L.length c) ((Kept.set (F := fun i => i = M) (a := ⟨M, 1, none⟩) (.slice q k c) rfl).mono fun i _ e => (Or.inl e : InF M vs (.slice q L.length c) i)).drew (fun j hj => Or.inl (by
    rcases hj with h1 | h1 | h1
    · exact Or.inl h1
    · exact Or.inr (Or.inl h1)
    · exact Or.inr (Or.inr (by cases q <;> exact h1)))) hw3)
  have c1 := h.c1
  have f1 := h.f1
  obtain ⟨n, hn⟩ : ∃ n, L.length = n := ⟨_, rfl⟩
  rw [hn] at c1 hk hqc hkl HT ⊢
  have HK := Lib.hid (And.intro hk (And.intro hqc hq0))
  clear h hM1 hrow hl hn
  go_enter Try.func16, Try.ntmps16
  go_wp2_with fail
  go_region
  go_wp2_with fail
  refine C2.out.mono ?_
  rintro e w3 ⟨rfl, ht⟩
  have HT3 := Lib.hid (HT.out w3 ht)
  clear ht
  go_wp2_with fail
  exact bodyPost_end (v := .tuple #[]) (by simp [results, Try.results16]) rfl ⟨rfl, HT3.out⟩

end
end Go.Proofs.Ytbolmfpcddgpgaa
