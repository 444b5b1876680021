/-
  Layer medium: Bytes, Copy.
-/
import Derived.Test.YtkidahlhnhglfaaMdOps
namespace Go.Proofs.Ytkidahlhnhglfaa
open Go.RowKit Go.Gz
section
variable {w : World} {B M : Nat} {vs vl : Value} {S L : List UInt8}

theorem bytes_any (h : MedAt w B M vs vl S L) (hS : S.length ≤ 400000) (hL : L.length ≤ 400000) :
    Calls Try.prog 23 #[.pointer (some ⟨M, 0, none⟩)] w fun e w' => ∃ v, e = .returned v ∧ Own w' w.heap.size 5 .u8 v (nums (S ++ L)) ∧ Below w.heap.size w w' := by
  have c0 := h.c0
  have c1 := h.c1
  obtain ⟨q, c, rfl, hqc, hq0, hrow⟩ := own_row h.s
  obtain ⟨r, d, rfl, hrd, hr0, hrow2⟩ := own_row h.l
  rw [nums_length] at c0 c1
  have hw1 : Below w.heap.size w ((w.alloc (.cells #[.slice q S.length c, .slice r L.length d] 25)).drew) := ((Below.refl _ _).alloc (Nat.le_refl _) _).drew
  have C1 := Lib.hid (concat_any S L hS hL q r c d w.heap.size 2 ((w.alloc (.cells #[.slice q S.length c, .slice r L.length d] 25)).drew) (hrow.below hw1) (hrow2.below hw1) hq0 hr0 (by simp [go_sem]) (by simp [go_sem]))
  have HB := Lib.hid hw1
  have HZ := Lib.hid (show w.heap.size ≤ ((w.alloc (.cells #[.slice q S.length c, .slice r L.length d] 25)).drew).heap.size from hw1.size)
  clear h hqc hq0 hrow hrd hr0 hrow2 hw1
  obtain ⟨n, hn⟩ : ∃ n, S.length = n := ⟨_, rfl⟩
  obtain ⟨m, hm⟩ : ∃ n, L.length = n := ⟨_, rfl⟩
  rw [hn] at c0 C1 HB HZ
  rw [hm] at c1 C1 HB HZ
  clear hS hL hn hm
  go_enter Try.func23, Try.ntmps23
  go_wp2_with fail
  go_region_with (go_at_call 51; refine C1.out.mono ?_; rintro e w1 ⟨v, rfl, hown, hb⟩; have HO1 := Lib.hid (own_mono hown HZ.out); have HB1 := Lib.hid (HB.out.trans (hb.mono HZ.out)); clear hown hb)
  all_goals
    go_wp2_with fail
    go_ret
    exact ⟨_, rfl, HO1.out, HB1.out⟩

theorem copied {w w1 w2 : World} {u v : Value} (h1 : Own w1 w.heap.size 5 .u8 u (nums S)) (hb1 : Below w.heap.size w w1) (hb2 : Below w1.heap.size w1 w2) (h2 : Own w2 w1.heap.size 5 .u8 v (nums L)) :
    MedAt (w2.alloc (.cells #[u, v] 93)) w.heap.size w2.heap.size u v S L ∧ Below w.heap.size w (w2.alloc (.cells #[u, v] 93)) := by
  have hz := hb1.size
  have hz2 := hb2.size
  refine ⟨⟨by show (w2.heap.push _)[w2.heap.size]? = _; simp, by omega, (below_own h1 hb2).alloc _, (own_mono h2 hz).alloc _, fun g hg e => ?_⟩, (hb1.trans (hb2.mono hz)).alloc (by omega) _⟩
  have a := (h1.ltB g hg).2
  have b := (h2.ltB g e).1
  omega
theorem copied' {w w1 w2 : World} {u v : Value} (h2 : Own w1 w.heap.size 5 .u8 v (nums L)) (hb1 : Below w.heap.size w w1) (hb2 : Below w1.heap.size w1 w2) (h1 : Own w2 w1.heap.size 5 .u8 u (nums S)) :
    MedAt (w2.alloc (.cells #[u, v] 93)) w.heap.size w2.heap.size u v S L ∧ Below w.heap.size w (w2.alloc (.cells #[u, v] 93)) := by
  have hz := hb1.size
  have hz2 := hb2.size
  refine ⟨⟨by show (w2.heap.push _)[w2.heap.size]? = _; simp, by omega, (own_mono h1 hz).alloc _, (below_own h2 hb2).alloc _, fun g hg e => ?_⟩, (hb1.trans (hb2.mono hz)).alloc (by omega) _⟩
  have a := (h2.ltB g e).2
  have b := (h1.ltB g hg).1
  omega

def RetCp (w : World) (S L : List UInt8) (e : Ending) (w' : World) : Prop := ∃ C u v, e = .returned (.pointer (some ⟨C, 0, none⟩)) ∧ MedAt w' w.heap.size C u v S L ∧ Below w.heap.size w w'

end
end Go.Proofs.Ytkidahlhnhglfaa
