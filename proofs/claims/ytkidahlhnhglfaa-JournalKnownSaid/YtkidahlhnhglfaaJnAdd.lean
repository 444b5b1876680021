/-
  Layer journal: a deed added; what is recovered.
-/
import Derived.Test.YtkidahlhnhglfaaJnDeeds
import Derived.Test.YtkidahlhnhglfaaMdAwake
namespace Go.Proofs.Ytkidahlhnhglfaa
open Go.RowKit

section
variable {w : World} {B M : Nat} {S L : List UInt8}

set_option maxHeartbeats 4000000 in
theorem add_bad (x : DeedL) (p : Option Addr) (cap : Nat) (w : World) (M : Nat) (hp : Recs w p x.ls) (hn : x.ls.length ≤ 1000) (hs : sumRec x.ls ≤ 100000) (hf : x.f.length ≤ 100000) (ht : x.t.length ≤ 100000) (hpk : packS x = none) :
    Calls Try.prog 21 #[.pointer (some ⟨M, 0, none⟩), jdV x p cap] w fun e w' => e = .returned (.int .i64 1) ∧ Below w.heap.size w w' := by
  obtain ⟨W0, hW0⟩ : ∃ W0, w.alloc (.cells (jdCells x p cap) 59) = W0 := ⟨_, rfl⟩
  have hal : Below w.heap.size w W0 := hW0 ▸ (Below.refl _ _).alloc (Nat.le_refl _) _
  have hbk : W0.heap[w.heap.size]? = some (.cells (jdCells x p cap) 59 (0, 0)) := hW0 ▸ new_block w _ _
  have CP := Lib.hid (pack_any x p cap W0 (hp.below hal) hn hs hf ht)
  rw [hpk] at CP
  have HB := Lib.hid hal
  have d0 := cell_at hbk
  clear hp hn hs hf ht hpk hal hbk
  unfold jdCells at hW0 d0
  unfold jdV at CP ⊢
  go_enter Try.func21, Try.ntmps21
  go_wp2_with fail
  clear hW0
  refine CP.out.mono ?_
  rintro e w1 ⟨v, rfl, ho, hb⟩
  rw [errP_none]
  have HB1 := Lib.hid (HB.out.trans (hb.mono HB.out.size))
  clear ho hb d0
  go_wp2_with fail
  go_ret
  exact ⟨rfl, HB1.out⟩
set_option maxHeartbeats 4000000 in
theorem add_long (x : DeedL) (Y : List UInt8) (p : Option Addr) (cap : Nat) (w : World) (M : Nat) (hp : Recs w p x.ls) (hn : x.ls.length ≤ 1000) (hs : sumRec x.ls ≤ 100000) (hf : x.f.length ≤ 100000) (ht : x.t.length ≤ 100000) (hpk : packS x = some Y) (hY : 32768 < Y.length) :
    Calls Try.prog 21 #[.pointer (some ⟨M, 0, none⟩), jdV x p cap] w fun e w' => e = .returned (.int .i64 3) ∧ Below w.heap.size w w' := by
  obtain ⟨W0, hW0⟩ : ∃ W0, w.alloc (.cells (jdCells x p cap) 59) = W0 := ⟨_, rfl⟩
  have hal : Below w.heap.size w W0 := hW0 ▸ (Below.refl _ _).alloc (Nat.le_refl _) _
  have hbk : W0.heap[w.heap.size]? = some (.cells (jdCells x p cap) 59 (0, 0)) := hW0 ▸ new_block w _ _
  have CP := Lib.hid (pack_any x p cap W0 (hp.below hal) hn hs hf ht)
  rw [hpk] at CP
  have HB := Lib.hid hal
  have d0 := cell_at hbk
  have HY := Lib.hid hY
  clear hp hn hs hf ht hpk hal hbk hY
  unfold jdCells at hW0 d0
  unfold jdV at CP ⊢
  go_enter Try.func21, Try.ntmps21
  go_wp2_with fail
  clear hW0
  refine CP.out.mono ?_
  rintro e w1 ⟨v, rfl, ho, hb⟩
  rw [errP_some]
  simp only [Option.getD_some] at ho
  obtain ⟨q, d, rfl, -, -, -⟩ := own_row ho
  rw [nums_length]
  have CF := Lib.hid (show Calls Try.prog 49 #[.int .u8 7, .slice q Y.length d] w1 fun e w' => e = .returned (.tuple #[.slice none 0 0, .int .i64 3]) ∧ w1 = w' from frame_long 7 Y.length HY.out q d w1)
  obtain ⟨U, hU⟩ : ∃ U, Y.length = U := ⟨_, rfl⟩
  rw [hU] at CF ⊢
  have HB1 := Lib.hid (HB.out.trans (hb.mono HB.out.size))
  clear ho hb d0 hU
  go_wp2_with fail
  refine CF.out.mono ?_
  rintro e w2 ⟨rfl, rfl⟩
  go_wp2_with fail
  go_ret
  exact ⟨rfl, HB1.out⟩
set_option maxHeartbeats 4000000 in
theorem add_ok (x : DeedL) (Y : List UInt8) (p : Option Addr) (cap : Nat) (hm : Med w B M S L) (hp : Recs w p x.ls) (hn : x.ls.length ≤ 1000) (hs : sumRec x.ls ≤ 100000) (hf : x.f.length ≤ 100000) (ht : x.t.length ≤ 100000) (hpk : packS x = some Y) (hY : Y.length ≤ 32768) (hL : L.length ≤ 900000) :
    Calls Try.prog 21 #[.pointer (some ⟨M, 0, none⟩), jdV x p cap] w fun e w' => e = .returned (.int .i64 0) ∧ Med w' B M S (L ++ frameL 7 Y) ∧ Below B w w' := by
  obtain ⟨W0, hW0⟩ : ∃ W0, w.alloc (.cells (jdCells x p cap) 59) = W0 := ⟨_, rfl⟩
  have hal : Below w.heap.size w W0 := hW0 ▸ (Below.refl _ _).alloc (Nat.le_refl _) _
  have hbk : W0.heap[w.heap.size]? = some (.cells (jdCells x p cap) 59 (0, 0)) := hW0 ▸ new_block w _ _
  have CP := Lib.hid (pack_any x p cap W0 (hp.below hal) hn hs hf ht)
  rw [hpk] at CP
  have HB := Lib.hid hal
  have HM := Lib.hid hm
  have d0 := cell_at hbk
  have HY := Lib.hid hY
  have HL := Lib.hid hL
  clear hp hn hs hf ht hpk hal hbk hY hm hL
  unfold jdCells at hW0 d0
  unfold jdV at CP ⊢
  go_enter Try.func21, Try.ntmps21
  go_wp2_with fail
  clear hW0
  refine CP.out.mono ?_
  rintro e w1 ⟨v, rfl, ho, hb⟩
  rw [errP_some]
  simp only [Option.getD_some] at ho
  obtain ⟨q, d, rfl, hd, hq, hrow⟩ := own_row ho
  rw [nums_length] at hd ⊢
  have CF := Lib.hid (show Calls Try.prog 49 #[.int .u8 7, .slice q Y.length d] w1 (RetFr w1 (frameL 7 Y)) from frame_ok 7 Y HY.out q d w1 hrow hd hq)
  obtain ⟨U, hU⟩ : ∃ U, Y.length = U := ⟨_, rfl⟩
  rw [hU] at CF ⊢
  have HU := Lib.hid hU
  have HB1 := Lib.hid (HB.out.trans (hb.mono HB.out.size))
  clear ho hb d0 hU hd hq hrow
  go_wp2_with fail
  refine CF.out.mono ?_
  rintro e w2 ⟨v2, rfl, ho2, hb2⟩
  obtain ⟨q2, d2, rfl, -, hq2, hrow2⟩ := own_row ho2
  rw [nums_length, frameL_length, HU.out]
  have HB2 := Lib.hid (HB1.out.trans (hb2.mono HB1.out.size))
  have CA := Lib.hid (med_append (HM.out.below HB2.out) (frameL 7 Y) (by rw [frameL_length]; have := HL.out; have := HY.out; omega) (7 + U) (by rw [frameL_length, HU.out]) q2 d2 hrow2 hq2)
  clear ho2 hb2 hq2 hrow2
  go_wp2_with fail
  refine CA.out.mono ?_
  rintro e w3 ⟨rfl, hm3, hb3⟩
  have H3 := Lib.hid (And.intro hm3 ((HB2.out.mono HM.out.hB).trans hb3))
  clear hm3 hb3
  go_wp2_with fail
  go_ret
  exact ⟨rfl, H3.out⟩
end

/-- what Recover answers. -/
def RetRv (x : DeedL) (B M : Nat) (F : List UInt8) (R : Nat) (w : World) (e : Ending) (w' : World) : Prop :=
  ∃ v q k, e = .returned (.tuple #[v, .int .i64 (R : Nat)]) ∧ OneD w' w.heap.size v x q k ∧ OwnR w' w.heap.size (.slice q x.ls.length k) x.ls ∧ Med w' B M F [] ∧ Below B w w'
theorem OneD.kept {F : Nat → Prop} {w w' : World} {B : Nat} {v : Value} {x : DeedL} {q : Option Addr} {k : Nat} (h : OneD w B v x q k) (hk : Kept F w w') (hF : ∀ g, B ≤ g → ¬ F g) : OneD w' B v x q k := by
  obtain ⟨g, c, h1, h2, cur, h3, h4⟩ := h
  exact ⟨g, c, h1, h2, cur, by rw [hk.block g (Array.getElem?_eq_some_iff.1 h3).1 (hF g h2)]; exact h3, h4⟩
theorem OwnR.kept {F : Nat → Prop} {w w' : World} {B : Nat} {v : Value} {ls : List RecL} (h : OwnR w B v ls) (hk : Kept F w w') (hF : ∀ g, B ≤ g → ¬ F g) : OwnR w' B v ls := by
  obtain ⟨h1, h2⟩ := h
  refine ⟨h1, ?_⟩
  rcases h2 with h2 | ⟨b, cap, cur, e, hg, hh, r⟩
  · exact Or.inl h2
  · exact Or.inr ⟨b, cap, cur, e, hg, by rw [hk.block b (Array.getElem?_eq_some_iff.1 hh).1 (hF b hg)]; exact hh, r⟩

set_option maxHeartbeats 4000000 in
theorem recover_one {w : World} {B M : Nat} {S L : List UInt8} (x : DeedL) (Y rest : List UInt8) (hf : Fits x Y) (hY : Y.length ≤ 32768) (hst : errL rest ≠ 0 ∨ kindL rest ≠ 7) (hr : rest.length ≤ 300000) (hm : Med w B M S L) (hb : S ++ L = frameL 7 Y ++ rest) :
    Calls Try.prog 25 #[.pointer (some ⟨M, 0, none⟩)] w (RetRv x B M (frameL 7 Y) rest.length w) := by
  obtain ⟨vs, vl, h⟩ := hm
  have hlen : (S ++ L).length = 7 + Y.length + rest.length := by rw [hb, List.length_append, frameL_length]
  have hlen2 := hlen
  rw [List.length_append] at hlen2
  have CB := Lib.hid (bytes_any h (by omega) (by omega))
  have HH := Lib.hid h
  have CD := Lib.hid (show ∀ (q : Option Addr) (d : Nat) (w1 : World), Row w1 .u8 q (nums (S ++ L)) → 7 + Y.length + rest.length ≤ d → Calls Try.prog 52 #[.slice q (7 + Y.length + rest.length) d] w1 (RetDs x (7 + Y.length) w1) from fun q d w1 h1 h2 => deeds_one x Y rest hf hY hst (by omega) _ rfl q d w1 (hb ▸ h1) h2)
  have HTK := Lib.hid (show (S ++ L).take (7 + Y.length) = frameL 7 Y by rw [hb, ← frameL_length 7 Y, List.take_left])
  obtain ⟨U, hU⟩ : ∃ U, 7 + Y.length = U := ⟨_, rfl⟩
  obtain ⟨R, hR⟩ : ∃ R, rest.length = R := ⟨_, rfl⟩
  rw [hU, hR] at CD hlen
  rw [hU] at HTK
  rw [hR]
  have hub : (U : Int) ≤ 40000 := by omega
  have hrb : (R : Int) ≤ 300000 := by omega
  have HN := Lib.hid hlen
  have HU := Lib.hid hU
  clear hf hst hb h hlen hlen2 hU hR hY hr
  go_enter Try.func25, Try.ntmps25
  go_wp2_with fail
  refine CB.out.mono ?_
  rintro e w1 ⟨v, rfl, ho1, hb1⟩
  obtain ⟨q, d, rfl, hd, hq, hrow⟩ := own_row ho1
  rw [nums_length, HN.out] at hd ⊢
  have C1 := Lib.hid (CD.out q d w1 hrow hd)
  have HR1 := Lib.hid (And.intro hrow hq)
  have HB1 := Lib.hid hb1
  have hdz : (U : Int) + (R : Int) ≤ (d : Int) := by omega
  have hq' : q ≠ none := by
    intro e
    have := hq e
    have := HU.out
    omega
  obtain ⟨b, o, rfl⟩ : ∃ b o, q = some ⟨b, o, none⟩ := by
    rcases hrow with h | ⟨b, o, h, _⟩
    · have := congrArg List.length h
      rw [nums_length, HN.out] at this
      have h1 : U + R = 0 := this
      have := HU.out
      omega
    · exact ⟨b, o, h⟩
  clear ho1 hb1 hd hq hrow hq'
  go_wp2_with fail
  refine C1.out.mono ?_
  rintro e w2 ⟨v2, q2, k2, rfl, hone, hown, hb2⟩
  have HB2 := Lib.hid (HB1.out.trans (hb2.mono HB1.out.size))
  have HO2 := Lib.hid (And.intro hone hown)
  have C2 := Lib.hid (swap_any (HH.out.below HB2.out) ((S ++ L).take U) (by rw [List.length_take, HN.out]; omega) U (by rw [List.length_take, HN.out]; omega) (some ⟨b, o, none⟩) d (row_take (HR1.out.1.below hb2) U) (fun h => nomatch h))
  rw [HTK.out] at C2
  obtain ⟨g2, c2, rfl, -⟩ := id hone
  clear hone hown hb2 C1
  go_wp2_with fail
  refine C2.out.mono ?_
  rintro e w3 ⟨rfl, ht⟩
  have H3 := Lib.hid (show RetRv x B M (frameL 7 Y) R w (.returned (.tuple #[.slice (some ⟨g2, 0, none⟩) 1 c2, .int .i64 ((U : Int) + (R : Int) - (U : Int))])) w3 from by
    rw [show (U : Int) + (R : Int) - (U : Int) = ((R : Nat) : Int) by omega]
    obtain ⟨vs', vl', hm', hk, -⟩ := id ht
    have hlow : ∀ g, w1.heap.size ≤ g → ¬ InF M vs vl g := fun g hg hi => by have := (HH.out.low g hi).2; have := HB1.out.size; omega
    obtain ⟨a, b', h4, h5⟩ := Turned.next (HH.out.below HB2.out) ht
    exact ⟨_, q2, k2, rfl, ((HO2.out.1.kept hk hlow).mono HB1.out.size), ownLe (OwnR.kept HO2.out.2 hk hlow) HB1.out.size, ⟨a, b', h4⟩, (HB2.out.mono HH.out.hB).trans h5⟩)
  clear ht
  go_wp2_with fail
  go_ret2
  exact H3.out
end Go.Proofs.Ytkidahlhnhglfaa
