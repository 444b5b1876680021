/-
  Layer parcel: a reply packed.
-/
import Derived.Test.YtkidahlhnhglfaaPcItRec
namespace Go.Proofs.Ytkidahlhnhglfaa
open Go.RowKit

set_option maxHeartbeats 4000000 in
theorem reply_any (r : RepL) (p : Option Addr) (cap : Nat) (w : World) (hl : r.ls.length ≤ 1048576) (hp : Recs w p r.ls) : Calls Try.prog 15 #[repV r p cap] w (RetPk w.heap.size (repS r) w) := by
  obtain ⟨c, s, er, fd, v, ls, nx, mr⟩ := r
  have C0 := Lib.hid (show ∀ w1, Calls Try.prog 29 #[.int .i64 32768] w1 _ from fun w1 => pcNew_any w1 32768)
  have HF := Lib.hid (show ∀ e w', RetPk w.heap.size (truthS 32768 (textsS 32768 (recsS (repS0 ⟨c, s, er, fd, v, ls, nx, mr⟩) ls) [nx]) mr) w e w' → RetPk w.heap.size (repS ⟨c, s, er, fd, v, ls, nx, mr⟩) w e w' from fun _ _ h => h)
  have HS0 := Lib.hid (show numsS 32768 (textsS 32768 (truthS 32768 (numsS 32768 (some []) [c, s, er]) fd) [v]) [(ls.length : Int)] = repS0 ⟨c, s, er, fd, v, ls, nx, mr⟩ from rfl)
  generalize repS ⟨c, s, er, fd, v, ls, nx, mr⟩ = R at HF ⊢
  generalize repS0 ⟨c, s, er, fd, v, ls, nx, mr⟩ = S0 at HF HS0
  unfold repV
  simp only at hl hp ⊢
  have HLL := Lib.hid hl
  have HP := Lib.hid hp
  obtain ⟨n, hN⟩ : ∃ n, ls.length = n := ⟨_, rfl⟩
  rw [hN] at hl HS0 ⊢
  have HN := Lib.hid hN
  clear hp hN
  go_enter Try.func15, Try.ntmps15
  go_wp2_with fail
  obtain ⟨W0, hW0⟩ : ∃ W0, w.alloc (.cells #[.int .i64 c, .int .i64 s, .int .i64 er, .bool fd, .string (strB v), .slice p n cap, .string (strB nx), .bool mr] 37) = W0 := ⟨_, rfl⟩
  rw [hW0]
  have hz0 : W0.heap.size = w.heap.size + 1 := by rw [← hW0]; simp
  have HC := Lib.hid (show ∀ wr, Below (w.heap.size + 1) W0 wr → ∀ i, wr.cell? ⟨w.heap.size, i, none⟩ = _ from fun wr hb i => box_cells (hW0 ▸ hb) i)
  have HBW := Lib.hid (show Below w.heap.size w W0 by rw [← hW0]; exact (Below.refl _ _).alloc (Nat.le_refl _) _)
  clear hW0
  refine (C0.out W0).mono ?_
  rintro e w1 ⟨rfl, hp1, hb1⟩
  rw [hz0] at hp1 hb1 ⊢
  have c0 := HC.out w1 hb1 0
  have c1 := HC.out w1 hb1 1
  have c2 := HC.out w1 hb1 2
  have HB1 := Lib.hid hb1
  have CN := Lib.hid (nums3 w1 _ _ _ _ c s er (by have := hb1.size; omega) hp1 (by omega))
  clear hp1 hb1
  go_wp2_with fail
  refine CN.out.mono ?_
  rintro e w2 ⟨rfl, hl2⟩
  have HB2 := Lib.hid (HB1.out.trans hl2.bl)
  have c3 := HC.out w2 HB2.out 3
  have CT := Lib.hid (truth_any w2 _ _ _ _ fd (by have := HB2.out.size; omega) hl2.pk (by omega))
  clear hl2 c0 c1 c2
  go_wp2_with fail
  refine CT.out.mono ?_
  rintro e w3 ⟨rfl, hl3⟩
  have HB3 := Lib.hid (HB2.out.trans hl3.bl)
  have c4 := HC.out w3 HB3.out 4
  have CX := Lib.hid (texts1 w3 _ _ _ _ v (by have := HB3.out.size; omega) hl3.pk (by omega))
  clear hl3 c3
  go_wp2_with fail
  refine CX.out.mono ?_
  rintro e w4 ⟨rfl, hl4⟩
  have HB4 := Lib.hid (HB3.out.trans hl4.bl)
  have c5 := HC.out w4 HB4.out 5
  have CI := Lib.hid (itemsRec_any (g := 43) (lb := #[]) (fun _ _ => rfl) (fun st r => textsS 32768 st [r.1, r.2]) w w4 (w.heap.size + 1) (w.heap.size + 1) 32768 _ ls p cap HP.out (HBW.out.trans (HB4.out.mono (by omega))) (by omega) (by have := HB4.out.size; omega) hl4.pk (by omega) (Or.inl (by omega)) HLL.out
    (fun k _ w1 h1 _ h3 => record_any w1 _ _ 32768 _ _ _ h1 h3 (by omega) (Or.inl (by omega))))
  unfold itemsS at CI
  rw [HN.out, HS0.out] at CI
  clear hl4 c4
  go_wp2_with fail
  refine CI.out.mono ?_
  rintro e wr ⟨rfl, hl5⟩
  have HBk := Lib.hid (HB4.out.trans hl5.bl)
  have hpk := hl5.pk
  rw [show List.foldl (fun st (r : RecL) => textsS 32768 st [r.1, r.2]) S0 ls = recsS S0 ls from rfl] at hpk
  clear hl5 c5
  have c6 := HC.out wr HBk.out 6
  have CX2 := Lib.hid (texts1 wr _ _ _ _ nx (by have := HBk.out.size; omega) hpk (by omega))
  clear hpk
  go_wp2_with fail
  refine CX2.out.mono ?_
  rintro e w7 ⟨rfl, hl7⟩
  have HB7 := Lib.hid (HBk.out.trans hl7.bl)
  have c7 := HC.out w7 HB7.out 7
  have CT2 := Lib.hid (truth_any w7 _ _ _ _ mr (by have := HB7.out.size; omega) hl7.pk (by omega))
  clear hl7 c6
  go_wp2_with fail
  refine CT2.out.mono ?_
  rintro e w8 ⟨rfl, hl8⟩
  have HB8 := Lib.hid (HB7.out.trans hl8.bl)
  have CP := Lib.hid (packed_any w8 (w.heap.size + 1) (w.heap.size + 1) 32768 _ hl8.pk)
  clear hl8 c7
  go_wp2_with fail
  refine CP.out.mono ?_
  intro e w9 h9
  have HR := Lib.hid (HF.out _ _ (h9.of (B' := w.heap.size) (w0 := w) (by omega) (HBW.out.trans (HB8.out.mono (by omega)))))
  obtain ⟨v9, he9, -, -⟩ := h9
  subst he9
  go_wp2_with fail
  go_ret2
  exact HR.out
end Go.Proofs.Ytkidahlhnhglfaa
