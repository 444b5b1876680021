/-
  Layer parcel: an ask packed.
-/
import Derived.Test.YtkidahlhnhglfaaPcTexts
namespace Go.Proofs.Ytkidahlhnhglfaa
open Go.RowKit

/-- an ask. -/
structure AskL where
  d : Int
  c : Int
  s : Int
  t : List UInt8
  v : List UInt8
  f : List UInt8
  u : List UInt8
  m : Int
def askCells (a : AskL) : Array Value := #[.int .i64 a.d, .int .i64 a.c, .int .i64 a.s, .string (strB a.t), .string (strB a.v), .string (strB a.f), .string (strB a.u), .int .i64 a.m]
def askV (a : AskL) : Value := .agg #[.int .i64 a.d, .int .i64 a.c, .int .i64 a.s, .string (strB a.t), .string (strB a.v), .string (strB a.f), .string (strB a.u), .int .i64 a.m]
def askS (a : AskL) : Option (List UInt8) := textsS 32768 (numsS 32768 (some []) [a.d, a.c, a.s, a.m]) [a.t, a.v, a.f, a.u]

/-- the cells of a block, in what grew out of its world. -/
theorem box_cells {w wr : World} {c : Array Value} {t : TypeId} (hb : Below (w.heap.size + 1) (w.alloc (.cells c t)) wr) (i : Nat) : wr.cell? ⟨w.heap.size, i, none⟩ = c[i]? := by
  rw [hb.cell (p := ⟨w.heap.size, i, none⟩) (by show w.heap.size < w.heap.size + 1; omega)]
  have : (w.alloc (.cells c t)).heap[w.heap.size]? = some (.cells c t (0, 0)) := by
    show (w.heap.push _)[w.heap.size]? = _
    simp
  exact cell_at this i

theorem RetPk.of {B B' : Nat} {st : Option (List UInt8)} {w w0 : World} {e : Ending} {w' : World} (h : RetPk B st w e w') (hB : B' ≤ B) (hb : Below B' w0 w) : RetPk B' st w0 e w' := by
  obtain ⟨v, h1, h2, h3⟩ := h
  refine ⟨v, h1, ?_, hb.trans (h3.mono hB)⟩
  obtain ⟨h4, h5 | ⟨g, cap, cur, e, hg, r⟩⟩ := h2
  · exact ⟨h4, Or.inl h5⟩
  · exact ⟨h4, Or.inr ⟨g, cap, cur, e, by omega, r⟩⟩

set_option maxHeartbeats 2000000 in
theorem ask_any (a : AskL) (w : World) : Calls Try.prog 14 #[askV a] w (RetPk w.heap.size (askS a) w) := by
  obtain ⟨d, c, s, t, v, f, u, m⟩ := a
  have C0 := Lib.hid (show ∀ w1, Calls Try.prog 29 #[.int .i64 32768] w1 _ from fun w1 => pcNew_any w1 32768)
  have HF := Lib.hid (show ∀ e w', RetPk w.heap.size (textsS 32768 (numsS 32768 (some []) [d, c, s, m]) [t, v, f, u]) w e w' → RetPk w.heap.size (askS ⟨d, c, s, t, v, f, u, m⟩) w e w' from fun _ _ h => h)
  generalize askS ⟨d, c, s, t, v, f, u, m⟩ = R at HF ⊢
  unfold askV
  go_enter Try.func14, Try.ntmps14
  go_wp2_with fail
  obtain ⟨W0, hW0⟩ : ∃ W0, w.alloc (.cells #[.int .i64 d, .int .i64 c, .int .i64 s, .string (strB t), .string (strB v), .string (strB f), .string (strB u), .int .i64 m] 34) = W0 := ⟨_, rfl⟩
  rw [hW0]
  have hz0 : W0.heap.size = w.heap.size + 1 := by rw [← hW0]; simp
  have HC := Lib.hid (show ∀ wr, Below (w.heap.size + 1) W0 wr → ∀ i, wr.cell? ⟨w.heap.size, i, none⟩ = _ from fun wr hb i => box_cells (hW0 ▸ hb) i)
  have HBW := Lib.hid (show Below w.heap.size w W0 by rw [← hW0]; exact (Below.refl _ _).alloc (Nat.le_refl _) _)
  clear hW0
  refine (C0.out W0).mono ?_
  rintro e w1 ⟨rfl, hp1, hb1⟩
  rw [hz0] at hp1 hb1 ⊢
  have c0 := HC.out w1 hb1 0
  have c1 := HC.out w1 hb1 1
  have c2 := HC.out w1 hb1 2
  have c7 := HC.out w1 hb1 7
  have HL1 := Lib.hid ((Laid.refl hp1).alloc (by have := hb1.size; omega) (.cells #[.int .i64 d, .int .i64 c, .int .i64 s, .int .i64 m] 3))
  have HB1 := Lib.hid hb1
  have CN := Lib.hid (numbers_any (w1.alloc (.cells #[.int .i64 d, .int .i64 c, .int .i64 s, .int .i64 m] 3)) (w.heap.size + 1) (w.heap.size + 1) 32768 w1.heap.size (some []) [d, c, s, m] (by have := HL1.out.bl.size; have := HB1.out.size; omega) HL1.out.pk (by omega) (Or.inl (by omega)) (by show (w1.heap.push _)[w1.heap.size]? = _; simp) (by simp) : Calls Try.prog 40 #[.pointer (some ⟨w.heap.size + 1, 0, none⟩), .slice (some ⟨w1.heap.size, 0, none⟩) 4 4] _ _)
  clear hp1 hb1
  go_wp2_with fail
  refine CN.out.mono ?_
  rintro e w2 ⟨rfl, hl2⟩
  have hl3 := HL1.out.trans hl2
  have hb2 := HB1.out.trans hl3.bl
  have c3 := HC.out w2 hb2 3
  have c4 := HC.out w2 hb2 4
  have c5 := HC.out w2 hb2 5
  have c6 := HC.out w2 hb2 6
  obtain ⟨S1, hS1⟩ : ∃ S1, numsS 32768 (some []) [d, c, s, m] = S1 := ⟨_, rfl⟩
  rw [hS1] at hl3
  have HL2 := Lib.hid ((Laid.refl hl3.pk).alloc (by have := hb2.size; omega) (.cells #[.string (strB t), .string (strB v), .string (strB f), .string (strB u)] 9))
  have HB2 := Lib.hid hb2
  have HS1 := Lib.hid hS1
  have CT := Lib.hid (texts_any (w2.alloc (.cells #[.string (strB t), .string (strB v), .string (strB f), .string (strB u)] 9)) (w.heap.size + 1) (w.heap.size + 1) 32768 w2.heap.size S1 [t, v, f, u] (by have := HL2.out.bl.size; have := HB2.out.size; omega) HL2.out.pk (by omega) (Or.inl (by omega)) (by show (w2.heap.push _)[w2.heap.size]? = _; simp) (by simp) : Calls Try.prog 32 #[.pointer (some ⟨w.heap.size + 1, 0, none⟩), .slice (some ⟨w2.heap.size, 0, none⟩) 4 4] _ _)
  clear hl2 hl3 hb2 hS1 c0 c1 c2 c7
  go_wp2_with fail
  refine CT.out.mono ?_
  rintro e w3 ⟨rfl, hl4⟩
  have HL4 := Lib.hid (HL2.out.trans hl4)
  have CP := Lib.hid (packed_any w3 (w.heap.size + 1) (w.heap.size + 1) 32768 _ HL4.out.pk)
  clear hl4 c3 c4 c5 c6
  go_wp2_with fail
  refine CP.out.mono ?_
  intro e w4 h4
  have HR := Lib.hid (HF.out _ _ (HS1.out ▸ h4.of (B' := w.heap.size) (w0 := w) (by omega) (HBW.out.trans ((HB2.out.trans HL4.out.bl).mono (by omega)))))
  obtain ⟨v4, he4, -, -⟩ := h4
  subst he4
  go_wp2_with fail
  go_ret2
  exact HR.out
end Go.Proofs.Ytkidahlhnhglfaa
