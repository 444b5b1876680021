/-
  Layer lease: Later, the reference's, and the law's Made.
-/
import Derived.Test.YtohomnfededglaaLsLater
namespace Go.Proofs.Ytohomnfededglaa
open Go.RowKit Go.Gz

set_option maxHeartbeats 1000000 in
theorem made_any (l : Lz) (w : World) : Calls Try.prog 9 #[l.val] w fun e w' => e = .returned l.val ∧ Below w.heap.size w w' := by
  obtain ⟨x, y, z⟩ := l
  unfold Lz.val
  go_enter Try.func9, Try.ntmps9
  go_wp2_with fail
  refine bodyPost_ret (v := .agg #[.int .i64 x, .int .i64 y, .int .i64 z]) (by simp [results, Try.results9, go_sem]) rfl ⟨rfl, ?_⟩
  exact ((Below.refl _ _).alloc (Nat.le_refl _) _).alloc (by simp) _

/-- the result's cells of Later. -/
def FreeZ (W : World) (b : Nat) : Prop := (∀ i, i < 3 → W.frozen? ⟨b, i, none⟩ = false) ∧ BoxZ W b noneZ
theorem FreeZ.below {W w : World} {b : Nat} (h : FreeZ W b) (hb : Below W.heap.size W w) : FreeZ w b :=
  ⟨fun i hi => by rw [hb.frozen (p := ⟨b, i, none⟩) h.2.1]; exact h.1 i hi, h.2.below hb⟩
theorem FreeZ.new (w : World) (t : TypeId) : FreeZ (w.alloc (.cells #[.int .i64 0, .int .i64 0, .int .i64 0] t)) w.heap.size :=
  ⟨fun i _ => by simp [go_sem], BoxZ.new w noneZ t⟩
/-- the store of a lease. -/
def putZ (W : World) (b : Nat) (l : Lz) : World := ((W.setCell ⟨b, 0, none⟩ (.int .i64 l.e)).setCell ⟨b, 1, none⟩ (.int .i64 l.s)).setCell ⟨b, 2, none⟩ (.int .i64 l.f)
theorem putZ_below {W w : World} {b n : Nat} {l : Lz} (h : Below n w W) (hb : n ≤ b) : Below n w (putZ W b l) := ((h.setCell hb _).setCell hb _).setCell hb _
theorem putZ_cells {W : World} {b : Nat} {l : Lz} (h : FreeZ W b) : BoxZ (putZ W b l) b l := by
  obtain ⟨hf, h0, h1, h2, h3⟩ := h
  unfold putZ
  refine ⟨by simpa using h0, ?_, ?_, ?_⟩
  · simp [go_sem, h1]
  · simp [go_sem, h2]
  · simp [go_sem, h3]

set_option maxHeartbeats 4000000 in
theorem later_any (a b : Lz) (w : World) : Calls Try.prog 10 #[a.val, b.val] w fun e w' => e = .returned (laterZ a b).val ∧ Below w.heap.size w w' := by
  obtain ⟨w0, hw0⟩ : ∃ w0, ((w.alloc (.cells #[.int .i64 a.e, .int .i64 a.s, .int .i64 a.f] 26)).alloc (.cells #[.int .i64 b.e, .int .i64 b.s, .int .i64 b.f] 26)).alloc (.cells #[.int .i64 0, .int .i64 0, .int .i64 0] 26) = w0 := ⟨_, rfl⟩
  have B1 := below_new w (.cells #[.int .i64 a.e, .int .i64 a.s, .int .i64 a.f] 26)
  have HB0 := Lib.hid (show Below w.heap.size w w0 from hw0 ▸ (((Below.refl _ _).alloc (Nat.le_refl _) _).alloc (by simp) _).alloc (by simp; omega) _)
  have HNA := Lib.hid (show BoxZ w0 w.heap.size a from hw0 ▸ ((BoxZ.new w a _).below (below_new _ _)).below (below_new _ _))
  have HNB := Lib.hid (show BoxZ w0 (w.heap.size + 1) b by
    have := (BoxZ.new (w.alloc (.cells #[.int .i64 a.e, .int .i64 a.s, .int .i64 a.f] 26)) b 26).below (below_new _ (.cells #[.int .i64 0, .int .i64 0, .int .i64 0] 26))
    rw [hw0] at this
    simpa using this)
  have HFR := Lib.hid (show FreeZ w0 (w.heap.size + 2) by
    have := FreeZ.new ((w.alloc (.cells #[.int .i64 a.e, .int .i64 a.s, .int .i64 a.f] 26)).alloc (.cells #[.int .i64 b.e, .int .i64 b.s, .int .i64 b.f] 26)) 26
    rw [hw0] at this
    simpa using this)
  clear B1
  have CA := Lib.hid (fun w => may_any a w)
  have CB := Lib.hid (fun w => may_any b w)
  have CC := Lib.hid (fun ha hb p c w hT => compare_any a b ha hb p c w hT)
  have HL := Lib.hid (show laterZ a b = if !mayZ a && !mayZ b then noneZ else if !mayZ b then a else if !mayZ a || decide (cmpZ a b < 0) then b else a by rw [cmpZ_lt]; rfl)
  obtain ⟨z, hz⟩ : ∃ z, cmpZ a b = z := ⟨_, rfl⟩
  simp only [hz] at HL CC
  clear hz
  obtain ⟨ma, hma⟩ : ∃ m, mayZ a = m := ⟨_, rfl⟩
  obtain ⟨mb, hmb⟩ : ∃ m, mayZ b = m := ⟨_, rfl⟩
  rw [hma] at CA CC HL
  rw [hmb] at CB CC HL
  clear hma hmb
  unfold Lz.val at *
  go_enter Try.func10, Try.ntmps10
  obtain ⟨_, xa0, xa1, xa2⟩ := HNA.out
  obtain ⟨_, xb0, xb1, xb2⟩ := HNB.out
  go_wp2_with fail
  refine (CA.out _).mono ?_
  rintro e w1 ⟨rfl, hb1⟩
  have H1 := Lib.hid hb1
  clear hb1 xa0 xa1 xa2 xb0 xb1 xb2
  obtain ⟨_, xa0, xa1, xa2⟩ := HNA.out.below H1.out
  obtain ⟨_, xb0, xb1, xb2⟩ := HNB.out.below H1.out
  cases ma
  · go_wp2_with fail
    refine (CB.out _).mono ?_
    rintro e w2 ⟨rfl, hb2⟩
    have H2 := Lib.hid (H1.out.trans (hb2.mono H1.out.size))
    clear hb2 xa0 xa1 xa2 xb0 xb1 xb2
    obtain ⟨_, xa0, xa1, xa2⟩ := HNA.out.below H2.out
    obtain ⟨_, xb0, xb1, xb2⟩ := HNB.out.below H2.out
    obtain ⟨hfz, _, xr0, xr1, xr2⟩ := HFR.out.below H2.out
    have fz0 := hfz 0 (by omega)
    have fz1 := hfz 1 (by omega)
    have fz2 := hfz 2 (by omega)
    clear hfz
    cases mb
    · go_wp2_with fail
      refine bodyPost_ret (v := .agg #[.int .i64 0, .int .i64 0, .int .i64 0]) (by simp [results, Try.results10, go_sem, xr0, xr1, xr2]) rfl ⟨?_, putZ_below (l := noneZ) (HB0.out.trans (H2.out.mono HB0.out.size)) (by omega)⟩
      rw [HL.out]
      simp [noneZ]
    · go_wp2_with fail
      refine (CB.out _).mono ?_
      rintro e w3 ⟨rfl, hb3⟩
      have H3 := Lib.hid (H2.out.trans (hb3.mono H2.out.size))
      clear hb3 xa0 xa1 xa2 xb0 xb1 xb2
      clear xr0 xr1 xr2 fz0 fz1 fz2
      obtain ⟨_, xa0, xa1, xa2⟩ := HNA.out.below H3.out
      obtain ⟨_, xb0, xb1, xb2⟩ := HNB.out.below H3.out
      obtain ⟨hfz, _, xr0, xr1, xr2⟩ := HFR.out.below H3.out
      have fz0 := hfz 0 (by omega)
      have fz1 := hfz 1 (by omega)
      have fz2 := hfz 2 (by omega)
      clear hfz
      go_wp2_with fail
      refine (CA.out _).mono ?_
      rintro e w4 ⟨rfl, hb4⟩
      have H4 := Lib.hid (H3.out.trans (hb4.mono H3.out.size))
      clear hb4 xa0 xa1 xa2 xb0 xb1 xb2
      clear xr0 xr1 xr2 fz0 fz1 fz2
      obtain ⟨_, xa0, xa1, xa2⟩ := HNA.out.below H4.out
      obtain ⟨_, xb0, xb1, xb2⟩ := HNB.out.below H4.out
      obtain ⟨hfz, _, xr0, xr1, xr2⟩ := HFR.out.below H4.out
      have fz0 := hfz 0 (by omega)
      have fz1 := hfz 1 (by omega)
      have fz2 := hfz 2 (by omega)
      clear hfz
      go_wp2_with fail
      refine bodyPost_ret (v := .agg #[.int .i64 b.e, .int .i64 b.s, .int .i64 b.f]) (by simp [results, Try.results10, go_sem, xr0, xr1, xr2]) rfl ⟨?_, putZ_below (l := b) (HB0.out.trans (H4.out.mono HB0.out.size)) (by omega)⟩
      rw [HL.out]
      simp
  · go_wp2_with fail
    refine (CB.out _).mono ?_
    rintro e w2 ⟨rfl, hb2⟩
    have H2 := Lib.hid (H1.out.trans (hb2.mono H1.out.size))
    clear hb2 xa0 xa1 xa2 xb0 xb1 xb2
    obtain ⟨_, xa0, xa1, xa2⟩ := HNA.out.below H2.out
    obtain ⟨_, xb0, xb1, xb2⟩ := HNB.out.below H2.out
    obtain ⟨hfz, _, xr0, xr1, xr2⟩ := HFR.out.below H2.out
    have fz0 := hfz 0 (by omega)
    have fz1 := hfz 1 (by omega)
    have fz2 := hfz 2 (by omega)
    clear hfz
    cases mb
    · go_wp2_with fail
      refine bodyPost_ret (v := .agg #[.int .i64 a.e, .int .i64 a.s, .int .i64 a.f]) (by simp [results, Try.results10, go_sem, xr0, xr1, xr2]) rfl ⟨?_, putZ_below (l := a) (HB0.out.trans (H2.out.mono HB0.out.size)) (by omega)⟩
      rw [HL.out]
      simp
    · go_wp2_with fail
      refine (CA.out _).mono ?_
      rintro e w3 ⟨rfl, hb3⟩
      have H3 := Lib.hid (H2.out.trans (hb3.mono H2.out.size))
      clear hb3 xa0 xa1 xa2 xb0 xb1 xb2
      clear xr0 xr1 xr2 fz0 fz1 fz2
      obtain ⟨_, xa0, xa1, xa2⟩ := HNA.out.below H3.out
      obtain ⟨_, xb0, xb1, xb2⟩ := HNB.out.below H3.out
      obtain ⟨hfz, _, xr0, xr1, xr2⟩ := HFR.out.below H3.out
      have fz0 := hfz 0 (by omega)
      have fz1 := hfz 1 (by omega)
      have fz2 := hfz 2 (by omega)
      clear hfz
      go_wp2_with fail
      refine (CC.out (by simp) (by simp) _ _ _ ⟨w3.heap.size, rfl, by simp, by simp, by simp⟩).mono ?_
      rintro e w4 ⟨rfl, hb4⟩
      have H4 := Lib.hid (H3.out.trans (((below_new w3 _).trans (hb4.mono (by simp))).mono H3.out.size))
      clear hb4 xa0 xa1 xa2 xb0 xb1 xb2 xr0 xr1 xr2 fz0 fz1 fz2
      obtain ⟨_, xa0, xa1, xa2⟩ := HNA.out.below H4.out
      obtain ⟨_, xb0, xb1, xb2⟩ := HNB.out.below H4.out
      obtain ⟨hfz, _, xr0, xr1, xr2⟩ := HFR.out.below H4.out
      have fz0 := hfz 0 (by omega)
      have fz1 := hfz 1 (by omega)
      have fz2 := hfz 2 (by omega)
      clear hfz
      by_cases hlt : z < 0
      · go_wp2_with fail
        refine bodyPost_ret (v := .agg #[.int .i64 b.e, .int .i64 b.s, .int .i64 b.f]) (by simp [results, Try.results10, go_sem, xr0, xr1, xr2]) rfl ⟨?_, putZ_below (l := b) (HB0.out.trans (H4.out.mono HB0.out.size)) (by omega)⟩
        rw [HL.out]
        simp [hlt]
      · go_wp2_with fail
        refine bodyPost_ret (v := .agg #[.int .i64 a.e, .int .i64 a.s, .int .i64 a.f]) (by simp [results, Try.results10, go_sem, xr0, xr1, xr2]) rfl ⟨?_, putZ_below (l := a) (HB0.out.trans (H4.out.mono HB0.out.size)) (by omega)⟩
        rw [HL.out]
        simp [if_neg (show ¬ z < 0 by omega)]

end Go.Proofs.Ytohomnfededglaa
