/-
  Layer lease: the reference's Later.
-/
import Derived.Test.YtohomnfededglaaLsMade
namespace Go.Proofs.Ytohomnfededglaa
open Go.RowKit Go.Gz

set_option maxHeartbeats 4000000 in
theorem refLater_any (a b : Lz) (w : World) : Calls Try.prog 19 #[a.val, b.val] w fun e w' => e = .returned (laterZ a b).val ∧ Below w.heap.size w w' := by
  have mx : Try.prog.follows .mixedOrders = true := by kernel_rfl
  obtain ⟨w0, hw0⟩ : ∃ w0, ((w.alloc (.cells #[.int .i64 a.e, .int .i64 a.s, .int .i64 a.f] 23)).alloc (.cells #[.int .i64 b.e, .int .i64 b.s, .int .i64 b.f] 23)).alloc (.cells #[.int .i64 0, .int .i64 0, .int .i64 0] 23) = w0 := ⟨_, rfl⟩
  have HB0 := Lib.hid (show Below w.heap.size w w0 from hw0 ▸ (((Below.refl _ _).alloc (Nat.le_refl _) _).alloc (by simp) _).alloc (by simp; omega) _)
  have HNA := Lib.hid (show BoxZ w0 w.heap.size a from hw0 ▸ ((BoxZ.new w a _).below (below_new _ _)).below (below_new _ _))
  have HNB := Lib.hid (show BoxZ w0 (w.heap.size + 1) b by
    have := (BoxZ.new (w.alloc (.cells #[.int .i64 a.e, .int .i64 a.s, .int .i64 a.f] 23)) b 23).below (below_new _ (.cells #[.int .i64 0, .int .i64 0, .int .i64 0] 23))
    rw [hw0] at this
    simpa using this)
  have HFR := Lib.hid (show FreeZ w0 (w.heap.size + 2) by
    have := FreeZ.new ((w.alloc (.cells #[.int .i64 a.e, .int .i64 a.s, .int .i64 a.f] 23)).alloc (.cells #[.int .i64 b.e, .int .i64 b.s, .int .i64 b.f] 23)) 23
    rw [hw0] at this
    simpa using this)
  have CA := Lib.hid (fun pw : BelowOf w0 => Calls.below_of pw (refMay_any a pw.w'))
  have CB := Lib.hid (fun pw : BelowOf w0 => Calls.below_of pw (refMay_any b pw.w'))
  have HL := Lib.hid (show laterZ a b = if !mayZ a && !mayZ b then noneZ else if !mayZ b then a else if !mayZ a || beforeZ a b then b else a from rfl)
  have HWA := Lib.hid (show mayZ a = true → IntKind.i64.wrap (a.s + a.f) = a.s + a.f from fun h => by obtain ⟨h1, h2, h3, h4, h5⟩ := (mayZ_iff _).1 h; exact IntWalk.i64_in _ (by omega))
  have HWB := Lib.hid (show mayZ b = true → IntKind.i64.wrap (b.s + b.f) = b.s + b.f from fun h => by obtain ⟨h1, h2, h3, h4, h5⟩ := (mayZ_iff _).1 h; exact IntWalk.i64_in _ (by omega))
  obtain ⟨ma, hma⟩ : ∃ m, mayZ a = m := ⟨_, rfl⟩
  obtain ⟨mb, hmb⟩ : ∃ m, mayZ b = m := ⟨_, rfl⟩
  rw [hma] at CA HL HWA
  rw [hmb] at CB HL HWB
  clear hma hmb
  unfold Lz.val at *
  obtain ⟨k1, xa0, xa1, xa2⟩ := HNA.out
  obtain ⟨k2, xb0, xb1, xb2⟩ := HNB.out
  have f0 := fun pw : BelowOf w0 => pw.cell (a := ⟨w.heap.size, 0, none⟩) k1 xa0
  have f1 := fun pw : BelowOf w0 => pw.cell (a := ⟨w.heap.size, 1, none⟩) k1 xa1
  have f2 := fun pw : BelowOf w0 => pw.cell (a := ⟨w.heap.size, 2, none⟩) k1 xa2
  have g0 := fun pw : BelowOf w0 => pw.cell (a := ⟨w.heap.size + 1, 0, none⟩) k2 xb0
  have g1 := fun pw : BelowOf w0 => pw.cell (a := ⟨w.heap.size + 1, 1, none⟩) k2 xb1
  have g2 := fun pw : BelowOf w0 => pw.cell (a := ⟨w.heap.size + 1, 2, none⟩) k2 xb2
  clear xa0 xa1 xa2 xb0 xb1 xb2
  go_enter Try.func19, Try.ntmps19
  go_wp2_with fail
  refine wp_region_quiet_below (by assumption) (by kernel_rfl) ?_
  repeat (go_big_quiet_step (first | (with_reducible exact CA.out _) | (with_reducible exact CB.out _)))
  refine wpQuiet_nil ?_
  intro wq hw'
  obtain ⟨⟨w1, hbq⟩, hw''⟩ := hw'
  obtain rfl : wq = w1 := hw''
  have H1 := Lib.hid hbq
  clear hbq f0 f1 f2 g0 g1 g2 CA CB
  obtain ⟨_, xa0, xa1, xa2⟩ := HNA.out.below H1.out
  obtain ⟨_, xb0, xb1, xb2⟩ := HNB.out.below H1.out
  obtain ⟨hfz, _, xr0, xr1, xr2⟩ := HFR.out.below H1.out
  have fz0 := hfz 0 (by omega)
  have fz1 := hfz 1 (by omega)
  have fz2 := hfz 2 (by omega)
  clear hfz
  cases ma
  · cases mb
    · go_wp2_with fail
      refine bodyPost_ret (v := .agg #[.int .i64 0, .int .i64 0, .int .i64 0]) (by simp [results, Try.results19, go_sem, xr0, xr1, xr2]) rfl ⟨?_, putZ_below (l := noneZ) (HB0.out.trans (H1.out.mono HB0.out.size)) (by omega)⟩
      rw [HL.out]
      simp [noneZ]
    · go_wp2_with fail
      refine bodyPost_ret (v := .agg #[.int .i64 b.e, .int .i64 b.s, .int .i64 b.f]) (by simp [results, Try.results19, go_sem, xr0, xr1, xr2]) rfl ⟨?_, putZ_below (l := b) (HB0.out.trans (H1.out.mono HB0.out.size)) (by omega)⟩
      rw [HL.out]
      simp
  · cases mb
    · go_wp2_with fail
      refine bodyPost_ret (v := .agg #[.int .i64 a.e, .int .i64 a.s, .int .i64 a.f]) (by simp [results, Try.results19, go_sem, xr0, xr1, xr2]) rfl ⟨?_, putZ_below (l := a) (HB0.out.trans (H1.out.mono HB0.out.size)) (by omega)⟩
      rw [HL.out]
      simp
    · have hwa := HWA.out (by simp)
      have hwb := HWB.out (by simp)
      have HE := Lib.hid (show beforeZ a b = decide (a.e < b.e ∨ a.e = b.e ∧ a.s + a.f < b.s + b.f) from rfl)
      by_cases h1 : a.e < b.e
      · have hb : beforeZ a b = true := by rw [HE.out]; exact decide_eq_true (Or.inl h1)
        go_wp2_with fail
        refine bodyPost_ret (v := .agg #[.int .i64 b.e, .int .i64 b.s, .int .i64 b.f]) (by simp [results, Try.results19, go_sem, xr0, xr1, xr2]) rfl ⟨?_, putZ_below (l := b) (HB0.out.trans (H1.out.mono HB0.out.size)) (by omega)⟩
        rw [HL.out]
        simp [hb]
      · by_cases h2 : a.e = b.e
        · have H2 := Lib.hid h2
          have h2' : b.e = a.e := h2.symm
          clear h2
          by_cases h3 : a.s + a.f < b.s + b.f
          · have hb : beforeZ a b = true := by rw [HE.out]; exact decide_eq_true (Or.inr ⟨H2.out, h3⟩)
            go_wp2_with fail
            refine bodyPost_ret (v := .agg #[.int .i64 a.e, .int .i64 b.s, .int .i64 b.f]) (by simp [results, Try.results19, go_sem, xr0, xr1, xr2]) rfl ⟨?_, putZ_below (l := ⟨a.e, b.s, b.f⟩) (HB0.out.trans (H1.out.mono HB0.out.size)) (by omega)⟩
            rw [HL.out]
            simp [hb, H2.out]
          · have hb : beforeZ a b = false := by rw [HE.out]; exact decide_eq_false (by omega)
            go_wp2_with fail
            refine bodyPost_ret (v := .agg #[.int .i64 a.e, .int .i64 a.s, .int .i64 a.f]) (by simp [results, Try.results19, go_sem, xr0, xr1, xr2]) rfl ⟨?_, putZ_below (l := a) (HB0.out.trans (H1.out.mono HB0.out.size)) (by omega)⟩
            rw [HL.out]
            simp [hb]
        · have h2' : ¬ b.e = a.e := fun h => h2 h.symm
          have hb : beforeZ a b = false := by rw [HE.out]; exact decide_eq_false (by omega)
          clear h2
          go_wp2_with fail
          refine bodyPost_ret (v := .agg #[.int .i64 a.e, .int .i64 a.s, .int .i64 a.f]) (by simp [results, Try.results19, go_sem, xr0, xr1, xr2]) rfl ⟨?_, putZ_below (l := a) (HB0.out.trans (H1.out.mono HB0.out.size)) (by omega)⟩
          rw [HL.out]
          simp [hb]
end Go.Proofs.Ytohomnfededglaa
