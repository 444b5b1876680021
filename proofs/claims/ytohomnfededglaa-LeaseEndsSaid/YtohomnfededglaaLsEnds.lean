/-
  Layer lease: the walk of LeaseEnds.
-/
import Derived.Test.YtohomnfededglaaLsAwake
import Derived.BigQuiet
namespace Go.Proofs.Ytohomnfededglaa
open Go.RowKit Go.Gz

/-- the clock that differs. -/
def diffZ (k o : Int) : Int := if k < (if o < -k then -k else o) then k else if o < -k then -k else o
theorem diffZ_bounds {k o : Int} (h : 0 ≤ k) : -k ≤ diffZ k o ∧ diffZ k o ≤ k := by
  unfold diffZ
  repeat' split
  all_goals omega
structure EndsZ (a : Lz) (n k d : Int) : Prop where
  h0 : holdsZ a n = false
  h1 : holdsZ a (n + d) = false
  h2 : holdsZ a (n + k) = false
  l : leftZ a n = 0
  s : safeZ a (n + 1) k = true
theorem ends_of {a : Lz} {n k d : Int} (hk : 0 ≤ k) (hk2 : k ≤ 32767) (hd : -k ≤ d) (h : safeZ a n k = true) (hm : mayZ a = true) : EndsZ a n k d := by
  have hc : clampZ k = k := by unfold clampZ; rw [if_neg (by omega), if_neg (by omega)]
  unfold safeZ at h
  rw [hm, hc] at h
  simp at h
  have e0 : holdsZ a n = false := by unfold holdsZ; simp; omega
  refine ⟨e0, by unfold holdsZ; simp; omega, by unfold holdsZ; simp; omega, by unfold leftZ; simp [e0], by unfold safeZ; rw [hc]; simp; omega⟩
structure FirstZ (a : Lz) : Prop where
  l : leftZ a a.s = a.f
  h : holdsZ a (a.s + a.f - 1) = true
  n : holdsZ a (a.s - 1) = false
theorem first_of {a : Lz} (hm : mayZ a = true) : FirstZ a := by
  obtain ⟨h1, h2, h3, h4, h5⟩ := (mayZ_iff _).1 hm
  refine ⟨?_, by unfold holdsZ; rw [hm]; simp; omega, by unfold holdsZ; simp; omega⟩
  unfold leftZ holdsZ
  rw [hm]
  simp
  omega

set_option maxHeartbeats 8000000 in
theorem ends_any (a : Lz) (n k o : Int) (hn0 : 0 ≤ n) (hn1 : n ≤ 4294967295) (hk0 : 0 ≤ k) (hk1 : k ≤ 32767) (ho0 : -32768 ≤ o) (ho1 : o ≤ 32767) (w : World) : Calls Try.prog 20 #[a.val, .int .i64 n, .int .i64 k, .int .i64 o] w fun e w' => e = .returned (.bool true) ∧ Below w.heap.size w w' := by
  have mx : Try.prog.follows .mixedOrders = true := by kernel_rfl
  obtain ⟨w0, hw0⟩ : ∃ w0, w.alloc (.cells #[.int .i64 a.e, .int .i64 a.s, .int .i64 a.f] 23) = w0 := ⟨_, rfl⟩
  have HB0 := Lib.hid (show Below w.heap.size w w0 from hw0 ▸ below_new _ _)
  have HN := Lib.hid (show BoxZ w0 w.heap.size a from hw0 ▸ BoxZ.new w a _)
  have CA := Lib.hid (fun w => awake_yes w)
  have CM := Lib.hid (fun w => refMay_any a w)
  have CD := Lib.hid (fun w => made_any a w)
  have CS := Lib.hid (fun w => safe_any a n k w)
  have CH := Lib.hid (fun w => holds_any a n w)
  have HM := Lib.hid (show ∀ m, mayZ a = m → mayZ a = m from fun _ h => h)
  obtain ⟨m, hm⟩ : ∃ m, mayZ a = m := ⟨_, rfl⟩
  rw [hm] at CM
  have HM := Lib.hid hm
  clear hm
  unfold Lz.val at *
  go_enter Try.func20, Try.ntmps20
  obtain ⟨_, x0, x1, x2⟩ := HN.out
  go_wp2_with fail
  refine (CM.out _).mono ?_
  rintro e1 w1 ⟨rfl, hb1⟩
  have H1 := Lib.hid hb1
  clear hb1 x0 x1 x2
  obtain ⟨_, x0, x1, x2⟩ := HN.out.below H1.out
  cases m
  · have hs : safeZ a n k = true := by unfold safeZ; rw [HM.out]; rfl
    have hh : holdsZ a n = false := by unfold holdsZ; rw [HM.out]; rfl
    rw [hs] at CS
    rw [hh] at CH
    clear hs hh
    go_wp2_with fail
    refine (CA.out _).mono ?_
    rintro e2 w2 ⟨rfl, hb2⟩
    have H2 := Lib.hid (H1.out.trans (hb2.mono H1.out.size))
    clear hb2 x0 x1 x2
    obtain ⟨_, x0, x1, x2⟩ := HN.out.below H2.out
    go_wp2_with fail
    refine (CD.out _).mono ?_
    rintro e3 w3 ⟨rfl, hb3⟩
    have H3 := Lib.hid (H2.out.trans (hb3.mono H2.out.size))
    clear hb3 x0 x1 x2
    obtain ⟨_, x0, x1, x2⟩ := HN.out.below H3.out
    go_wp2_with fail
    refine (CS.out _).mono ?_
    rintro e4 w4 ⟨rfl, hb4⟩
    have H4 := Lib.hid (H3.out.trans (hb4.mono H3.out.size))
    clear hb4 x0 x1 x2
    obtain ⟨_, x0, x1, x2⟩ := HN.out.below H4.out
    go_wp2_with fail
    refine (CD.out _).mono ?_
    rintro e5 w5 ⟨rfl, hb5⟩
    have H5 := Lib.hid (H4.out.trans (hb5.mono H4.out.size))
    clear hb5 x0 x1 x2
    obtain ⟨_, x0, x1, x2⟩ := HN.out.below H5.out
    go_wp2_with fail
    refine (CH.out _).mono ?_
    rintro e6 w6 ⟨rfl, hb6⟩
    have H6 := Lib.hid (H5.out.trans (hb6.mono H5.out.size))
    clear hb6 x0 x1 x2
    obtain ⟨_, x0, x1, x2⟩ := HN.out.below H6.out
    go_wp2_with fail
    go_ret
    exact ⟨rfl, HB0.out.trans (H6.out.mono HB0.out.size)⟩
  · obtain ⟨hb1, hb2⟩ := diffZ_bounds (o := o) hk0
    obtain ⟨d, hd⟩ : ∃ d, diffZ k o = d := ⟨_, rfl⟩
    rw [hd] at hb1 hb2
    have HE := Lib.hid (fun h => ends_of (a := a) (n := n) hk0 hk1 hb1 h HM.out)
    have HF := Lib.hid (first_of HM.out)
    have HBW := Lib.hid (show 0 ≤ a.s ∧ a.s ≤ 1099511627776 ∧ 1 ≤ a.f ∧ a.f ≤ 1099511627776 from ((mayZ_iff _).1 HM.out).2)
    have C1 := Lib.hid (fun w => holds_any a (n + d) w)
    have C2 := Lib.hid (fun w => holds_any a (n + k) w)
    have C3 := Lib.hid (fun w => left_any a n w)
    have C4 := Lib.hid (fun w => safe_any a (n + 1) k w)
    obtain ⟨s, hs⟩ : ∃ s, safeZ a n k = s := ⟨_, rfl⟩
    rw [hs] at CS HE
    clear hs
    unfold Lz.val at *
    go_wp2_with fail
    refine (CD.out _).mono ?_
    rintro e2 w2 ⟨rfl, hb2'⟩
    have H2 := Lib.hid (H1.out.trans (hb2'.mono H1.out.size))
    clear hb2' x0 x1 x2
    obtain ⟨w3, hw3⟩ : ∃ w3, w2.alloc (.cells #[.int .i64 a.e, .int .i64 a.s, .int .i64 a.f] 26) = w3 := ⟨_, rfl⟩
    have H3 := Lib.hid (show Below w0.heap.size w0 w3 from H2.out.trans ((hw3 ▸ below_new w2 _).mono H2.out.size))
    have HL := Lib.hid (show BoxZ w3 w2.heap.size a from hw3 ▸ BoxZ.new w2 a _)
    obtain ⟨_, x0, x1, x2⟩ := HL.out
    have hdd : diffZ k o = d := hd
    unfold diffZ at hdd
    by_cases q1 : o < -k
    · have hq1 : ¬ k < -k := by omega
      obtain rfl : d = -k := by rw [← hdd]; simp only [if_pos q1]; rw [if_neg hq1]
      clear hdd
      have c1 := C1
      have c2 := C2
      have c3 := C3
      have c4 := C4
      have hbw := HBW.out
      cases s
      · go_wp2_with fail
        refine (CS.out _).mono ?_
        rintro e4 w4 ⟨rfl, hb4⟩
        have H4 := Lib.hid hb4
        clear hb4 x0 x1 x2
        have NL := HL.out.below H4.out
        obtain ⟨k1, x0, x1, x2⟩ := NL
        have f0 := fun pw : BelowOf w4 => pw.cell (a := ⟨w2.heap.size, 0, none⟩) k1 x0
        have f1 := fun pw : BelowOf w4 => pw.cell (a := ⟨w2.heap.size, 1, none⟩) k1 x1
        have f2 := fun pw : BelowOf w4 => pw.cell (a := ⟨w2.heap.size, 2, none⟩) k1 x2
        have Q1 := Lib.hid (fun pw : BelowOf w4 => Calls.below_of pw (CA.out pw.w'))
        have Q2 := Lib.hid (fun pw : BelowOf w4 => Calls.below_of pw (left_any a a.s pw.w'))
        have Q3 := Lib.hid (fun pw : BelowOf w4 => Calls.below_of pw (holds_any a (a.s + a.f - 1) pw.w'))
        have Q4 := Lib.hid (fun pw : BelowOf w4 => Calls.below_of pw (holds_any a (a.s - 1) pw.w'))
        rw [HF.out.l] at Q2
        rw [HF.out.h] at Q3
        rw [HF.out.n] at Q4
        unfold Lz.val at *
        have w1a : IntKind.i64.wrap (a.s + a.f) = a.s + a.f := IntWalk.i64_in _ (by omega)
        have w1b : IntKind.i64.wrap (a.s + a.f - 1) = a.s + a.f - 1 := IntWalk.i64_in _ (by omega)
        have w1c : IntKind.i64.wrap (a.s - 1) = a.s - 1 := IntWalk.i64_in _ (by omega)
        clear x0 x1 x2 c1 c2 c3 c4
        go_wp2_with fail
        refine wp_region_quiet_below (by assumption) (by kernel_rfl) ?_
        repeat (go_big_quiet_step (first | (go_at_call 8; with_reducible exact Q1.out _) | (go_at_call 15; with_reducible exact Q2.out _) | (go_at_call 13; with_reducible exact Q3.out _) | (go_at_call 13; with_reducible exact Q4.out _)))
        refine wpQuiet_nil ?_
        intro wq hw'
        obtain ⟨⟨wz, hbq⟩, hw''⟩ := hw'
        obtain rfl : wq = wz := hw''
        have HQ := Lib.hid (HB0.out.trans ((H3.out.trans ((H4.out.trans (hbq.mono H4.out.size)).mono H3.out.size)).mono HB0.out.size))
        clear hbq
        go_wp2_with fail
        go_ret
        exact ⟨rfl, HQ.out⟩
      · obtain ⟨E0, E1, E2, E3, E4⟩ := HE.out (by simp)
        have c0 := CH
        rw [E0] at c0
        rw [E1] at c1
        rw [E2] at c2
        rw [E3] at c3
        rw [E4] at c4
        clear E0 E1 E2 E3 E4
        go_wp2_with fail
        refine (CS.out _).mono ?_
        rintro e4 w4 ⟨rfl, hb4⟩
        have H4 := Lib.hid hb4
        clear hb4 x0 x1 x2
        obtain ⟨_, x0, x1, x2⟩ := HL.out.below H4.out
        go_wp2_with fail
        refine (c0.out _).mono ?_
        rintro e5 w5 ⟨rfl, hb5⟩
        have H5 := Lib.hid (H4.out.trans (hb5.mono H4.out.size))
        clear hb5 x0 x1 x2
        obtain ⟨_, x0, x1, x2⟩ := HL.out.below H5.out
        go_wp2_with fail
        refine (c1.out _).mono ?_
        rintro e6 w6 ⟨rfl, hb6⟩
        have H6 := Lib.hid (H5.out.trans (hb6.mono H5.out.size))
        clear hb6 x0 x1 x2
        obtain ⟨_, x0, x1, x2⟩ := HL.out.below H6.out
        go_wp2_with fail
        refine (c2.out _).mono ?_
        rintro e7 w7 ⟨rfl, hb7⟩
        have H7 := Lib.hid (H6.out.trans (hb7.mono H6.out.size))
        clear hb7 x0 x1 x2
        obtain ⟨_, x0, x1, x2⟩ := HL.out.below H7.out
        go_wp2_with fail
        refine (c3.out _).mono ?_
        rintro e8 w8 ⟨rfl, hb8⟩
        have H8 := Lib.hid (H7.out.trans (hb8.mono H7.out.size))
        clear hb8 x0 x1 x2
        obtain ⟨_, x0, x1, x2⟩ := HL.out.below H8.out
        go_wp2_with fail
        refine (c4.out _).mono ?_
        rintro e9 w9 ⟨rfl, hb9⟩
        have H9 := Lib.hid (H8.out.trans (hb9.mono H8.out.size))
        clear hb9 x0 x1 x2
        obtain ⟨_, x0, x1, x2⟩ := HL.out.below H9.out
        clear x0 x1 x2
        have NL := HL.out.below H9.out
        obtain ⟨k1, x0, x1, x2⟩ := NL
        have f0 := fun pw : BelowOf w9 => pw.cell (a := ⟨w2.heap.size, 0, none⟩) k1 x0
        have f1 := fun pw : BelowOf w9 => pw.cell (a := ⟨w2.heap.size, 1, none⟩) k1 x1
        have f2 := fun pw : BelowOf w9 => pw.cell (a := ⟨w2.heap.size, 2, none⟩) k1 x2
        have Q1 := Lib.hid (fun pw : BelowOf w9 => Calls.below_of pw (CA.out pw.w'))
        have Q2 := Lib.hid (fun pw : BelowOf w9 => Calls.below_of pw (left_any a a.s pw.w'))
        have Q3 := Lib.hid (fun pw : BelowOf w9 => Calls.below_of pw (holds_any a (a.s + a.f - 1) pw.w'))
        have Q4 := Lib.hid (fun pw : BelowOf w9 => Calls.below_of pw (holds_any a (a.s - 1) pw.w'))
        rw [HF.out.l] at Q2
        rw [HF.out.h] at Q3
        rw [HF.out.n] at Q4
        unfold Lz.val at *
        have w1a : IntKind.i64.wrap (a.s + a.f) = a.s + a.f := IntWalk.i64_in _ (by omega)
        have w1b : IntKind.i64.wrap (a.s + a.f - 1) = a.s + a.f - 1 := IntWalk.i64_in _ (by omega)
        have w1c : IntKind.i64.wrap (a.s - 1) = a.s - 1 := IntWalk.i64_in _ (by omega)
        clear x0 x1 x2 c1 c2 c3 c4
        go_wp2_with fail
        refine wp_region_quiet_below (by assumption) (by kernel_rfl) ?_
        repeat (go_big_quiet_step (first | (go_at_call 8; with_reducible exact Q1.out _) | (go_at_call 15; with_reducible exact Q2.out _) | (go_at_call 13; with_reducible exact Q3.out _) | (go_at_call 13; with_reducible exact Q4.out _)))
        refine wpQuiet_nil ?_
        intro wq hw'
        obtain ⟨⟨wz, hbq⟩, hw''⟩ := hw'
        obtain rfl : wq = wz := hw''
        have HQ := Lib.hid (HB0.out.trans ((H3.out.trans ((H9.out.trans (hbq.mono H9.out.size)).mono H3.out.size)).mono HB0.out.size))
        clear hbq
        go_wp2_with fail
        go_ret
        exact ⟨rfl, HQ.out⟩
    · by_cases q2 : k < o
      · obtain rfl : d = k := by rw [← hdd]; simp only [if_neg q1]; rw [if_pos q2]
        clear hdd
        have c1 := C1
        have c2 := C2
        have c3 := C3
        have c4 := C4
        have hbw := HBW.out
        cases s
        · go_wp2_with fail
          refine (CS.out _).mono ?_
          rintro e4 w4 ⟨rfl, hb4⟩
          have H4 := Lib.hid hb4
          clear hb4 x0 x1 x2
          have NL := HL.out.below H4.out
          obtain ⟨k1, x0, x1, x2⟩ := NL
          have f0 := fun pw : BelowOf w4 => pw.cell (a := ⟨w2.heap.size, 0, none⟩) k1 x0
          have f1 := fun pw : BelowOf w4 => pw.cell (a := ⟨w2.heap.size, 1, none⟩) k1 x1
          have f2 := fun pw : BelowOf w4 => pw.cell (a := ⟨w2.heap.size, 2, none⟩) k1 x2
          have Q1 := Lib.hid (fun pw : BelowOf w4 => Calls.below_of pw (CA.out pw.w'))
          have Q2 := Lib.hid (fun pw : BelowOf w4 => Calls.below_of pw (left_any a a.s pw.w'))
          have Q3 := Lib.hid (fun pw : BelowOf w4 => Calls.below_of pw (holds_any a (a.s + a.f - 1) pw.w'))
          have Q4 := Lib.hid (fun pw : BelowOf w4 => Calls.below_of pw (holds_any a (a.s - 1) pw.w'))
          rw [HF.out.l] at Q2
          rw [HF.out.h] at Q3
          rw [HF.out.n] at Q4
          unfold Lz.val at *
          have w1a : IntKind.i64.wrap (a.s + a.f) = a.s + a.f := IntWalk.i64_in _ (by omega)
          have w1b : IntKind.i64.wrap (a.s + a.f - 1) = a.s + a.f - 1 := IntWalk.i64_in _ (by omega)
          have w1c : IntKind.i64.wrap (a.s - 1) = a.s - 1 := IntWalk.i64_in _ (by omega)
          clear x0 x1 x2 c1 c2 c3 c4
          go_wp2_with fail
          refine wp_region_quiet_below (by assumption) (by kernel_rfl) ?_
          repeat (go_big_quiet_step (first | (go_at_call 8; with_reducible exact Q1.out _) | (go_at_call 15; with_reducible exact Q2.out _) | (go_at_call 13; with_reducible exact Q3.out _) | (go_at_call 13; with_reducible exact Q4.out _)))
          refine wpQuiet_nil ?_
          intro wq hw'
          obtain ⟨⟨wz, hbq⟩, hw''⟩ := hw'
          obtain rfl : wq = wz := hw''
          have HQ := Lib.hid (HB0.out.trans ((H3.out.trans ((H4.out.trans (hbq.mono H4.out.size)).mono H3.out.size)).mono HB0.out.size))
          clear hbq
          go_wp2_with fail
          go_ret
          exact ⟨rfl, HQ.out⟩
        · obtain ⟨E0, E1, E2, E3, E4⟩ := HE.out (by simp)
          have c0 := CH
          rw [E0] at c0
          rw [E1] at c1
          rw [E2] at c2
          rw [E3] at c3
          rw [E4] at c4
          clear E0 E1 E2 E3 E4
          go_wp2_with fail
          refine (CS.out _).mono ?_
          rintro e4 w4 ⟨rfl, hb4⟩
          have H4 := Lib.hid hb4
          clear hb4 x0 x1 x2
          obtain ⟨_, x0, x1, x2⟩ := HL.out.below H4.out
          go_wp2_with fail
          refine (c0.out _).mono ?_
          rintro e5 w5 ⟨rfl, hb5⟩
          have H5 := Lib.hid (H4.out.trans (hb5.mono H4.out.size))
          clear hb5 x0 x1 x2
          obtain ⟨_, x0, x1, x2⟩ := HL.out.below H5.out
          go_wp2_with fail
          refine (c1.out _).mono ?_
          rintro e6 w6 ⟨rfl, hb6⟩
          have H6 := Lib.hid (H5.out.trans (hb6.mono H5.out.size))
          clear hb6 x0 x1 x2
          obtain ⟨_, x0, x1, x2⟩ := HL.out.below H6.out
          go_wp2_with fail
          refine (c2.out _).mono ?_
          rintro e7 w7 ⟨rfl, hb7⟩
          have H7 := Lib.hid (H6.out.trans (hb7.mono H6.out.size))
          clear hb7 x0 x1 x2
          obtain ⟨_, x0, x1, x2⟩ := HL.out.below H7.out
          go_wp2_with fail
          refine (c3.out _).mono ?_
          rintro e8 w8 ⟨rfl, hb8⟩
          have H8 := Lib.hid (H7.out.trans (hb8.mono H7.out.size))
          clear hb8 x0 x1 x2
          obtain ⟨_, x0, x1, x2⟩ := HL.out.below H8.out
          go_wp2_with fail
          refine (c4.out _).mono ?_
          rintro e9 w9 ⟨rfl, hb9⟩
          have H9 := Lib.hid (H8.out.trans (hb9.mono H8.out.size))
          clear hb9 x0 x1 x2
          obtain ⟨_, x0, x1, x2⟩ := HL.out.below H9.out
          clear x0 x1 x2
          have NL := HL.out.below H9.out
          obtain ⟨k1, x0, x1, x2⟩ := NL
          have f0 := fun pw : BelowOf w9 => pw.cell (a := ⟨w2.heap.size, 0, none⟩) k1 x0
          have f1 := fun pw : BelowOf w9 => pw.cell (a := ⟨w2.heap.size, 1, none⟩) k1 x1
          have f2 := fun pw : BelowOf w9 => pw.cell (a := ⟨w2.heap.size, 2, none⟩) k1 x2
          have Q1 := Lib.hid (fun pw : BelowOf w9 => Calls.below_of pw (CA.out pw.w'))
          have Q2 := Lib.hid (fun pw : BelowOf w9 => Calls.below_of pw (left_any a a.s pw.w'))
          have Q3 := Lib.hid (fun pw : BelowOf w9 => Calls.below_of pw (holds_any a (a.s + a.f - 1) pw.w'))
          have Q4 := Lib.hid (fun pw : BelowOf w9 => Calls.below_of pw (holds_any a (a.s - 1) pw.w'))
          rw [HF.out.l] at Q2
          rw [HF.out.h] at Q3
          rw [HF.out.n] at Q4
          unfold Lz.val at *
          have w1a : IntKind.i64.wrap (a.s + a.f) = a.s + a.f := IntWalk.i64_in _ (by omega)
          have w1b : IntKind.i64.wrap (a.s + a.f - 1) = a.s + a.f - 1 := IntWalk.i64_in _ (by omega)
          have w1c : IntKind.i64.wrap (a.s - 1) = a.s - 1 := IntWalk.i64_in _ (by omega)
          clear x0 x1 x2 c1 c2 c3 c4
          go_wp2_with fail
          refine wp_region_quiet_below (by assumption) (by kernel_rfl) ?_
          repeat (go_big_quiet_step (first | (go_at_call 8; with_reducible exact Q1.out _) | (go_at_call 15; with_reducible exact Q2.out _) | (go_at_call 13; with_reducible exact Q3.out _) | (go_at_call 13; with_reducible exact Q4.out _)))
          refine wpQuiet_nil ?_
          intro wq hw'
          obtain ⟨⟨wz, hbq⟩, hw''⟩ := hw'
          obtain rfl : wq = wz := hw''
          have HQ := Lib.hid (HB0.out.trans ((H3.out.trans ((H9.out.trans (hbq.mono H9.out.size)).mono H3.out.size)).mono HB0.out.size))
          clear hbq
          go_wp2_with fail
          go_ret
          exact ⟨rfl, HQ.out⟩
      · obtain rfl : d = o := by rw [← hdd]; simp only [if_neg q1]; rw [if_neg q2]
        clear hdd
        have c1 := C1
        have c2 := C2
        have c3 := C3
        have c4 := C4
        have hbw := HBW.out
        cases s
        · go_wp2_with fail
          refine (CS.out _).mono ?_
          rintro e4 w4 ⟨rfl, hb4⟩
          have H4 := Lib.hid hb4
          clear hb4 x0 x1 x2
          have NL := HL.out.below H4.out
          obtain ⟨k1, x0, x1, x2⟩ := NL
          have f0 := fun pw : BelowOf w4 => pw.cell (a := ⟨w2.heap.size, 0, none⟩) k1 x0
          have f1 := fun pw : BelowOf w4 => pw.cell (a := ⟨w2.heap.size, 1, none⟩) k1 x1
          have f2 := fun pw : BelowOf w4 => pw.cell (a := ⟨w2.heap.size, 2, none⟩) k1 x2
          have Q1 := Lib.hid (fun pw : BelowOf w4 => Calls.below_of pw (CA.out pw.w'))
          have Q2 := Lib.hid (fun pw : BelowOf w4 => Calls.below_of pw (left_any a a.s pw.w'))
          have Q3 := Lib.hid (fun pw : BelowOf w4 => Calls.below_of pw (holds_any a (a.s + a.f - 1) pw.w'))
          have Q4 := Lib.hid (fun pw : BelowOf w4 => Calls.below_of pw (holds_any a (a.s - 1) pw.w'))
          rw [HF.out.l] at Q2
          rw [HF.out.h] at Q3
          rw [HF.out.n] at Q4
          unfold Lz.val at *
          have w1a : IntKind.i64.wrap (a.s + a.f) = a.s + a.f := IntWalk.i64_in _ (by omega)
          have w1b : IntKind.i64.wrap (a.s + a.f - 1) = a.s + a.f - 1 := IntWalk.i64_in _ (by omega)
          have w1c : IntKind.i64.wrap (a.s - 1) = a.s - 1 := IntWalk.i64_in _ (by omega)
          clear x0 x1 x2 c1 c2 c3 c4
          go_wp2_with fail
          refine wp_region_quiet_below (by assumption) (by kernel_rfl) ?_
          repeat (go_big_quiet_step (first | (go_at_call 8; with_reducible exact Q1.out _) | (go_at_call 15; with_reducible exact Q2.out _) | (go_at_call 13; with_reducible exact Q3.out _) | (go_at_call 13; with_reducible exact Q4.out _)))
          refine wpQuiet_nil ?_
          intro wq hw'
          obtain ⟨⟨wz, hbq⟩, hw''⟩ := hw'
          obtain rfl : wq = wz := hw''
          have HQ := Lib.hid (HB0.out.trans ((H3.out.trans ((H4.out.trans (hbq.mono H4.out.size)).mono H3.out.size)).mono HB0.out.size))
          clear hbq
          go_wp2_with fail
          go_ret
          exact ⟨rfl, HQ.out⟩
        · obtain ⟨E0, E1, E2, E3, E4⟩ := HE.out (by simp)
          have c0 := CH
          rw [E0] at c0
          rw [E1] at c1
          rw [E2] at c2
          rw [E3] at c3
          rw [E4] at c4
          clear E0 E1 E2 E3 E4
          go_wp2_with fail
          refine (CS.out _).mono ?_
          rintro e4 w4 ⟨rfl, hb4⟩
          have H4 := Lib.hid hb4
          clear hb4 x0 x1 x2
          obtain ⟨_, x0, x1, x2⟩ := HL.out.below H4.out
          go_wp2_with fail
          refine (c0.out _).mono ?_
          rintro e5 w5 ⟨rfl, hb5⟩
          have H5 := Lib.hid (H4.out.trans (hb5.mono H4.out.size))
          clear hb5 x0 x1 x2
          obtain ⟨_, x0, x1, x2⟩ := HL.out.below H5.out
          go_wp2_with fail
          refine (c1.out _).mono ?_
          rintro e6 w6 ⟨rfl, hb6⟩
          have H6 := Lib.hid (H5.out.trans (hb6.mono H5.out.size))
          clear hb6 x0 x1 x2
          obtain ⟨_, x0, x1, x2⟩ := HL.out.below H6.out
          go_wp2_with fail
          refine (c2.out _).mono ?_
          rintro e7 w7 ⟨rfl, hb7⟩
          have H7 := Lib.hid (H6.out.trans (hb7.mono H6.out.size))
          clear hb7 x0 x1 x2
          obtain ⟨_, x0, x1, x2⟩ := HL.out.below H7.out
          go_wp2_with fail
          refine (c3.out _).mono ?_
          rintro e8 w8 ⟨rfl, hb8⟩
          have H8 := Lib.hid (H7.out.trans (hb8.mono H7.out.size))
          clear hb8 x0 x1 x2
          obtain ⟨_, x0, x1, x2⟩ := HL.out.below H8.out
          go_wp2_with fail
          refine (c4.out _).mono ?_
          rintro e9 w9 ⟨rfl, hb9⟩
          have H9 := Lib.hid (H8.out.trans (hb9.mono H8.out.size))
          clear hb9 x0 x1 x2
          obtain ⟨_, x0, x1, x2⟩ := HL.out.below H9.out
          clear x0 x1 x2
          have NL := HL.out.below H9.out
          obtain ⟨k1, x0, x1, x2⟩ := NL
          have f0 := fun pw : BelowOf w9 => pw.cell (a := ⟨w2.heap.size, 0, none⟩) k1 x0
          have f1 := fun pw : BelowOf w9 => pw.cell (a := ⟨w2.heap.size, 1, none⟩) k1 x1
          have f2 := fun pw : BelowOf w9 => pw.cell (a := ⟨w2.heap.size, 2, none⟩) k1 x2
          have Q1 := Lib.hid (fun pw : BelowOf w9 => Calls.below_of pw (CA.out pw.w'))
          have Q2 := Lib.hid (fun pw : BelowOf w9 => Calls.below_of pw (left_any a a.s pw.w'))
          have Q3 := Lib.hid (fun pw : BelowOf w9 => Calls.below_of pw (holds_any a (a.s + a.f - 1) pw.w'))
          have Q4 := Lib.hid (fun pw : BelowOf w9 => Calls.below_of pw (holds_any a (a.s - 1) pw.w'))
          rw [HF.out.l] at Q2
          rw [HF.out.h] at Q3
          rw [HF.out.n] at Q4
          unfold Lz.val at *
          have w1a : IntKind.i64.wrap (a.s + a.f) = a.s + a.f := IntWalk.i64_in _ (by omega)
          have w1b : IntKind.i64.wrap (a.s + a.f - 1) = a.s + a.f - 1 := IntWalk.i64_in _ (by omega)
          have w1c : IntKind.i64.wrap (a.s - 1) = a.s - 1 := IntWalk.i64_in _ (by omega)
          clear x0 x1 x2 c1 c2 c3 c4
          go_wp2_with fail
          refine wp_region_quiet_below (by assumption) (by kernel_rfl) ?_
          repeat (go_big_quiet_step (first | (go_at_call 8; with_reducible exact Q1.out _) | (go_at_call 15; with_reducible exact Q2.out _) | (go_at_call 13; with_reducible exact Q3.out _) | (go_at_call 13; with_reducible exact Q4.out _)))
          refine wpQuiet_nil ?_
          intro wq hw'
          obtain ⟨⟨wz, hbq⟩, hw''⟩ := hw'
          obtain rfl : wq = wz := hw''
          have HQ := Lib.hid (HB0.out.trans ((H3.out.trans ((H9.out.trans (hbq.mono H9.out.size)).mono H3.out.size)).mono HB0.out.size))
          clear hbq
          go_wp2_with fail
          go_ret
          exact ⟨rfl, HQ.out⟩
end Go.Proofs.Ytohomnfededglaa
