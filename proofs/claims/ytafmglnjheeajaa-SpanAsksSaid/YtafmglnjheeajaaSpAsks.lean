/-
  SpanAsks: the walk.
-/
import Derived.Test.YtafmglnjheeajaaSpAwake
namespace Go.Proofs.Ytafmglnjheeajaa
open Go.RowKit Go.Gz

theorem few_two (f t f' t' : ByteArray) (w : World) : Calls Try.prog 8 #[.slice (some ⟨w.heap.size, 0, none⟩) 2 2] (w.alloc (.cells #[.string f, .string t, .string f', .string t'] 23)) (FewP [⟨f, t⟩, ⟨f', t'⟩] (w.alloc (.cells #[.string f, .string t, .string f', .string t'] 23))) :=
  few_any [⟨f, t⟩, ⟨f', t'⟩] (some ⟨w.heap.size, 0, none⟩) 2 _ (spans_lit w 23 [⟨f, t⟩, ⟨f', t'⟩]) (by simp)

set_option maxHeartbeats 4000000 in
set_option maxRecDepth 100000 in
theorem asks_walk (f t f' t' k : ByteArray) (W : World) (hk : k.size ≤ 9223372036854775807) : Calls Try.prog 3 #[.agg #[.string f, .string t], .agg #[.string f', .string t'], .string k] W fun e w' => e = .returned (.bool true) ∧ Below W.heap.size W w' := by
  have mx := mixedS
  have C0 := Lib.hid (fun w => awake_true w)
  go_enter Try.func3, Try.ntmps3
  go_wp2_with fail
  obtain ⟨w0, hw0⟩ : ∃ w0, (W.alloc (.cells #[.string f, .string t] 23)).alloc (.cells #[.string f', .string t'] 23) = w0 := ⟨_, rfl⟩
  have HB0 := Lib.hid (show Below W.heap.size W w0 from hw0 ▸ ((Below.refl _ _).alloc (Nat.le_refl _) _).alloc (by simp) _)
  have HT0 := Lib.hid (show Two w0 W.heap.size f t f' t' from hw0 ▸ Two.new W f t f' t')
  have HS0 := Lib.hid (show W.heap.size + 1 < w0.heap.size by rw [← hw0]; simp)
  rw [hw0]
  clear hw0
  refine (C0.out w0).mono ?_
  rintro e w1 ⟨rfl, hb1⟩
  have HT1 := Lib.hid (HT0.out.below hb1 HS0.out)
  have HS1 := Lib.hid (show W.heap.size + 1 < w1.heap.size from Nat.lt_of_lt_of_le HS0.out hb1.size)
  have HB1 := Lib.hid (HB0.out.trans (hb1.mono HB0.out.size))
  obtain ⟨c0, c1, c2, c3⟩ := HT1.out
  clear hb1 C0
  have CF := Lib.hid (few_two f t f' t' w1)
  go_wp2_with fail
  refine CF.out.mono ?_
  rintro e w2 ⟨bv, rfl, hbv, hb2⟩
  have hb12 : Below w1.heap.size w1 w2 := ((Below.refl _ _).alloc (Nat.le_refl _) _).trans (hb2.mono (by simp))
  have HT2 := Lib.hid (HT1.out.below hb12 HS1.out)
  have HS2 := Lib.hid (show W.heap.size + 1 < w2.heap.size from Nat.lt_of_lt_of_le HS1.out hb12.size)
  have HB2 := Lib.hid (HB1.out.trans (hb12.mono HB1.out.size))
  clear hb2 hb12 hbv c0 c1 c2 c3 CF
  obtain ⟨c0, c1, c2, c3⟩ := HT2.out
  cases bv with
  | false =>
    go_wp2_with fail
    go_ret
    exact ⟨rfl, HB2.out⟩
  | true =>
    by_cases h1000 : 1000 < k.size
    · have h1000z : (1000 : Int) < (k.size : Int) := by omega
      go_wp2_with fail
      go_ret
      exact ⟨rfl, HB2.out⟩
    · have h1000z : decide ((1000 : Int) < (k.size : Int)) = false := decide_eq_false (by omega)
      have CM := Lib.hid (meet_any f t f' t' w2)
      go_wp2_with fail
      refine CM.out.mono ?_
      rintro e w3 ⟨rfl, hb3⟩
      obtain ⟨m, hm⟩ : ∃ m, maxS2 f f' = m := ⟨_, rfl⟩
      obtain ⟨n, hn⟩ : ∃ n, firstEndS t t' = n := ⟨_, rfl⟩
      rw [hm, hn]
      have HMN := Lib.hid (show meetS ⟨f, t⟩ ⟨f', t'⟩ = ⟨m, n⟩ by unfold meetS; rw [hm, hn])
      have HT3 := Lib.hid (HT2.out.below hb3 HS2.out)
      have HS3 := Lib.hid (show W.heap.size + 1 < w3.heap.size from Nat.lt_of_lt_of_le HS2.out hb3.size)
      have HB3 := Lib.hid (HB2.out.trans (hb3.mono HB2.out.size))
      clear hb3 c0 c1 c2 c3 CM hm hn
      obtain ⟨c0, c1, c2, c3⟩ := HT3.out
      have CH := Lib.hid (fun w => has_any f t k w)
      have CH' := Lib.hid (fun w => refHas_any f t k w)
      have CH2 := Lib.hid (fun w => refHas_any f' t' k w)
      have CM2 := Lib.hid (fun w => has_any m n k w)
      have hmh := meet_has ⟨f, t⟩ ⟨f', t'⟩ k
      rw [HMN.out] at hmh
      obtain ⟨x, hx⟩ : ∃ x, hasB ⟨f, t⟩ k = x := ⟨_, rfl⟩
      obtain ⟨y, hy⟩ : ∃ y, hasB ⟨f', t'⟩ k = y := ⟨_, rfl⟩
      rw [hx, hy] at hmh
      rw [hx] at CH CH'
      rw [hy] at CH2
      simp only [hmh] at CM2
      clear hmh hx hy
      have q1 := HS3.out
      have q0 : W.heap.size < w3.heap.size := by omega
      go_wp2_with fail
      obtain ⟨w4, hw4⟩ : ∃ w4, w3.alloc (.cells #[.string m, .string n] 23) = w4 := ⟨_, rfl⟩
      have HM4 := Lib.hid (show One w4 w3.heap.size m n from hw4 ▸ One.new w3 m n)
      have hb4 : Below w3.heap.size w3 w4 := hw4 ▸ (Below.refl _ _).alloc (Nat.le_refl _) _
      have HT4 := Lib.hid (HT3.out.below hb4 HS3.out)
      have HS4 := Lib.hid (show W.heap.size + 1 < w4.heap.size from Nat.lt_of_lt_of_le HS3.out hb4.size)
      have HB4 := Lib.hid (HB3.out.trans (hb4.mono HB3.out.size))
      obtain ⟨bm, hbm⟩ : ∃ bm, w3.heap.size = bm := ⟨_, rfl⟩
      rw [hbm] at HM4
      rw [hbm]
      try rw [hw4]
      clear hw4 hb4 c0 c1 c2 c3 hbm q0 q1
      refine (CH'.out w4).mono ?_
      rintro e w5 ⟨rfl, hb5⟩
      have HT5 := Lib.hid (HT4.out.below hb5 HS4.out)
      have HS5 := Lib.hid (show W.heap.size + 1 < w5.heap.size from Nat.lt_of_lt_of_le HS4.out hb5.size)
      have HM5 := Lib.hid (HM4.out.below hb5)
      have HB5 := Lib.hid (HB4.out.trans (hb5.mono HB4.out.size))
      clear hb5
      have CEc := Lib.hid (fun w => empty_any f t w)
      have CEr := Lib.hid (fun w => refEmpty_any f t w)
      have CEm := Lib.hid (fun w => empty_any m n w)
      have CWc := Lib.hid (fun w => within_any f t f' t' w)
      have CWr := Lib.hid (fun w => refWithin_any f t f' t' w)
      have CMr := Lib.hid (fun w => refMeets_any f t f' t' w)
      have hme := meet_empty ⟨f, t⟩ ⟨f', t'⟩
      rw [HMN.out] at hme
      obtain ⟨em, hem⟩ : ∃ z, emptyB ⟨f, t⟩ = z := ⟨_, rfl⟩
      obtain ⟨wi, hwi⟩ : ∃ z, withinB ⟨f, t⟩ ⟨f', t'⟩ = z := ⟨_, rfl⟩
      obtain ⟨me, hmm⟩ : ∃ z, meetsB ⟨f, t⟩ ⟨f', t'⟩ = z := ⟨_, rfl⟩
      rw [hmm] at hme
      simp only [hem] at CEc CEr
      simp only [hwi] at CWc CWr
      simp only [hmm] at CMr
      simp only [hme] at CEm
      clear hem hwi hmm hme HMN HT4 HS4 HM4 HB4 HT3 HS3 HB3 HT2 HS2 HB2 HT1 HS1 HB1 HT0 HS0 HB0
      cases x with
      | false =>
        simp only [Bool.false_and] at CM2
        obtain ⟨c0, c1, c2, c3⟩ := HT5.out
        go_wp2_with fail
        clear c0 c1 c2 c3
        have s5 := HS5.out
        have z0 : W.heap.size < w5.heap.size := by omega
        obtain ⟨c0, c1, c2, c3⟩ := HT5.out
        obtain ⟨z1, c4, c5⟩ := HM5.out
        have f0 := fun pw : BelowOf w5 => pw.cell (a := ⟨W.heap.size, 0, none⟩) z0 c0
        have f1 := fun pw : BelowOf w5 => pw.cell (a := ⟨W.heap.size, 1, none⟩) z0 c1
        have f2 := fun pw : BelowOf w5 => pw.cell (a := ⟨W.heap.size + 1, 0, none⟩) s5 c2
        have f3 := fun pw : BelowOf w5 => pw.cell (a := ⟨W.heap.size + 1, 1, none⟩) s5 c3
        have f4 := fun pw : BelowOf w5 => pw.cell (a := ⟨bm, 0, none⟩) z1 c4
        have f5 := fun pw : BelowOf w5 => pw.cell (a := ⟨bm, 1, none⟩) z1 c5
        have D1 := Lib.hid (fun pw : BelowOf w5 => Calls.below_of pw (CH.out pw.w'))
        have D2 := Lib.hid (fun pw : BelowOf w5 => Calls.below_of pw (CH'.out pw.w'))
        have D3 := Lib.hid (fun pw : BelowOf w5 => Calls.below_of pw (CM2.out pw.w'))
        have D4 := Lib.hid (fun pw : BelowOf w5 => Calls.below_of pw (CEc.out pw.w'))
        have D5 := Lib.hid (fun pw : BelowOf w5 => Calls.below_of pw (CEr.out pw.w'))
        have D6 := Lib.hid (fun pw : BelowOf w5 => Calls.below_of pw (CEm.out pw.w'))
        have D7 := Lib.hid (fun pw : BelowOf w5 => Calls.below_of pw (CWc.out pw.w'))
        have D8 := Lib.hid (fun pw : BelowOf w5 => Calls.below_of pw (CWr.out pw.w'))
        have D9 := Lib.hid (fun pw : BelowOf w5 => Calls.below_of pw (CMr.out pw.w'))
        clear c0 c1 c2 c3 c4 c5 z0 z1 s5 CH CH' CH2 CM2 CEc CEr CEm CWc CWr CMr h1000 h1000z
        refine wp_region_quiet_below (by assumption) (by kernel_rfl) ?_
        repeat (go_big_quiet_step (first | (go_at_call 11; with_reducible exact D1.out _) | (go_at_call 11; with_reducible exact D3.out _) | (go_at_call 10; with_reducible exact D2.out _) | (go_at_call 12; with_reducible exact D4.out _) | (go_at_call 13; with_reducible exact D5.out _) | (go_at_call 12; with_reducible exact D6.out _) | (go_at_call 14; with_reducible exact D7.out _) | (go_at_call 15; with_reducible exact D8.out _) | (go_at_call 16; with_reducible exact D9.out _)))
        refine wpQuiet_nil ?_
        intro _ hw'
        obtain ⟨⟨wq, hbq⟩, hw''⟩ := hw'
        subst hw''
        have HBq := Lib.hid (HB5.out.trans (hbq.mono HB5.out.size))
        clear hbq
        go_wp2_with fail
        go_ret
        exact ⟨rfl, HBq.out⟩
      | true =>
        simp only [Bool.true_and] at CM2
        obtain ⟨c0, c1, c2, c3⟩ := HT5.out
        go_wp2_with fail
        refine (CH2.out w5).mono ?_
        rintro e w6 ⟨rfl, hb6⟩
        have HT6 := Lib.hid (HT5.out.below hb6 HS5.out)
        have HS6 := Lib.hid (show W.heap.size + 1 < w6.heap.size from Nat.lt_of_lt_of_le HS5.out hb6.size)
        have HM6 := Lib.hid (HM5.out.below hb6)
        have HB6 := Lib.hid (HB5.out.trans (hb6.mono HB5.out.size))
        clear hb6 c0 c1 c2 c3 HT5 HS5 HM5 HB5
        go_wp2_with fail
        have s6 := HS6.out
        have z0 : W.heap.size < w6.heap.size := by omega
        obtain ⟨c0, c1, c2, c3⟩ := HT6.out
        obtain ⟨z1, c4, c5⟩ := HM6.out
        have f0 := fun pw : BelowOf w6 => pw.cell (a := ⟨W.heap.size, 0, none⟩) z0 c0
        have f1 := fun pw : BelowOf w6 => pw.cell (a := ⟨W.heap.size, 1, none⟩) z0 c1
        have f2 := fun pw : BelowOf w6 => pw.cell (a := ⟨W.heap.size + 1, 0, none⟩) s6 c2
        have f3 := fun pw : BelowOf w6 => pw.cell (a := ⟨W.heap.size + 1, 1, none⟩) s6 c3
        have f4 := fun pw : BelowOf w6 => pw.cell (a := ⟨bm, 0, none⟩) z1 c4
        have f5 := fun pw : BelowOf w6 => pw.cell (a := ⟨bm, 1, none⟩) z1 c5
        have D1 := Lib.hid (fun pw : BelowOf w6 => Calls.below_of pw (CH.out pw.w'))
        have D2 := Lib.hid (fun pw : BelowOf w6 => Calls.below_of pw (CH'.out pw.w'))
        have D3 := Lib.hid (fun pw : BelowOf w6 => Calls.below_of pw (CM2.out pw.w'))
        have D4 := Lib.hid (fun pw : BelowOf w6 => Calls.below_of pw (CEc.out pw.w'))
        have D5 := Lib.hid (fun pw : BelowOf w6 => Calls.below_of pw (CEr.out pw.w'))
        have D6 := Lib.hid (fun pw : BelowOf w6 => Calls.below_of pw (CEm.out pw.w'))
        have D7 := Lib.hid (fun pw : BelowOf w6 => Calls.below_of pw (CWc.out pw.w'))
        have D8 := Lib.hid (fun pw : BelowOf w6 => Calls.below_of pw (CWr.out pw.w'))
        have D9 := Lib.hid (fun pw : BelowOf w6 => Calls.below_of pw (CMr.out pw.w'))
        clear c0 c1 c2 c3 c4 c5 z0 z1 s6 CH CH' CH2 CM2 CEc CEr CEm CWc CWr CMr h1000 h1000z
        refine wp_region_quiet_below (by assumption) (by kernel_rfl) ?_
        repeat (go_big_quiet_step (first | (go_at_call 11; with_reducible exact D1.out _) | (go_at_call 11; with_reducible exact D3.out _) | (go_at_call 10; with_reducible exact D2.out _) | (go_at_call 12; with_reducible exact D4.out _) | (go_at_call 13; with_reducible exact D5.out _) | (go_at_call 12; with_reducible exact D6.out _) | (go_at_call 14; with_reducible exact D7.out _) | (go_at_call 15; with_reducible exact D8.out _) | (go_at_call 16; with_reducible exact D9.out _)))
        refine wpQuiet_nil ?_
        intro _ hw'
        obtain ⟨⟨wq, hbq⟩, hw''⟩ := hw'
        subst hw''
        have HBq := Lib.hid (HB6.out.trans (hbq.mono HB6.out.size))
        clear hbq
        go_wp2_with fail
        go_ret
        exact ⟨rfl, HBq.out⟩
end Go.Proofs.Ytafmglnjheeajaa
