/-
  Layer lease: the walk of LeaseKnown.
-/
import Derived.Test.YtohomnfededglaaLsAwake
import Derived.BigQuiet
namespace Go.Proofs.Ytohomnfededglaa
open Go.RowKit Go.Gz

def zA : Lz := ⟨1, 0, 1⟩
def zB : Lz := ⟨2, 0, 1⟩
def zC : Lz := ⟨1, 1, 1⟩
def zD : Lz := ⟨9, 0, 0⟩
def zE : Lz := ⟨1, 0, 1099511627777⟩
theorem kn1 : holdsZ zA 0 = true := by decide
theorem kn2 : holdsZ zA 1 = false := by decide
theorem kn3 : holdsZ zA (-1) = false := by decide
theorem kn4 : mayZ noneZ = false := by decide
theorem kn5 : laterZ zA zB = zB := by decide
theorem kn6 : laterZ zB zA = zB := by decide
theorem kn7 : laterZ zA zC = zC := by decide
theorem kn8 : laterZ noneZ zA = zA := by decide
theorem kn9 : laterZ noneZ noneZ = noneZ := by decide
theorem kn10 : laterZ zA zD = zA := by decide
theorem kn11 : mayZ zE = false := by decide
theorem kn12 : safeZ noneZ (-5) (-5) = true := by decide
theorem kn13 : safeZ zA 1 (-9) = true := by decide
theorem kn14 : safeZ zA 0 (-9) = false := by decide
theorem kn15 : leftZ zA 0 = 1 := by decide
theorem eql_lease (a b : Lz) (w : World) : (binOp .eql 26 (.agg #[.int .i64 a.e, .int .i64 a.s, .int .i64 a.f]) (.agg #[.int .i64 b.e, .int .i64 b.s, .int .i64 b.f])).run Try.prog w = .ok (.bool (decide (a = b))) w := by
  obtain ⟨x, y, z⟩ := a
  obtain ⟨x', y', z'⟩ := b
  by_cases h1 : x = x' <;> by_cases h2 : y = y' <;> by_cases h3 : z = z' <;> simp [go_sem, h1, h2, h3]

set_option maxHeartbeats 4000000 in
theorem known_walk (w : World) : Calls Try.prog 5 #[] w fun e w' => e = .returned (.bool true) ∧ Below w.heap.size w w' := by
  have mx : Try.prog.follows .mixedOrders = true := by kernel_rfl
  have CA := Lib.hid (fun w => awake_yes w)
  have C1 := Lib.hid (fun w => holds_any zA 0 w)
  rw [kn1] at C1
  have C2 := Lib.hid (fun w => holds_any zA 1 w)
  rw [kn2] at C2
  have C3 := Lib.hid (fun w => holds_any zA (-1) w)
  rw [kn3] at C3
  have C4 := Lib.hid (fun w => may_any noneZ w)
  rw [kn4] at C4
  have C5 := Lib.hid (fun w => later_any zA zB w)
  rw [kn5] at C5
  have C6 := Lib.hid (fun w => later_any zB zA w)
  rw [kn6] at C6
  have C7 := Lib.hid (fun w => later_any zA zC w)
  rw [kn7] at C7
  have C8 := Lib.hid (fun w => later_any noneZ zA w)
  rw [kn8] at C8
  have C9 := Lib.hid (fun w => later_any noneZ noneZ w)
  rw [kn9] at C9
  have C10 := Lib.hid (fun w => later_any zA zD w)
  rw [kn10] at C10
  have C11 := Lib.hid (fun w => may_any zE w)
  rw [kn11] at C11
  have C12 := Lib.hid (fun w => safe_any noneZ (-5) (-5) w)
  rw [kn12] at C12
  have C13 := Lib.hid (fun w => safe_any zA 1 (-9) w)
  rw [kn13] at C13
  have C14 := Lib.hid (fun w => safe_any zA 0 (-9) w)
  rw [kn14] at C14
  have C15 := Lib.hid (fun w => left_any zA 0 w)
  rw [kn15] at C15
  unfold Lz.val at *
  unfold zA zB zC zD zE noneZ at *
  go_enter Try.func5, Try.ntmps5
  go_wp2_with fail
  refine (CA.out _).mono ?_
  rintro e v ⟨rfl, hv⟩
  have HV := Lib.hid hv
  clear hv CA
  obtain ⟨w0, hw0⟩ : ∃ w0, (((v.alloc (.cells #[.int .i64 1, .int .i64 0, .int .i64 1] 26)).alloc (.cells #[.int .i64 2, .int .i64 0, .int .i64 1] 26)).alloc (.cells #[.int .i64 0, .int .i64 0, .int .i64 0] 26)).alloc (.cells #[.int .i64 1, .int .i64 1, .int .i64 1] 26) = w0 := ⟨_, rfl⟩
  have HB0 := Lib.hid (show Below v.heap.size v w0 from hw0 ▸ ((((Below.refl _ _).alloc (Nat.le_refl _) _).alloc (by simp) _).alloc (by simp; omega) _).alloc (by simp; omega) _)
  have HNa := Lib.hid (show BoxZ w0 v.heap.size ⟨1, 0, 1⟩ from hw0 ▸ ⟨by first | (simp; done) | (simp; omega), by simp [go_sem], by simp [go_sem], by simp [go_sem]⟩)
  have HNb := Lib.hid (show BoxZ w0 (v.heap.size + 1) ⟨2, 0, 1⟩ from hw0 ▸ ⟨by first | (simp; done) | (simp; omega), by simp [go_sem], by simp [go_sem], by simp [go_sem]⟩)
  have HNn := Lib.hid (show BoxZ w0 (v.heap.size + 1 + 1) ⟨0, 0, 0⟩ from hw0 ▸ ⟨by first | (simp; done) | (simp; omega), by simp [go_sem], by simp [go_sem], by simp [go_sem]⟩)
  have HNc := Lib.hid (show BoxZ w0 (v.heap.size + 1 + 1 + 1) ⟨1, 1, 1⟩ from hw0 ▸ ⟨by first | (simp; done) | (simp; omega), by simp [go_sem], by simp [go_sem], by simp [go_sem]⟩)
  have H0 := Lib.hid (Below.refl w0.heap.size w0)
  obtain ⟨ka, xa0, xa1, xa2⟩ := HNa.out
  have fa0 := fun pw : BelowOf w0 => pw.cell (a := ⟨v.heap.size, 0, none⟩) ka xa0
  have fa1 := fun pw : BelowOf w0 => pw.cell (a := ⟨v.heap.size, 1, none⟩) ka xa1
  have fa2 := fun pw : BelowOf w0 => pw.cell (a := ⟨v.heap.size, 2, none⟩) ka xa2
  simp only at fa0 fa1 fa2
  clear xa0 xa1 xa2
  obtain ⟨kb, xb0, xb1, xb2⟩ := HNb.out
  have fb0 := fun pw : BelowOf w0 => pw.cell (a := ⟨v.heap.size + 1, 0, none⟩) kb xb0
  have fb1 := fun pw : BelowOf w0 => pw.cell (a := ⟨v.heap.size + 1, 1, none⟩) kb xb1
  have fb2 := fun pw : BelowOf w0 => pw.cell (a := ⟨v.heap.size + 1, 2, none⟩) kb xb2
  simp only at fb0 fb1 fb2
  clear xb0 xb1 xb2
  obtain ⟨kn, xn0, xn1, xn2⟩ := HNn.out
  have fn0 := fun pw : BelowOf w0 => pw.cell (a := ⟨v.heap.size + 1 + 1, 0, none⟩) kn xn0
  have fn1 := fun pw : BelowOf w0 => pw.cell (a := ⟨v.heap.size + 1 + 1, 1, none⟩) kn xn1
  have fn2 := fun pw : BelowOf w0 => pw.cell (a := ⟨v.heap.size + 1 + 1, 2, none⟩) kn xn2
  simp only at fn0 fn1 fn2
  clear xn0 xn1 xn2
  obtain ⟨kc, xc0, xc1, xc2⟩ := HNc.out
  have fc0 := fun pw : BelowOf w0 => pw.cell (a := ⟨v.heap.size + 1 + 1 + 1, 0, none⟩) kc xc0
  have fc1 := fun pw : BelowOf w0 => pw.cell (a := ⟨v.heap.size + 1 + 1 + 1, 1, none⟩) kc xc1
  have fc2 := fun pw : BelowOf w0 => pw.cell (a := ⟨v.heap.size + 1 + 1 + 1, 2, none⟩) kc xc2
  simp only at fc0 fc1 fc2
  clear xc0 xc1 xc2
  have Q1 := Lib.hid (fun pw : BelowOf w0 => Calls.below_of pw (C1.out pw.w'))
  have Q2 := Lib.hid (fun pw : BelowOf w0 => Calls.below_of pw (C2.out pw.w'))
  have Q3 := Lib.hid (fun pw : BelowOf w0 => Calls.below_of pw (C3.out pw.w'))
  have Q4 := Lib.hid (fun pw : BelowOf w0 => Calls.below_of pw (C4.out pw.w'))
  have Q5 := Lib.hid (fun pw : BelowOf w0 => Calls.below_of pw (C5.out pw.w'))
  have Q6 := Lib.hid (fun pw : BelowOf w0 => Calls.below_of pw (C6.out pw.w'))
  have Q7 := Lib.hid (fun pw : BelowOf w0 => Calls.below_of pw (C7.out pw.w'))
  have Q8 := Lib.hid (fun pw : BelowOf w0 => Calls.below_of pw (C8.out pw.w'))
  have Q9 := Lib.hid (fun pw : BelowOf w0 => Calls.below_of pw (C9.out pw.w'))
  have Q10 := Lib.hid (fun pw : BelowOf w0 => Calls.below_of pw (C10.out pw.w'))
  have Q11 := Lib.hid (fun pw : BelowOf w0 => Calls.below_of pw (C11.out pw.w'))
  have Q12 := Lib.hid (fun pw : BelowOf w0 => Calls.below_of pw (C12.out pw.w'))
  have Q13 := Lib.hid (fun pw : BelowOf w0 => Calls.below_of pw (C13.out pw.w'))
  have Q14 := Lib.hid (fun pw : BelowOf w0 => Calls.below_of pw (C14.out pw.w'))
  have Q15 := Lib.hid (fun pw : BelowOf w0 => Calls.below_of pw (C15.out pw.w'))
  clear C1 C2 C3 C4 C5 C6 C7 C8 C9 C10 C11 C12 C13 C14 C15
  go_wp2_with fail
  simp only [List.append]
  refine wp_region_quiet_below (by assumption) (by kernel_rfl) ?_
  repeat (go_big_quiet_step (first | (go_at_call 13; with_reducible exact Q1.out _) | (go_at_call 13; with_reducible exact Q2.out _) | (go_at_call 13; with_reducible exact Q3.out _) | (go_at_call 11; with_reducible exact Q4.out _) | (go_at_call 10; with_reducible exact Q5.out _) | (go_at_call 10; with_reducible exact Q6.out _) | (go_at_call 10; with_reducible exact Q7.out _) | (go_at_call 10; with_reducible exact Q8.out _) | (go_at_call 10; with_reducible exact Q9.out _) | (go_at_call 10; with_reducible exact Q10.out _) | (go_at_call 11; with_reducible exact Q11.out _) | (go_at_call 17; with_reducible exact Q12.out _) | (go_at_call 17; with_reducible exact Q13.out _) | (go_at_call 17; with_reducible exact Q14.out _) | (go_at_call 15; with_reducible exact Q15.out _)))
  refine wpQuiet_nil ?_
  intro wq hw'
  obtain ⟨⟨wz, hbq⟩, hw''⟩ := hw'
  obtain rfl : wq = wz := hw''
  go_wp2_with fail
  go_ret
  exact ⟨rfl, HV.out.trans ((HB0.out.trans (hbq.mono HB0.out.size)).mono HV.out.size)⟩
end Go.Proofs.Ytohomnfededglaa
