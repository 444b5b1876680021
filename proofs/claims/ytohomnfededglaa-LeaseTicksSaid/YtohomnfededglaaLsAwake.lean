/-
  Layer lease: the document's example.
-/
import Derived.Test.YtohomnfededglaaLsMade
namespace Go.Proofs.Ytohomnfededglaa
open Go.RowKit Go.Gz

def exZ : Lz := ⟨1, 5, 3⟩
theorem ex1 : mayZ exZ = true := by decide
theorem ex2 : holdsZ exZ 7 = true := by decide
theorem ex3 : holdsZ exZ 8 = false := by decide
theorem ex4 : leftZ exZ 6 = 2 := by decide
theorem ex5 : safeZ exZ 9 1 = true := by decide
theorem ex6 : safeZ exZ 8 1 = false := by decide

set_option maxHeartbeats 1000000 in
theorem awake_yes (w : World) : Calls Try.prog 8 #[] w fun e w' => e = .returned (.bool true) ∧ Below w.heap.size w w' := by
  obtain ⟨w0, hw0⟩ : ∃ w0, w.alloc (.cells #[.int .i64 1, .int .i64 5, .int .i64 3] 26) = w0 := ⟨_, rfl⟩
  have HB0 := Lib.hid (show Below w.heap.size w w0 from hw0 ▸ below_new _ _)
  have HN := Lib.hid (show BoxZ w0 w.heap.size exZ from hw0 ▸ BoxZ.new w exZ _)
  have C1 := Lib.hid (fun w => may_any exZ w)
  have C2 := Lib.hid (fun w => holds_any exZ 7 w)
  have C3 := Lib.hid (fun w => holds_any exZ 8 w)
  have C4 := Lib.hid (fun w => left_any exZ 6 w)
  have C5 := Lib.hid (fun w => safe_any exZ 9 1 w)
  have C6 := Lib.hid (fun w => safe_any exZ 8 1 w)
  rw [ex1] at C1
  rw [ex2] at C2
  rw [ex3] at C3
  rw [ex4] at C4
  rw [ex5] at C5
  rw [ex6] at C6
  unfold exZ Lz.val at *
  go_enter Try.func8, Try.ntmps8
  obtain ⟨_, x0, x1, x2⟩ := HN.out
  simp only at x0 x1 x2
  go_wp2_with fail
  refine (C1.out _).mono ?_
  rintro e w1 ⟨rfl, hb1⟩
  have H1 := Lib.hid hb1
  clear hb1 x0 x1 x2
  obtain ⟨_, x0, x1, x2⟩ := HN.out.below H1.out
  simp only at x0 x1 x2
  go_wp2_with fail
  refine (C2.out _).mono ?_
  rintro e w2 ⟨rfl, hb2⟩
  have H2 := Lib.hid (H1.out.trans (hb2.mono H1.out.size))
  clear hb2 x0 x1 x2
  obtain ⟨_, x0, x1, x2⟩ := HN.out.below H2.out
  simp only at x0 x1 x2
  go_wp2_with fail
  refine (C3.out _).mono ?_
  rintro e w3 ⟨rfl, hb3⟩
  have H3 := Lib.hid (H2.out.trans (hb3.mono H2.out.size))
  clear hb3 x0 x1 x2
  obtain ⟨_, x0, x1, x2⟩ := HN.out.below H3.out
  simp only at x0 x1 x2
  go_wp2_with fail
  refine (C4.out _).mono ?_
  rintro e w4 ⟨rfl, hb4⟩
  have H4 := Lib.hid (H3.out.trans (hb4.mono H3.out.size))
  clear hb4 x0 x1 x2
  obtain ⟨_, x0, x1, x2⟩ := HN.out.below H4.out
  simp only at x0 x1 x2
  go_wp2_with fail
  refine (C5.out _).mono ?_
  rintro e w5 ⟨rfl, hb5⟩
  have H5 := Lib.hid (H4.out.trans (hb5.mono H4.out.size))
  clear hb5 x0 x1 x2
  obtain ⟨_, x0, x1, x2⟩ := HN.out.below H5.out
  simp only at x0 x1 x2
  go_wp2_with fail
  refine (C6.out _).mono ?_
  rintro e w6 ⟨rfl, hb6⟩
  have H6 := Lib.hid (H5.out.trans (hb6.mono H5.out.size))
  clear hb6 x0 x1 x2
  go_wp2_with fail
  go_ret
  exact ⟨rfl, HB0.out.trans (H6.out.mono HB0.out.size)⟩
end Go.Proofs.Ytohomnfededglaa
