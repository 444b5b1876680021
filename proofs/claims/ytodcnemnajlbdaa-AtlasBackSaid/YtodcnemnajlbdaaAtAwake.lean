/-
  Layer atlas: the document's example, of a program that answers as is asked.
-/
import Derived.Test.YtodcnemnajlbdaaAtSpec
namespace Go.Proofs.Ytodcnemnajlbdaa
open Go.RowKit Go.Gz

def sM : ByteArray := ⟨#[109]⟩
def sZ : ByteArray := ⟨#[122]⟩
def a0 : Sd := ⟨⟨ByteArray.empty, ByteArray.empty⟩, 1, 1⟩
def a1 : List Sd := [⟨⟨ByteArray.empty, sM⟩, 1, 2⟩, ⟨⟨sM, ByteArray.empty⟩, 1, 2⟩]
theorem a0_may : MayA 5 1 [a0] := MayA.first (by omega) (by omega) (by omega)
theorem hasM : hasB a0.sp sM = true := by kernel_rfl
theorem neM : sM ≠ a0.sp.f := by decide
theorem aw_split : splitA 1 [a0] sM = ⟨2, a1, [0], 0⟩ := by
  unfold splitA
  rw [if_pos ((fresh_iff _ _ _).2 ⟨a0_may, by omega⟩), place_some (L := [a0]) (k := sM) (i := 0) (by simp) hasM (fun j hj => by omega)]
  simp only
  rw [if_neg (show ¬ sM = ([a0].getD 0 default).sp.f from neM), if_neg (by simp)]
  rfl
theorem a1_may : MayA 1 2 a1 := by
  have h := (MayA.first (m := 1) (nodes := 1) (by omega) (by omega) (by omega)).split (i := 0) (by simp) (by simp) (k := sM) hasM neM
  exact h
theorem aw_owner : ownerA a1 sZ = (⟨⟨sM, ByteArray.empty⟩, 1, 2⟩, true) := by
  unfold ownerA
  have h0 : hasB ⟨ByteArray.empty, sM⟩ sZ = false := by kernel_rfl
  have h1 : hasB ⟨sM, ByteArray.empty⟩ sZ = true := by kernel_rfl
  rw [place_some (L := a1) (k := sZ) (i := 1) (by decide) h1 (fun j hj => by
    have e : j = 0 := by omega
    subst e
    exact h0)]
  rfl
theorem aw_may : mayAB 1 2 a1 = true := (mayAB_iff _ _ _).2 a1_may

set_option maxHeartbeats 4000000 in
set_option maxRecDepth 100000 in
theorem awake_yes (HP : ProgA) (w : World) : Calls Try.prog 7 #[] w fun e w' => e = .returned (.bool true) ∧ Below w.heap.size w w' := by
  have HH := Lib.hid HP
  clear HP
  go_enter Try.func7, Try.ntmps7
  go_wp2_with fail
  refine (HH.out.first 1 _).mono ?_
  rintro e w1 ⟨p, c, rfl, hrow, -, hb1⟩
  have H1 := Lib.hid hb1
  have CS := Lib.hid (HH.out.split 1 [a0] p c sM w1 hrow (by simp))
  rw [aw_split] at CS
  simp only [List.length_cons, List.length_nil, Nat.zero_add] at CS
  unfold sM at CS
  clear hb1 hrow
  go_wp2_with fail
  refine CS.out.mono ?_
  rintro e w2 ⟨p2, c2, q2, d2, rfl, hrow2, hg2, -, hb2⟩
  have H2 := Lib.hid (H1.out.trans (hb2.mono H1.out.size))
  clear hb2 CS
  simp only [show a1.length = 2 from rfl, List.length_cons, List.length_nil, Nat.zero_add]
  obtain ⟨w3, hw3⟩ : ∃ w3, w2.alloc (.cells #[.int .i64 2, .slice p2 2 c2] 26) = w3 := ⟨_, rfl⟩
  have hb3 : Below w2.heap.size w2 w3 := hw3 ▸ below_alloc _ _
  have HBX := Lib.hid (show BoxA w3 w2.heap.size 2 (.slice p2 2 c2) from hw3 ▸ BoxA.new w2 _ _ _)
  have HR3 := Lib.hid (hrow2.below hb3)
  have HG3 := Lib.hid (hg2.below hb3)
  have H3 := Lib.hid (H2.out.trans (hb3.mono H2.out.size))
  have HW3 := Lib.hid hw3
  clear hrow2 hg2 hb3 hw3
  have CO := Lib.hid (HH.out.owner 2 a1 p2 c2 sZ w3 HR3.out (by decide))
  rw [aw_owner] at CO
  simp only [show a1.length = 2 from rfl] at CO
  unfold sZ valSd at CO
  go_wp2_with fail
  rw [HW3.out]
  refine CO.out.mono ?_
  rintro e w4 ⟨rfl, hb4⟩
  obtain ⟨w5, hw5⟩ : ∃ w5, w4.alloc (.cells #[.string sM, .string ByteArray.empty, .int .i64 1, .int .i64 2] 40) = w5 := ⟨_, rfl⟩
  have H5 := Lib.hid (show Below w3.heap.size w3 w5 from hb4.trans ((hw5 ▸ below_alloc _ _).mono hb4.size))
  have HS5 := Lib.hid (show w4.heap.size < w5.heap.size ∧ w5.cell? ⟨w4.heap.size, 0, none⟩ = some (.string sM) ∧ w5.cell? ⟨w4.heap.size, 1, none⟩ = some (.string ByteArray.empty) ∧ w5.cell? ⟨w4.heap.size, 2, none⟩ = some (.int .i64 1) ∧ w5.cell? ⟨w4.heap.size, 3, none⟩ = some (.int .i64 2) by rw [← hw5]; exact ⟨by simp, by simp [go_sem], by simp [go_sem], by simp [go_sem], by simp [go_sem]⟩)
  have HZ5 := Lib.hid (show w5.heap.size = w4.heap.size + 1 by rw [← hw5]; simp)
  have HW5 := Lib.hid hw5
  obtain ⟨_, x0, x1⟩ := HBX.out.below hb4
  clear hw5 hb4 CO
  obtain ⟨w6, hw6⟩ : ∃ w6, w5.alloc (.cells #[.int .i64 0] 3) = w6 := ⟨_, rfl⟩
  have H6 := Lib.hid (show Below w3.heap.size w3 w6 from H5.out.trans ((hw6 ▸ below_alloc _ _).mono H5.out.size))
  have h56 : Below w5.heap.size w5 w6 := hw6 ▸ below_alloc _ _
  have HG6 := Lib.hid (HG3.out.below H6.out)
  have HN6 := Lib.hid (show Row w6 .i64 (some ⟨w5.heap.size, 0, none⟩) [0] from Or.inr ⟨_, _, rfl, by rw [← hw6]; simp, fun j hj => by
    obtain rfl : j = 0 := by simpa using hj
    rw [← hw6]; simp [go_sem]⟩)
  have HS6 := Lib.hid (show w6.cell? ⟨w4.heap.size, 0, none⟩ = some (.string sM) ∧ w6.cell? ⟨w4.heap.size, 3, none⟩ = some (.int .i64 2) from ⟨(h56.cell (p := ⟨w4.heap.size, 0, none⟩) HS5.out.1).trans HS5.out.2.1, (h56.cell (p := ⟨w4.heap.size, 3, none⟩) HS5.out.1).trans HS5.out.2.2.2.2⟩)
  have HW6 := Lib.hid hw6
  clear hw6 h56
  have CG := Lib.hid (same_ints [0] [0] q2 (some ⟨w5.heap.size, 0, none⟩) d2 1 w6 HG6.out HN6.out (by decide) (by decide))
  rw [show decide (([0] : List Int) = [0]) = true from rfl] at CG
  simp only [List.length_cons, List.length_nil, Nat.zero_add] at CG
  rw [HZ5.out] at CG
  go_wp2_with fail
  rw [HW5.out, HW6.out]
  refine CG.out.mono ?_
  rintro e w7 ⟨rfl, hb7⟩
  have H7 := Lib.hid (H6.out.trans (hb7.mono H6.out.size))
  have hs4 : w4.heap.size < w6.heap.size := by rw [← HW6.out]; have := HS5.out.1; simp; omega
  have y0 := (hb7.cell (p := ⟨w4.heap.size, 0, none⟩) hs4).trans HS6.out.1
  have y3 := (hb7.cell (p := ⟨w4.heap.size, 3, none⟩) hs4).trans HS6.out.2
  clear x0 x1 hb7
  obtain ⟨_, x0, x1⟩ := HBX.out.below H7.out
  have CY := Lib.hid (HH.out.may 2 a1 p2 c2 1 w7 (HR3.out.below H7.out) (by decide))
  rw [aw_may] at CY
  simp only [show a1.length = 2 from rfl] at CY
  unfold sM at y0
  go_wp2_with fail
  refine CY.out.mono ?_
  rintro e w8 ⟨rfl, hb8⟩
  have H8 := Lib.hid (H3.out.trans ((H7.out.trans (hb8.mono H7.out.size)).mono H3.out.size))
  clear hb8
  go_wp2_with fail
  go_ret
  exact ⟨rfl, H8.out⟩
end Go.Proofs.Ytodcnemnajlbdaa
