/-
  WeighImplied: the walk.
-/
import Derived.Test.YtackppehhkbjfaaWeAwake
import Derived.Test.YtackppehhkbjfaaLoRef1
namespace Go.Proofs.Ytackppehhkbjfaa
open Go.RowKit Go.Gz Go.Sort

theorem rm_range {r : Int} (h : rmB r = true) : 0 ≤ r ∧ r ≤ 1114111 := by
  unfold rmB at h
  simp only [Bool.and_eq_true, decide_eq_true_eq] at h
  exact ⟨h.1, h.2.1⟩
/-- by their numbers: high parts first, then low ones. -/
theorem impl_less (a b : Int) : (a / 3999 < b / 3999 ∨ (a / 3999 = b / 3999 ∧ a % 3999 < b % 3999)) ↔ a < b := by omega
theorem impl_same (a b : Int) : (a / 3999 = b / 3999 ∧ a % 3999 = b % 3999) ↔ a = b := by omega

set_option maxHeartbeats 4000000 in
set_option maxRecDepth 100000 in
theorem implied_walk (a b : Int) (W : World) : Calls Try.prog 7 #[.int .i32 a, .int .i32 b] W fun e w' => e = .returned (.bool true) ∧ Below W.heap.size W w' := by
  have C0 := Lib.hid (awake_true W)
  have mx := mixedL
  go_enter Try.func7, Try.ntmps7
  go_wp2_with fail
  refine C0.out.mono ?_
  rintro e w1 ⟨rfl, hb1⟩
  have HB1 := Lib.hid hb1
  clear hb1 C0
  have ma := refMay_any a
  have mb := refMay_any b
  cases ha : rmB a with
  | false =>
    rw [ha] at ma
    have MA := Lib.hid ma
    clear ma mb ha
    go_wp2_with fail
    refine (MA.out _).mono ?_
    rintro e w' ⟨rfl, rfl⟩
    go_wp2_with fail
    go_ret
    exact ⟨rfl, HB1.out⟩
  | true =>
    rw [ha] at ma
    have MA := Lib.hid ma
    cases hb : rmB b with
    | false =>
      rw [hb] at mb
      have MB := Lib.hid mb
      clear ma mb ha hb
      go_wp2_with fail
      refine (MA.out _).mono ?_
      rintro e w' ⟨rfl, rfl⟩
      go_wp2_with fail
      refine (MB.out _).mono ?_
      rintro e w' ⟨rfl, rfl⟩
      go_wp2_with fail
      go_ret
      exact ⟨rfl, HB1.out⟩
    | true =>
      rw [hb] at mb
      have MB := Lib.hid mb
      have hra := rm_range ha
      have hrb := rm_range hb
      have IA := Lib.hid (impl_any a hra.1 hra.2)
      have IB := Lib.hid (impl_any b hrb.1 hrb.2)
      have RA := Lib.hid (refImpl_any a hra.1 hra.2)
      clear ma mb ha hb
      go_wp2_with fail
      refine (MA.out _).mono ?_
      rintro e w' ⟨rfl, rfl⟩
      go_wp2_with fail
      refine (MB.out _).mono ?_
      rintro e w' ⟨rfl, rfl⟩
      go_wp2_with fail
      refine (IA.out _).mono ?_
      rintro e w2 ⟨rfl, hb2⟩
      have HB2 := Lib.hid (HB1.out.trans (hb2.mono HB1.out.size)); clear hb2
      go_wp2_with fail
      refine (IB.out _).mono ?_
      rintro e w3 ⟨rfl, hb3⟩
      have HB3 := Lib.hid (HB2.out.trans (hb3.mono HB2.out.size)); clear hb3 IA IB
      have hH := impl_less a b
      have hS := impl_same a b
      have h1 : 0 ≤ a / 3999 ∧ a / 3999 ≤ 279 := by omega
      have h2 : 0 ≤ b / 3999 ∧ b / 3999 ≤ 279 := by omega
      have h3 : 0 ≤ a % 3999 ∧ a % 3999 < 3999 := by omega
      have h4 : 0 ≤ b % 3999 ∧ b % 3999 < 3999 := by omega
      unfold implV at *
      obtain ⟨p, hp⟩ : ∃ p, a / 3999 = p := ⟨_, rfl⟩
      obtain ⟨q, hq⟩ : ∃ q, b / 3999 = q := ⟨_, rfl⟩
      obtain ⟨r, hr⟩ : ∃ r, a % 3999 = r := ⟨_, rfl⟩
      obtain ⟨s, hs⟩ : ∃ s, b % 3999 = s := ⟨_, rfl⟩
      rw [hp, hr] at RA
      rw [hp, hq, hr, hs] at hH hS ⊢
      rw [hp] at h1
      rw [hq] at h2
      rw [hr] at h3
      rw [hs] at h4
      clear hp hq hr hs
      go_upto_region 6 with fail
      obtain ⟨w4, hw4⟩ : ∃ w4, (w3.alloc (.cells #[.int .i64 (64000 + p), .int .i64 32, .int .i64 2, .int .i64 (60001 + r), .int .i64 0, .int .i64 0] 46)).alloc (.cells #[.int .i64 (64000 + q), .int .i64 32, .int .i64 2, .int .i64 (60001 + s), .int .i64 0, .int .i64 0] 46) = w4 := ⟨_, rfl⟩
      rw [hw4]
      have c0 : w4.cell? ⟨w3.heap.size, 0, none⟩ = some (.int .i64 (64000 + p)) := by rw [← hw4, World.cell?_alloc_lt _ _ ⟨w3.heap.size, 0, none⟩ (by simp), World.cell?_alloc_new]; rfl
      have c1 : w4.cell? ⟨w3.heap.size, 1, none⟩ = some (.int .i64 32) := by rw [← hw4, World.cell?_alloc_lt _ _ ⟨w3.heap.size, 1, none⟩ (by simp), World.cell?_alloc_new]; rfl
      have c2 : w4.cell? ⟨w3.heap.size, 2, none⟩ = some (.int .i64 2) := by rw [← hw4, World.cell?_alloc_lt _ _ ⟨w3.heap.size, 2, none⟩ (by simp), World.cell?_alloc_new]; rfl
      have c3 : w4.cell? ⟨w3.heap.size, 3, none⟩ = some (.int .i64 (60001 + r)) := by rw [← hw4, World.cell?_alloc_lt _ _ ⟨w3.heap.size, 3, none⟩ (by simp), World.cell?_alloc_new]; rfl
      have c4 : w4.cell? ⟨w3.heap.size, 4, none⟩ = some (.int .i64 0) := by rw [← hw4, World.cell?_alloc_lt _ _ ⟨w3.heap.size, 4, none⟩ (by simp), World.cell?_alloc_new]; rfl
      have c5 : w4.cell? ⟨w3.heap.size, 5, none⟩ = some (.int .i64 0) := by rw [← hw4, World.cell?_alloc_lt _ _ ⟨w3.heap.size, 5, none⟩ (by simp), World.cell?_alloc_new]; rfl
      have d0 : w4.cell? ⟨w3.heap.size + 1, 0, none⟩ = some (.int .i64 (64000 + q)) := by rw [← hw4, show w3.heap.size + 1 = (w3.alloc (.cells #[.int .i64 (64000 + p), .int .i64 32, .int .i64 2, .int .i64 (60001 + r), .int .i64 0, .int .i64 0] 46)).heap.size by simp, World.cell?_alloc_new]; rfl
      have d1 : w4.cell? ⟨w3.heap.size + 1, 1, none⟩ = some (.int .i64 32) := by rw [← hw4, show w3.heap.size + 1 = (w3.alloc (.cells #[.int .i64 (64000 + p), .int .i64 32, .int .i64 2, .int .i64 (60001 + r), .int .i64 0, .int .i64 0] 46)).heap.size by simp, World.cell?_alloc_new]; rfl
      have d2 : w4.cell? ⟨w3.heap.size + 1, 2, none⟩ = some (.int .i64 2) := by rw [← hw4, show w3.heap.size + 1 = (w3.alloc (.cells #[.int .i64 (64000 + p), .int .i64 32, .int .i64 2, .int .i64 (60001 + r), .int .i64 0, .int .i64 0] 46)).heap.size by simp, World.cell?_alloc_new]; rfl
      have d3 : w4.cell? ⟨w3.heap.size + 1, 3, none⟩ = some (.int .i64 (60001 + s)) := by rw [← hw4, show w3.heap.size + 1 = (w3.alloc (.cells #[.int .i64 (64000 + p), .int .i64 32, .int .i64 2, .int .i64 (60001 + r), .int .i64 0, .int .i64 0] 46)).heap.size by simp, World.cell?_alloc_new]; rfl
      have d4 : w4.cell? ⟨w3.heap.size + 1, 4, none⟩ = some (.int .i64 0) := by rw [← hw4, show w3.heap.size + 1 = (w3.alloc (.cells #[.int .i64 (64000 + p), .int .i64 32, .int .i64 2, .int .i64 (60001 + r), .int .i64 0, .int .i64 0] 46)).heap.size by simp, World.cell?_alloc_new]; rfl
      have d5 : w4.cell? ⟨w3.heap.size + 1, 5, none⟩ = some (.int .i64 0) := by rw [← hw4, show w3.heap.size + 1 = (w3.alloc (.cells #[.int .i64 (64000 + p), .int .i64 32, .int .i64 2, .int .i64 (60001 + r), .int .i64 0, .int .i64 0] 46)).heap.size by simp, World.cell?_alloc_new]; rfl
      have HB4 := Lib.hid (show Below W.heap.size W w4 by rw [← hw4]; exact (HB3.out.alloc HB3.out.size _).alloc (by have := HB3.out.size; simp; omega) _)
      have hs4 : w3.heap.size + 1 < w4.heap.size := by rw [← hw4]; simp
      clear hw4
      go_cut [7] from 22 to 46 (fun v wx => v = .bool (decide (a < b)) ∧ wx = w4)
      case first =>
        by_cases g1 : p < q
        · have e0 := Lib.hid (hH.1 (Or.inl g1))
          clear hH hS
          go_wp2_with fail
          go_meet
          exact ⟨by rw [decide_eq_true e0.out], rfl⟩
        · have g1d : decide (p < q) = false := decide_eq_false g1
          by_cases g2 : p = q
          · subst g2
            by_cases g3 : r < s
            · have e0 := Lib.hid (hH.1 (Or.inr ⟨rfl, g3⟩))
              clear hH hS
              go_wp2_with fail
              go_meet
              exact ⟨by rw [decide_eq_true e0.out], rfl⟩
            · have e0 := Lib.hid (show ¬ a < b from fun h => by have := hH.2 h; omega)
              clear hH hS
              go_wp2_with fail
              go_meet
              exact ⟨by rw [decide_eq_false (show ¬ a < b by have := e0.out; omega)], rfl⟩
          · have e0 := Lib.hid (show ¬ a < b from fun h => by have := hH.2 h; omega)
            have g2b : ((p : Int) == q) = false := by simp [g2]
            clear hH hS
            go_wp2_with fail
            go_meet
            exact ⟨by rw [decide_eq_false (show ¬ a < b by have := e0.out; omega)], rfl⟩
      case rest =>
        obtain ⟨rfl, hwx⟩ := hcut
        obtain rfl := hwx.symm
        clear hwx
        have qxy : ∀ w : World, (Op.equalIn 10000 46 (.agg #[.int .i64 (64000 + p), .int .i64 32, .int .i64 2, .int .i64 (60001 + r), .int .i64 0, .int .i64 0]) (.agg #[.int .i64 (64000 + q), .int .i64 32, .int .i64 2, .int .i64 (60001 + s), .int .i64 0, .int .i64 0])).run Try.prog w = .ok (a == b) w := fun w => by
          rw [eq_arr]
          congr 1
          rw [Bool.eq_iff_iff]
          simp
          rw [← hS]
        have qxx : ∀ w : World, (Op.equalIn 10000 46 (.agg #[.int .i64 (64000 + p), .int .i64 32, .int .i64 2, .int .i64 (60001 + r), .int .i64 0, .int .i64 0]) (.agg #[.int .i64 (64000 + p), .int .i64 32, .int .i64 2, .int .i64 (60001 + r), .int .i64 0, .int .i64 0])).run Try.prog w = .ok true w := fun w => by
          rw [eq_arr]; simp
        clear hH hS
        go_wp2_with fail
        have hc := Lib.hid (fun pw : BelowOf w4 => Calls.below_of pw (RA.out pw.w'))
        have f0 := fun pw : BelowOf w4 => pw.cell (a := ⟨w3.heap.size, 0, none⟩) (show w3.heap.size < w4.heap.size by omega) c0
        have g0 := fun pw : BelowOf w4 => pw.cell (a := ⟨w3.heap.size + 1, 0, none⟩) hs4 d0
        have f1 := fun pw : BelowOf w4 => pw.cell (a := ⟨w3.heap.size, 1, none⟩) (show w3.heap.size < w4.heap.size by omega) c1
        have g1 := fun pw : BelowOf w4 => pw.cell (a := ⟨w3.heap.size + 1, 1, none⟩) hs4 d1
        have f2 := fun pw : BelowOf w4 => pw.cell (a := ⟨w3.heap.size, 2, none⟩) (show w3.heap.size < w4.heap.size by omega) c2
        have g2 := fun pw : BelowOf w4 => pw.cell (a := ⟨w3.heap.size + 1, 2, none⟩) hs4 d2
        have f3 := fun pw : BelowOf w4 => pw.cell (a := ⟨w3.heap.size, 3, none⟩) (show w3.heap.size < w4.heap.size by omega) c3
        have g3 := fun pw : BelowOf w4 => pw.cell (a := ⟨w3.heap.size + 1, 3, none⟩) hs4 d3
        have f4 := fun pw : BelowOf w4 => pw.cell (a := ⟨w3.heap.size, 4, none⟩) (show w3.heap.size < w4.heap.size by omega) c4
        have g4 := fun pw : BelowOf w4 => pw.cell (a := ⟨w3.heap.size + 1, 4, none⟩) hs4 d4
        have f5 := fun pw : BelowOf w4 => pw.cell (a := ⟨w3.heap.size, 5, none⟩) (show w3.heap.size < w4.heap.size by omega) c5
        have g5 := fun pw : BelowOf w4 => pw.cell (a := ⟨w3.heap.size + 1, 5, none⟩) hs4 d5
        clear c0 c1 c2 c3 c4 c5 d0 d1 d2 d3 d4 d5
        have z1 : decide (64000 + p ≤ 65535) = true := decide_eq_true (by omega)
        have z2 : decide (60000 < 60001 + r) = true := decide_eq_true (by omega)
        refine wp_region_quiet_below (by assumption) (by kernel_rfl) ?_
        repeat (go_big_quiet_step (first | (go_at_call 21; with_reducible exact hc.out _)))
        refine wpQuiet_nil ?_
        intro _ hw'
        obtain ⟨⟨wq, hbq⟩, hw''⟩ := hw'
        subst hw''
        have HBq := Lib.hid (HB4.out.trans (hbq.mono HB4.out.size))
        clear hbq
        go_wp2_with fail
        go_ret
        exact ⟨by simp, HBq.out⟩
end Go.Proofs.Ytackppehhkbjfaa
