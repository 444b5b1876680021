/-
  The reference's LoreMay.
-/
import Derived.Test.YtaoaicmagccfmaaLoRef1
import Derived.Test.YtaoaicmagccfmaaLoMay2
import Derived.Test.YtaoaicmagccfmaaQuietBelow
import Derived.Deep.CutRange
namespace Go.Proofs.Ytaoaicmagccfmaa
open Go.RowKit Go.Gz Go.Sort

def RefMay (ls : List LR) (W : World) (e : Ending) (w' : World) : Prop :=
  ∃ bv : Bool, e = .returned (.bool bv) ∧ (bv = true → Rising ls ∧ ∀ x ∈ ls, x.to.length ≤ 3) ∧ Below W.heap.size W w'

theorem rising_of {ls : List LR} (h : ∀ j, j + 1 < ls.length → ls[j]!.r < ls[j + 1]!.r) : Rising ls := by
  rw [← riseB_iff]
  unfold riseB
  rw [List.all_eq_true]
  intro i hi
  exact decide_eq_true (h i (by have := List.mem_range.1 hi; omega))

theorem le3_all {ls : List LR} (h : ∀ j, j < ls.length → ls[j]!.to.length ≤ 3) : ∀ x ∈ ls, x.to.length ≤ 3 := by
  intro x hx
  obtain ⟨j, hj, rfl⟩ := List.getElem_of_mem hx
  have := h j hj
  rwa [getElem!_pos ls j hj] at this

set_option maxHeartbeats 4000000 in
set_option maxRecDepth 100000 in
theorem refLoreMay_any (ls : List LR) (p : Option Addr) (cap : Nat) (W : World) (hl : Lores W p ls) (hsz : ls.length < 1000000) (hxs : ∀ x ∈ ls, x.to.length ≤ 9223372036854775807) :
    Calls Try.prog 14 #[.slice p ls.length cap] W (RefMay ls W) := by
  have HF := Lib.hid (fun r w hb => refFind_any ls p cap r w (hl.below hb) hsz)
  have HL := Lib.hid hl; clear hl
  have HXS := Lib.hid hxs; clear hxs
  have mx := mixedL
  go_enter Try.func14, Try.ntmps14
  by_cases h64 : (64 : Int) < (ls.length : Int)
  · go_wp2_with fail
    go_ret
    exact ⟨false, rfl, (fun h => by cases h), Below.refl _ _⟩
  go_wp2_with fail
  go_loopg [3] ls.length (fun g vi wr => ∃ k : Nat, vi = .int .i64 k ∧ k ≤ ls.length ∧ ls.length - k ≤ g ∧ Hid (Below W.heap.size W wr) ∧ Hid (∀ j, j + 1 < k → ls[j]!.r < ls[j + 1]!.r) ∧ Hid (∀ j, j < k → ls[j]!.to.length ≤ 3))
  case atStart => exact ⟨0, rfl, Nat.zero_le _, by omega, Lib.hid (Below.refl _ _), Lib.hid (fun j hj => by omega), Lib.hid (fun j hj => by omega)⟩
  case round =>
    obtain ⟨k, rfl, hkn, hg, HB, HR, H3⟩ := hrel
    by_cases hlt : k < ls.length
    · have hltz : (k : Int) < (ls.length : Int) := by omega
      obtain ⟨b, off, rfl, hbW, c1, c2, c3, HT⟩ := HL.out.at_ HB.out hlt
      have HTo := Lib.hid HT; clear HT
      have hxk := HXS.out _ (get_mem hlt)
      obtain ⟨x, hx⟩ : ∃ x, ls[k]! = x := ⟨_, rfl⟩
      have HX := Lib.hid hx
      rw [hx] at c1 c2 c3 HTo hxk
      clear hx
      obtain ⟨r, hr⟩ : ∃ r, x.r = r := ⟨_, rfl⟩
      obtain ⟨c, hc⟩ : ∃ c, x.c = c := ⟨_, rfl⟩
      obtain ⟨n, hn⟩ : ∃ n, x.to.length = n := ⟨_, rfl⟩
      rw [hr] at c1
      rw [hc] at c2
      rw [hn] at c3 hxk
      have HRr := Lib.hid hr; clear hr
      have HNn := Lib.hid hn; clear hn hc
      have hsr := HB.out.size
      go_upto_region 7 with fail
      obtain ⟨wo, rfl⟩ : ∃ wo, wo = wr := ⟨_, rfl⟩
      obtain ⟨w3, hw3⟩ : ∃ w3, wo.alloc (.cells #[.int .i32 r, .int .i64 c, .slice x.p n x.cap] 33) = w3 := ⟨_, rfl⟩
      rw [hw3]
      have d0 : w3.cell? ⟨wo.heap.size, 0, none⟩ = some (.int .i32 r) := by rw [← hw3, World.cell?_alloc_new]; rfl
      have d1 : w3.cell? ⟨wo.heap.size, 1, none⟩ = some (.int .i64 c) := by rw [← hw3, World.cell?_alloc_new]; rfl
      have d2 : w3.cell? ⟨wo.heap.size, 2, none⟩ = some (.slice x.p n x.cap) := by rw [← hw3, World.cell?_alloc_new]; rfl
      have hb3 : RowKit.Below wo.heap.size wo w3 := hw3 ▸ (RowKit.Below.refl _ _).alloc (Nat.le_refl _) _
      have hs3 : wo.heap.size < w3.heap.size := by rw [← hw3]; simp
      clear hw3 c1 c2 c3
      have HB3 := Lib.hid hb3
      clear hb3
      have HW3 := Lib.hid (HB.out.trans (HB3.out.mono hsr))
      go_cut [65] from 10 to 99 (fun cc wx => ∃ bv : Bool, cc = .bool bv ∧ (bv = false → n ≤ 3 ∧ (0 < k → ls[k - 1]!.r < r)) ∧ Hid (RowKit.Below w3.heap.size w3 wx))
      case first =>
        have f0 := fun pw : BelowOf w3 => pw.cell (a := ⟨wo.heap.size, 0, none⟩) hs3 d0
        have f1 := fun pw : BelowOf w3 => pw.cell (a := ⟨wo.heap.size, 1, none⟩) hs3 d1
        have f2 := fun pw : BelowOf w3 => pw.cell (a := ⟨wo.heap.size, 2, none⟩) hs3 d2
        have hm := Lib.hid (fun pw : BelowOf w3 => (refMay_any r pw.w').mono (R' := fun e w'' => e = .returned (.bool (rmB r)) ∧ ∃ q : BelowOf w3, w'' = q.w') fun _ _ ⟨he, hw⟩ => ⟨he, pw, hw.symm⟩)
        clear d0 d1 d2
        obtain ⟨bm, hbm⟩ : ∃ bm, rmB r = bm := ⟨_, rfl⟩
        rw [hbm] at hm
        clear hbm
        cases bm with
        | false =>
          refine wp_region_quiet_below (by assumption) (by kernel_rfl) ?_
          repeat (go_big_quiet_step (first | (go_at_call 25; with_reducible exact hm.out _)))
          refine wpQuiet_nil ?_
          intro _ hw'
          obtain ⟨⟨wq, hbq⟩, hw''⟩ := hw'
          subst hw''
          have HBq := Lib.hid hbq
          clear hbq
          go_wp2_with fail
          go_meet
          exact ⟨true, rfl, (fun h => by cases h), HBq⟩
        | true =>
          by_cases hk0 : 0 < k
          · obtain ⟨j, hj⟩ : ∃ j, k = j + 1 := ⟨k - 1, by omega⟩
            obtain ⟨b', off', hpe, hb', g1, _, _, _⟩ := HL.out.at_ HW3.out (show j < ls.length by omega)
            simp only [Option.some.injEq, Addr.mk.injEq, and_true] at hpe
            obtain ⟨rfl, rfl⟩ := hpe
            obtain ⟨y, hy⟩ : ∃ y, ls[j]!.r = y := ⟨_, rfl⟩
            rw [hy] at g1
            have HY := Lib.hid hy; clear hy
            have f3 := fun pw : BelowOf w3 => pw.cell (a := ⟨b, off + j * 3, none⟩) (by have := hs3; show b < w3.heap.size; omega) g1
            clear g1
            have HJ := Lib.hid hj
            have ej : (k : Int) - 1 = (j : Int) := by omega
            have ew : IntKind.i64.wrap (j : Int) = (j : Int) := by rw [IntKind.wrap_i64]; omega
            have hjz : (j : Int) < (ls.length : Int) := by omega
            have hk0z : (0 : Int) < (k : Int) := by omega
            clear hj
            by_cases hge : r ≤ y
            · refine wp_region_quiet_below (by assumption) (by kernel_rfl) ?_
              repeat (go_big_quiet_step (first | (go_at_call 25; with_reducible exact hm.out _)))
              refine wpQuiet_nil ?_
              intro _ hw'
              obtain ⟨⟨wq, hbq⟩, hw''⟩ := hw'
              subst hw''
              have HBq := Lib.hid hbq
              clear hbq
              go_wp2_with fail
              go_meet
              exact ⟨true, rfl, (fun h => by cases h), HBq⟩
            · have hged : decide (r ≤ y) = false := decide_eq_false hge
              have HP := Lib.hid (show 0 < k → ls[k - 1]!.r < r from fun _ => by rw [HJ.out, Nat.add_sub_cancel, HY.out]; omega)
              clear hge
              by_cases q1 : c < 0
              · refine wp_region_quiet_below (by assumption) (by kernel_rfl) ?_
                repeat (go_big_quiet_step (first | (go_at_call 25; with_reducible exact hm.out _)))
                refine wpQuiet_nil ?_
                intro _ hw'
                obtain ⟨⟨wq, hbq⟩, hw''⟩ := hw'
                subst hw''
                have HBq := Lib.hid hbq
                clear hbq
                go_wp2_with fail
                go_meet
                exact ⟨true, rfl, (fun h => by cases h), HBq⟩
              have e1 : decide (c < 0) = false := decide_eq_false q1
              clear q1
              by_cases q2 : 254 < c
              · refine wp_region_quiet_below (by assumption) (by kernel_rfl) ?_
                repeat (go_big_quiet_step (first | (go_at_call 25; with_reducible exact hm.out _)))
                refine wpQuiet_nil ?_
                intro _ hw'
                obtain ⟨⟨wq, hbq⟩, hw''⟩ := hw'
                subst hw''
                have HBq := Lib.hid hbq
                clear hbq
                go_wp2_with fail
                go_meet
                exact ⟨true, rfl, (fun h => by cases h), HBq⟩
              have e2 : decide (254 < c) = false := decide_eq_false q2
              clear q2
              by_cases q3 : 3 < n
              · have q3z : (3 : Int) < (n : Int) := by omega
                refine wp_region_quiet_below (by assumption) (by kernel_rfl) ?_
                repeat (go_big_quiet_step (first | (go_at_call 25; with_reducible exact hm.out _)))
                refine wpQuiet_nil ?_
                intro _ hw'
                obtain ⟨⟨wq, hbq⟩, hw''⟩ := hw'
                subst hw''
                have HBq := Lib.hid hbq
                clear hbq
                go_wp2_with fail
                go_meet
                exact ⟨true, rfl, (fun h => by cases h), HBq⟩
              have e3 : decide ((3 : Int) < (n : Int)) = false := decide_eq_false (by omega)
              have Q3 := Lib.hid q3
              clear q3
              by_cases q4 : n = 0
              · have e4 : ((n : Int) == 0) = true := by simp [q4]
                clear q4
                by_cases q5 : c = 0
                · have e5 : (c == 0) = true := by simp [q5]
                  clear q5
                  refine wp_region_quiet_below (by assumption) (by kernel_rfl) ?_
                  repeat (go_big_quiet_step (first | (go_at_call 25; with_reducible exact hm.out _)))
                  refine wpQuiet_nil ?_
                  intro _ hw'
                  obtain ⟨⟨wq, hbq⟩, hw''⟩ := hw'
                  subst hw''
                  have HBq := Lib.hid hbq
                  clear hbq
                  go_wp2_with fail
                  go_meet
                  exact ⟨true, rfl, (fun h => by cases h), HBq⟩
                · have e5 : (c == 0) = false := by simp [q5]
                  clear q5
                  refine wp_region_quiet_below (by assumption) (by kernel_rfl) ?_
                  repeat (go_big_quiet_step (first | (go_at_call 25; with_reducible exact hm.out _)))
                  refine wpQuiet_nil ?_
                  intro _ hw'
                  obtain ⟨⟨wq, hbq⟩, hw''⟩ := hw'
                  subst hw''
                  have HBq := Lib.hid hbq
                  clear hbq
                  go_wp2_with fail
                  go_meet
                  exact ⟨false, rfl, (fun _ => ⟨by have := Q3.out; omega, HP.out⟩), HBq⟩
              · have e4 : ((n : Int) == 0) = false := by simp [q4]
                clear q4
                refine wp_region_quiet_below (by assumption) (by kernel_rfl) ?_
                repeat (go_big_quiet_step (first | (go_at_call 25; with_reducible exact hm.out _)))
                refine wpQuiet_nil ?_
                intro _ hw'
                obtain ⟨⟨wq, hbq⟩, hw''⟩ := hw'
                subst hw''
                have HBq := Lib.hid hbq
                clear hbq
                go_wp2_with fail
                go_meet
                exact ⟨false, rfl, (fun _ => ⟨by have := Q3.out; omega, HP.out⟩), HBq⟩
          · have hk0d : decide ((0 : Int) < (k : Int)) = false := decide_eq_false (by omega)
            have HP := Lib.hid (show 0 < k → ls[k - 1]!.r < r from fun h => absurd h hk0)
            by_cases q1 : c < 0
            · refine wp_region_quiet_below (by assumption) (by kernel_rfl) ?_
              repeat (go_big_quiet_step (first | (go_at_call 25; with_reducible exact hm.out _)))
              refine wpQuiet_nil ?_
              intro _ hw'
              obtain ⟨⟨wq, hbq⟩, hw''⟩ := hw'
              subst hw''
              have HBq := Lib.hid hbq
              clear hbq
              go_wp2_with fail
              go_meet
              exact ⟨true, rfl, (fun h => by cases h), HBq⟩
            have e1 : decide (c < 0) = false := decide_eq_false q1
            clear q1
            by_cases q2 : 254 < c
            · refine wp_region_quiet_below (by assumption) (by kernel_rfl) ?_
              repeat (go_big_quiet_step (first | (go_at_call 25; with_reducible exact hm.out _)))
              refine wpQuiet_nil ?_
              intro _ hw'
              obtain ⟨⟨wq, hbq⟩, hw''⟩ := hw'
              subst hw''
              have HBq := Lib.hid hbq
              clear hbq
              go_wp2_with fail
              go_meet
              exact ⟨true, rfl, (fun h => by cases h), HBq⟩
            have e2 : decide (254 < c) = false := decide_eq_false q2
            clear q2
            by_cases q3 : 3 < n
            · have q3z : (3 : Int) < (n : Int) := by omega
              refine wp_region_quiet_below (by assumption) (by kernel_rfl) ?_
              repeat (go_big_quiet_step (first | (go_at_call 25; with_reducible exact hm.out _)))
              refine wpQuiet_nil ?_
              intro _ hw'
              obtain ⟨⟨wq, hbq⟩, hw''⟩ := hw'
              subst hw''
              have HBq := Lib.hid hbq
              clear hbq
              go_wp2_with fail
              go_meet
              exact ⟨true, rfl, (fun h => by cases h), HBq⟩
            have e3 : decide ((3 : Int) < (n : Int)) = false := decide_eq_false (by omega)
            have Q3 := Lib.hid q3
            clear q3
            by_cases q4 : n = 0
            · have e4 : ((n : Int) == 0) = true := by simp [q4]
              clear q4
              by_cases q5 : c = 0
              · have e5 : (c == 0) = true := by simp [q5]
                clear q5
                refine wp_region_quiet_below (by assumption) (by kernel_rfl) ?_
                repeat (go_big_quiet_step (first | (go_at_call 25; with_reducible exact hm.out _)))
                refine wpQuiet_nil ?_
                intro _ hw'
                obtain ⟨⟨wq, hbq⟩, hw''⟩ := hw'
                subst hw''
                have HBq := Lib.hid hbq
                clear hbq
                go_wp2_with fail
                go_meet
                exact ⟨true, rfl, (fun h => by cases h), HBq⟩
              · have e5 : (c == 0) = false := by simp [q5]
                clear q5
                refine wp_region_quiet_below (by assumption) (by kernel_rfl) ?_
                repeat (go_big_quiet_step (first | (go_at_call 25; with_reducible exact hm.out _)))
                refine wpQuiet_nil ?_
                intro _ hw'
                obtain ⟨⟨wq, hbq⟩, hw''⟩ := hw'
                subst hw''
                have HBq := Lib.hid hbq
                clear hbq
                go_wp2_with fail
                go_meet
                exact ⟨false, rfl, (fun _ => ⟨by have := Q3.out; omega, HP.out⟩), HBq⟩
            · have e4 : ((n : Int) == 0) = false := by simp [q4]
              clear q4
              refine wp_region_quiet_below (by assumption) (by kernel_rfl) ?_
              repeat (go_big_quiet_step (first | (go_at_call 25; with_reducible exact hm.out _)))
              refine wpQuiet_nil ?_
              intro _ hw'
              obtain ⟨⟨wq, hbq⟩, hw''⟩ := hw'
              subst hw''
              have HBq := Lib.hid hbq
              clear hbq
              go_wp2_with fail
              go_meet
              exact ⟨false, rfl, (fun _ => ⟨by have := Q3.out; omega, HP.out⟩), HBq⟩
      case rest =>
        obtain ⟨bv, rfl, hbv, HBc⟩ := hcut
        cases bv with
        | true =>
          go_wp2_with fail
          go_ret
          exact ⟨false, rfl, (fun h => by cases h), HW3.out.trans (HBc.out.mono HW3.out.size)⟩
        | false =>
          obtain ⟨hn3, hpv⟩ := hbv rfl
          have HPV := Lib.hid hpv
          clear hbv hpv
          have hcs := HBc.out.size
          have d2c : wc.cell? ⟨wo.heap.size, 2, none⟩ = some (.slice x.p n x.cap) := by rw [HBc.out.cell (p := ⟨wo.heap.size, 2, none⟩) hs3]; exact d2
          clear d0 d1
          go_wp2_with fail
          go_loopg [5] n (fun g2 vi w2 => ∃ m : Nat, vi = .int .i64 m ∧ m ≤ n ∧ n - m ≤ g2 ∧ Hid (RowKit.Below w3.heap.size w3 w2))
          case atStart => exact ⟨0, rfl, Nat.zero_le _, by omega, HBc⟩
          case round =>
            obtain ⟨m, rfl, hmn, hg2, HB2⟩ := hrel
            have hs2 := HB2.out.size
            have c2 : wr.cell? ⟨wo.heap.size, 2, none⟩ = some (.slice x.p n x.cap) := by rw [HB2.out.cell (p := ⟨wo.heap.size, 2, none⟩) hs3]; exact d2
            by_cases hltm : m < n
            · have hltmz : (m : Int) < (n : Int) := by omega
              obtain ⟨be, oe, hpe, hbe, ce⟩ := row_cell HTo.out.1 (HB3.out.trans (HB2.out.mono (Nat.le_of_lt hs3))) (show m < x.to.length by rw [HNn.out]; exact hltm)
              rw [hpe] at c2
              clear hpe
              obtain ⟨z, hz⟩ : ∃ z, x.to.getD m 0 = z := ⟨_, rfl⟩
              rw [hz] at ce
              clear hz
              have hf := Lib.hid (HF.out z wr (HW3.out.trans (HB2.out.mono HW3.out.size)))
              go_wp2_with fail
              refine hf.out.mono ?_
              clear hf
              rintro e w5 ⟨hw5, h5⟩
              obtain rfl : wr = w5 := hw5.symm
              clear hw5
              have hm := Lib.hid (fun w1 : World => refMay_any z w1)
              obtain ⟨bm, hbm⟩ : ∃ bm, rmB z = bm := ⟨_, rfl⟩
              rw [hbm] at hm
              clear hbm
              rcases h5 with ⟨k', hk', _, rfl⟩ | ⟨_, rfl⟩
              · have hk'z : (k' : Int) < (ls.length : Int) := by omega
                have hk'0 : decide ((0 : Int) ≤ (k' : Int)) = true := decide_eq_true (by omega)
                obtain ⟨b', off', hpe, hb', _, _, g3, _⟩ := HL.out.at_ (HW3.out.trans (HB2.out.mono HW3.out.size)) hk'
                simp only [Option.some.injEq, Addr.mk.injEq, and_true] at hpe
                obtain ⟨rfl, rfl⟩ := hpe
                have hxl := HXS.out _ (get_mem hk')
                generalize ls[k']! = x' at g3 hxl
                obtain ⟨n', hn'⟩ : ∃ n', x'.to.length = n' := ⟨_, rfl⟩
                rw [hn'] at g3 hxl
                clear hn'
                cases bm with
                | false =>
                  go_wp2_with (first | (go_at_call 25; refine (hm.out _).mono ?_; rintro e w' ⟨rfl, rfl⟩))
                  go_ret
                  exact ⟨false, rfl, (fun h => by cases h), HW3.out.trans (HB2.out.mono HW3.out.size)⟩
                | true =>
                  by_cases hn0 : 0 < n'
                  · have hn0z : (0 : Int) < (n' : Int) := by omega
                    go_wp2_with (first | (go_at_call 25; refine (hm.out _).mono ?_; rintro e w' ⟨rfl, rfl⟩))
                    go_ret
                    exact ⟨false, rfl, (fun h => by cases h), HW3.out.trans (HB2.out.mono HW3.out.size)⟩
                  · have hn0z : decide ((0 : Int) < (n' : Int)) = false := decide_eq_false (by omega)
                    go_wp2_with (first | (go_at_call 25; refine (hm.out _).mono ?_; rintro e w' ⟨rfl, rfl⟩))
                    go_roundg (n - (m + 1))
                    case measure => omega
                    case rel => exact ⟨m + 1, by go_num, by omega, by omega, HB2⟩
              · cases bm with
                | false =>
                  go_wp2_with (first | (go_at_call 25; refine (hm.out _).mono ?_; rintro e w' ⟨rfl, rfl⟩))
                  go_ret
                  exact ⟨false, rfl, (fun h => by cases h), HW3.out.trans (HB2.out.mono HW3.out.size)⟩
                | true =>
                  go_wp2_with (first | (go_at_call 25; refine (hm.out _).mono ?_; rintro e w' ⟨rfl, rfl⟩))
                  go_roundg (n - (m + 1))
                  case measure => omega
                  case rel => exact ⟨m + 1, by go_num, by omega, by omega, HB2⟩
            · obtain rfl : m = n := by omega
              have hltmz : ¬ (m : Int) < (m : Int) := by omega
              go_wp2_with fail
              go_roundg (ls.length - (k + 1))
              case measure => omega
              case rel => exact ⟨k + 1, by go_num, by omega, by omega, Lib.hid (HW3.out.trans (HB2.out.mono HW3.out.size)), Lib.hid (fun j hj => by
                by_cases hc : j + 1 < k
                · exact HR.out j hc
                · have hjk : k = j + 1 := by omega
                  have e : ls[j + 1]! = x := by rw [← hjk]; exact HX.out
                  have h2 := HPV.out (by omega)
                  rw [show k - 1 = j by omega] at h2
                  rw [e, HRr.out]; exact h2), Lib.hid (fun j hj => by
                by_cases hc : j < k
                · exact H3.out j hc
                · have hjk : j = k := by omega
                  rw [hjk, HX.out, HNn.out]; exact hn3)⟩
    · obtain rfl : k = ls.length := by omega
      go_wp2_with fail
      go_ret
      exact ⟨true, rfl, fun _ => ⟨rising_of HR.out, le3_all H3.out⟩, HB.out⟩
end Go.Proofs.Ytaoaicmagccfmaa
