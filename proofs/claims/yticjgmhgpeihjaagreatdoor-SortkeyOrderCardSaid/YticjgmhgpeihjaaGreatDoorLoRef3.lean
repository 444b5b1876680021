/-
  The reference's LoreMay, whole.
-/
import Derived.Test.YticjgmhgpeihjaaGreatDoorLoRef1
import Derived.Test.YticjgmhgpeihjaaGreatDoorLoMay2
import Derived.Test.YticjgmhgpeihjaaGreatDoorQuietBelow
import Derived.Deep.CutRange
namespace Go.Proofs.YticjgmhgpeihjaaGreatDoor
open Go.RowKit Go.Gz Go.Sort

theorem rm_not (r : Int) : mayNotB r = !rmB r := by
  unfold mayNotB rmB Lib.validRune
  congr 1
  rw [Bool.eq_iff_iff]
  simp
  omega
theorem find_first {ls : List LR} {r : Int} {k : Nat} (hk : k < ls.length) (hr : ls[k]!.r = r) (hf : ∀ j, j < k → ls[j]!.r ≠ r) : findL ls r = ls[k]! := by
  unfold findL
  have : ls.find? (fun x => decide (x.r = r)) = some ls[k]! := by
    rw [List.find?_eq_some_iff_getElem]
    refine ⟨by simpa using hr, k, hk, (getElem!_pos ls k hk).symm, fun j hj => ?_⟩
    have := hf j hj
    rw [getElem!_pos ls j (by omega)] at this
    simpa using this
  rw [this]; rfl
def FoundF (ls : List LR) (r : Int) (W : World) (e : Ending) (w' : World) : Prop :=
  w' = W ∧ ((∃ k : Nat, k < ls.length ∧ findL ls r = ls[k]! ∧ e = .returned (.int .i64 (k : Int))) ∨ ((∀ j, j < ls.length → ls[j]!.r ≠ r) ∧ e = .returned (.int .i64 (-1))))

set_option maxHeartbeats 1000000 in
theorem refFind_first (ls : List LR) (p : Option Addr) (cap : Nat) (r : Int) (W : World) (hl : Lores W p ls) (hsz : ls.length < 1000000) :
    Calls Tryz.prog 37 #[.slice p ls.length cap, .int .i32 r] W (FoundF ls r W) := by
  have HL := Lib.hid hl; clear hl
  go_enter Tryz.func37, Tryz.ntmps37
  go_wp2_with fail
  go_loop [5] (fun i => ∃ k : Nat, i = .int .i64 k ∧ k ≤ ls.length ∧ Hid (∀ j, j < k → ls[j]!.r ≠ r)) (fun i => ls.length - (intOf i).toNat)
  case atStart => exact ⟨0, rfl, Nat.zero_le _, Lib.hid fun j hj => by omega⟩
  case round =>
    obtain ⟨k, rfl, hk, HN⟩ := hrel
    by_cases hlt : k < ls.length
    · have hltz : (k : Int) < (ls.length : Int) := by omega
      obtain ⟨b, off, rfl, hbW, c1, _, _, _⟩ := HL.out.at_ (Below.refl _ _) hlt
      obtain ⟨x, hx⟩ : ∃ x, ls[k]!.r = x := ⟨_, rfl⟩
      rw [hx] at c1
      have HX := Lib.hid hx; clear hx
      by_cases he : x = r
      · have heb : ((x : Int) == r) = true := by simp [he]
        have HE := Lib.hid he; clear he
        go_wp2_with fail
        go_ret
        exact ⟨rfl, Or.inl ⟨k, hlt, find_first hlt (by rw [HX.out, HE.out]) HN.out, rfl⟩⟩
      · have heb : ((x : Int) == r) = false := by simp [he]
        have HE := Lib.hid he; clear he
        go_wp2_with fail
        go_round
        case rel => exact ⟨k + 1, by go_num, by omega, Lib.hid fun j hj => by
          by_cases c : j = k
          · rw [c, HX.out]; exact HE.out
          · exact HN.out j (by omega)⟩
        case measure => simp [intOf]; omega
    · obtain rfl : k = ls.length := by omega
      go_wp2_with fail
      go_ret
      exact ⟨rfl, Or.inr ⟨HN.out, rfl⟩⟩

/-- a row with nothing wrong in it. -/
def okRow (ls : List LR) (x : LR) : Prop := wrongB x = false ∧ ∀ z ∈ x.to, hasTo ls z = false
theorem wrong_of {x : LR} (h : mayNotB x.r = true ∨ x.c < 0 ∨ 254 < x.c ∨ 3 < x.to.length ∨ (x.to.length = 0 ∧ x.c = 0) ∨ x.to.any mayNotB = true) : wrongB x = true := by
  unfold wrongB
  simp only [Bool.or_eq_true, decide_eq_true_eq]
  rcases h with h | h | h | h | h | h
  · exact Or.inl h
  · right; left; split <;> omega
  · exact Or.inr (Or.inr (Or.inl h))
  · exact Or.inr (Or.inr (Or.inr (Or.inl h)))
  · right; left; rw [if_pos h.1]; omega
  · exact Or.inr (Or.inr (Or.inr (Or.inr h)))
theorem wrong_not {x : LR} (h1 : mayNotB x.r = false) (h2 : ¬ x.c < 0) (h3 : ¬ 254 < x.c) (h4 : x.to.length ≤ 3) (h5 : ¬ (x.to.length = 0 ∧ x.c = 0)) (h6 : ∀ z ∈ x.to, mayNotB z = false) : wrongB x = false := by
  unfold wrongB
  rw [h1, decide_eq_false h3, decide_eq_false (show ¬ 3 < x.to.length by omega), List.any_eq_false.2 fun z hz => by rw [h6 z hz]; simp]
  have : ¬ x.c < if x.to.length = 0 then 1 else 0 := by split <;> omega
  rw [decide_eq_false this]; rfl
theorem bad_row {ls : List LR} {k : Nat} (hk : k < ls.length) (h : wrongB ls[k]! = true) : mayB ls = false := by
  have : ls.any wrongB = true := List.any_eq_true.2 ⟨_, get_mem hk, h⟩
  unfold mayB
  rw [this]; simp
theorem bad_flat {ls : List LR} {k : Nat} (hk : k < ls.length) {z : Int} (hz : z ∈ ls[k]!.to) (h : hasTo ls z = true) : mayB ls = false := by
  have : (ls.any fun x => x.to.any (hasTo ls)) = true := List.any_eq_true.2 ⟨_, get_mem hk, List.any_eq_true.2 ⟨z, hz, h⟩⟩
  unfold mayB
  rw [this]; simp
theorem bad_rise {ls : List LR} {j : Nat} (hk : j + 1 < ls.length) (h : ls[j + 1]!.r ≤ ls[j]!.r) : mayB ls = false := by
  have : riseB ls = false := by
    rw [← Bool.not_eq_true, riseB_iff]
    intro hr
    have := hr j (j + 1) (by omega) hk
    omega
  unfold mayB
  rw [this]; simp
theorem good_all {ls : List LR} (h64 : ls.length ≤ 64) (hr : ∀ j, j + 1 < ls.length → ls[j]!.r < ls[j + 1]!.r) (ho : ∀ j, j < ls.length → okRow ls ls[j]!) : mayB ls = true := by
  have h1 : riseB ls = true := by
    unfold riseB
    rw [List.all_eq_true]
    intro i hi
    exact decide_eq_true (hr i (by have := List.mem_range.1 hi; omega))
  have at_ : ∀ x ∈ ls, okRow ls x := fun x hx => by
    obtain ⟨j, hj, rfl⟩ := List.getElem_of_mem hx
    have := ho j hj
    rwa [getElem!_pos ls j hj] at this
  have h2 : ls.any wrongB = false := List.any_eq_false.2 fun x hx => by rw [(at_ x hx).1]; simp
  have h3 : (ls.any fun x => x.to.any (hasTo ls)) = false := List.any_eq_false.2 fun x hx => by
    rw [Bool.not_eq_true, List.any_eq_false]
    exact fun z hz => by rw [(at_ x hx).2 z hz]; simp
  unfold mayB
  rw [h1, h2, h3, decide_eq_true h64]; rfl

set_option maxHeartbeats 4000000 in
set_option maxRecDepth 100000 in
theorem refLoreMay_is (ls : List LR) (p : Option Addr) (cap : Nat) (W : World) (hl : Lores W p ls) (hsz : ls.length < 1000000) (hxs : ∀ x ∈ ls, x.to.length ≤ 9223372036854775807) :
    Calls Tryz.prog 25 #[.slice p ls.length cap] W fun e w' => e = .returned (.bool (mayB ls)) ∧ Below W.heap.size W w' := by
  obtain ⟨mb, hmb⟩ : ∃ mb, mayB ls = mb := ⟨_, rfl⟩
  rw [hmb]
  have HMB := Lib.hid hmb; clear hmb
  have HF := Lib.hid (fun r w hb => refFind_first ls p cap r w (hl.below hb) hsz)
  have HL := Lib.hid hl; clear hl
  have HXS := Lib.hid hxs; clear hxs
  have mx := mixedL
  go_enter Tryz.func25, Tryz.ntmps25
  by_cases h64 : (64 : Int) < (ls.length : Int)
  · have e0 := Lib.hid (show mb = false by rw [← HMB.out]; unfold mayB; rw [decide_eq_false (show ¬ ls.length ≤ 64 by omega)]; rfl)
    go_wp2_with fail
    go_ret
    exact ⟨by rw [e0.out]; rfl, Below.refl _ _⟩
  go_wp2_with fail
  go_loopg [3] ls.length (fun g vi wr => ∃ k : Nat, vi = .int .i64 k ∧ k ≤ ls.length ∧ ls.length - k ≤ g ∧ Hid (Below W.heap.size W wr) ∧ Hid (∀ j, j + 1 < k → ls[j]!.r < ls[j + 1]!.r) ∧ Hid (∀ j, j < k → okRow ls ls[j]!))
  case atStart => exact ⟨0, rfl, Nat.zero_le _, by omega, Lib.hid (Below.refl _ _), Lib.hid (fun j hj => by omega), Lib.hid (fun j hj => by omega)⟩
  case round =>
    obtain ⟨k, rfl, hkn, hg, HB, HR, H3⟩ := hrel
    have H64 := Lib.hid h64
    by_cases hlt : k < ls.length
    · have hltz : (k : Int) < (ls.length : Int) := by omega
      obtain ⟨b, off, rfl, hbW, c1, c2, c3, HT⟩ := HL.out.at_ HB.out hlt
      have HTo := Lib.hid HT; clear HT
      have hxk := HXS.out _ (get_mem hlt)
      obtain ⟨x, hx⟩ : ∃ x, ls[k]! = x := ⟨_, rfl⟩
      have HX := Lib.hid hx
      rw [hx] at c1 c2 c3 HTo hxk
      clear hx
      obtain ⟨r, hr⟩ : ∃ r, x.r = r := ⟨_, rfl⟩
      obtain ⟨c, hc⟩ : ∃ c, x.c = c := ⟨_, rfl⟩
      obtain ⟨n, hn⟩ : ∃ n, x.to.length = n := ⟨_, rfl⟩
      rw [hr] at c1
      rw [hc] at c2
      rw [hn] at c3 hxk
      have HRr := Lib.hid hr; clear hr
      have HNn := Lib.hid hn; clear hn
      have HCc := Lib.hid hc; clear hc
      have HBAD := Lib.hid (show (c < 0 ∨ 254 < c ∨ 3 < n ∨ (n = 0 ∧ c = 0)) → mb = false from fun h => by
        rw [← HMB.out]
        refine bad_row hlt (wrong_of ?_)
        rw [HX.out, HCc.out, HNn.out]
        rcases h with h | h | h | h
        · exact Or.inr (Or.inl h)
        · exact Or.inr (Or.inr (Or.inl h))
        · exact Or.inr (Or.inr (Or.inr (Or.inl h)))
        · exact Or.inr (Or.inr (Or.inr (Or.inr (Or.inl h)))))
      have HBADr := Lib.hid (show mayNotB r = true → mb = false from fun h => by
        rw [← HMB.out]
        exact bad_row hlt (wrong_of (Or.inl (by rw [HX.out, HRr.out]; exact h))))
      have hsr := HB.out.size
      go_upto_region 7 with fail
      obtain ⟨wo, rfl⟩ : ∃ wo, wo = wr := ⟨_, rfl⟩
      obtain ⟨w3, hw3⟩ : ∃ w3, wo.alloc (.cells #[.int .i32 r, .int .i64 c, .slice x.p n x.cap] 49) = w3 := ⟨_, rfl⟩
      rw [hw3]
      have d0 : w3.cell? ⟨wo.heap.size, 0, none⟩ = some (.int .i32 r) := by rw [← hw3, World.cell?_alloc_new]; rfl
      have d1 : w3.cell? ⟨wo.heap.size, 1, none⟩ = some (.int .i64 c) := by rw [← hw3, World.cell?_alloc_new]; rfl
      have d2 : w3.cell? ⟨wo.heap.size, 2, none⟩ = some (.slice x.p n x.cap) := by rw [← hw3, World.cell?_alloc_new]; rfl
      have hb3 : RowKit.Below wo.heap.size wo w3 := hw3 ▸ (RowKit.Below.refl _ _).alloc (Nat.le_refl _) _
      have hs3 : wo.heap.size < w3.heap.size := by rw [← hw3]; simp
      clear hw3 c1 c2 c3
      have HB3 := Lib.hid hb3
      clear hb3
      have HW3 := Lib.hid (HB.out.trans (HB3.out.mono hsr))
      go_cut [65] from 10 to 99 (fun cc wx => ∃ bv : Bool, cc = .bool bv ∧ (bv = true → mb = false) ∧ (bv = false → n ≤ 3 ∧ (0 < k → ls[k - 1]!.r < r) ∧ mayNotB r = false ∧ ¬ c < 0 ∧ ¬ 254 < c ∧ ¬ (n = 0 ∧ c = 0)) ∧ Hid (RowKit.Below w3.heap.size w3 wx))
      case first =>
        have f0 := fun pw : BelowOf w3 => pw.cell (a := ⟨wo.heap.size, 0, none⟩) hs3 d0
        have f1 := fun pw : BelowOf w3 => pw.cell (a := ⟨wo.heap.size, 1, none⟩) hs3 d1
        have f2 := fun pw : BelowOf w3 => pw.cell (a := ⟨wo.heap.size, 2, none⟩) hs3 d2
        have hm := Lib.hid (fun pw : BelowOf w3 => (refMay_any r pw.w').mono (R' := fun e w'' => e = .returned (.bool (rmB r)) ∧ ∃ q : BelowOf w3, w'' = q.w') fun _ _ ⟨he, hw⟩ => ⟨he, pw, hw.symm⟩)
        clear d0 d1 d2
        obtain ⟨bm, hbm⟩ : ∃ bm, rmB r = bm := ⟨_, rfl⟩
        rw [hbm] at hm
        have HM1 := Lib.hid (show mayNotB r = !bm by rw [rm_not, hbm])
        clear hbm
        cases bm with
        | false =>
          refine wp_region_quiet_below (by assumption) (by kernel_rfl) ?_
          repeat (go_big_quiet_step (first | (go_at_call 24; with_reducible exact hm.out _)))
          refine wpQuiet_nil ?_
          intro _ hw'
          obtain ⟨⟨wq, hbq⟩, hw''⟩ := hw'
          subst hw''
          have HBq := Lib.hid hbq
          clear hbq
          go_wp2_with fail
          go_meet
          exact ⟨true, rfl, (fun _ => HBADr.out (by have := HM1.out; simpa using this)), (fun h => by cases h), HBq⟩
        | true =>
          by_cases hk0 : 0 < k
          · obtain ⟨j, hj⟩ : ∃ j, k = j + 1 := ⟨k - 1, by omega⟩
            obtain ⟨b', off', hpe, hb', g1, _, _, _⟩ := HL.out.at_ HW3.out (show j < ls.length by omega)
            simp only [Option.some.injEq, Addr.mk.injEq, and_true] at hpe
            obtain ⟨rfl, rfl⟩ := hpe
            obtain ⟨y, hy⟩ : ∃ y, ls[j]!.r = y := ⟨_, rfl⟩
            rw [hy] at g1
            have HY := Lib.hid hy; clear hy
            have f3 := fun pw : BelowOf w3 => pw.cell (a := ⟨b, off + j * 3, none⟩) (by have := hs3; show b < w3.heap.size; omega) g1
            clear g1
            have HJ := Lib.hid hj
            have ej : (k : Int) - 1 = (j : Int) := by omega
            have ew : IntKind.i64.wrap (j : Int) = (j : Int) := by rw [IntKind.wrap_i64]; omega
            have hjz : (j : Int) < (ls.length : Int) := by omega
            have hk0z : (0 : Int) < (k : Int) := by omega
            clear hj
            have HRI := Lib.hid (show r ≤ y → mb = false from fun h => by
              have h1 := HJ.out
              rw [← HMB.out]
              refine bad_rise (j := j) (by omega) ?_
              rw [← h1, HX.out, HRr.out, HY.out]; exact h)
            by_cases hge : r ≤ y
            · refine wp_region_quiet_below (by assumption) (by kernel_rfl) ?_
              repeat (go_big_quiet_step (first | (go_at_call 24; with_reducible exact hm.out _)))
              refine wpQuiet_nil ?_
              intro _ hw'
              obtain ⟨⟨wq, hbq⟩, hw''⟩ := hw'
              subst hw''
              have HBq := Lib.hid hbq
              clear hbq
              go_wp2_with fail
              go_meet
              exact ⟨true, rfl, (fun _ => HRI.out hge), (fun h => by cases h), HBq⟩
            · have hged : decide (r ≤ y) = false := decide_eq_false hge
              have HP := Lib.hid (show 0 < k → ls[k - 1]!.r < r from fun _ => by rw [HJ.out, Nat.add_sub_cancel, HY.out]; omega)
              clear hge
              by_cases q1 : c < 0
              · refine wp_region_quiet_below (by assumption) (by kernel_rfl) ?_
                repeat (go_big_quiet_step (first | (go_at_call 24; with_reducible exact hm.out _)))
                refine wpQuiet_nil ?_
                intro _ hw'
                obtain ⟨⟨wq, hbq⟩, hw''⟩ := hw'
                subst hw''
                have HBq := Lib.hid hbq
                clear hbq
                go_wp2_with fail
                go_meet
                exact ⟨true, rfl, (fun _ => HBAD.out (by first | omega | (have := Q4.out; have := Q5.out; omega))), (fun h => by cases h), HBq⟩
              have e1 : decide (c < 0) = false := decide_eq_false q1
              have Q1 := Lib.hid q1
              clear q1
              by_cases q2 : 254 < c
              · refine wp_region_quiet_below (by assumption) (by kernel_rfl) ?_
                repeat (go_big_quiet_step (first | (go_at_call 24; with_reducible exact hm.out _)))
                refine wpQuiet_nil ?_
                intro _ hw'
                obtain ⟨⟨wq, hbq⟩, hw''⟩ := hw'
                subst hw''
                have HBq := Lib.hid hbq
                clear hbq
                go_wp2_with fail
                go_meet
                exact ⟨true, rfl, (fun _ => HBAD.out (by first | omega | (have := Q4.out; have := Q5.out; omega))), (fun h => by cases h), HBq⟩
              have e2 : decide (254 < c) = false := decide_eq_false q2
              have Q2 := Lib.hid q2
              clear q2
              by_cases q3 : 3 < n
              · have q3z : (3 : Int) < (n : Int) := by omega
                refine wp_region_quiet_below (by assumption) (by kernel_rfl) ?_
                repeat (go_big_quiet_step (first | (go_at_call 24; with_reducible exact hm.out _)))
                refine wpQuiet_nil ?_
                intro _ hw'
                obtain ⟨⟨wq, hbq⟩, hw''⟩ := hw'
                subst hw''
                have HBq := Lib.hid hbq
                clear hbq
                go_wp2_with fail
                go_meet
                exact ⟨true, rfl, (fun _ => HBAD.out (by first | omega | (have := Q4.out; have := Q5.out; omega))), (fun h => by cases h), HBq⟩
              have e3 : decide ((3 : Int) < (n : Int)) = false := decide_eq_false (by omega)
              have Q3 := Lib.hid q3
              clear q3
              by_cases q4 : n = 0
              · have e4 : ((n : Int) == 0) = true := by simp [q4]
                have Q4 := Lib.hid q4
                clear q4
                by_cases q5 : c = 0
                · have e5 : (c == 0) = true := by simp [q5]
                  have Q5 := Lib.hid q5
                  clear q5
                  refine wp_region_quiet_below (by assumption) (by kernel_rfl) ?_
                  repeat (go_big_quiet_step (first | (go_at_call 24; with_reducible exact hm.out _)))
                  refine wpQuiet_nil ?_
                  intro _ hw'
                  obtain ⟨⟨wq, hbq⟩, hw''⟩ := hw'
                  subst hw''
                  have HBq := Lib.hid hbq
                  clear hbq
                  go_wp2_with fail
                  go_meet
                  exact ⟨true, rfl, (fun _ => HBAD.out (by first | omega | (have := Q4.out; have := Q5.out; omega))), (fun h => by cases h), HBq⟩
                · have e5 : (c == 0) = false := by simp [q5]
                  have Q5 := Lib.hid q5
                  clear q5
                  refine wp_region_quiet_below (by assumption) (by kernel_rfl) ?_
                  repeat (go_big_quiet_step (first | (go_at_call 24; with_reducible exact hm.out _)))
                  refine wpQuiet_nil ?_
                  intro _ hw'
                  obtain ⟨⟨wq, hbq⟩, hw''⟩ := hw'
                  subst hw''
                  have HBq := Lib.hid hbq
                  clear hbq
                  go_wp2_with fail
                  go_meet
                  exact ⟨false, rfl, (fun h => by cases h), (fun _ => ⟨by have := Q3.out; omega, HP.out, by have := HM1.out; simpa using this, by have := Q1.out; omega, by have := Q2.out; omega, by have := Q4.out; first | omega | (have := Q5.out; omega)⟩), HBq⟩
              · have e4 : ((n : Int) == 0) = false := by simp [q4]
                have Q4 := Lib.hid q4
                clear q4
                refine wp_region_quiet_below (by assumption) (by kernel_rfl) ?_
                repeat (go_big_quiet_step (first | (go_at_call 24; with_reducible exact hm.out _)))
                refine wpQuiet_nil ?_
                intro _ hw'
                obtain ⟨⟨wq, hbq⟩, hw''⟩ := hw'
                subst hw''
                have HBq := Lib.hid hbq
                clear hbq
                go_wp2_with fail
                go_meet
                exact ⟨false, rfl, (fun h => by cases h), (fun _ => ⟨by have := Q3.out; omega, HP.out, by have := HM1.out; simpa using this, by have := Q1.out; omega, by have := Q2.out; omega, by have := Q4.out; first | omega | (have := Q5.out; omega)⟩), HBq⟩
          · have hk0d : decide ((0 : Int) < (k : Int)) = false := decide_eq_false (by omega)
            have HP := Lib.hid (show 0 < k → ls[k - 1]!.r < r from fun h => absurd h hk0)
            by_cases q1 : c < 0
            · refine wp_region_quiet_below (by assumption) (by kernel_rfl) ?_
              repeat (go_big_quiet_step (first | (go_at_call 24; with_reducible exact hm.out _)))
              refine wpQuiet_nil ?_
              intro _ hw'
              obtain ⟨⟨wq, hbq⟩, hw''⟩ := hw'
              subst hw''
              have HBq := Lib.hid hbq
              clear hbq
              go_wp2_with fail
              go_meet
              exact ⟨true, rfl, (fun _ => HBAD.out (by first | omega | (have := Q4.out; have := Q5.out; omega))), (fun h => by cases h), HBq⟩
            have e1 : decide (c < 0) = false := decide_eq_false q1
            have Q1 := Lib.hid q1
            clear q1
            by_cases q2 : 254 < c
            · refine wp_region_quiet_below (by assumption) (by kernel_rfl) ?_
              repeat (go_big_quiet_step (first | (go_at_call 24; with_reducible exact hm.out _)))
              refine wpQuiet_nil ?_
              intro _ hw'
              obtain ⟨⟨wq, hbq⟩, hw''⟩ := hw'
              subst hw''
              have HBq := Lib.hid hbq
              clear hbq
              go_wp2_with fail
              go_meet
              exact ⟨true, rfl, (fun _ => HBAD.out (by first | omega | (have := Q4.out; have := Q5.out; omega))), (fun h => by cases h), HBq⟩
            have e2 : decide (254 < c) = false := decide_eq_false q2
            have Q2 := Lib.hid q2
            clear q2
            by_cases q3 : 3 < n
            · have q3z : (3 : Int) < (n : Int) := by omega
              refine wp_region_quiet_below (by assumption) (by kernel_rfl) ?_
              repeat (go_big_quiet_step (first | (go_at_call 24; with_reducible exact hm.out _)))
              refine wpQuiet_nil ?_
              intro _ hw'
              obtain ⟨⟨wq, hbq⟩, hw''⟩ := hw'
              subst hw''
              have HBq := Lib.hid hbq
              clear hbq
              go_wp2_with fail
              go_meet
              exact ⟨true, rfl, (fun _ => HBAD.out (by first | omega | (have := Q4.out; have := Q5.out; omega))), (fun h => by cases h), HBq⟩
            have e3 : decide ((3 : Int) < (n : Int)) = false := decide_eq_false (by omega)
            have Q3 := Lib.hid q3
            clear q3
            by_cases q4 : n = 0
            · have e4 : ((n : Int) == 0) = true := by simp [q4]
              have Q4 := Lib.hid q4
              clear q4
              by_cases q5 : c = 0
              · have e5 : (c == 0) = true := by simp [q5]
                have Q5 := Lib.hid q5
                clear q5
                refine wp_region_quiet_below (by assumption) (by kernel_rfl) ?_
                repeat (go_big_quiet_step (first | (go_at_call 24; with_reducible exact hm.out _)))
                refine wpQuiet_nil ?_
                intro _ hw'
                obtain ⟨⟨wq, hbq⟩, hw''⟩ := hw'
                subst hw''
                have HBq := Lib.hid hbq
                clear hbq
                go_wp2_with fail
                go_meet
                exact ⟨true, rfl, (fun _ => HBAD.out (by first | omega | (have := Q4.out; have := Q5.out; omega))), (fun h => by cases h), HBq⟩
              · have e5 : (c == 0) = false := by simp [q5]
                have Q5 := Lib.hid q5
                clear q5
                refine wp_region_quiet_below (by assumption) (by kernel_rfl) ?_
                repeat (go_big_quiet_step (first | (go_at_call 24; with_reducible exact hm.out _)))
                refine wpQuiet_nil ?_
                intro _ hw'
                obtain ⟨⟨wq, hbq⟩, hw''⟩ := hw'
                subst hw''
                have HBq := Lib.hid hbq
                clear hbq
                go_wp2_with fail
                go_meet
                exact ⟨false, rfl, (fun h => by cases h), (fun _ => ⟨by have := Q3.out; omega, HP.out, by have := HM1.out; simpa using this, by have := Q1.out; omega, by have := Q2.out; omega, by have := Q4.out; first | omega | (have := Q5.out; omega)⟩), HBq⟩
            · have e4 : ((n : Int) == 0) = false := by simp [q4]
              have Q4 := Lib.hid q4
              clear q4
              refine wp_region_quiet_below (by assumption) (by kernel_rfl) ?_
              repeat (go_big_quiet_step (first | (go_at_call 24; with_reducible exact hm.out _)))
              refine wpQuiet_nil ?_
              intro _ hw'
              obtain ⟨⟨wq, hbq⟩, hw''⟩ := hw'
              subst hw''
              have HBq := Lib.hid hbq
              clear hbq
              go_wp2_with fail
              go_meet
              exact ⟨false, rfl, (fun h => by cases h), (fun _ => ⟨by have := Q3.out; omega, HP.out, by have := HM1.out; simpa using this, by have := Q1.out; omega, by have := Q2.out; omega, by have := Q4.out; first | omega | (have := Q5.out; omega)⟩), HBq⟩
      case rest =>
        obtain ⟨bv, rfl, hbt, hbv, HBc⟩ := hcut
        cases bv with
        | true =>
          have e0 := Lib.hid (hbt rfl)
          clear hbt hbv
          go_wp2_with fail
          go_ret
          exact ⟨by rw [e0.out]; rfl, HW3.out.trans (HBc.out.mono HW3.out.size)⟩
        | false =>
          obtain ⟨hn3, hpv, ok1, ok2, ok3, ok4⟩ := hbv rfl
          have HPV := Lib.hid hpv
          have OK := Lib.hid (show mayNotB r = false ∧ ¬ c < 0 ∧ ¬ 254 < c ∧ ¬ (n = 0 ∧ c = 0) from ⟨ok1, ok2, ok3, ok4⟩)
          clear hbt hbv hpv ok1 ok2 ok3 ok4
          have hcs := HBc.out.size
          have d2c : wc.cell? ⟨wo.heap.size, 2, none⟩ = some (.slice x.p n x.cap) := by rw [HBc.out.cell (p := ⟨wo.heap.size, 2, none⟩) hs3]; exact d2
          clear d0 d1
          go_wp2_with fail
          go_loopg [5] n (fun g2 vi w2 => ∃ m : Nat, vi = .int .i64 m ∧ m ≤ n ∧ n - m ≤ g2 ∧ Hid (RowKit.Below w3.heap.size w3 w2) ∧ Hid (∀ j, j < m → mayNotB (x.to.getD j 0) = false ∧ hasTo ls (x.to.getD j 0) = false))
          case atStart => exact ⟨0, rfl, Nat.zero_le _, by omega, HBc, Lib.hid fun j hj => by omega⟩
          case round =>
            obtain ⟨m, rfl, hmn, hg2, HB2, HDN⟩ := hrel
            have hs2 := HB2.out.size
            have c2 : wr.cell? ⟨wo.heap.size, 2, none⟩ = some (.slice x.p n x.cap) := by rw [HB2.out.cell (p := ⟨wo.heap.size, 2, none⟩) hs3]; exact d2
            by_cases hltm : m < n
            · have hltmz : (m : Int) < (n : Int) := by omega
              obtain ⟨be, oe, hpe, hbe, ce⟩ := row_cell HTo.out.1 (HB3.out.trans (HB2.out.mono (Nat.le_of_lt hs3))) (show m < x.to.length by rw [HNn.out]; exact hltm)
              rw [hpe] at c2
              clear hpe
              obtain ⟨z, hz⟩ : ∃ z, x.to.getD m 0 = z := ⟨_, rfl⟩
              rw [hz] at ce
              have HZ := Lib.hid hz; clear hz
              have HZM := Lib.hid (show z ∈ ls[k]!.to by
                rw [HX.out, ← HZ.out]
                have hl : m < x.to.length := by rw [HNn.out]; exact hltm
                simp [List.getD, hl])
              have HZB := Lib.hid (show mayNotB z = true → mb = false from fun h => by
                rw [← HMB.out]
                exact bad_row hlt (wrong_of (Or.inr (Or.inr (Or.inr (Or.inr (Or.inr (List.any_eq_true.2 ⟨z, HZM.out, h⟩))))))))
              have HZF := Lib.hid (show hasTo ls z = true → mb = false from fun h => by
                rw [← HMB.out]
                exact bad_flat hlt HZM.out h)
              have hf := Lib.hid (HF.out z wr (HW3.out.trans (HB2.out.mono HW3.out.size)))
              go_wp2_with fail
              refine hf.out.mono ?_
              clear hf
              rintro e w5 ⟨hw5, h5⟩
              obtain rfl : wr = w5 := hw5.symm
              clear hw5
              have hm := Lib.hid (fun w1 : World => refMay_any z w1)
              obtain ⟨bm, hbm⟩ : ∃ bm, rmB z = bm := ⟨_, rfl⟩
              rw [hbm] at hm
              have HM2 := Lib.hid (show mayNotB z = !bm by rw [rm_not, hbm])
              clear hbm
              rcases h5 with ⟨k', hk', hfk, rfl⟩ | ⟨hno, rfl⟩
              · have hk'z : (k' : Int) < (ls.length : Int) := by omega
                have hk'0 : decide ((0 : Int) ≤ (k' : Int)) = true := decide_eq_true (by omega)
                obtain ⟨b', off', hpe, hb', _, _, g3, _⟩ := HL.out.at_ (HW3.out.trans (HB2.out.mono HW3.out.size)) hk'
                simp only [Option.some.injEq, Addr.mk.injEq, and_true] at hpe
                obtain ⟨rfl, rfl⟩ := hpe
                have hxl := HXS.out _ (get_mem hk')
                have HHT := Lib.hid (show hasTo ls z = decide (0 < (ls[k']!).to.length) by unfold hasTo toL; rw [hfk])
                clear hfk
                generalize ls[k']! = x' at g3 hxl HHT
                obtain ⟨n', hn'⟩ : ∃ n', x'.to.length = n' := ⟨_, rfl⟩
                rw [hn'] at g3 hxl HHT
                clear hn'
                cases bm with
                | false =>
                  have e0 := Lib.hid (HZB.out (by have := HM2.out; simpa using this))
                  go_wp2_with (first | (go_at_call 24; refine (hm.out _).mono ?_; rintro e w' ⟨rfl, rfl⟩))
                  go_ret
                  exact ⟨by rw [e0.out]; rfl, HW3.out.trans (HB2.out.mono HW3.out.size)⟩
                | true =>
                  by_cases hn0 : 0 < n'
                  · have hn0z : (0 : Int) < (n' : Int) := by omega
                    have e0 := Lib.hid (HZF.out (HHT.out.trans (decide_eq_true hn0)))
                    go_wp2_with (first | (go_at_call 24; refine (hm.out _).mono ?_; rintro e w' ⟨rfl, rfl⟩))
                    go_ret
                    exact ⟨by rw [e0.out]; rfl, HW3.out.trans (HB2.out.mono HW3.out.size)⟩
                  · have hn0z : decide ((0 : Int) < (n' : Int)) = false := decide_eq_false (by omega)
                    have HGo := Lib.hid (show mayNotB z = false ∧ hasTo ls z = false from ⟨by have := HM2.out; simpa using this, HHT.out.trans (decide_eq_false hn0)⟩)
                    go_wp2_with (first | (go_at_call 24; refine (hm.out _).mono ?_; rintro e w' ⟨rfl, rfl⟩))
                    go_roundg (n - (m + 1))
                    case measure => omega
                    case rel => exact ⟨m + 1, by go_num, by omega, by omega, HB2, Lib.hid fun j hj => by
                      by_cases c0 : j = m
                      · rw [c0, HZ.out]; exact HGo.out
                      · exact HDN.out j (by omega)⟩
              · cases bm with
                | false =>
                  have e0 := Lib.hid (HZB.out (by have := HM2.out; simpa using this))
                  go_wp2_with (first | (go_at_call 24; refine (hm.out _).mono ?_; rintro e w' ⟨rfl, rfl⟩))
                  go_ret
                  exact ⟨by rw [e0.out]; rfl, HW3.out.trans (HB2.out.mono HW3.out.size)⟩
                | true =>
                  have HGo := Lib.hid (show mayNotB z = false ∧ hasTo ls z = false from ⟨by have := HM2.out; simpa using this, by unfold hasTo toL; rw [find_no hno]; rfl⟩)
                  clear hno
                  go_wp2_with (first | (go_at_call 24; refine (hm.out _).mono ?_; rintro e w' ⟨rfl, rfl⟩))
                  go_roundg (n - (m + 1))
                  case measure => omega
                  case rel => exact ⟨m + 1, by go_num, by omega, by omega, HB2, Lib.hid fun j hj => by
                      by_cases c0 : j = m
                      · rw [c0, HZ.out]; exact HGo.out
                      · exact HDN.out j (by omega)⟩
            · obtain rfl : m = n := by omega
              have hltmz : ¬ (m : Int) < (m : Int) := by omega
              go_wp2_with fail
              go_roundg (ls.length - (k + 1))
              case measure => omega
              case rel => exact ⟨k + 1, by go_num, by omega, by omega, Lib.hid (HW3.out.trans (HB2.out.mono HW3.out.size)), Lib.hid (fun j hj => by
                by_cases hc : j + 1 < k
                · exact HR.out j hc
                · have hjk : k = j + 1 := by omega
                  have e : ls[j + 1]! = x := by rw [← hjk]; exact HX.out
                  have h2 := HPV.out (by omega)
                  rw [show k - 1 = j by omega] at h2
                  rw [e, HRr.out]; exact h2), Lib.hid (fun j hj => by
                by_cases hc : j < k
                · exact H3.out j hc
                · have hjk : j = k := by omega
                  rw [hjk, HX.out]
                  have hget : ∀ z ∈ x.to, ∃ t, t < m ∧ x.to.getD t 0 = z := fun z hz => by
                    obtain ⟨t, ht, rfl⟩ := List.getElem_of_mem hz
                    exact ⟨t, by rw [← HNn.out]; exact ht, by simp [List.getD, ht]⟩
                  have h1 := OK.out
                  refine ⟨wrong_not (by rw [HRr.out]; exact h1.1) (by rw [HCc.out]; have := h1.2.1; omega) (by rw [HCc.out]; have := h1.2.2.1; omega) (by rw [HNn.out]; exact hn3) (by rw [HNn.out, HCc.out]; exact h1.2.2.2) fun z hz => ?_, fun z hz => ?_⟩
                  · obtain ⟨t, ht, rfl⟩ := hget z hz
                    exact (HDN.out t ht).1
                  · obtain ⟨t, ht, rfl⟩ := hget z hz
                    exact (HDN.out t ht).2)⟩
    · obtain rfl : k = ls.length := by omega
      go_wp2_with fail
      go_ret
      refine ⟨?_, HB.out⟩
      have e0 : mb = true := by rw [← HMB.out]; exact good_all (by have := H64.out; omega) HR.out H3.out
      rw [e0]; rfl
end Go.Proofs.YticjgmhgpeihjaaGreatDoor
