/-
  LoreTwice: the walk.
-/
import Derived.Test.YtaoaicmagccfmaaLoAwake
import Derived.Test.YtaoaicmagccfmaaQuietBelow
namespace Go.Proofs.Ytaoaicmagccfmaa
open Go.RowKit Go.Gz Go.Sort

theorem count_take_succ (l : List Int) (k : Nat) (h : k < l.length) (z : Int) : (l.take (k + 1)).count z = (l.take k).count z + if l.getD k 0 = z then 1 else 0 := by
  rw [take_snoc_getD l k h, List.count_append]
  congr 1
  simp [List.count_cons]

def TwIn (A N : List Int) (z : Int) (m : Nat) (k : Nat) (x y : Value) : Prop := x = .int .i64 (((A.take k).count z : Nat) : Int) ∧ y = .int .i64 (((N.take k).count z : Nat) : Int) ∧ k ≤ m

theorem few_at (ls : List LR) (p : Option Addr) (cap : Nat) (s : List Int) (q : Option Addr) (c : Nat) (W w : World) (hl : Lores W p ls) (hb : Below W.heap.size W w) (hsz : ls.length ≤ 9223372036854775807) (hxs : ∀ x ∈ ls, x.to.length ≤ 9223372036854775807) (hz : s.length ≤ 9223372036854775807) :
    Calls Try.prog 8 #[.slice p ls.length cap, .slice q s.length c] w (FewPost ls s w) := few_any ls p cap s q c w (hl.below hb) hsz hxs hz

set_option maxHeartbeats 4000000 in
set_option maxRecDepth 100000 in
theorem twice_walk (ls : List LR) (p : Option Addr) (cap : Nat) (s : List Int) (q : Option Addr) (c : Nat) (W : World) (hl : Lores W p ls) (hs : Row W .i32 q s) (hsz : ls.length ≤ 9223372036854775807) (hxs : ∀ x ∈ ls, x.to.length ≤ 9223372036854775807) (hz : s.length ≤ 9223372036854775807) :
    Calls Try.prog 3 #[.slice p ls.length cap, .slice q s.length c] W fun e w' => e = .returned (.bool true) ∧ Below W.heap.size W w' := by
  have C0 := Lib.hid (awake_true W)
  have C1 := Lib.hid (fun w hb => few_at ls p cap s q c W w hl hb hsz hxs hz)
  have HL := Lib.hid hl; clear hl
  have HS := Lib.hid hs; clear hs
  clear hxs
  go_enter Try.func3, Try.ntmps3
  go_wp2_with fail
  refine C0.out.mono ?_
  rintro e w1 ⟨rfl, hb1⟩
  have HB1 := Lib.hid hb1
  have C1' := Lib.hid (C1.out w1 hb1)
  clear hb1 C0 C1
  go_wp2_with fail
  refine C1'.out.mono ?_
  rintro e w2 ⟨bv, rfl, hbv, rfl⟩
  clear C1'
  cases bv with
  | false =>
    clear hbv
    go_wp2_with fail
    go_ret
    exact ⟨rfl, HB1.out⟩
  | true =>
    obtain ⟨h100, h300⟩ := hbv rfl
    clear hbv hsz hz
    cases hmb : mayB ls with
    | false =>
      have C2 := Lib.hid (normal_table ls hmb p cap (.slice q s.length c) w2 (HL.out.below HB1.out) (by omega))
      clear hmb
      go_wp2_with fail
      refine C2.out.mono ?_
      rintro e w3 ⟨rfl, hb3⟩
      have HB3 := Lib.hid (HB1.out.trans (hb3.mono HB1.out.size))
      clear hb3 C2
      go_wp2_with fail
      go_ret
      exact ⟨rfl, HB3.out⟩
    | true =>
      have HM := Lib.hid hmb; clear hmb
      cases hvb : s.any mayNotB with
      | true =>
        have C2 := Lib.hid (normal_text ls HM.out p cap s hvb q c w2 (HL.out.below HB1.out) (HS.out.below HB1.out) (by omega) (by omega))
        clear hvb
        go_wp2_with fail
        refine C2.out.mono ?_
        rintro e w3 ⟨rfl, hb3⟩
        have HB3 := Lib.hid (HB1.out.trans (hb3.mono HB1.out.size))
        clear hb3 C2
        go_wp2_with fail
        go_ret
        exact ⟨rfl, HB3.out⟩
      | false =>
        have HV := Lib.hid hvb; clear hvb
        have C2 := Lib.hid (normal_ok ls HM.out p cap s HV.out q c w2 (HL.out.below HB1.out) (HS.out.below HB1.out) (by omega) (by omega))
        go_wp2_with fail
        refine C2.out.mono ?_
        rintro e w3 ⟨v, rfl, hb3, hown⟩
        have HB3 := Lib.hid (HB1.out.trans (hb3.mono HB1.out.size))
        obtain ⟨pn, cn, rfl, _, hrn⟩ := Own.row hown
        have HN := Lib.hid hrn
        clear hb3 hown hrn C2
        have hnl := normal_length ls s
        have hal := apart_le (le3_of (may_wrong HM.out)) s
        have C3 := Lib.hid (normal_ok ls HM.out p cap (normalL ls s) (valid_normal HM.out HV.out) pn cn w3 (HL.out.below HB3.out) HN.out (by omega) (by omega))
        rw [normal_twice HM.out] at C3
        have C4 := Lib.hid (fun w hb => apart_any ls (may_rising HM.out) (le3_of (may_wrong HM.out)) p cap s q c w (HL.out.below hb) (HS.out.below hb) (by omega) (by omega))
        obtain ⟨A, hA⟩ : ∃ A, apartL ls s = A := ⟨_, rfl⟩
        obtain ⟨N, hN⟩ : ∃ N, normalL ls s = N := ⟨_, rfl⟩
        have hcnt := Lib.hid (show ∀ z, N.count z = A.count z from fun z => by rw [← hN, ← hA]; exact count_order z _)
        have hord := Lib.hid (show InOrder (clsL ls) N from hN ▸ order_inOrder _ _)
        rw [hA, hN] at hnl
        rw [hA] at hal C4
        rw [hN] at C3 HN ⊢
        clear hA hN
        obtain ⟨n, hn⟩ : ∃ n, N.length = n := ⟨_, rfl⟩
        rw [hn] at hnl C3 ⊢
        rw [← hnl] at hal
        have HNL := Lib.hid hn
        have HAL := Lib.hid hnl.symm
        clear hn hnl
        go_wp2_with fail
        refine C3.out.mono ?_
        rintro e w4 ⟨v, rfl, hb4, hown⟩
        have HB34 := Lib.hid hb4
        have HB4 := Lib.hid (HB3.out.trans (hb4.mono HB3.out.size))
        obtain ⟨pm, cm, rfl, _, hrm⟩ := Own.row hown
        rw [HNL.out]
        have HMr := Lib.hid hrm
        have C4' := Lib.hid (C4.out w4 HB4.out)
        clear hb4 hown hrm C3 C4
        go_wp2_with fail
        refine C4'.out.mono ?_
        rintro e w5 ⟨v, rfl, hb5, hown⟩
        have HB45 := Lib.hid hb5
        have HB5 := Lib.hid (HB4.out.trans (hb5.mono HB4.out.size))
        obtain ⟨pa, ca, rfl, _, hra⟩ := Own.row hown
        have HA := Lib.hid hra
        clear hb5 hown hra C4'
        have HN5 := Lib.hid ((HN.out.below HB34.out).below HB45.out)
        have HM5 := Lib.hid (HMr.out.below HB45.out)
        have C5 := Lib.hid (same_yes N pm pn cm cn w5 (by rw [HNL.out]; omega) HM5.out HN5.out)
        clear HM5 HMr HB34 HB45 HN HB3 HB4
        rw [HNL.out] at C5
        rw [HAL.out]
        have hlne : ((n : Int) != (n : Int)) = false := by simp
        go_wp2_with fail
        refine C5.out.mono ?_
        rintro e w6 ⟨rfl, hb6⟩
        have HB6 := Lib.hid (HB5.out.trans (hb6.mono HB5.out.size))
        have HA6 := Lib.hid (HA.out.below hb6)
        have HN6 := Lib.hid (HN5.out.below hb6)
        clear hb6 C5 HA HN5 HB5
        go_wp2_with fail
        clear hlne
        go_loopg [10] n (fun g vi wr => ∃ i : Nat, vi = .int .i64 i ∧ i ≤ n ∧ n - i ≤ g ∧ Hid (Below w6.heap.size w6 wr))
        case atStart => exact ⟨0, rfl, Nat.zero_le _, by omega, Lib.hid (Below.refl _ _)⟩
        case round =>
          obtain ⟨i, rfl, hin, hg, HBo⟩ := hrel
          by_cases hlt : i < n
          · have hltz : (i : Int) < (n : Int) := by omega
            obtain ⟨z, hzz⟩ : ∃ z, A.getD i 0 = z := ⟨_, rfl⟩
            have HZ := Lib.hid hzz; clear hzz
            go_wp2_with fail
            go_loopg [11, 12, 13] n (fun g2 vx vy vk wr2 => ∃ k cx cy : Nat, vx = .int .i64 cx ∧ vy = .int .i64 cy ∧ vk = .int .i64 k ∧ k ≤ n ∧ n - k ≤ g2 ∧ Hid (cx = (A.take k).count z) ∧ Hid (cy = (N.take k).count z) ∧ cx ≤ k ∧ cy ≤ k ∧ Hid (Below w6.heap.size w6 wr2))
            case atStart => exact ⟨0, 0, 0, rfl, rfl, rfl, Nat.zero_le _, by omega, Lib.hid rfl, Lib.hid rfl, Nat.le_refl _, Nat.le_refl _, HBo⟩
            case round =>
              clear HBo
              obtain ⟨k, cx, cy, rfl, rfl, rfl, hkn, hg2, HX, HY, hxk, hyk, HBr⟩ := hrel
              by_cases hltk : k < n
              · have hltkz : (k : Int) < (n : Int) := by omega
                obtain ⟨b1, o1, rfl, hb1, c1⟩ := row_cell HA6.out HBr.out (show k < A.length by rw [HAL.out]; exact hltk)
                obtain ⟨b1', o1', hpe, _, c2⟩ := row_cell HA6.out HBr.out (show i < A.length by rw [HAL.out]; exact hlt)
                simp only [Option.some.injEq, Addr.mk.injEq, and_true] at hpe
                obtain ⟨rfl, rfl⟩ := hpe
                obtain ⟨b2, o2, rfl, hb2, c3⟩ := row_cell HN6.out HBr.out (show k < N.length by rw [HNL.out]; exact hltk)
                rw [HZ.out] at c2
                obtain ⟨u, hu⟩ : ∃ u, A.getD k 0 = u := ⟨_, rfl⟩
                obtain ⟨t, ht⟩ : ∃ t, N.getD k 0 = t := ⟨_, rfl⟩
                rw [hu] at c1
                rw [ht] at c3
                have HEA := Lib.hid hu; clear hu
                have HEN := Lib.hid ht; clear ht
                by_cases h1 : u = z
                · have h1b : ((u : Int) == z) = true := by simp [h1]
                  have HE1 := Lib.hid h1; clear h1
                  by_cases h2 : t = z
                  · have h2b : ((t : Int) == z) = true := by simp [h2]
                    have HE2 := Lib.hid h2; clear h2
                    go_wp2_with fail
                    go_quiet (fail)
                    go_wp2_with fail
                    go_quiet (fail)
                    go_wp2_with fail
                    go_roundg (n - (k + 1))
                    case measure => omega
                    case rel => exact ⟨k + 1, cx + 1, cy + 1, by go_num, by go_num, by go_num, by omega, by omega, Lib.hid (by rw [count_take_succ A k (by rw [HAL.out]; exact hltk) z, ← HX.out, HEA.out, if_pos HE1.out]), Lib.hid (by rw [count_take_succ N k (by rw [HNL.out]; exact hltk) z, ← HY.out, HEN.out, if_pos HE2.out]), by omega, by omega, Lib.hid (below_drewN HBr.out _)⟩
                  · have h2b : ((t : Int) == z) = false := by simp [h2]
                    have HE2 := Lib.hid h2; clear h2
                    go_wp2_with fail
                    go_quiet (fail)
                    go_wp2_with fail
                    go_quiet (fail)
                    go_wp2_with fail
                    go_roundg (n - (k + 1))
                    case measure => omega
                    case rel => exact ⟨k + 1, cx + 1, cy, by go_num, rfl, by go_num, by omega, by omega, Lib.hid (by rw [count_take_succ A k (by rw [HAL.out]; exact hltk) z, ← HX.out, HEA.out, if_pos HE1.out]), Lib.hid (by rw [count_take_succ N k (by rw [HNL.out]; exact hltk) z, ← HY.out, HEN.out, if_neg HE2.out, Nat.add_zero]), by omega, by omega, Lib.hid (below_drewN HBr.out _)⟩
                · have h1b : ((u : Int) == z) = false := by simp [h1]
                  have HE1 := Lib.hid h1; clear h1
                  by_cases h2 : t = z
                  · have h2b : ((t : Int) == z) = true := by simp [h2]
                    have HE2 := Lib.hid h2; clear h2
                    go_wp2_with fail
                    go_quiet (fail)
                    go_wp2_with fail
                    go_quiet (fail)
                    go_wp2_with fail
                    go_roundg (n - (k + 1))
                    case measure => omega
                    case rel => exact ⟨k + 1, cx, cy + 1, rfl, by go_num, by go_num, by omega, by omega, Lib.hid (by rw [count_take_succ A k (by rw [HAL.out]; exact hltk) z, ← HX.out, HEA.out, if_neg HE1.out, Nat.add_zero]), Lib.hid (by rw [count_take_succ N k (by rw [HNL.out]; exact hltk) z, ← HY.out, HEN.out, if_pos HE2.out]), by omega, by omega, Lib.hid (below_drewN HBr.out _)⟩
                  · have h2b : ((t : Int) == z) = false := by simp [h2]
                    have HE2 := Lib.hid h2; clear h2
                    go_wp2_with fail
                    go_quiet (fail)
                    go_wp2_with fail
                    go_quiet (fail)
                    go_wp2_with fail
                    go_roundg (n - (k + 1))
                    case measure => omega
                    case rel => exact ⟨k + 1, cx, cy, rfl, rfl, by go_num, by omega, by omega, Lib.hid (by rw [count_take_succ A k (by rw [HAL.out]; exact hltk) z, ← HX.out, HEA.out, if_neg HE1.out, Nat.add_zero]), Lib.hid (by rw [count_take_succ N k (by rw [HNL.out]; exact hltk) z, ← HY.out, HEN.out, if_neg HE2.out, Nat.add_zero]), by omega, by omega, Lib.hid (below_drewN HBr.out _)⟩
              · obtain rfl : k = n := by omega
                have hltkz : ¬ (k : Int) < (k : Int) := by omega
                have hxy : cx = cy := by
                  have h1 := HX.out
                  have h2 := HY.out
                  rw [List.take_of_length_le (by rw [HAL.out]; exact Nat.le_refl _)] at h1
                  rw [List.take_of_length_le (by rw [HNL.out]; exact Nat.le_refl _)] at h2
                  rw [h1, h2, hcnt.out]
                subst hxy
                clear HX HY
                have hne : ((cx : Int) != (cx : Int)) = false := by simp
                have mx := mixedL
                obtain ⟨b2, o2, hpn, hb2, c3⟩ := row_cell HN6.out HBr.out (show i < N.length by rw [HNL.out]; exact hlt)
                have HWr := Lib.hid (HB6.out.trans (HBr.out.mono HB6.out.size))
                have hsr := HBr.out.size
                obtain ⟨ri, hri⟩ : ∃ ri, N.getD i 0 = ri := ⟨_, rfl⟩
                rw [hri] at c3
                have HRI := Lib.hid hri; clear hri
                have hcA := Lib.hid (fun pw : BelowOf wr => Calls.below_of pw (class_any ls (may_rising HM.out) p cap ri pw.w' (HL.out.below (HWr.out.trans (pw.h.mono HWr.out.size))) (by omega)))
                have f3 := fun pw : BelowOf wr => pw.cell (a := ⟨b2, o2 + i, none⟩) (show b2 < wr.heap.size by omega) c3
                clear c3
                by_cases hi0 : 0 < i
                · obtain ⟨j, hj⟩ : ∃ j, i = j + 1 := ⟨i - 1, by omega⟩
                  obtain ⟨b3, o3, hpn', hb3, c4⟩ := row_cell HN6.out HBr.out (show j < N.length by rw [HNL.out]; omega)
                  rw [hpn] at hpn'
                  simp only [Option.some.injEq, Addr.mk.injEq, and_true] at hpn'
                  obtain ⟨rfl, rfl⟩ := hpn'
                  obtain ⟨rj, hrj⟩ : ∃ rj, N.getD j 0 = rj := ⟨_, rfl⟩
                  rw [hrj] at c4
                  have hcB := Lib.hid (fun pw : BelowOf wr => Calls.below_of pw (class_any ls (may_rising HM.out) p cap rj pw.w' (HL.out.below (HWr.out.trans (pw.h.mono HWr.out.size))) (by omega)))
                  have f4 := fun pw : BelowOf wr => pw.cell (a := ⟨b2, o2 + j, none⟩) (show b2 < wr.heap.size by omega) c4
                  have hle := hord.out j (by rw [HNL.out]; omega)
                  rw [← hj, HRI.out, hrj] at hle
                  clear c4 hrj
                  obtain ⟨ci, hci⟩ : ∃ ci, clsL ls ri = ci := ⟨_, rfl⟩
                  obtain ⟨cj, hcj⟩ : ∃ cj, clsL ls rj = cj := ⟨_, rfl⟩
                  rw [hci] at hcA hle
                  rw [hcj] at hcB hle
                  clear hci hcj
                  have ej : (i : Int) - 1 = (j : Int) := by omega
                  have ew : IntKind.i64.wrap (j : Int) = (j : Int) := by rw [IntKind.wrap_i64]; omega
                  have hjz : (j : Int) < (k : Int) := by omega
                  have hi0z : (0 : Int) < (i : Int) := by omega
                  clear hj
                  subst hpn
                  by_cases hpos : 0 < ci
                  · have hnl : decide (ci < cj) = false := decide_eq_false (by have := hle hpos; omega)
                    clear hle
                    go_wp2_with fail
                    refine wp_region_quiet_below (by assumption) (by kernel_rfl) ?_
                    repeat (go_big_quiet_step (first | (go_at_call 12; with_reducible exact hcA.out _) | (go_at_call 12; with_reducible exact hcB.out _)))
                    refine wpQuiet_nil ?_
                    intro _ hw'
                    obtain ⟨⟨wq, hbq⟩, hw''⟩ := hw'
                    subst hw''
                    have HBq := Lib.hid (HBr.out.trans (hbq.mono hsr))
                    clear hbq
                    go_wp2_with fail
                    go_roundg (k - (i + 1))
                    case measure => omega
                    case rel => exact ⟨i + 1, by go_num, by omega, by omega, HBq⟩
                  · have hpd : decide (0 < ci) = false := decide_eq_false hpos
                    clear hle
                    go_wp2_with fail
                    refine wp_region_quiet_below (by assumption) (by kernel_rfl) ?_
                    repeat (go_big_quiet_step (first | (go_at_call 12; with_reducible exact hcA.out _) | (go_at_call 12; with_reducible exact hcB.out _)))
                    refine wpQuiet_nil ?_
                    intro _ hw'
                    obtain ⟨⟨wq, hbq⟩, hw''⟩ := hw'
                    subst hw''
                    have HBq := Lib.hid (HBr.out.trans (hbq.mono hsr))
                    clear hbq
                    go_wp2_with fail
                    go_roundg (k - (i + 1))
                    case measure => omega
                    case rel => exact ⟨i + 1, by go_num, by omega, by omega, HBq⟩
                · have hi0d : decide ((0 : Int) < (i : Int)) = false := decide_eq_false (by omega)
                  subst hpn
                  go_wp2_with fail
                  refine wp_region_quiet_below (by assumption) (by kernel_rfl) ?_
                  repeat (go_big_quiet_step (fail))
                  refine wpQuiet_nil ?_
                  intro _ hw'
                  obtain ⟨⟨wq, hbq⟩, hw''⟩ := hw'
                  subst hw''
                  have HBq := Lib.hid (HBr.out.trans (hbq.mono hsr))
                  clear hbq
                  go_wp2_with fail
                  go_roundg (k - (i + 1))
                  case measure => omega
                  case rel => exact ⟨i + 1, by go_num, by omega, by omega, HBq⟩
          · obtain rfl : i = n := by omega
            have hltz : ¬ (i : Int) < (i : Int) := by omega
            go_wp2_with fail
            go_ret
            exact ⟨rfl, HB6.out.trans (HBo.out.mono HB6.out.size)⟩
end Go.Proofs.Ytaoaicmagccfmaa
