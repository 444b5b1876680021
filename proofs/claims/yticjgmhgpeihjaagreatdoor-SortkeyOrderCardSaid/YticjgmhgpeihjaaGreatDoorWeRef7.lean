/-
  The reference's TableMay: the walk.
-/
import Derived.Test.YticjgmhgpeihjaaGreatDoorWeRefB
import Derived.Deep.CutRange
namespace Go.Proofs.YticjgmhgpeihjaaGreatDoor
open Go.RowKit Go.Gz Go.Sort

set_option maxHeartbeats 8000000 in
set_option maxRecDepth 100000 in
theorem refTableMay_is (lp : Option Addr) (ls : List LR) (lc : Nat) (rp : Option Addr) (rs : List WR) (rc : Nat) (top : Int) (sh : Bool) (W : World) (hlo : Lores W lp ls) (hro : Wrs W rp rs) (hsz : ls.length < 1000000) (hrz : rs.length < 1000000) (hxs : ∀ x ∈ ls, x.to.length ≤ 9223372036854775807) (hof : ∀ x ∈ rs, x.of.length ≤ 9223372036854775807 ∧ x.to.length ≤ 9223372036854775807) :
    Calls Tryz.prog 20 #[.agg #[.slice lp ls.length lc, .slice rp rs.length rc, .int .i64 top, .bool sh]] W fun e w' => e = .returned (.bool (mayWB ls rs top)) ∧ Below W.heap.size W w' := by
  obtain ⟨mb, hmb⟩ : ∃ mb, mayWB ls rs top = mb := ⟨_, rfl⟩
  rw [hmb]
  have HMB := Lib.hid hmb; clear hmb
  have HLO := Lib.hid hlo; clear hlo
  have HRO := Lib.hid hro; clear hro
  have HXS := Lib.hid hxs; clear hxs
  have HOF := Lib.hid hof; clear hof
  have mx := mixedL
  go_enter Tryz.func20, Tryz.ntmps20
  go_wp2_with fail
  obtain ⟨w0, hw0⟩ : ∃ w0, W.alloc (.cells #[.slice lp ls.length lc, .slice rp rs.length rc, .int .i64 top, .bool sh] 25) = w0 := ⟨_, rfl⟩
  rw [hw0]
  have hb0 := Lib.hid (show Below W.heap.size W w0 from hw0 ▸ (Below.refl _ _).alloc (Nat.le_refl _) _)
  have hs0 : W.heap.size < w0.heap.size := by rw [← hw0]; simp
  have T0 := Lib.hid (show w0.cell? ⟨W.heap.size, 0, none⟩ = some (.slice lp ls.length lc) by rw [← hw0]; simp)
  have T1 := Lib.hid (show w0.cell? ⟨W.heap.size, 1, none⟩ = some (.slice rp rs.length rc) by rw [← hw0]; simp)
  have T2 := Lib.hid (show w0.cell? ⟨W.heap.size, 2, none⟩ = some (.int .i64 top) by rw [← hw0]; simp)
  have T3 := Lib.hid (show w0.cell? ⟨W.heap.size, 3, none⟩ = some (.bool sh) by rw [← hw0]; simp)
  clear hw0
  refine (refLoreMay_is ls lp lc w0 (HLO.out.below hb0.out) hsz HXS.out).mono ?_
  rintro e w1 ⟨rfl, hb1⟩
  have HB1 := Lib.hid hb1
  have t1 := cellB hb1 T1.out hs0
  have t2 := cellB hb1 T2.out hs0
  clear hb1
  cases hm : mayB ls with
  | false =>
    have e0 := Lib.hid (show mb = false by rw [← HMB.out]; unfold mayWB; rw [hm]; rfl)
    clear hm
    go_wp2_with fail
    go_ret
    exact ⟨by rw [e0.out]; rfl, hb0.out.trans (HB1.out.mono (Nat.le_of_lt hs0))⟩
  | true =>
    have HM := Lib.hid hm; clear hm
    by_cases h64 : rs.length ≤ 64
    · have h64d : decide ((64 : Int) < (rs.length : Int)) = false := decide_eq_false (by omega)
      have H64 := Lib.hid h64; clear h64
      by_cases ht0 : 0 ≤ top
      · have ht0d : decide (top < 0) = false := decide_eq_false (by omega)
        by_cases ht1 : top ≤ 60000
        · have ht1d : decide (60000 < top) = false := decide_eq_false (by omega)
          have HTOP := Lib.hid (show 0 ≤ top ∧ top ≤ 60000 from ⟨ht0, ht1⟩)
          clear ht0 ht1
          go_wp2_with fail
          clear t1 t2 h64d ht0d ht1d
          go_loopg [3] rs.length (fun g vi wr => ∃ i : Nat, vi = .int .i64 (i : Int) ∧ i ≤ rs.length ∧ rs.length - i ≤ g ∧ Hid (Below w0.heap.size w0 wr) ∧ Hid (∀ j, j + 1 < i → cmpL rs[j]!.of rs[j + 1]!.of < 0) ∧ Hid (∀ j, j < i → mayRowB ls rs rs[j]! = true))
          case atStart => exact ⟨0, rfl, Nat.zero_le _, by omega, HB1, Lib.hid (fun j hj => by omega), Lib.hid (fun j hj => by omega)⟩
          case round =>
            obtain ⟨i, rfl, hin, hg, HB, HR, HO⟩ := hrel
            have hsr := HB.out.size
            have t1 := cellB HB.out T1.out hs0
            have HW := Lib.hid (hb0.out.trans (HB.out.mono (Nat.le_of_lt hs0)))
            by_cases hlt : i < rs.length
            · have hltz : (i : Int) < (rs.length : Int) := by omega
              obtain ⟨b, off, rfl, hbW, c1, c2, hrow⟩ := HRO.out.at_ HW.out hlt
              have hfz := HOF.out _ (getW_mem hlt)
              have hxm := Lib.hid (getW_mem hlt)
              obtain ⟨x, hx⟩ : ∃ x, rs[i]! = x := ⟨_, rfl⟩
              rw [hx] at c1 c2 hrow hfz hxm
              have HX := Lib.hid hx; clear hx
              have HROW := Lib.hid hrow; clear hrow
              obtain ⟨on, hon⟩ : ∃ n, x.of.length = n := ⟨_, rfl⟩
              obtain ⟨tn, htn⟩ : ∃ n, x.to.length = n := ⟨_, rfl⟩
              rw [hon] at c1 hfz
              rw [htn] at c2 hfz
              have HON := Lib.hid hon; clear hon
              have HTN := Lib.hid htn; clear htn
              obtain ⟨hfo, hft⟩ := hfz
              have HBADR := Lib.hid (show ¬ (1 ≤ on ∧ on ≤ 3 ∧ tn ≤ 4) → mb = false from fun h => by
                rw [← HMB.out]
                refine bad_wrow hlt fun hc => h ?_
                rw [HX.out] at hc
                have := (mayRow_iff HM.out rs x).1 hc
                rw [HON.out, HTN.out] at this
                exact ⟨this.1, this.2.1, this.2.2.1⟩)
              go_upto_region 7 with fail
              obtain ⟨wo, rfl⟩ : ∃ wo, wo = wr := ⟨_, rfl⟩
              obtain ⟨w3, hw3⟩ : ∃ w3, wo.alloc (.cells #[.slice x.op on x.oc, .slice x.tp tn x.tc] 47) = w3 := ⟨_, rfl⟩
              rw [hw3]
              have d0 : w3.cell? ⟨wo.heap.size, 0, none⟩ = some (.slice x.op on x.oc) := by rw [← hw3, World.cell?_alloc_new]; rfl
              have d1 : w3.cell? ⟨wo.heap.size, 1, none⟩ = some (.slice x.tp tn x.tc) := by rw [← hw3, World.cell?_alloc_new]; rfl
              have HB3 := Lib.hid (show Below wo.heap.size wo w3 from hw3 ▸ (Below.refl _ _).alloc (Nat.le_refl _) _)
              have hs3 : wo.heap.size < w3.heap.size := by rw [← hw3]; simp
              have t3 := cellB HB3.out t1 (Nat.lt_of_lt_of_le hs0 hsr)
              have TT0 := Lib.hid (cellB HB3.out (cellB HB.out T0.out hs0) (Nat.lt_of_lt_of_le hs0 hsr))
              have TT1 := Lib.hid t3
              have TT2 := Lib.hid (cellB HB3.out (cellB HB.out T2.out hs0) (Nat.lt_of_lt_of_le hs0 hsr))
              have TT3 := Lib.hid (cellB HB3.out (cellB HB.out T3.out hs0) (Nat.lt_of_lt_of_le hs0 hsr))
              have D0 := Lib.hid d0
              have D1 := Lib.hid d1
              clear hw3 c1 c2 t1
              have HW3 := Lib.hid (HW.out.trans (HB3.out.mono HW.out.size))
              have hw03 : w0.heap.size ≤ w3.heap.size := by omega
              go_cut [73] from 41 to 73 (fun cc wx => ∃ bv : Bool, cc = .bool bv ∧ (bv = true → mb = false) ∧ (bv = false → 1 ≤ on ∧ on ≤ 3 ∧ tn ≤ 4 ∧ (0 < i → cmpL rs[i - 1]!.of x.of < 0)) ∧ Hid (Below w3.heap.size w3 wx))
              case first =>
                have f0 := fun pw : BelowOf w3 => pw.cell (a := ⟨wo.heap.size, 0, none⟩) hs3 d0
                have f1 := fun pw : BelowOf w3 => pw.cell (a := ⟨wo.heap.size, 1, none⟩) hs3 d1
                have ft := fun pw : BelowOf w3 => pw.cell (a := ⟨W.heap.size, 1, none⟩) (show W.heap.size < w3.heap.size by omega) t3
                clear d0 d1 t3
                by_cases q1 : on < 1
                · have e1 : ((on : Int) < 1) := by omega
                  refine wp_region_quiet_below (by assumption) (by kernel_rfl) ?_
                  repeat (go_big_quiet_step (fail))
                  refine wpQuiet_nil ?_
                  intro _ hw'
                  obtain ⟨⟨wq, hbq⟩, hw''⟩ := hw'
                  subst hw''
                  have HBq := Lib.hid hbq
                  clear hbq
                  go_wp2_with fail
                  go_meet
                  exact ⟨true, rfl, (fun _ => HBADR.out (by omega)), (fun h => by cases h), HBq⟩
                have e1 : decide ((on : Int) < 1) = false := decide_eq_false (by omega)
                have Q1 := Lib.hid q1; clear q1
                by_cases q2 : 3 < on
                · have e2 : ((3 : Int) < (on : Int)) := by omega
                  refine wp_region_quiet_below (by assumption) (by kernel_rfl) ?_
                  repeat (go_big_quiet_step (fail))
                  refine wpQuiet_nil ?_
                  intro _ hw'
                  obtain ⟨⟨wq, hbq⟩, hw''⟩ := hw'
                  subst hw''
                  have HBq := Lib.hid hbq
                  clear hbq
                  go_wp2_with fail
                  go_meet
                  exact ⟨true, rfl, (fun _ => HBADR.out (by omega)), (fun h => by cases h), HBq⟩
                have e2 : decide ((3 : Int) < (on : Int)) = false := decide_eq_false (by omega)
                have Q2 := Lib.hid q2; clear q2
                by_cases q3 : 4 < tn
                · have e3 : ((4 : Int) < (tn : Int)) := by omega
                  refine wp_region_quiet_below (by assumption) (by kernel_rfl) ?_
                  repeat (go_big_quiet_step (fail))
                  refine wpQuiet_nil ?_
                  intro _ hw'
                  obtain ⟨⟨wq, hbq⟩, hw''⟩ := hw'
                  subst hw''
                  have HBq := Lib.hid hbq
                  clear hbq
                  go_wp2_with fail
                  go_meet
                  exact ⟨true, rfl, (fun _ => HBADR.out (by omega)), (fun h => by cases h), HBq⟩
                have e3 : decide ((4 : Int) < (tn : Int)) = false := decide_eq_false (by omega)
                have Q3 := Lib.hid q3; clear q3
                by_cases hk0 : 0 < i
                · obtain ⟨j, hj⟩ : ∃ j, i = j + 1 := ⟨i - 1, by omega⟩
                  obtain ⟨b', off', hpe, hb', g1, _, hry⟩ := HRO.out.at_ HW3.out (show j < rs.length by omega)
                  simp only [Option.some.injEq, Addr.mk.injEq, and_true] at hpe
                  obtain ⟨rfl, rfl⟩ := hpe
                  have hfy := (HOF.out _ (getW_mem (show j < rs.length by omega))).1
                  obtain ⟨y, hy⟩ : ∃ y, rs[j]! = y := ⟨_, rfl⟩
                  rw [hy] at g1 hry hfy
                  have HY := Lib.hid hy; clear hy
                  have f3 := fun pw : BelowOf w3 => pw.cell (a := ⟨b, off + j * 2, none⟩) (show b < w3.heap.size by omega) g1
                  have HRX := Lib.hid (HROW.out.below HB3.out)
                  have hcmp := Lib.hid (fun pw : BelowOf w3 => Calls.below_of pw (refCompare_any y.of x.of y.op x.op y.oc x.oc pw.w' (hry.1.1.below pw.h) (HRX.out.1.1.below pw.h) hfy (by rw [HON.out]; exact hfo)))
                  rw [HON.out] at hcmp
                  clear g1 hry
                  have HJ := Lib.hid hj
                  have ej : (i : Int) - 1 = (j : Int) := by omega
                  have ew : IntKind.i64.wrap (j : Int) = (j : Int) := by rw [IntKind.wrap_i64]; omega
                  have hjz : (j : Int) < (rs.length : Int) := by omega
                  have hk0z : (0 : Int) < (i : Int) := by omega
                  clear hj
                  have hsg := (rcmp_sign y.of x.of).2
                  obtain ⟨z, hz⟩ : ∃ z, rcmp y.of x.of = z := ⟨_, rfl⟩
                  rw [hz] at hcmp hsg
                  have HSG := Lib.hid hsg
                  clear hz hsg
                  by_cases hge : 0 ≤ z
                  · have HBR := Lib.hid (show mb = false by
                      rw [← HMB.out]
                      refine bad_wrise (j := j) (by have := HJ.out; omega) ?_
                      have hij := HJ.out
                      rw [← hij, HX.out, HY.out, ← HSG.out]; omega)
                    refine wp_region_quiet_below (by assumption) (by kernel_rfl) ?_
                    repeat (go_big_quiet_step (first | (go_at_call 36; with_reducible exact hcmp.out _)))
                    refine wpQuiet_nil ?_
                    intro _ hw'
                    obtain ⟨⟨wq, hbq⟩, hw''⟩ := hw'
                    subst hw''
                    have HBq := Lib.hid hbq
                    clear hbq
                    go_wp2_with fail
                    go_meet
                    exact ⟨true, rfl, (fun _ => HBR.out), (fun h => by cases h), HBq⟩
                  · have hged : decide (0 ≤ z) = false := decide_eq_false hge
                    have HP := Lib.hid (show 0 < i → cmpL rs[i - 1]!.of x.of < 0 from fun _ => by
                      have hij := HJ.out
                      rw [show i - 1 = j by omega, HY.out, ← HSG.out]; omega)
                    clear hge
                    refine wp_region_quiet_below (by assumption) (by kernel_rfl) ?_
                    repeat (go_big_quiet_step (first | (go_at_call 36; with_reducible exact hcmp.out _)))
                    refine wpQuiet_nil ?_
                    intro _ hw'
                    obtain ⟨⟨wq, hbq⟩, hw''⟩ := hw'
                    subst hw''
                    have HBq := Lib.hid hbq
                    clear hbq
                    go_wp2_with fail
                    go_meet
                    exact ⟨false, rfl, (fun h => by cases h), (fun _ => ⟨by have := Q1.out; omega, by have := Q2.out; omega, by have := Q3.out; omega, HP.out⟩), HBq⟩
                · have hk0d : decide ((0 : Int) < (i : Int)) = false := decide_eq_false (by omega)
                  have HP := Lib.hid (show 0 < i → cmpL rs[i - 1]!.of x.of < 0 from fun h => absurd h hk0)
                  have hk0n : decide (0 < i) = false := decide_eq_false hk0
                  clear hk0
                  refine wp_region_quiet_below (by assumption) (by kernel_rfl) ?_
                  repeat (go_big_quiet_step (fail))
                  refine wpQuiet_nil ?_
                  intro _ hw'
                  obtain ⟨⟨wq, hbq⟩, hw''⟩ := hw'
                  subst hw''
                  have HBq := Lib.hid hbq
                  clear hbq
                  go_wp2_with fail
                  go_meet
                  exact ⟨false, rfl, (fun h => by cases h), (fun _ => ⟨by have := Q1.out; omega, by have := Q2.out; omega, by have := Q3.out; omega, HP.out⟩), HBq⟩
              case rest =>
                obtain ⟨bv, rfl, hbt, hbv, HBc⟩ := hcut
                cases bv with
                | true =>
                  have e0 := Lib.hid (hbt rfl)
                  clear hbt hbv
                  go_wp2_with fail
                  go_ret
                  exact ⟨by rw [e0.out]; rfl, HW3.out.trans (HBc.out.mono HW3.out.size)⟩
                | false =>
                  have HOK := Lib.hid (hbv rfl)
                  clear hbt hbv
                  have hcs := HBc.out.size
                  have d0c := cellB HBc.out d0 hs3
                  clear d1 d0 t3
                  have hsW3 : W.heap.size < w3.heap.size := by omega
                  go_wp2_with fail
                  clear d0c
                  go_loopg [5] on (fun g2 vi w2 => ∃ m : Nat, vi = .int .i64 (m : Int) ∧ m ≤ on ∧ on - m ≤ g2 ∧ Hid (Below w3.heap.size w3 w2) ∧ Hid (∀ j, j < m → mayNotB (x.of.getD j 0) = false ∧ hasTo ls (x.of.getD j 0) = false))
                  case atStart => exact ⟨0, rfl, Nat.zero_le _, by omega, HBc, Lib.hid fun j hj => by omega⟩
                  case round =>
                    obtain ⟨m, rfl, hmn, hg2, HB2, HDN⟩ := hrel
                    have hs2 := HB2.out.size
                    have c0 := cellB HB2.out D0.out hs3
                    have HWr := Lib.hid (HW3.out.trans (HB2.out.mono HW3.out.size))
                    by_cases hltm : m < on
                    · have hltmz : (m : Int) < (on : Int) := by omega
                      have tt0 := cellB HB2.out TT0.out hsW3
                      obtain ⟨be, oe, hpe, hbe, ce⟩ := row_cell HROW.out.1.1 (HB3.out.trans (HB2.out.mono (Nat.le_of_lt hs3))) (show m < x.of.length by rw [HON.out]; exact hltm)
                      rw [hpe] at c0
                      clear hpe
                      obtain ⟨z, hz⟩ : ∃ z, x.of.getD m 0 = z := ⟨_, rfl⟩
                      rw [hz] at ce
                      have HZ := Lib.hid hz; clear hz
                      have HZM := Lib.hid (show z ∈ x.of by
                        rw [← HZ.out]
                        have hl : m < x.of.length := by rw [HON.out]; exact hltm
                        simp [List.getD, hl])
                      have HZB := Lib.hid (show ¬ (mayNotB z = false ∧ hasTo ls z = false) → mb = false from fun h => by
                        rw [← HMB.out]
                        refine bad_wrow hlt fun hc => h ?_
                        rw [HX.out] at hc
                        exact ((mayRow_iff HM.out rs x).1 hc).2.2.2.1 z HZM.out)
                      have hbeR : be < wr.heap.size := by omega
                      have hgxR : wo.heap.size < wr.heap.size := by omega
                      have hWR : W.heap.size < wr.heap.size := by omega
                      have f0 := fun pw : BelowOf wr => pw.cell (a := ⟨W.heap.size, 0, none⟩) hWR tt0
                      have f1 := fun pw : BelowOf wr => pw.cell (a := ⟨wo.heap.size, 0, none⟩) hgxR c0
                      have f2 := fun pw : BelowOf wr => pw.cell (a := ⟨be, oe + m, none⟩) hbeR ce
                      have hfix := Lib.hid (fun pw : BelowOf wr => Calls.below_of pw (refFind_ix ls lp lc z pw.w' (HLO.out.below (HWr.out.trans (pw.h.mono HWr.out.size))) hsz))
                      have hfc := findIx_cases ls z
                      obtain ⟨fi, hfi⟩ : ∃ fi, findIx ls z = fi := ⟨_, rfl⟩
                      rw [hfi] at hfix hfc
                      have HFC := Lib.hid hfc
                      clear hfi hfc
                      go_wp2_with fail
                      refine wp_region_quiet_below (by assumption) (by kernel_rfl) ?_
                      repeat (go_big_quiet_step (first | (go_at_call 37; with_reducible exact hfix.out _)))
                      refine wpQuiet_nil ?_
                      intro _ hw'
                      obtain ⟨⟨wq, hbq⟩, hw''⟩ := hw'
                      subst hw''
                      have HWq := Lib.hid (HWr.out.trans (hbq.mono HWr.out.size))
                      have HB2q := Lib.hid (HB2.out.trans (hbq.mono hs2))
                      have tt0q := cellB hbq tt0 hWR
                      have c0q := cellB hbq c0 hgxR
                      have ceq := cellB hbq ce hbeR
                      clear hbq f0 f1 f2 hfix tt0 c0 ce
                      have hm := Lib.hid (fun w1 : World => refMay_any z w1)
                      obtain ⟨bm, hbm⟩ : ∃ bm, rmB z = bm := ⟨_, rfl⟩
                      rw [hbm] at hm
                      have HM2 := Lib.hid (show mayNotB z = !bm by rw [rm_not, hbm])
                      clear hbm
                      cases bm with
                      | false =>
                        have e0 := Lib.hid (HZB.out (by have := HM2.out; simp at this; simp [this]))
                        go_wp2_with (first | (go_at_call 24; refine (hm.out _).mono ?_; rintro e w' ⟨rfl, rfl⟩))
                        go_ret
                        exact ⟨by rw [e0.out]; rfl, HWq.out⟩
                      | true =>
                        rcases HFC.out with ⟨k', hk', hfk, rfl⟩ | ⟨hno, rfl⟩
                        · have hk'z : (k' : Int) < (ls.length : Int) := by omega
                          have hk'0 : decide ((0 : Int) ≤ (k' : Int)) = true := decide_eq_true (by omega)
                          obtain ⟨b', off', rfl, hb', _, _, g3, _⟩ := HLO.out.at_ HWq.out hk'
                          have HHT := Lib.hid (show hasTo ls z = decide (0 < (ls[k']!).to.length) by unfold hasTo toL; rw [hfk])
                          clear hfk HFC
                          have hxl := HXS.out _ (get_mem hk')
                          generalize ls[k']! = x' at g3 hxl HHT
                          obtain ⟨n', hn'⟩ : ∃ n', x'.to.length = n' := ⟨_, rfl⟩
                          rw [hn'] at g3 hxl HHT
                          clear hn'
                          by_cases hn0 : 0 < n'
                          · have hn0z : (0 : Int) < (n' : Int) := by omega
                            have e0 := Lib.hid (HZB.out (by have := HHT.out; rw [decide_eq_true hn0] at this; simp [this]))
                            go_wp2_with (first | (go_at_call 24; refine (hm.out _).mono ?_; rintro e w' ⟨rfl, rfl⟩))
                            go_ret
                            exact ⟨by rw [e0.out]; rfl, HWq.out⟩
                          · have hn0z : decide ((0 : Int) < (n' : Int)) = false := decide_eq_false (by omega)
                            have HGo := Lib.hid (show mayNotB z = false ∧ hasTo ls z = false from ⟨by have := HM2.out; simpa using this, HHT.out.trans (decide_eq_false hn0)⟩)
                            go_wp2_with (first | (go_at_call 24; refine (hm.out _).mono ?_; rintro e w' ⟨rfl, rfl⟩))
                            go_roundg (on - (m + 1))
                            case measure => omega
                            case rel => exact ⟨m + 1, by go_num, by omega, by omega, HB2q, Lib.hid fun j hj => by
                              by_cases c0 : j = m
                              · rw [c0, HZ.out]; exact HGo.out
                              · exact HDN.out j (by omega)⟩
                        · have HGo := Lib.hid (show mayNotB z = false ∧ hasTo ls z = false from ⟨by have := HM2.out; simpa using this, by unfold hasTo toL; rw [find_no hno]; rfl⟩)
                          clear hno HFC
                          go_wp2_with (first | (go_at_call 24; refine (hm.out _).mono ?_; rintro e w' ⟨rfl, rfl⟩))
                          go_roundg (on - (m + 1))
                          case measure => omega
                          case rel => exact ⟨m + 1, by go_num, by omega, by omega, HB2q, Lib.hid fun j hj => by
                            by_cases c0 : j = m
                            · rw [c0, HZ.out]; exact HGo.out
                            · exact HDN.out j (by omega)⟩
                    · have hmo : m = on := by omega
                      have hltmz : decide ((m : Int) < (on : Int)) = false := decide_eq_false (by omega)
                      have HOF1 := Lib.hid (show ∀ z ∈ x.of, mayNotB z = false ∧ hasTo ls z = false from fun z hz => by
                        obtain ⟨t, ht, rfl⟩ := List.getElem_of_mem hz
                        have h1 := HDN.out t (by rw [hmo, ← HON.out]; exact ht)
                        simpa [List.getD, ht] using h1)
                      clear hmo HDN
                      have c1 := cellB HB2.out D1.out hs3
                      go_wp2_with fail
                      clear c0 c1
                      obtain ⟨w4, rfl⟩ : ∃ w4, w4 = wr := ⟨_, rfl⟩
                      go_loopg [7] tn (fun g3 vi w2 => ∃ m : Nat, vi = .int .i64 (m : Int) ∧ m ≤ tn ∧ tn - m ≤ g3 ∧ Hid (Below w3.heap.size w3 w2) ∧ Hid (∀ j, j < m → elNotB x.to[j]! = false))
                      case atStart => exact ⟨0, rfl, Nat.zero_le _, by omega, HB2, Lib.hid fun j hj => by omega⟩
                      case round =>
                        obtain ⟨m, rfl, hmn, hg3, HB5, HDE⟩ := hrel
                        have hs5 := HB5.out.size
                        have c1 := cellB HB5.out D1.out hs3
                        have HW5 := Lib.hid (HW3.out.trans (HB5.out.mono HW3.out.size))
                        by_cases hltm : m < tn
                        · have hltmz : (m : Int) < (tn : Int) := by omega
                          obtain ⟨be, oe, hpe, hbe, ce1, ce2, ce3⟩ := HROW.out.2.1.at_ (HB3.out.trans (HB5.out.mono (Nat.le_of_lt hs3))) (show m < x.to.length by rw [HTN.out]; exact hltm)
                          rw [hpe] at c1
                          clear hpe
                          have hym := Lib.hid (getE_mem (show m < x.to.length by rw [HTN.out]; exact hltm))
                          obtain ⟨y, hy⟩ : ∃ y, x.to[m]! = y := ⟨_, rfl⟩
                          rw [hy] at ce1 ce2 ce3 hym
                          have HY := Lib.hid hy; clear hy
                          obtain ⟨ep, es, et⟩ := y
                          dsimp only at ce1 ce2 ce3
                          have HYB := Lib.hid (show elNotB ⟨ep, es, et⟩ = true → mb = false from fun h => by
                            rw [← HMB.out]
                            refine bad_wrow hlt fun hc => ?_
                            rw [HX.out] at hc
                            have := ((mayRow_iff HM.out rs x).1 hc).2.2.2.2.1 _ hym.out
                            rw [h] at this; cases this)
                          go_upto_region 19 with fail
                          obtain ⟨w6, hw6⟩ : ∃ w6, w6 = wr.alloc (.cells #[.int .i64 ep, .int .i64 es, .int .i64 et] 44) := ⟨_, rfl⟩
                          rw [← hw6]
                          have d0 : w6.cell? ⟨wr.heap.size, 0, none⟩ = some (.int .i64 ep) := by rw [hw6, World.cell?_alloc_new]; rfl
                          have d1 : w6.cell? ⟨wr.heap.size, 1, none⟩ = some (.int .i64 es) := by rw [hw6, World.cell?_alloc_new]; rfl
                          have d2 : w6.cell? ⟨wr.heap.size, 2, none⟩ = some (.int .i64 et) := by rw [hw6, World.cell?_alloc_new]; rfl
                          have HB6 := Lib.hid (show Below w3.heap.size w3 w6 from hw6 ▸ HB5.out.alloc hs5 _)
                          clear hw6 c1 ce1 ce2 ce3
                          go_cut [169] from 122 to 169 (fun cc wx => cc = .bool (elNotB ⟨ep, es, et⟩) ∧ wx = w6)
                          case first =>
                            by_cases u0 : ep < 0
                            · have v0 : decide (ep < 0) = true := decide_eq_true u0
                              have e0 := Lib.hid (elNot_t ep es et (by omega))
                              go_wp2_with fail
                              go_meet
                              exact ⟨by rw [← e0.out], rfl⟩
                            have v0 : decide (ep < 0) = false := decide_eq_false u0
                            by_cases u1 : 60000 < ep
                            · have v1 : decide (60000 < ep) = true := decide_eq_true u1
                              have e0 := Lib.hid (elNot_t ep es et (by omega))
                              go_wp2_with fail
                              go_meet
                              exact ⟨by rw [← e0.out], rfl⟩
                            have v1 : decide (60000 < ep) = false := decide_eq_false u1
                            by_cases u2 : es < 0
                            · have v2 : decide (es < 0) = true := decide_eq_true u2
                              have e0 := Lib.hid (elNot_t ep es et (by omega))
                              go_wp2_with fail
                              go_meet
                              exact ⟨by rw [← e0.out], rfl⟩
                            have v2 : decide (es < 0) = false := decide_eq_false u2
                            by_cases u3 : 200 < es
                            · have v3 : decide (200 < es) = true := decide_eq_true u3
                              have e0 := Lib.hid (elNot_t ep es et (by omega))
                              go_wp2_with fail
                              go_meet
                              exact ⟨by rw [← e0.out], rfl⟩
                            have v3 : decide (200 < es) = false := decide_eq_false u3
                            by_cases u4 : et < 0
                            · have v4 : decide (et < 0) = true := decide_eq_true u4
                              have e0 := Lib.hid (elNot_t ep es et (by omega))
                              go_wp2_with fail
                              go_meet
                              exact ⟨by rw [← e0.out], rfl⟩
                            have v4 : decide (et < 0) = false := decide_eq_false u4
                            by_cases u5 : 200 < et
                            · have v5 : decide (200 < et) = true := decide_eq_true u5
                              have e0 := Lib.hid (elNot_t ep es et (by omega))
                              go_wp2_with fail
                              go_meet
                              exact ⟨by rw [← e0.out], rfl⟩
                            have v5 : decide (200 < et) = false := decide_eq_false u5
                            by_cases u6 : 0 < ep
                            · have v6 : decide (0 < ep) = true := decide_eq_true u6
                              by_cases u7 : es = 0
                              · have v7 : ((es : Int) == 0) = true := by simp [u7]
                                have e0 := Lib.hid (elNot_t ep es et (by omega))
                                clear u7
                                go_wp2_with fail
                                go_meet
                                exact ⟨by rw [← e0.out], rfl⟩
                              have v7 : ((es : Int) == 0) = false := by simp [u7]
                              have v8 : decide (0 < es) = true := decide_eq_true (by omega)
                              by_cases u9 : et = 0
                              · have v9 : ((et : Int) == 0) = true := by simp [u9]
                                have e0 := Lib.hid (elNot_t ep es et (by omega))
                                clear u9
                                go_wp2_with fail
                                go_meet
                                exact ⟨by rw [← e0.out], rfl⟩
                              · have v9 : ((et : Int) == 0) = false := by simp [u9]
                                have e0 := Lib.hid (elNot_f ep es et (by omega))
                                go_wp2_with fail
                                go_meet
                                exact ⟨by rw [← e0.out], rfl⟩
                            · have v6 : decide (0 < ep) = false := decide_eq_false u6
                              by_cases u8 : 0 < es
                              · have v8 : decide (0 < es) = true := decide_eq_true u8
                                by_cases u9 : et = 0
                                · have v9 : ((et : Int) == 0) = true := by simp [u9]
                                  have e0 := Lib.hid (elNot_t ep es et (by omega))
                                  clear u9
                                  go_wp2_with fail
                                  go_meet
                                  exact ⟨by rw [← e0.out], rfl⟩
                                · have v9 : ((et : Int) == 0) = false := by simp [u9]
                                  have e0 := Lib.hid (elNot_f ep es et (by omega))
                                  go_wp2_with fail
                                  go_meet
                                  exact ⟨by rw [← e0.out], rfl⟩
                              · have v8 : decide (0 < es) = false := decide_eq_false u8
                                have e0 := Lib.hid (elNot_f ep es et (by omega))
                                go_wp2_with fail
                                go_meet
                                exact ⟨by rw [← e0.out], rfl⟩
                          case rest =>
                            obtain ⟨rfl, hwx⟩ := hcut
                            obtain rfl := hwx.symm
                            clear hwx d0 d1 d2
                            cases hnb : elNotB ⟨ep, es, et⟩ with
                            | true =>
                              have e0 := Lib.hid (HYB.out hnb)
                              clear hnb
                              go_wp2_with fail
                              go_ret
                              exact ⟨by rw [e0.out]; rfl, HW3.out.trans (HB6.out.mono HW3.out.size)⟩
                            | false =>
                              have HNB := Lib.hid hnb; clear hnb
                              go_wp2_with fail
                              go_roundg (tn - (m + 1))
                              case measure => omega
                              case rel => exact ⟨m + 1, by go_num, by omega, by omega, HB6, Lib.hid fun j hj => by
                                by_cases c0 : j = m
                                · rw [c0, HY.out]; exact HNB.out
                                · exact HDE.out j (by omega)⟩
                        · have hmo : m = tn := by omega
                          have hltmz : decide ((m : Int) < (tn : Int)) = false := decide_eq_false (by omega)
                          have HTO1 := Lib.hid (show ∀ y ∈ x.to, elNotB y = false from fun y hy => by
                            obtain ⟨t, ht, rfl⟩ := List.getElem_of_mem hy
                            have h1 := HDE.out t (by rw [hmo, ← HTN.out]; exact ht)
                            rwa [getElem!_pos x.to t ht] at h1)
                          clear hmo HDE
                          have c0 := cellB HB5.out D0.out hs3
                          have tt0 := cellB HB5.out TT0.out hsW3
                          have tt1 := cellB HB5.out TT1.out hsW3
                          have tt2 := cellB HB5.out TT2.out hsW3
                          have tt3 := cellB HB5.out TT3.out hsW3
                          have hgxR : wo.heap.size < wr.heap.size := by omega
                          have hWR : W.heap.size < wr.heap.size := by omega
                          go_upto_region 21 with fail
                          go_cut [181] from 170 to 181 (fun cc wx => cc = .bool (!isL rs (x.of.take 1)) ∧ Hid (Below wr.heap.size wr wx))
                          case first =>
                            have f0 := fun pw : BelowOf wr => pw.cell (a := ⟨W.heap.size, 0, none⟩) hWR tt0
                            have f1 := fun pw : BelowOf wr => pw.cell (a := ⟨W.heap.size, 1, none⟩) hWR tt1
                            have f2 := fun pw : BelowOf wr => pw.cell (a := ⟨W.heap.size, 2, none⟩) hWR tt2
                            have f3 := fun pw : BelowOf wr => pw.cell (a := ⟨W.heap.size, 3, none⟩) hWR tt3
                            have f4 := fun pw : BelowOf wr => pw.cell (a := ⟨wo.heap.size, 0, none⟩) hgxR c0
                            have hok := HOK.out
                            clear tt0 tt1 tt2 tt3 c0 c1
                            by_cases h1 : 1 < on
                            · have h1z : decide ((1 : Int) < (on : Int)) = true := decide_eq_true (by omega)
                              have hoc : (1 : Int) ≤ (x.oc : Int) := by have := HROW.out.1.2.1; rw [HON.out] at this; omega
                              have hkl : (x.of.take 1).length = 1 := by rw [List.length_take, HON.out]; omega
                              have hrow1 := Lib.hid (fun pw : BelowOf wr => Calls.below_of pw (refRow_any ⟨lp, ls, lc, some ⟨b, off, none⟩, rs, rc, top, sh⟩ (x.of.take 1) x.op x.oc pw.w' ⟨HLO.out.below (HW5.out.trans (pw.h.mono HW5.out.size)), HRO.out.below (HW5.out.trans (pw.h.mono HW5.out.size)), hsz, hrz, HOF.out⟩ (row_take (HROW.out.1.1.below ((HB3.out.trans (HB5.out.mono (Nat.le_of_lt hs3))).trans (pw.h.mono (by omega)))) 1) (by rw [hkl]; decide)))
                              rw [hkl] at hrow1
                              dsimp only at hrow1
                              have hrc := rowIx_cases rs (x.of.take 1)
                              obtain ⟨ri, hri⟩ : ∃ ri, rowIx rs (x.of.take 1) = ri := ⟨_, rfl⟩
                              rw [hri] at hrow1 hrc
                              clear hri hok hkl h1
                              have HRC := Lib.hid hrc; clear hrc
                              by_cases hneg : ri < 0
                              · have hnd : decide (ri < 0) = true := decide_eq_true hneg
                                have HE := Lib.hid (show isL rs (x.of.take 1) = false by
                                  rcases HRC.out with ⟨t, _, _, h⟩ | ⟨h, _⟩
                                  · omega
                                  · unfold isL; rw [h]; rfl)
                                refine wp_region_quiet_below (by assumption) (by kernel_rfl) ?_
                                repeat (go_big_quiet_step (first | (go_at_call 38; with_reducible exact hrow1.out _)))
                                refine wpQuiet_nil ?_
                                intro _ hw'
                                obtain ⟨⟨wq, hbq⟩, hw''⟩ := hw'
                                subst hw''
                                have HBq := Lib.hid hbq
                                clear hbq
                                go_wp2_with fail
                                go_meet
                                exact ⟨by rw [HE.out]; rfl, HBq⟩
                              · have hnd : decide (ri < 0) = false := decide_eq_false hneg
                                have HE := Lib.hid (show isL rs (x.of.take 1) = true by
                                  rcases HRC.out with ⟨t, _, h, _⟩ | ⟨_, h⟩
                                  · unfold isL; rw [h]; rfl
                                  · omega)
                                refine wp_region_quiet_below (by assumption) (by kernel_rfl) ?_
                                repeat (go_big_quiet_step (first | (go_at_call 38; with_reducible exact hrow1.out _)))
                                refine wpQuiet_nil ?_
                                intro _ hw'
                                obtain ⟨⟨wq, hbq⟩, hw''⟩ := hw'
                                subst hw''
                                have HBq := Lib.hid hbq
                                clear hbq
                                go_wp2_with fail
                                go_meet
                                exact ⟨by rw [HE.out]; rfl, HBq⟩
                            · have h1z : decide ((1 : Int) < (on : Int)) = false := decide_eq_false (by omega)
                              have HE := Lib.hid (show isL rs (x.of.take 1) = true by
                                rw [List.take_of_length_le (by rw [HON.out]; omega)]
                                exact is_self hxm.out)
                              clear hok h1
                              refine wp_region_quiet_below (by assumption) (by kernel_rfl) ?_
                              repeat (go_big_quiet_step (fail))
                              refine wpQuiet_nil ?_
                              intro _ hw'
                              obtain ⟨⟨wq, hbq⟩, hw''⟩ := hw'
                              subst hw''
                              have HBq := Lib.hid hbq
                              clear hbq
                              go_wp2_with fail
                              go_meet
                              exact ⟨by rw [HE.out]; rfl, HBq⟩
                          case rest =>
                            obtain ⟨rfl, HBf⟩ := hcut
                            have HWf := Lib.hid (HW5.out.trans (HBf.out.mono HW5.out.size))
                            clear tt0 tt1 tt2 tt3 c0 c1
                            cases hib : isL rs (x.of.take 1) with
                            | false =>
                              have e0 := Lib.hid (show mb = false by
                                rw [← HMB.out]
                                refine bad_wrow hlt fun hc => ?_
                                rw [HX.out] at hc
                                have := ((mayRow_iff HM.out rs x).1 hc).2.2.2.2.2
                                rw [hib] at this; cases this)
                              clear hib
                              go_wp2_with fail
                              go_ret
                              exact ⟨by rw [e0.out]; rfl, HWf.out⟩
                            | true =>
                              have HMR := Lib.hid (show mayRowB ls rs x = true from (mayRow_iff HM.out rs x).2 ⟨by rw [HON.out]; exact HOK.out.1, by rw [HON.out]; exact HOK.out.2.1, by rw [HTN.out]; exact HOK.out.2.2.1, HOF1.out, HTO1.out, hib⟩)
                              clear hib
                              go_wp2_with fail
                              go_roundg (rs.length - (i + 1))
                              case measure => omega
                              case rel => exact ⟨i + 1, by go_num, by omega, by omega, Lib.hid (HB.out.trans (HB3.out.mono hsr) |>.trans (HB5.out.mono hw03) |>.trans (HBf.out.mono (by omega))), Lib.hid (fun j hj => by
                                by_cases hc : j + 1 < i
                                · exact HR.out j hc
                                · have hji : i = j + 1 := by omega
                                  have h2 := HOK.out.2.2.2 (by omega)
                                  rw [show i - 1 = j by omega] at h2
                                  rw [← hji, HX.out]; exact h2), Lib.hid (fun j hj => by
                                by_cases hc : j < i
                                · exact HO.out j hc
                                · rw [show j = i by omega, HX.out]; exact HMR.out)⟩
            · obtain rfl : i = rs.length := by omega
              have hltz : ¬ (rs.length : Int) < (rs.length : Int) := by omega
              have e0 := Lib.hid (show mb = true by rw [← HMB.out]; exact good_w HM.out H64.out HTOP.out HR.out HO.out)
              go_wp2_with fail
              go_ret
              exact ⟨by rw [e0.out]; rfl, HW.out⟩
        · have ht1d : 60000 < top := by omega
          have e0 := Lib.hid (show mb = false by rw [← HMB.out]; unfold mayWB; rw [decide_eq_false ht1]; simp)
          clear ht1
          go_wp2_with fail
          go_ret
          exact ⟨by rw [e0.out]; rfl, hb0.out.trans (HB1.out.mono (Nat.le_of_lt hs0))⟩
      · have ht0d : top < 0 := by omega
        have e0 := Lib.hid (show mb = false by rw [← HMB.out]; unfold mayWB; rw [decide_eq_false ht0]; simp)
        clear ht0
        go_wp2_with fail
        go_ret
        exact ⟨by rw [e0.out]; rfl, hb0.out.trans (HB1.out.mono (Nat.le_of_lt hs0))⟩
    · have h64d : (64 : Int) < (rs.length : Int) := by omega
      have e0 := Lib.hid (show mb = false by rw [← HMB.out]; unfold mayWB; rw [decide_eq_false h64]; simp)
      clear h64
      go_wp2_with fail
      go_ret
      exact ⟨by rw [e0.out]; rfl, hb0.out.trans (HB1.out.mono (Nat.le_of_lt hs0))⟩
end Go.Proofs.YticjgmhgpeihjaaGreatDoor
