/-
  WeighRows: the walk.
-/
import Derived.Test.YtackppehhkbjfaaWeNormal
namespace Go.Proofs.Ytackppehhkbjfaa
open Go.RowKit Go.Gz Go.Sort

theorem byte_wf {a : Int} (h : (Lit.int .u8 a).wf = true) : 0 ≤ a ∧ a ≤ 255 := by
  have e1 : IntKind.u8.min = 0 := by decide
  have e2 : IntKind.u8.max = 255 := by decide
  revert h
  unfold Lit.wf
  simp
  omega
theorem lt_cell {w : World} {g o : Nat} {v : Value} (h : w.cell? ⟨g, o, none⟩ = some v) : g < w.heap.size := by
  apply Classical.byContradiction
  intro hn
  have : w.heap[g]? = none := by rw [Array.getElem?_eq_none]; omega
  simp [World.cell?, this] at h
theorem row_whole {ls : List LR} {rs : List WR} {x : WR} (h : mayRowB ls rs x = true) : x.of.any mayNotB = false ∧ apartL ls x.of = x.of := by
  have h4 := (mayRow_of h).2.2.2
  unfold wholeB at h4
  simpa using h4
/-- of two rows of numbers, as long, that read alike at each place. -/
theorem alike {a b : List Int} (hl : a.length = b.length) (h : ∀ j, j < a.length → a.getD j 0 = b.getD j 0) : a = b := by
  apply List.ext_getElem hl
  intro i h1 h2
  have := h i h1
  simpa [List.getD, h1, h2] using this

set_option maxHeartbeats 800000 in
set_option maxRecDepth 100000 in
theorem rows_walk (T : TB) (at_ : Int) (W : World) (hT : TabIn W T) (h0 : 0 ≤ at_ ∧ at_ ≤ 255) :
    Calls Try.prog 8 #[.agg #[.slice T.lp T.ls.length T.lc, .slice T.rp T.rs.length T.rc, .int .i64 T.top, .bool T.sh], .int .u8 at_] W fun e w' => e = .returned (.bool true) ∧ Below W.heap.size W w' := by
  have HT := Lib.hid hT; clear hT
  have H0 := Lib.hid h0; clear h0
  go_enter Try.func8, Try.ntmps8
  go_wp2_with fail
  obtain ⟨w0, hw0⟩ : ∃ w0, W.alloc (.cells #[.slice T.lp T.ls.length T.lc, .slice T.rp T.rs.length T.rc, .int .i64 T.top, .bool T.sh] 25) = w0 := ⟨_, rfl⟩
  rw [hw0]
  have hb0 := Lib.hid (show Below W.heap.size W w0 from hw0 ▸ (Below.refl _ _).alloc (Nat.le_refl _) _)
  have HX0 := Lib.hid (show BoxAt w0 W.heap.size T from hw0 ▸ BoxAt.new W T _)
  clear hw0
  refine (awake_true w0).mono ?_
  rintro e w1 ⟨rfl, hb1⟩
  have HX1 := Lib.hid (HX0.out.below hb1)
  have HB1 := Lib.hid (hb0.out.trans (hb1.mono hb0.out.size))
  clear hb1
  obtain ⟨_, t0, t1, t2, t3⟩ := HX1.out
  have hfew := Lib.hid (few_any T.lp T.ls T.lc T.rp T.rs T.rc T.top T.sh [] none 0 w1 (HT.out.lore.below HB1.out) (HT.out.rows.below HB1.out) HT.out.bl HT.out.br HT.out.bx HT.out.by_ (by simp))
  go_wp2_with fail
  refine hfew.out.mono ?_
  rintro e w2 ⟨bf, rfl, hbf, hb2⟩
  have HX2 := Lib.hid (HX1.out.below hb2)
  have HB2 := Lib.hid (HB1.out.trans (hb2.mono HB1.out.size))
  clear hb2 hfew t0 t1 t2 t3
  cases bf with
  | false =>
    clear hbf
    go_wp2_with fail
    go_ret
    exact ⟨rfl, HB2.out⟩
  | true =>
    obtain ⟨hl1, hl2, _⟩ := hbf rfl
    clear hbf
    obtain ⟨_, t0, t1, t2, t3⟩ := HX2.out
    have htm := Lib.hid (refTableMay_is T.lp T.ls T.lc T.rp T.rs T.rc T.top T.sh w2 (HT.out.lore.below HB2.out) (HT.out.rows.below HB2.out) (by omega) (by omega) HT.out.bx HT.out.by_)
    have HL := Lib.hid (show T.ls.length ≤ 100 ∧ T.rs.length ≤ 100 from ⟨hl1, hl2⟩)
    clear hl1 hl2
    go_wp2_with fail
    refine htm.out.mono ?_
    rintro e w3 ⟨rfl, hb3⟩
    have HX3 := Lib.hid (HX2.out.below hb3)
    have HB3 := Lib.hid (HB2.out.trans (hb3.mono HB2.out.size))
    clear hb3 htm t0 t1 t2 t3
    cases hmw : mayWB T.ls T.rs T.top with
    | false =>
      clear hmw
      go_wp2_with fail
      go_ret
      exact ⟨rfl, HB3.out⟩
    | true =>
      have HMW := Lib.hid hmw
      clear hmw
      obtain ⟨_, t0, t1, t2, t3⟩ := HX3.out
      by_cases hn : T.rs.length = 0
      · have HZ := Lib.hid hn
        have hnz : decide ((T.rs.length : Int) = 0) = true := decide_eq_true (by omega)
        have hnz2 : ((T.rs.length : Int) == 0) = true := by rw [beq_iff_eq]; omega
        clear hn
        go_wp2_with fail
        go_ret
        exact ⟨rfl, HB3.out⟩
      · obtain ⟨k, hk⟩ : ∃ k : Nat, at_.tmod (T.rs.length : Int) = (k : Int) := ⟨(at_.tmod (T.rs.length : Int)).toNat, by have := Int.tmod_nonneg (T.rs.length : Int) H0.out.1; omega⟩
        have hkl : k < T.rs.length := by have := Int.tmod_lt_of_pos at_ (b := (T.rs.length : Int)) (by omega); omega
        have hkz : (k : Int) < (T.rs.length : Int) := by omega
        have hnz : decide ((T.rs.length : Int) = 0) = false := decide_eq_false (by omega)
        have hnz2 : ((T.rs.length : Int) == 0) = false := by rw [beq_eq_false_iff_ne]; omega
        have hnz3 : (T.rs.length : Int) ≠ 0 := by omega
        obtain ⟨b, off, hrp, hbW, c0, c1, hra⟩ := HT.out.rows.at_ HB3.out hkl
        have hmem := getW_mem hkl
        have HRW := Lib.hid (mayW_row HMW.out _ hmem)
        have HRI := Lib.hid (row_at (mayW_rise HMW.out) hkl)
        have HFF := Lib.hid (HT.out.by_ _ hmem)
        have HRA := Lib.hid hra
        clear hra hmem
        have hbn : b ≠ w3.heap.size := fun h => by have := HB3.out.size; omega
        generalize T.rs[k]! = x at *
        have ca0 : (w3.alloc (.cells #[.slice none 0 0, .slice none 0 0] 44)).cell? ⟨b, off + k * 2, none⟩ = some (.slice x.op x.of.length x.oc) := by rw [World.cell?_alloc_old _ _ _ hbn]; exact c0
        have ca1 : (w3.alloc (.cells #[.slice none 0 0, .slice none 0 0] 44)).cell? ⟨b, off + k * 2 + 1, none⟩ = some (.slice x.tp x.to.length x.tc) := by rw [World.cell?_alloc_old _ _ _ hbn]; exact c1
        have hr0 := H0.out.1
        have hr1 := H0.out.2
        go_upto_region 5 with fail
        go_cut [5] from 27 to 36 (fun tp wx => ∃ g : Nat, tp = .pointer (some ⟨g, 0, none⟩) ∧ Hid (AtRow w3 wx g x))
        case first =>
          go_region
          all_goals (go_wp2_with fail; go_meet)
          all_goals first
            | exact ⟨_, rfl, Lib.hid (AtRow.new x _ (Below.refl _ _).drew)⟩
            | exact ⟨_, rfl, Lib.hid (AtRow.new x _ (Below.refl _ _))⟩
            | exact ⟨_, rfl, Lib.hid (AtRow.old x ((Below.refl _ _).drew.alloc (Nat.le_refl _) _) (Nat.le_refl _) (by simp) (by simp))⟩
            | exact ⟨_, rfl, Lib.hid (AtRow.old x ((Below.refl _ _).alloc (Nat.le_refl _) _).drew (Nat.le_refl _) (by simp) (by simp))⟩
            | exact ⟨_, rfl, Lib.hid (AtRow.old x ((Below.refl _ _).alloc (Nat.le_refl _) _) (Nat.le_refl _) (by simp) (by simp))⟩
        case rest =>
          obtain ⟨g, rfl, HA⟩ := hcut
          have HXx := Lib.hid (HX3.out.below HA.out.hb)
          have HBx := Lib.hid (HB3.out.trans (HA.out.hb.mono HB3.out.size))
          have hgx := lt_cell HA.out.c0
          have HRx := Lib.hid (HRA.out.below HA.out.hb)
          have d0 := HA.out.c0
          have d1 := HA.out.c1
          clear t0 t1 t2 t3 c0 c1 ca0 ca1 hr0 hr1 hnz hnz2 hnz3 hkz hk
          obtain ⟨_, t0, t1, t2, t3⟩ := HXx.out
          have hml := mayW_lore HMW.out
          obtain ⟨hv, hap⟩ := row_whole HRW.out
          have h3 := (mayRow_of HRW.out).2.1
          have h1 := (mayRow_of HRW.out).1
          have h4 := (mayRow_of HRW.out).2.2.1
          have hTx := HT.out.at_ HBx.out HL.out.1 HL.out.2
          have hno := Lib.hid (refNormal_may T.ls hml T.lp T.lc x.of x.op x.oc wc hTx.lore HRx.out.1.1 hTx.few.1 HT.out.bx (by omega))
          have hel := Lib.hid (fun w hb => elements_ok T HMW.out x.of hv x.op x.oc w (HT.out.at_ (HBx.out.trans (hb.mono HBx.out.size)) HL.out.1 HL.out.2) (HRx.out.1.1.below hb) (by omega))
          have hnl := Lib.hid (show (normalL T.ls x.of).length = x.of.length by rw [normal_length, hap])
          have hsame := Lib.hid (fun (h : normalL T.ls x.of = x.of) => show elemL T.ls T.rs x.of = x.to by unfold elemL; rw [h]; exact weigh_row HRI.out h1 h3)
          have hxl : (elemL T.ls T.rs x.of).length ≤ 1000000 := by have := elem_few HMW.out x.of; have := hnl.out; omega
          have HV := Lib.hid hv
          clear hTx hv hap h1 h4
          generalize elemL T.ls T.rs x.of = xs at hel hsame hxl
          go_wp2_with fail
          refine hno.out.mono ?_
          rintro e w4 ⟨hb4, ⟨hbad, rfl⟩ | ⟨hval, v4, rfl, hown4⟩⟩
          · exact absurd (hbad.symm.trans HV.out) (by simp)
          · obtain ⟨q4, c4, rfl, _, hrow4⟩ := own_slice hown4
            clear hval
            generalize normalL T.ls x.of = ns at *
            have HX4 := Lib.hid (HXx.out.below hb4)
            have HB4 := Lib.hid (HBx.out.trans (hb4.mono HBx.out.size))
            have HR4 := Lib.hid hrow4
            have e0 := cell_below hb4 d0 hgx
            have e1 := cell_below hb4 d1 hgx
            have hg4 := lt_cell e0
            have hel4' := hel.out w4 hb4
            rw [hrp] at hel4'
            have hel4 := Lib.hid hel4'
            have HRx4 := Lib.hid (HRx.out.below hb4)
            clear hb4 hno hel hel4' t0 t1 t2 t3 hown4 hrow4 d0 d1 hgx
            obtain ⟨_, t0, t1, t2, t3⟩ := HX4.out
            go_wp2_with fail
            refine hel4.out.mono ?_
            rintro e w5 ⟨v5, rfl, hb5, hown5⟩
            obtain ⟨p5, c5, rfl, _, _, hels5⟩ := OwnE.row hown5
            have HB5 := Lib.hid (HB4.out.trans (hb5.mono HB4.out.size))
            have HE5 := Lib.hid hels5
            have HR5 := Lib.hid (HR4.out.below hb5)
            have HRx5 := Lib.hid (HRx4.out.below hb5)
            have f0 := cell_below hb5 e0 hg4
            have f1 := cell_below hb5 e1 hg4
            have hg5 := lt_cell f0
            clear hb5 hel4 t0 t1 t2 t3 hown5 hels5 e0 e1 hg4
            go_wp2_with fail
            go_loopg [10] ns.length (fun g vi wr => ∃ k : Nat, vi = .int .i64 k ∧ k ≤ ns.length ∧ ns.length - k ≤ g ∧ Hid (∀ j, j < k → ns.getD j 0 = x.of.getD j 0) ∧ Hid (Below w5.heap.size w5 wr))
            case atStart => exact ⟨0, rfl, Nat.zero_le _, by omega, Lib.hid (fun j hj => by omega), Lib.hid (Below.refl _ _)⟩
            case round =>
              obtain ⟨i, rfl, hi, hgi, HQ, HB⟩ := hrel
              have HW := Lib.hid (HB5.out.trans (HB.out.mono HB5.out.size))
              have r0 := cell_below HB.out f0 hg5
              have r1 := cell_below HB.out f1 hg5
              by_cases hlt : i < ns.length
              · have hltz : (i : Int) < (ns.length : Int) := by omega
                have hltx : (i : Int) < (x.of.length : Int) := by have := hnl.out; omega
                obtain ⟨b1, o1, rfl, hb1, k1⟩ := row_cell HR5.out HB.out hlt
                obtain ⟨b2, o2, hp2, hb2, k2⟩ := row_cell HRx5.out.1.1 HB.out (show i < x.of.length by have := hnl.out; omega)
                by_cases hq : ns.getD i 0 = x.of.getD i 0
                · have HQ' := Lib.hid (show ∀ j, j < i + 1 → ns.getD j 0 = x.of.getD j 0 by
                    intro j hj
                    by_cases h : j < i
                    · exact HQ.out j h
                    · obtain rfl : j = i := by omega
                      exact hq)
                  rw [hq] at k1
                  generalize x.of.getD i 0 = z at k1 k2
                  clear hq
                  rw [hp2] at r0
                  go_wp2_with fail
                  go_quiet (fail)
                  go_wp2_with fail
                  go_roundg (ns.length - (i + 1))
                  case measure => omega
                  case rel => exact ⟨i + 1, by go_num, by omega, by omega, HQ', Lib.hid (below_drewN HB.out _)⟩
                · have hqb : ((ns.getD i 0) != (x.of.getD i 0)) = true := by simpa using hq
                  have hqb2 : ((ns.getD i 0) == (x.of.getD i 0)) = false := by simpa using hq
                  generalize ns.getD i 0 = y at k1 hq hqb hqb2
                  generalize x.of.getD i 0 = z at k2 hq hqb hqb2
                  rw [hp2] at r0
                  go_wp2_with fail
                  go_quiet (fail)
                  go_wp2_with fail
                  go_ret
                  exact ⟨rfl, below_drewN HW.out _⟩
              · obtain rfl : i = ns.length := by omega
                have hltz : ¬ (ns.length : Int) < (ns.length : Int) := by omega
                have hns : ns = x.of := alike hnl.out HQ.out
                have hxs := hsame.out hns
                subst hxs
                have hsm := Lib.hid (sameE_yes x.to p5 x.tp c5 x.tc wr hxl (HE5.out.below HB.out) (HRx5.out.2.1.below HB.out))
                go_wp2_with fail
                refine hsm.out.mono ?_
                rintro e w7 ⟨rfl, hb7⟩
                have HB7 := Lib.hid (HW.out.trans (hb7.mono HW.out.size))
                clear hb7
                go_wp2_with fail
                go_ret
                exact ⟨rfl, HB7.out⟩
end Go.Proofs.Ytackppehhkbjfaa
