/-
  WeighParts: the walk of its inner function.
-/
import Derived.Test.YtnbdekmmailjmaaMgB
import Derived.Test.YtnbdekmmailjmaaWeAwake
import Derived.Deep.CutRange
import Derived.Deep.RegionHeld3
import Derived.Test.YtnbdekmmailjmaaQuietBelow
namespace Go.Proofs.Ytnbdekmmailjmaa
open Go.RowKit Go.Gz Go.Sort

set_option maxHeartbeats 1000000 in
set_option maxRecDepth 100000 in
theorem parts_any (T : TB) (a : List Int) (q : Option Addr) (c : Nat) (bs : List Int) (q2 : Option Addr) (c2 : Nat) (W : World) (hT : TabIn W T) (ha : Row W .i32 q a) (hb : Row W .i32 q2 bs) (hac : q = none → c = 0) (hbc : q2 = none → c2 = 0) (hz : a.length ≤ 9223372036854775807) (hz2 : bs.length ≤ 9223372036854775807) :
    Calls Try.prog 13 #[.agg #[.slice T.lp T.ls.length T.lc, .slice T.rp T.rs.length T.rc, .int .i64 T.top, .bool T.sh], .slice q a.length c, .slice q2 bs.length c2] W fun e w' => e = .returned (.bool true) ∧ Below W.heap.size W w' := by
  have HT := Lib.hid hT; clear hT
  have HA := Lib.hid ha; clear ha
  have HBs := Lib.hid hb; clear hb
  have HAC := Lib.hid hac; clear hac
  have HBC := Lib.hid hbc; clear hbc
  have HAW := Lib.hid awake_true
  go_enter Try.func13, Try.ntmps13
  go_wp2_with fail
  obtain ⟨w0, hw0⟩ : ∃ w0, W.alloc (.cells #[.slice T.lp T.ls.length T.lc, .slice T.rp T.rs.length T.rc, .int .i64 T.top, .bool T.sh] 25) = w0 := ⟨_, rfl⟩
  rw [hw0]
  have HB0 := Lib.hid (show Below W.heap.size W w0 from hw0 ▸ (Below.refl _ _).alloc (Nat.le_refl _) _)
  have HX0 := Lib.hid (show BoxAt w0 W.heap.size T from hw0 ▸ BoxAt.new W T _)
  clear hw0
  have hfew := Lib.hid (few_any T.lp T.ls T.lc T.rp T.rs T.rc T.top T.sh a q c w0 (HT.out.lore.below HB0.out) (HT.out.rows.below HB0.out) HT.out.bl HT.out.br HT.out.bx HT.out.by_ hz)
  refine hfew.out.mono ?_
  rintro e w1 ⟨bf, rfl, hbf, hb1⟩
  have HX1 := Lib.hid (HX0.out.below hb1)
  have HB1 := Lib.hid (HB0.out.trans (hb1.mono HB0.out.size))
  clear hb1 hfew hz
  obtain ⟨_, t0, t1, t2, t3⟩ := HX1.out
  cases bf with
  | false =>
    clear hbf
    go_wp2_with fail
    refine (HAW.out w1).mono ?_
    rintro e w2 ⟨rfl, hb2⟩
    have HB2 := Lib.hid (HB1.out.trans (hb2.mono HB1.out.size))
    go_wp2_with fail
    go_ret
    exact ⟨rfl, HB2.out⟩
  | true =>
    obtain ⟨hl1, hl2, hl3⟩ := hbf rfl
    clear hbf
    have hfew := Lib.hid (few_any T.lp T.ls T.lc T.rp T.rs T.rc T.top T.sh bs q2 c2 w1 (HT.out.lore.below HB1.out) (HT.out.rows.below HB1.out) HT.out.bl HT.out.br HT.out.bx HT.out.by_ hz2)
    go_wp2_with fail
    refine hfew.out.mono ?_
    rintro e w2 ⟨bf, rfl, hbf, hb2⟩
    have HX2 := Lib.hid (HX1.out.below hb2)
    have HB2 := Lib.hid (HB1.out.trans (hb2.mono HB1.out.size))
    clear hb2 hfew hz2 t0 t1 t2 t3
    obtain ⟨_, t0, t1, t2, t3⟩ := HX2.out
    cases bf with
    | false =>
      clear hbf
      go_wp2_with fail
      refine (HAW.out w2).mono ?_
      rintro e w3 ⟨rfl, hb3⟩
      have HB3 := Lib.hid (HB2.out.trans (hb3.mono HB2.out.size))
      go_wp2_with fail
      go_ret
      exact ⟨rfl, HB3.out⟩
    | true =>
      obtain ⟨_, _, hl4⟩ := hbf rfl
      clear hbf
      have htm := Lib.hid (refTableMay_is T.lp T.ls T.lc T.rp T.rs T.rc T.top T.sh w2 (HT.out.lore.below HB2.out) (HT.out.rows.below HB2.out) (by omega) (by omega) HT.out.bx HT.out.by_)
      have HL := Lib.hid (show T.ls.length ≤ 100 ∧ T.rs.length ≤ 100 ∧ a.length ≤ 200 ∧ bs.length ≤ 200 from ⟨hl1, hl2, hl3, hl4⟩)
      clear hl1 hl2 hl3 hl4
      go_wp2_with fail
      refine htm.out.mono ?_
      rintro e w3 ⟨rfl, hb3⟩
      have HX3 := Lib.hid (HX2.out.below hb3)
      have HB3 := Lib.hid (HB2.out.trans (hb3.mono HB2.out.size))
      clear hb3 htm t0 t1 t2 t3
      obtain ⟨_, t0, t1, t2, t3⟩ := HX3.out
      cases hmw : mayWB T.ls T.rs T.top with
      | false =>
        clear hmw
        go_wp2_with fail
        refine (HAW.out w3).mono ?_
        rintro e w4 ⟨rfl, hb4⟩
        have HB4 := Lib.hid (HB3.out.trans (hb4.mono HB3.out.size))
        go_wp2_with fail
        go_ret
        exact ⟨rfl, HB4.out⟩
      | true =>
        have HMW := Lib.hid hmw
        clear hmw
        go_wp2_with fail
        have hs3 := HX3.out.lt
        go_loopg [8] T.rs.length (fun g vi wr => ∃ k : Nat, vi = .int .i64 k ∧ k ≤ T.rs.length ∧ T.rs.length - k ≤ g ∧ Hid (∀ j, j < k → 19968 ∉ T.rs[j]!.of) ∧ Hid (Below w3.heap.size w3 wr))
        case atStart => exact ⟨0, rfl, Nat.zero_le _, by omega, Lib.hid (fun j hj => by omega), Lib.hid (Below.refl _ _)⟩
        case round =>
          obtain ⟨i, rfl, hi, hgi, HQ, HB⟩ := hrel
          have HXr := Lib.hid (HX3.out.below HB.out)
          have HBr := Lib.hid (HB3.out.trans (HB.out.mono HB3.out.size))
          clear t0 t1 t2 t3
          obtain ⟨_, t0, t1, t2, t3⟩ := HXr.out
          by_cases hlt : i < T.rs.length
          · have hltz : (i : Int) < (T.rs.length : Int) := by omega
            go_wp2_with fail
            obtain ⟨wo, hwo⟩ : ∃ wo, wo = wr := ⟨_, rfl⟩
            subst hwo
            obtain ⟨b, off, hrp, hbW, c0, c1, hra⟩ := HT.out.rows.at_ HBr.out hlt
            have HFF := Lib.hid (HT.out.by_ _ (getW_mem hlt)).1
            obtain ⟨x, hx⟩ : ∃ x, T.rs[i]! = x := ⟨_, rfl⟩
            rw [hx] at c0 c1 hra HFF
            have HXX := Lib.hid hx
            have HRA := Lib.hid hra
            clear hx hra
            have hxz : (0 : Int) ≤ 0 := Int.le_refl _
            go_loopg [9] x.of.length (fun g2 vj w2 => ∃ m : Nat, vj = .int .i64 m ∧ m ≤ x.of.length ∧ x.of.length - m ≤ g2 ∧ Hid (∀ j, j < m → x.of.getD j 0 ≠ 19968) ∧ w2 = wo)
            case atStart => exact ⟨0, rfl, Nat.zero_le _, by omega, Lib.hid (fun j hj => by omega), rfl⟩
            case round =>
              obtain ⟨m, rfl, hm, hgm, HM, hw2⟩ := hrel
              obtain rfl := hw2
              have hfx := HFF.out
              by_cases hlm : m < x.of.length
              · have hlmz : (m : Int) < (x.of.length : Int) := by omega
                obtain ⟨b1, o1, hp1, hb1, k1⟩ := row_cell HRA.out.1.1 (Below.refl _ _) hlm
                rw [hp1] at c0
                by_cases h9 : x.of.getD m 0 = 19968
                · rw [h9] at k1
                  clear h9
                  go_wp2_with fail
                  refine (HAW.out _).mono ?_
                  rintro e w4 ⟨rfl, hb4⟩
                  have HB4 := Lib.hid (HBr.out.trans (hb4.mono HBr.out.size))
                  go_wp2_with fail
                  go_ret
                  exact ⟨rfl, HB4.out⟩
                · have h9b : decide (x.of.getD m 0 = 19968) = false := decide_eq_false h9
                  have HM' := Lib.hid (show ∀ j, j < m + 1 → x.of.getD j 0 ≠ 19968 by
                    intro j hj
                    by_cases h : j < m
                    · exact HM.out j h
                    · obtain rfl : j = m := by omega
                      exact h9)
                  generalize x.of.getD m 0 = z at k1 h9 h9b
                  go_wp2_with fail
                  go_roundg (x.of.length - (m + 1))
                  case measure => omega
                  case rel => exact ⟨m + 1, by go_num, by omega, by omega, HM', rfl⟩
              · obtain rfl : m = x.of.length := by omega
                have hlmz : ¬ (x.of.length : Int) < (x.of.length : Int) := by omega
                have HQ' := Lib.hid (show ∀ j, j < i + 1 → 19968 ∉ T.rs[j]!.of by
                  intro j hj
                  by_cases h : j < i
                  · exact HQ.out j h
                  · obtain rfl : j = i := by omega
                    rw [HXX.out]
                    intro hmem
                    obtain ⟨y, hy, hyz⟩ := List.getElem_of_mem hmem
                    exact HM.out y hy (by simpa [List.getD, hy] using hyz))
                go_wp2_with fail
                rw [← hrp]
                go_roundg (T.rs.length - (i + 1))
                case measure => omega
                case rel => exact ⟨i + 1, by go_num, by omega, by omega, HQ', HB⟩
          · obtain rfl : i = T.rs.length := by omega
            have hltz : ¬ (T.rs.length : Int) < (T.rs.length : Int) := by omega
            go_wp2_with fail
            have HRS := Lib.hid (show ∀ x ∈ T.rs, 19968 ∉ x.of by
              intro x hx
              obtain ⟨j, hj, rfl⟩ := List.getElem_of_mem hx
              have := HQ.out j hj
              rwa [getElem!_pos T.rs j hj] at this)
            clear HQ
            obtain ⟨wo, hwo⟩ : ∃ wo, wo = wr := ⟨_, rfl⟩
            subst hwo
            go_loopg [10] T.ls.length (fun g2 vj w2 => ∃ m : Nat, vj = .int .i64 m ∧ m ≤ T.ls.length ∧ T.ls.length - m ≤ g2 ∧ Hid (∀ j, j < m → T.ls[j]!.r ≠ 19968) ∧ w2 = wo)
            case atStart => exact ⟨0, rfl, Nat.zero_le _, by omega, Lib.hid (fun j hj => by omega), rfl⟩
            case round =>
              obtain ⟨m, rfl, hm, hgm, HM, hw2⟩ := hrel
              obtain rfl := hw2
              by_cases hlm : m < T.ls.length
              · have hlmz : (m : Int) < (T.ls.length : Int) := by omega
                obtain ⟨b, off, hlp, hbW, k1, k2, k3, _⟩ := HT.out.lore.at_ HBr.out hlm
                by_cases h9 : T.ls[m]!.r = 19968
                · rw [h9] at k1
                  clear h9
                  go_wp2_with fail
                  refine (HAW.out _).mono ?_
                  rintro e w4 ⟨rfl, hb4⟩
                  have HB4 := Lib.hid (HBr.out.trans (hb4.mono HBr.out.size))
                  go_wp2_with fail
                  go_ret
                  exact ⟨rfl, HB4.out⟩
                · have h9b : decide (T.ls[m]!.r = 19968) = false := decide_eq_false h9
                  have HM' := Lib.hid (show ∀ j, j < m + 1 → T.ls[j]!.r ≠ 19968 by
                    intro j hj
                    by_cases h : j < m
                    · exact HM.out j h
                    · obtain rfl : j = m := by omega
                      exact h9)
                  generalize T.ls[m]! = y at k1 k2 k3 h9 h9b
                  generalize y.r = z at k1 h9 h9b
                  go_wp2_with fail
                  rw [← hlp]
                  go_roundg (T.ls.length - (m + 1))
                  case measure => omega
                  case rel => exact ⟨m + 1, by go_num, by omega, by omega, HM', rfl⟩
              · obtain rfl : m = T.ls.length := by omega
                have hlmz : ¬ (T.ls.length : Int) < (T.ls.length : Int) := by omega
                have HLS := Lib.hid (show ∀ x ∈ T.ls, x.r ≠ 19968 by
                  intro x hx
                  obtain ⟨j, hj, rfl⟩ := List.getElem_of_mem hx
                  have := HM.out j hj
                  rwa [getElem!_pos T.ls j hj] at this)
                clear HM
                go_wp2_with fail
                have HE := Lib.hid (fun s q c w hb hs hz => elements_is T HMW.out s q c w (HT.out.at_ hb HL.out.1 HL.out.2.1) hs hz)
                have hea := Lib.hid (HE.out a q c _ HBr.out (HA.out.below HBr.out) (by have := HL.out.2.2.1; omega))
                refine hea.out.mono ?_
                rintro e w4 ⟨pa, na, ca, ea, rfl, hb4, ha4⟩
                have HX4 := Lib.hid (HXr.out.below hb4)
                have HB4 := Lib.hid (HBr.out.trans (hb4.mono HBr.out.size))
                have HA4 := Lib.hid ha4
                clear t0 t1 t2 t3 hea hb4 ha4
                obtain ⟨_, t0, t1, t2, t3⟩ := HX4.out
                have heb := Lib.hid (HE.out bs q2 c2 w4 HB4.out (HBs.out.below HB4.out) (by have := HL.out.2.2.2; omega))
                go_wp2_with fail
                refine heb.out.mono ?_
                rintro e w5 ⟨pb, nb, cb, eb, rfl, hb5, hb5e⟩
                have HX5 := Lib.hid (HX4.out.below hb5)
                have HB5 := Lib.hid (HB4.out.trans (hb5.mono HB4.out.size))
                have HBE5 := Lib.hid hb5e
                have HW45 := Lib.hid hb5
                clear t0 t1 t2 t3 heb hb5 hb5e
                obtain ⟨_, t0, t1, t2, t3⟩ := HX5.out
                have hx5 := HX5.out.lt
                have mx := mixedL
                obtain ⟨zs, hzs⟩ : ∃ zs, a ++ 19968 :: bs = zs := ⟨_, rfl⟩
                have hzl : zs.length ≤ 401 := by rw [← hzs]; simp; have := HL.out.2.2.1; have := HL.out.2.2.2; omega
                have HZS := Lib.hid hzs
                clear hzs
                have hla := HL.out.2.2.1
                have hlb := HL.out.2.2.2
                have HA5 := Lib.hid (HA.out.below HB5.out)
                have HBs5 := Lib.hid (HBs.out.below HB5.out)
                have HEz := Lib.hid (fun q c w (hb : Below w5.heap.size w5 w) hs => HE.out zs q c w (HB5.out.trans (hb.mono HB5.out.size)) hs (by omega))
                have HB51 := Lib.hid (((Below.refl w5.heap.size w5).alloc (Nat.le_refl _) (.cells #[] 21)).drew)
                have HB52 := Lib.hid ((((Below.refl w5.heap.size w5).alloc (Nat.le_refl _) (.cells #[] 21)).alloc (by simp) (.cells #[.int .i32 19968] 21)).drew)
                have HB53 := Lib.hid ((((Below.refl w5.heap.size w5).alloc (Nat.le_refl _) (.cells #[.int .i32 19968] 21)).alloc (by simp) (.cells #[] 21)).drew)
                have HE1 := Lib.hid (show Own ((w5.alloc (.cells #[] 21)).drew) w5.heap.size 21 .i32 (.slice (some ⟨w5.heap.size, 0, none⟩) 0 0) [] from own_empty w5 w5.heap.size (Nat.le_refl _))
                have HE2 := Lib.hid (show Own (((w5.alloc (.cells #[] 21)).alloc (.cells #[.int .i32 19968] 21)).drew) w5.heap.size 21 .i32 (.slice (some ⟨w5.heap.size, 0, none⟩) 0 0) [] from (own_empty w5 w5.heap.size (Nat.le_refl _)).alloc (.cells #[.int .i32 19968] 21))
                have HE3 := Lib.hid (show Own (((w5.alloc (.cells #[.int .i32 19968] 21)).alloc (.cells #[] 21)).drew) (w5.heap.size + 1) 21 .i32 (.slice (some ⟨w5.heap.size + 1, 0, none⟩) 0 0) [] from by
                  have := own_empty (w5.alloc (.cells #[.int .i32 19968] 21)) (w5.heap.size + 1) (by simp)
                  rw [World.size_alloc] at this
                  exact this)
                have hq2 : (((w5.alloc (.cells #[] 21)).alloc (.cells #[.int .i32 19968] 21)).drew).cell? ⟨w5.heap.size + 1, 0, none⟩ = some (.int .i32 19968) := by
                  show ((w5.alloc (.cells #[] 21)).alloc (.cells #[.int .i32 19968] 21)).cell? ⟨w5.heap.size + 1, 0, none⟩ = _
                  rw [show w5.heap.size + 1 = (w5.alloc (.cells #[] 21)).heap.size by simp, World.cell?_alloc_new]; rfl
                have hq3 : (((w5.alloc (.cells #[.int .i32 19968] 21)).alloc (.cells #[] 21)).drew).cell? ⟨w5.heap.size, 0, none⟩ = some (.int .i32 19968) := by simp [go_sem]
                have HQ2 := Lib.hid hq2
                have HQ3 := Lib.hid hq3
                clear hq2 hq3
                go_upto_region 19 with fail
                go_cut [15, 16] from 92 to 104 (fun z g wx => Hid (ZRel T zs w5 z g wx))
                case first =>
                  go_region_held3 (fun w' => w'.cell? ⟨W.heap.size, 0, none⟩ = some (.slice T.lp T.ls.length T.lc) ∧ w'.cell? ⟨W.heap.size, 1, none⟩ = some (.slice T.rp T.rs.length T.rc) ∧ w'.cell? ⟨W.heap.size, 2, none⟩ = some (.int .i64 T.top) ∧ w'.cell? ⟨W.heap.size, 3, none⟩ = some (.bool T.sh))
                    (first | (exact hSA.out) | (exact hSB.out) | (exact hSC.out) | (exact hSD.out) | (exact hSE.out) | go_keep)
                    (first
                      | (refine step_own_row rfl _ _ 26 rfl 21 .i32 4 Try.underlying26 info_rune (by decide) w5.heap.size _ [] (by rfl) HE1.out q c a (by rfl) (HA5.out.below HB51.out) HAC.out (by simp; omega) HB51.out.size ?_; intro v6 w6 hown6 hgr6 hb6; have HB6 := Lib.hid (HB51.out.trans hb6); have HO6 := Lib.hid (show Own w6 w5.heap.size 21 .i32 v6 a from hown6); have hSA := Lib.hid (s_keep4 HB6.out hx5 t0 t1 t2 t3); have hSB := Lib.hid (s_keep4 (HB6.out.alloc HB6.out.size (.cells #[.int .i32 19968] 21)) hx5 t0 t1 t2 t3); clear hown6 hgr6 hb6)
                      | (refine step_own_row rfl _ _ 26 rfl 21 .i32 4 Try.underlying26 info_rune (by decide) w5.heap.size _ [] (by rfl) HE2.out q c a (by rfl) (HA5.out.below HB52.out) HAC.out (by simp; omega) HB52.out.size ?_; intro v6 w6 hown6 hgr6 hb6; have HB6 := Lib.hid (HB52.out.trans hb6); have HO6 := Lib.hid (show Own w6 w5.heap.size 21 .i32 v6 a from hown6); have HR6 := Lib.hid (row_one (hgr6.cell HQ2.out (by simp [Value.ownBlock]))); have hSA := Lib.hid (s_keep4 HB6.out hx5 t0 t1 t2 t3); have hSB := Lib.hid (s_keep4 (HB6.out.alloc HB6.out.size (.cells #[.int .i32 19968] 21)) hx5 t0 t1 t2 t3); clear hown6 hgr6 hb6)
                      | (refine step_own_row rfl _ _ 26 rfl 21 .i32 4 Try.underlying26 info_rune (by decide) (w5.heap.size + 1) _ [] (by rfl) HE3.out q c a (by rfl) (HA5.out.below HB53.out) HAC.out (by simp; omega) (by simp) ?_; intro v6 w6 hown6 hgr6 hb6; have HB6 := Lib.hid (HB53.out.trans (hb6.mono (Nat.le_succ _))); have HO6 := Lib.hid (show Own w6 w5.heap.size 21 .i32 v6 a from own_lower hown6 (Nat.le_succ _)); have HR6 := Lib.hid (row_one (hgr6.cell HQ3.out (by simp [Value.ownBlock]))); have hSA := Lib.hid (s_keep4 HB6.out hx5 t0 t1 t2 t3); have hSB := Lib.hid (s_keep4 (HB6.out.alloc HB6.out.size (.cells #[.int .i32 19968] 21)) hx5 t0 t1 t2 t3); clear hown6 hgr6 hb6)
                      | (refine step_own_row rfl _ _ 26 rfl 21 .i32 4 Try.underlying26 info_rune (by decide) w5.heap.size _ a (by rfl) (HO6.out.alloc (.cells #[.int .i32 19968] 21)) (some ⟨w6.heap.size, 0, none⟩) 1 [19968] (by rfl) (row_lit w6 .i32 21 [19968]) (fun h => by cases h) (by simp; omega) (by have := HB6.out.size; simp; omega) ?_; intro v8 w8 hown8 hgr8 hb8; have HB8 := Lib.hid ((HB6.out.alloc HB6.out.size (.cells #[.int .i32 19968] 21)).trans hb8); have HO8 := Lib.hid hown8; have hSC := Lib.hid (s_keep4 HB8.out hx5 t0 t1 t2 t3); clear hown8 hgr8 hb8)
                      | (refine step_own_row rfl _ _ 26 rfl 21 .i32 4 Try.underlying26 info_rune (by decide) w5.heap.size _ a (by rfl) HO6.out _ 1 [19968] (by rfl) HR6.out (fun h => by cases h) (by simp; omega) HB6.out.size ?_; intro v8 w8 hown8 hgr8 hb8; have HB8 := Lib.hid (HB6.out.trans hb8); have HO8 := Lib.hid hown8; have hSC := Lib.hid (s_keep4 HB8.out hx5 t0 t1 t2 t3); clear hown8 hgr8 hb8)
                      | (refine step_own_row rfl _ _ 26 rfl 21 .i32 4 Try.underlying26 info_rune (by decide) w5.heap.size _ (a ++ [19968]) (by rfl) HO8.out q2 c2 bs (by rfl) (HBs5.out.below HB8.out) HBC.out (by simp; omega) HB8.out.size ?_; intro v9 w9 hown9 hgr9 hb9; rw [show a ++ [19968] ++ bs = zs from by rw [← HZS.out]; simp] at hown9; obtain ⟨p9, c9, rfl, _, hr9⟩ := Own.row hown9; have HB9 := Lib.hid (HB8.out.trans hb9); have HZ9 := Lib.hid (HEz.out p9 c9 w9 HB9.out hr9); have hSD := Lib.hid (s_keep4 HB9.out hx5 t0 t1 t2 t3); clear hown9 hgr9 hb9 hr9)
                      | (go_at_call 8; (with_reducible refine HZ9.out.mono ?_); rintro e w10 ⟨pz, nz, cz, ez, rfl, hb10, hz10⟩; have HB10 := Lib.hid (HB9.out.trans (hb10.mono HB9.out.size)); have HZ10 := Lib.hid hz10; have hSE := Lib.hid (s_keep4 HB10.out hx5 t0 t1 t2 t3); clear hb10 hz10))
                  all_goals (go_wp2_with fail; go_meet)
                  all_goals exact Lib.hid ⟨pz, nz, cz, ez, rfl, rfl, HB10.out, HZ10.out⟩
                case rest =>
                  obtain ⟨pz, nz, cz, ez, rfl, rfl, hb6, hz6⟩ := hcut.out
                  have HB6 := Lib.hid (HB5.out.trans (hb6.mono HB5.out.size))
                  have HZ := Lib.hid hz6
                  have H56 := Lib.hid hb6
                  have HZA := Lib.hid (show zs.any mayNotB = (a.any mayNotB || bs.any mayNotB) by rw [← HZS.out]; exact any_part (by decide) a bs)
                  clear hcut hb6 hz6 t0 t1 t2 t3 HEz HE1 HE2 HE3 HB51 HB52 HB53 HQ2 HQ3
                  rcases HA4.out with ⟨hba, rfl⟩ | ⟨hba, rfl, hna, hca, hea⟩
                  · obtain rfl : ez = 2 := by
                      rcases HZ.out with ⟨_, h⟩ | ⟨h, _⟩
                      · exact h
                      · rw [HZA.out, hba] at h; simp at h
                    clear hba
                    go_wp2_with fail
                    refine (HAW.out _).mono ?_
                    rintro e w7 ⟨rfl, hb7⟩
                    have HB7 := Lib.hid (HB6.out.trans (hb7.mono HB6.out.size))
                    clear hb7
                    go_wp2_with fail
                    go_ret
                    exact ⟨rfl, HB7.out⟩
                  · rcases HBE5.out with ⟨hbb, rfl⟩ | ⟨hbb, rfl, hnb, hcb, heb⟩
                    · obtain rfl : ez = 2 := by
                        rcases HZ.out with ⟨_, h⟩ | ⟨h, _⟩
                        · exact h
                        · rw [HZA.out, hbb] at h; simp at h
                      clear hba hbb hna hca hea
                      go_wp2_with fail
                      refine (HAW.out _).mono ?_
                      rintro e w7 ⟨rfl, hb7⟩
                      have HB7 := Lib.hid (HB6.out.trans (hb7.mono HB6.out.size))
                      clear hb7
                      go_wp2_with fail
                      go_ret
                      exact ⟨rfl, HB7.out⟩
                    · have HZ0 := Lib.hid (show ez = 0 ∧ nz = (elemL T.ls T.rs zs).length ∧ nz ≤ cz ∧ Els wc pz (elemL T.ls T.rs zs) by
                        rcases HZ.out with ⟨h, _⟩ | ⟨_, h⟩
                        · rw [HZA.out, hba, hbb] at h; simp at h
                        · exact h)
                      have hfa := elem_few HMW.out a
                      have hfb := elem_few HMW.out bs
                      rw [normal_length] at hfa hfb
                      have h3a := apart_le (le3_of (may_wrong (mayW_lore HMW.out))) a
                      have h3b := apart_le (le3_of (may_wrong (mayW_lore HMW.out))) bs
                      have hep := elem_part HLS.out HRS.out a bs
                      rw [HZS.out] at hep
                      have hea6 := (hea.below HW45.out).below H56.out
                      obtain ⟨rfl, hnz, hcz, hez⟩ := HZ0.out
                      rw [hep] at hnz hez
                      obtain ⟨X, hX⟩ : ∃ X, elemL T.ls T.rs a = X := ⟨_, rfl⟩
                      obtain ⟨Y, hY⟩ : ∃ Y, elemL T.ls T.rs bs = Y := ⟨_, rfl⟩
                      rw [hX] at hnz hez hna hfa hea6
                      rw [hY] at hnz hez hnb hfb
                      subst hna
                      subst hnb
                      have hnz2 : nz = X.length + (2 + Y.length) := by rw [hnz]; simp [impl]; omega
                      have hXl : X.length ≤ 2400 := by omega
                      have hYl : Y.length ≤ 2400 := by omega
                      have hE0 := hez.at_ (Below.refl _ _) (j := X.length) (by simp [impl])
                      have hE1 := hez.at_ (Below.refl _ _) (j := X.length + 1) (by simp [impl])
                      have hxf := hez.front
                      obtain ⟨bz, oz, rfl, hbz, z0, z1, z2⟩ := hE0
                      obtain ⟨bz', oz', hpz', _, z3, z4, z5⟩ := hE1
                      injection hpz' with hpz'
                      injection hpz' with e1 e2 _
                      subst e1
                      subst e2
                      have g0 : (X ++ (impl 19968 ++ Y))[X.length]! = ⟨64004, 32, 2⟩ := by
                        rw [getElem!_pos _ _ (by simp [impl]), List.getElem_append_right (Nat.le_refl _)]
                        simp [impl]
                      have g1 : (X ++ (impl 19968 ++ Y))[X.length + 1]! = ⟨63973, 0, 0⟩ := by
                        rw [getElem!_pos _ _ (by simp [impl]), List.getElem_append_right (by omega)]
                        simp [impl]
                      rw [g0] at z0 z1 z2
                      rw [g1] at z3 z4 z5
                      have HXF := Lib.hid hxf
                      have HEA := Lib.hid hea6
                      have him := Lib.hid (fun w => (impl_any 19968 (by decide) (by decide) w).mono (R' := fun e w' => e = .returned (.agg #[.int .i64 64004, .int .i64 32, .int .i64 2, .int .i64 63973, .int .i64 0, .int .i64 0]) ∧ Below w.heap.size w w') fun e w' h => ⟨h.1, h.2⟩)
                      clear hnz hez hep hea6 hea heb hxf g0 g1 hX hY hfa hfb h3a h3b hba hbb hca hcb
                      have HN := Lib.hid hnz2
                      have hc0 : X.length ≤ cz := by omega
                      have hnx : X.length + 1 < nz := by omega
                      have hne : (((nz : Nat) : Int) != (X.length : Int) + 2 + (Y.length : Int)) = false := by
                        rw [hnz2]; simp; omega
                      clear hnz2
                      go_wp2_with fail
                      refine (him.out _).mono ?_
                      rintro e w7 ⟨rfl, hb7⟩
                      have H67 := Lib.hid hb7
                      have hs67 := hb7.size
                      clear hb7 him
                      have hd0 : w7.heap.size < (w7.alloc (.cells #[.int .i64 64004, .int .i64 32, .int .i64 2, .int .i64 63973, .int .i64 0, .int .i64 0] 46)).heap.size := by simp
                      have H68 := Lib.hid (H67.out.alloc hs67 (.cells #[.int .i64 64004, .int .i64 32, .int .i64 2, .int .i64 63973, .int .i64 0, .int .i64 0] 46))
                      have dd : ∀ j v, (#[Value.int .i64 64004, .int .i64 32, .int .i64 2, .int .i64 63973, .int .i64 0, .int .i64 0] : Array Value)[j]? = some v → (w7.alloc (.cells #[.int .i64 64004, .int .i64 32, .int .i64 2, .int .i64 63973, .int .i64 0, .int .i64 0] 46)).cell? ⟨w7.heap.size, j, none⟩ = some v := fun j v h => by
                        rw [World.cell?_alloc_new]; exact h
                      have d0 := dd 0 _ rfl
                      have d1 := dd 1 _ rfl
                      have d2 := dd 2 _ rfl
                      have d3 := dd 3 _ rfl
                      have d4 := dd 4 _ rfl
                      have d5 := dd 5 _ rfl
                      clear dd
                      go_upto_region 23 with fail
                      obtain ⟨w8, hw8⟩ : ∃ w8, w7.alloc (.cells #[.int .i64 64004, .int .i64 32, .int .i64 2, .int .i64 63973, .int .i64 0, .int .i64 0] 46) = w8 := ⟨_, rfl⟩
                      rw [hw8] at d0 d1 d2 d3 d4 d5 H68 hd0 ⊢
                      clear hw8
                      have HB8 := Lib.hid (HB6.out.trans (H68.out.mono HB6.out.size))
                      have hs68 := H68.out.size
                      have hbz8 : bz < w8.heap.size := by omega
                      have y0 := cellB H68.out z0 hbz
                      have y1 := cellB H68.out z1 hbz
                      have y2 := cellB H68.out z2 hbz
                      have y3 := cellB H68.out z3 hbz
                      have y4 := cellB H68.out z4 hbz
                      have y5 := cellB H68.out z5 hbz
                      clear z0 z1 z2 z3 z4 z5
                      have f0 := fun pw : BelowOf w8 => pw.cell hbz8 y0
                      have f1 := fun pw : BelowOf w8 => pw.cell hbz8 y1
                      have f2 := fun pw : BelowOf w8 => pw.cell hbz8 y2
                      have f3 := fun pw : BelowOf w8 => pw.cell hbz8 y3
                      have f4 := fun pw : BelowOf w8 => pw.cell hbz8 y4
                      have f5 := fun pw : BelowOf w8 => pw.cell hbz8 y5
                      have f6 := fun pw : BelowOf w8 => pw.cell hd0 d0
                      have f7 := fun pw : BelowOf w8 => pw.cell hd0 d1
                      have f8 := fun pw : BelowOf w8 => pw.cell hd0 d2
                      have f9 := fun pw : BelowOf w8 => pw.cell hd0 d3
                      have f10 := fun pw : BelowOf w8 => pw.cell hd0 d4
                      have f11 := fun pw : BelowOf w8 => pw.cell hd0 d5
                      have KA := Lib.hid (fun pw : BelowOf w8 => Calls.below_of pw (HAW.out pw.w'))
                      have KS := Lib.hid (fun (pw : BelowOf w8) c1 c2 => Calls.below_of pw (sameE_yes X (some ⟨bz, oz, none⟩) pa c1 c2 pw.w' (by omega) ((HXF.out.below H68.out).below pw.h) ((HEA.out.below H68.out).below pw.h)))
                      have hq1 : ∀ w : World, (Op.equalIn 10000 39 (.agg #[.int .i64 64004, .int .i64 32, .int .i64 2]) (.agg #[.int .i64 64004, .int .i64 32, .int .i64 2])).run Try.prog w = .ok true w := fun w => by
                        have := eq_el 9998 64004 32 2 64004 32 2 w
                        simpa using this
                      have hq2 : ∀ w : World, (Op.equalIn 10000 39 (.agg #[.int .i64 63973, .int .i64 0, .int .i64 0]) (.agg #[.int .i64 63973, .int .i64 0, .int .i64 0])).run Try.prog w = .ok true w := fun w => by
                        have := eq_el 9998 63973 0 0 63973 0 0 w
                        simpa using this
                      have i1 : (X.length : Int) < (nz : Int) := by omega
                      have i2 : (X.length : Int) + 1 < (nz : Int) := by omega
                      have i3 : (0 : Int) ≤ (X.length : Int) := by omega
                      have i4 : (0 : Int) ≤ (X.length : Int) + 1 := by omega
                      have i5 : ((X.length : Int) + 1).toNat = X.length + 1 := by omega
                      have i6 : (X.length : Int) ≤ (cz : Int) := by omega
                      have i7 : IntKind.i64.wrap ((X.length : Int) + 1) = (X.length : Int) + 1 := by rw [IntKind.wrap_i64]; omega
                      clear y0 y1 y2 y3 y4 y5 d0 d1 d2 d3 d4 d5
                      go_wp2_with fail
                      refine wp_region_quiet_below (by assumption) (by kernel_rfl) ?_
                      repeat (go_big_quiet_step (first | (go_at_call 6; with_reducible exact KA.out _) | (go_at_call 10; with_reducible exact KS.out _ _ _)))
                      refine wpQuiet_nil ?_
                      intro wq hw'
                      obtain ⟨⟨wz, hbq⟩, hw''⟩ := hw'
                      obtain rfl : wq = wz := hw''
                      have HBq := Lib.hid (HB8.out.trans (hbq.mono HB8.out.size))
                      clear hbq f0 f1 f2 f3 f4 f5 f6 f7 f8 f9 f10 f11 KA KS hq1 hq2
                      go_wp2_with fail
                      go_ret
                      exact ⟨rfl, HBq.out⟩

set_option maxHeartbeats 1000000 in
theorem parts_walk (T : TB) (a : List Int) (q : Option Addr) (c : Nat) (bs : List Int) (q2 : Option Addr) (c2 : Nat) (W : World) (hT : TabIn W T) (ha : Row W .i32 q a) (hb : Row W .i32 q2 bs) (hac : q = none → c = 0) (hbc : q2 = none → c2 = 0) (hz : a.length ≤ 9223372036854775807) (hz2 : bs.length ≤ 9223372036854775807) :
    Calls Try.prog 4 #[.agg #[.slice T.lp T.ls.length T.lc, .slice T.rp T.rs.length T.rc, .int .i64 T.top, .bool T.sh], .slice q a.length c, .slice q2 bs.length c2] W fun e w' => e = .returned (.bool true) ∧ Below W.heap.size W w' := by
  have C0 := Lib.hid (fun w => awake_true w)
  have C1 := Lib.hid (fun w (hbb : Below W.heap.size W w) => parts_any T a q c bs q2 c2 w ⟨hT.lore.below hbb, hT.rows.below hbb, hT.bl, hT.bx, hT.br, hT.by_⟩ (ha.below hbb) (hb.below hbb) hac hbc hz hz2)
  clear hT ha hb hac hbc
  go_enter Try.func4, Try.ntmps4
  go_wp2_with fail
  obtain ⟨w0, hw0⟩ : ∃ w0, W.alloc (.cells #[.slice T.lp T.ls.length T.lc, .slice T.rp T.rs.length T.rc, .int .i64 T.top, .bool T.sh] 25) = w0 := ⟨_, rfl⟩
  rw [hw0]
  have hb0 := Lib.hid (show Below W.heap.size W w0 from hw0 ▸ (Below.refl _ _).alloc (Nat.le_refl _) _)
  have HX0 := Lib.hid (show BoxAt w0 W.heap.size T from hw0 ▸ BoxAt.new W T _)
  clear hw0
  refine (C0.out w0).mono ?_
  rintro e w1 ⟨rfl, hb1⟩
  have HX1 := Lib.hid (HX0.out.below hb1)
  have HB1 := Lib.hid (hb0.out.trans (hb1.mono hb0.out.size))
  clear hb1
  obtain ⟨_, t0, t1, t2, t3⟩ := HX1.out
  go_wp2_with fail
  refine (C1.out w1 HB1.out).mono ?_
  rintro e w2 ⟨rfl, hb2⟩
  have HB2 := Lib.hid (HB1.out.trans (hb2.mono HB1.out.size))
  clear hb2
  go_wp2_with fail
  go_ret
  exact ⟨rfl, HB2.out⟩
end Go.Proofs.Ytnbdekmmailjmaa
