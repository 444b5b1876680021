/-
  LoreParts: the walk.
-/
import Derived.Test.YtaoaicmagccfmaaLoRef2
import Derived.Test.YtaoaicmagccfmaaLoNormal
import Derived.Test.YtaoaicmagccfmaaLoTwice
namespace Go.Proofs.Ytaoaicmagccfmaa
open Go.RowKit Go.Gz Go.Sort

theorem Own.row2 {w : World} {B : Nat} {e : TypeId} {k : IntKind} {v : Value} {xs : List Int} (h : Own w B e k v xs) : ∃ p c, v = .slice p xs.length c ∧ (p = none → c = 0) ∧ Row w k p xs := by
  have h' := h
  obtain ⟨h1, ⟨rfl, h0⟩ | ⟨g, cap, cur, rfl, hg, hh, hc, hm, hs, ht⟩⟩ := h
  · have : xs = [] := List.eq_nil_of_length_eq_zero h0
    subst this
    exact ⟨none, 0, rfl, fun _ => rfl, Or.inl rfl⟩
  · obtain ⟨p, c, hv, _, hr⟩ := Own.row h'
    injection hv with hp _ hcc
    subst hp
    exact ⟨_, cap, rfl, (fun hh => by cases hh), hr⟩

theorem one_cell (w : World) (x : Int) (t : TypeId) : ∀ j, j < 1 → (w.alloc (.cells #[.int .i32 x] t)).cell? ⟨w.heap.size, j, none⟩ = some (.int .i32 ([x].getD j 0)) := by
  intro j hj
  obtain rfl : j = 0 := by omega
  rw [World.cell?_alloc_new]; rfl

set_option maxHeartbeats 4000000 in
set_option maxRecDepth 100000 in
theorem parts_walk (ls : List LR) (p : Option Addr) (cap : Nat) (a : List Int) (q : Option Addr) (c : Nat) (bs : List Int) (q2 : Option Addr) (c2 : Nat) (W : World) (hl : Lores W p ls) (ha : Row W .i32 q a) (hb : Row W .i32 q2 bs) (hac : q = none → c = 0) (hbc : q2 = none → c2 = 0)
    (hsz : ls.length ≤ 9223372036854775807) (hxs : ∀ x ∈ ls, x.to.length ≤ 9223372036854775807) (hz : a.length ≤ 9223372036854775807) (hz2 : bs.length ≤ 9223372036854775807) :
    Calls Try.prog 5 #[.slice p ls.length cap, .slice q a.length c, .slice q2 bs.length c2] W fun e w' => e = .returned (.bool true) ∧ Below W.heap.size W w' := by
  have C0 := Lib.hid (awake_true W)
  have C1 := Lib.hid (fun w hb => few_at ls p cap a q c W w hl hb hsz hxs hz)
  have C2 := Lib.hid (fun w hb => few_at ls p cap bs q2 c2 W w hl hb hsz hxs hz2)
  have C3 := Lib.hid (fun w hb hlt => refLoreMay_any ls p cap w (hl.below hb) hlt hxs)
  have HL := Lib.hid hl; clear hl
  have HA := Lib.hid ha; clear ha
  have HBs := Lib.hid hb; clear hb
  have HAC := Lib.hid hac; clear hac
  have HBC := Lib.hid hbc; clear hbc
  clear hxs
  go_enter Try.func5, Try.ntmps5
  go_wp2_with fail
  refine C0.out.mono ?_
  rintro e w1 ⟨rfl, hb1⟩
  have HB1 := Lib.hid hb1
  have C1' := Lib.hid (C1.out w1 hb1)
  have C2' := Lib.hid (C2.out w1 hb1)
  clear hb1 C0 C1 C2
  go_wp2_with fail
  refine C1'.out.mono ?_
  rintro e w2 ⟨bv, rfl, hbv, hw2⟩
  obtain rfl : w1 = w2 := hw2.symm
  clear C1' hw2
  cases bv with
  | false =>
    clear hbv
    go_wp2_with fail
    go_ret
    exact ⟨rfl, HB1.out⟩
  | true =>
    obtain ⟨h100, h300⟩ := hbv rfl
    clear hbv hsz hz
    go_wp2_with fail
    refine C2'.out.mono ?_
    rintro e w2 ⟨bv, rfl, hbv, hw2⟩
    obtain rfl : w1 = w2 := hw2.symm
    clear C2' hw2
    cases bv with
    | false =>
      clear hbv
      go_wp2_with fail
      go_ret
      exact ⟨rfl, HB1.out⟩
    | true =>
      obtain ⟨_, h302⟩ := hbv rfl
      clear hbv hz2
      have C3' := Lib.hid (C3.out w1 HB1.out (by omega))
      clear C3
      go_wp2_with fail
      refine C3'.out.mono ?_
      rintro e w4 ⟨bv, rfl, hbv, hb4⟩
      have HB4 := Lib.hid (HB1.out.trans (hb4.mono HB1.out.size))
      clear C3' hb4
      cases bv with
      | false =>
        clear hbv
        go_wp2_with fail
        go_ret
        exact ⟨rfl, HB4.out⟩
      | true =>
        obtain ⟨hr, h3⟩ := hbv rfl
        have HR := Lib.hid hr
        have H3 := Lib.hid h3
        clear hbv hr h3
        have C4 := Lib.hid (refClass_any ls HR.out p cap 120 w4 (HL.out.below HB4.out) (by omega))
        obtain ⟨cx, hcx⟩ : ∃ cx, clsL ls 120 = cx := ⟨_, rfl⟩
        rw [hcx] at C4
        have HCX := Lib.hid hcx; clear hcx
        go_wp2_with fail
        refine C4.out.mono ?_
        rintro e w5 ⟨rfl, hw5⟩
        obtain rfl : w4 = w5 := hw5.symm
        clear C4 hw5
        by_cases h0 : cx = 0
        · have h0b : ((cx : Int) != 0) = false := by simp [h0]
          have HC0 := Lib.hid (show clsL ls 120 ≤ 0 by rw [HCX.out, h0]; exact Int.le_refl _)
          clear h0 HCX
          have CO := Lib.hid (fun s q c w hb hs hz => order_any ls HR.out p cap s q c w (HL.out.below hb) hs (by omega) hz)
          have CA := Lib.hid (fun s q c w hb hs hz => apart_any ls HR.out H3.out p cap s q c w (HL.out.below hb) hs (by omega) hz)
          have HA3 := Lib.hid (fun s => apart_le H3.out s)
          clear HL HR H3
          have hs4 := HB4.out.size
          have HE := Lib.hid (own_empty w4 w4.heap.size (Nat.le_refl _))
          go_wp2_with (at_builtin; refine wpList_own_row rfl _ _ 23 rfl 21 .i32 4 Try.underlying23 info_rune (by decide) w4.heap.size _ _ rfl HE.out q c a rfl (HA.out.below (HB4.out.alloc hs4 _)) HAC.out (by simp only [List.length_nil]; omega) (by simp) ?_)
          intro v5 w5 hown5 hgrow5
          have HB5 := Lib.hid (((Below.refl w4.heap.size w4).alloc (Nat.le_refl _) _).grown hgrow5 (by simp) (fun g hg => HE.out.lt g hg))
          have HO5 := Lib.hid hown5
          clear hown5 hgrow5 HE
          have hs5 := HB5.out.size
          go_wp2_with (at_builtin; refine wpList_own_push rfl _ _ 23 rfl 21 .i32 4 Try.underlying23 info_rune (by decide) w4.heap.size _ _ rfl (HO5.out.alloc _) w5.heap.size 1 1 [120] rfl rfl ?newCells ?len ?below ?_)
          case newCells => exact one_cell w5 120 _
          case len => first | omega | (simp; omega)
          case below => simp; omega
          intro v6 w6 hown6 hgrow6
          have HB6 := Lib.hid ((HB5.out.alloc hs5 _).grown hgrow6 (by simp; omega) (fun g hg => HO5.out.lt g hg))
          have HO6 := Lib.hid hown6
          clear hown6 hgrow6 HO5 HB5
          have hs6 := HB6.out.size
          have HW6 := Lib.hid (HB4.out.trans (HB6.out.mono hs4))
          go_wp2_with (at_builtin; refine wpList_own_row rfl _ _ 23 rfl 21 .i32 4 Try.underlying23 info_rune (by decide) w4.heap.size _ _ rfl HO6.out q2 c2 bs rfl (HBs.out.below HW6.out) HBC.out (by simp only [List.length_append, List.length_cons, List.length_nil]; omega) hs6 ?_)
          intro v7 w7 hown7 hgrow7
          have HB7 := Lib.hid (HB6.out.grown hgrow7 hs6 (fun g hg => HO6.out.lt g hg))
          obtain ⟨p7, k7, rfl, _, hr7⟩ := Own.row hown7
          clear hown7 hgrow7 HO6 HB6 HW6
          have HW7 := Lib.hid (HB4.out.trans (HB7.out.mono hs4))
          have hl7 : (a ++ 120 :: bs).length ≤ 601 := by simp only [List.length_append, List.length_cons]; omega
          have CO7 := Lib.hid (CO.out (a ++ 120 :: bs) p7 k7 w7 HW7.out hr7 (by omega))
          rw [order_part HC0.out a bs] at CO7
          clear hr7
          generalize (a ++ 120 :: bs).length = n7 at CO7 ⊢
          go_wp2_with fail
          refine CO7.out.mono ?_
          rintro e w8 ⟨v8, rfl, hb8, hown8⟩
          clear CO7 hl7
          have hs7 := HB7.out.size
          have HB8 := Lib.hid (HW7.out.trans (hb8.mono HW7.out.size))
          obtain ⟨xs8, hxs8⟩ : ∃ xs8, orderL (clsL ls) a ++ 120 :: orderL (clsL ls) bs = xs8 := ⟨_, rfl⟩
          rw [hxs8] at hown8
          have hl8 : xs8.length ≤ 601 := by rw [← hxs8, List.length_append, List.length_cons, order_length, order_length]; omega
          have HX8 := Lib.hid hxs8
          clear hxs8
          obtain ⟨p8, k8, rfl, _, hr8⟩ := Own.row hown8
          have HS8 := Lib.hid hr8
          clear hr8 hown8 hb8 HB7 HW7 hs7
          have hs8 := HB8.out.size
          have CO8 := Lib.hid (CO.out a q c w8 HB8.out (HA.out.below HB8.out) (by omega))
          have hla : (orderL (clsL ls) a).length = a.length := order_length _ _
          have hlb : (orderL (clsL ls) bs).length = bs.length := order_length _ _
          obtain ⟨oa, hoa⟩ : ∃ oa, orderL (clsL ls) a = oa := ⟨_, rfl⟩
          obtain ⟨ob, hob⟩ : ∃ ob, orderL (clsL ls) bs = ob := ⟨_, rfl⟩
          rw [hoa] at CO8 hla HX8
          rw [hob] at hlb HX8
          have HOB := Lib.hid hob
          have HLA := Lib.hid hla
          have HLB := Lib.hid hlb
          clear hoa hob hla hlb
          go_wp2_with fail
          refine CO8.out.mono ?_
          rintro e w9 ⟨v9, rfl, hb9, hown9⟩
          clear CO8
          have HB9 := Lib.hid hb9
          have HO9 := Lib.hid hown9
          clear hb9 hown9
          have hs9 := HB9.out.size
          go_wp2_with (at_builtin; refine wpList_own_push rfl _ _ 23 rfl 21 .i32 4 Try.underlying23 info_rune (by decide) w8.heap.size _ _ rfl (HO9.out.alloc _) w9.heap.size 1 1 [120] rfl rfl ?newCells ?len ?below ?_)
          case newCells => exact one_cell w9 120 _
          case len => have := HLA.out; first | omega | (simp; omega)
          case below => simp; omega
          intro v10 w10 hown10 hgrow10
          have HB10 := Lib.hid ((HB9.out.alloc hs9 _).grown hgrow10 (by simp; omega) (fun g hg => HO9.out.lt g hg))
          have HO10 := Lib.hid hown10
          clear hown10 hgrow10 HO9 HB9
          have hs10 := HB10.out.size
          have HW10 := Lib.hid (HB8.out.trans (HB10.out.mono hs8))
          have CO10 := Lib.hid (CO.out bs q2 c2 w10 HW10.out (HBs.out.below HW10.out) (by omega))
          rw [HOB.out] at CO10
          clear HOB CO
          go_wp2_with fail
          refine CO10.out.mono ?_
          rintro e w11 ⟨v11, rfl, hb11, hown11⟩
          clear CO10
          have HB11 := Lib.hid (HB10.out.trans (hb11.mono hs10))
          have HO11 := Lib.hid (own_below HO10.out hb11)
          obtain ⟨p11, k11, rfl, hpc11, hr11⟩ := Own.row2 hown11
          have HR11 := Lib.hid hr11
          have HP11 := Lib.hid hpc11
          clear hb11 hown11 hpc11 hr11 HO10 HB10 HW10
          have hs11 := HB11.out.size
          go_wp2_with (at_builtin; refine wpList_own_row rfl _ _ 23 rfl 21 .i32 4 Try.underlying23 info_rune (by decide) w8.heap.size _ _ rfl HO11.out p11 k11 ob rfl HR11.out HP11.out (by have := HLA.out; have := HLB.out; first | omega | (simp; omega)) hs11 ?_)
          intro v12 w12 hown12 hgrow12
          have HB12 := Lib.hid (HB11.out.grown hgrow12 hs11 (fun g hg => HO11.out.lt g hg))
          have hown12' : Own w12 w8.heap.size 21 .i32 v12 xs8 := by rw [← HX8.out]; simpa using hown12
          obtain ⟨p12, k12, rfl, _, hr12⟩ := Own.row hown12'
          have HS12 := Lib.hid (HS8.out.below HB12.out)
          have HT12 := Lib.hid hr12
          clear hr12 hown12 hown12' hgrow12 HX8 HLA HLB HO11 HB11 HS8
          have HW12 := Lib.hid (HB8.out.trans (HB12.out.mono hs8))
          clear HB12 HB8
          have hs12 := HW12.out.size
          have HE := Lib.hid (own_empty w12 w12.heap.size (Nat.le_refl _))
          go_wp2_with (at_builtin; refine wpList_own_row rfl _ _ 23 rfl 21 .i32 4 Try.underlying23 info_rune (by decide) w12.heap.size _ _ rfl HE.out q c a rfl (HA.out.below (HW12.out.alloc hs12 _)) HAC.out (by simp only [List.length_nil]; omega) (by simp) ?_)
          intro v13 w13 hown13 hgrow13
          have HB13 := Lib.hid (((Below.refl w12.heap.size w12).alloc (Nat.le_refl _) _).grown hgrow13 (by simp) (fun g hg => HE.out.lt g hg))
          have HO13 := Lib.hid hown13
          clear hown13 hgrow13 HE
          have hs13 := HB13.out.size
          have HW13 := Lib.hid (HW12.out.trans (HB13.out.mono hs12))
          go_wp2_with (at_builtin; refine wpList_own_row rfl _ _ 23 rfl 21 .i32 4 Try.underlying23 info_rune (by decide) w12.heap.size _ _ rfl HO13.out q2 c2 bs rfl (HBs.out.below HW13.out) HBC.out (by first | omega | (simp; omega)) hs13 ?_)
          intro v14 w14 hown14 hgrow14
          have HB14 := Lib.hid (HB13.out.grown hgrow14 hs13 (fun g hg => HO13.out.lt g hg))
          obtain ⟨p14, k14, rfl, _, hr14⟩ := Own.row hown14
          clear hown14 hgrow14 HO13 HB13 HW13
          have HW14 := Lib.hid (HW12.out.trans (HB14.out.mono hs12))
          have hs14 := HW14.out.size
          have hl14 : (a ++ bs).length ≤ 600 := by rw [List.length_append]; omega
          have CA14 := Lib.hid (CA.out (a ++ bs) p14 k14 w14 HW14.out hr14 (by omega))
          rw [apart_append] at CA14
          have hl15 : (apartL ls a ++ apartL ls bs).length ≤ 1800 := by have h1 := HA3.out a; have h2 := HA3.out bs; rw [List.length_append]; omega
          obtain ⟨xs15, hxs15⟩ : ∃ xs15, apartL ls a ++ apartL ls bs = xs15 := ⟨_, rfl⟩
          rw [hxs15] at CA14 hl15
          have HX15 := Lib.hid hxs15
          clear hxs15 hr14
          generalize (a ++ bs).length = n14 at CA14 ⊢
          have HS14 := Lib.hid (HS12.out.below (HB14.out))
          have HT14 := Lib.hid (HT12.out.below (HB14.out))
          clear HB14 HW12 HS12 HT12 hl14
          go_wp2_with fail
          refine CA14.out.mono ?_
          rintro e w15 ⟨v15, rfl, hb15, hown15⟩
          clear CA14
          have HB15 := Lib.hid (HW14.out.trans (hb15.mono hs14))
          obtain ⟨p15, k15, rfl, _, hr15⟩ := Own.row hown15
          have HR15 := Lib.hid hr15
          have C15 := Lib.hid (same_yes xs8 p8 p12 k8 k12 w15 (by omega) (HS14.out.below hb15) (HT14.out.below hb15))
          have hs15 := HB15.out.size
          clear hr15 hown15 hb15 HS14 HT14 HW14
          go_wp2_with fail
          refine C15.out.mono ?_
          rintro e w16 ⟨rfl, hb16⟩
          clear C15
          have HB16 := Lib.hid (HB15.out.trans (hb16.mono hs15))
          have HR16 := Lib.hid (HR15.out.below hb16)
          have hs16 := HB16.out.size
          clear hb16 HR15 HB15
          have CA16 := Lib.hid (CA.out a q c w16 HB16.out (HA.out.below HB16.out) (by omega))
          have hl1 := HA3.out a
          have hl2 := HA3.out bs
          obtain ⟨ya, hya⟩ : ∃ ya, apartL ls a = ya := ⟨_, rfl⟩
          obtain ⟨yb, hyb⟩ : ∃ yb, apartL ls bs = yb := ⟨_, rfl⟩
          rw [hya] at CA16 hl1 HX15
          rw [hyb] at hl2 HX15
          have HYB := Lib.hid hyb
          clear hya hyb
          go_wp2_with fail
          refine CA16.out.mono ?_
          rintro e w17 ⟨v17, rfl, hb17, hown17⟩
          clear CA16
          have HO17 := Lib.hid hown17
          have HW17 := Lib.hid (HB16.out.trans (hb17.mono hs16))
          have HB17 := Lib.hid hb17
          clear hb17 hown17
          have hs17 := HB17.out.size
          have CA17 := Lib.hid (CA.out bs q2 c2 w17 HW17.out (HBs.out.below HW17.out) (by omega))
          rw [HYB.out] at CA17
          clear HYB
          go_wp2_with fail
          refine CA17.out.mono ?_
          rintro e w18 ⟨v18, rfl, hb18, hown18⟩
          clear CA17
          have HB18 := Lib.hid (HB17.out.trans (hb18.mono hs17))
          have HO18 := Lib.hid (own_below HO17.out hb18)
          obtain ⟨p18, k18, rfl, hpc18, hr18⟩ := Own.row2 hown18
          have HR18 := Lib.hid hr18
          have HP18 := Lib.hid hpc18
          clear hb18 hown18 hpc18 hr18 HO17 HB17 HW17
          have hs18 := HB18.out.size
          go_wp2_with (at_builtin; first | (refine wpList_own_row rfl _ _ 23 rfl 21 .i32 4 Try.underlying23 info_rune (by decide) w16.heap.size _ _ rfl HO18.out p18 k18 yb rfl HR18.out HP18.out (by omega) hs18 ?_) | (refine wpList_open (by kernel_rfl) ?_; refine wpList_own_row rfl _ _ 23 rfl 21 .i32 4 Try.underlying23 info_rune (by decide) w16.heap.size _ _ rfl HO18.out p18 k18 yb rfl HR18.out HP18.out (by omega) hs18 ?_))
          intro v19 w19 hown19 hgrow19
          have HB19 := Lib.hid (HB18.out.grown hgrow19 hs18 (fun g hg => HO18.out.lt g hg))
          have hown19' : Own w19 w16.heap.size 21 .i32 v19 xs15 := by rw [← HX15.out]; exact hown19
          obtain ⟨p19, k19, rfl, _, hr19⟩ := Own.row hown19'
          have C19 := Lib.hid (same_yes xs15 p15 p19 k15 k19 w19 (by omega) (HR16.out.below HB19.out) hr19)
          have HW19 := Lib.hid (HB16.out.trans (HB19.out.mono hs16))
          clear hown19 hown19' hgrow19 hr19 HB19 HB18 HO18
          go_wp2_with fail
          refine C19.out.mono ?_
          rintro e w20 ⟨rfl, hb20⟩
          have HW20 := Lib.hid (HW19.out.trans (hb20.mono HW19.out.size))
          clear hb20 C19
          go_wp2_with fail
          go_ret
          exact ⟨rfl, HW20.out⟩
        · have h0b : ((cx : Int) != 0) = true := by simp [h0]
          go_wp2_with fail
          go_ret
          exact ⟨rfl, HB4.out⟩
end Go.Proofs.Ytaoaicmagccfmaa
