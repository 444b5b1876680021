/-
  Several texts in one: AtWhole, AtRefMay, SpFew.
-/
import Derived.Test.YtbhojddakmgdmaaMg13
import Derived.Test.YtbhojddakmgdmaaMg10
namespace Go.Gz
def okAt (l : List SP) (i : Nat) : Bool := !emptyB (l.getD i default) && (if i = 0 then sem (l.getD i default).f else decide ((l.getD i default).f = (l.getD (i - 1) default).t)) && (decide (i + 1 = l.length) == sem (l.getD i default).t)
theorem whole_iff (l : List SP) : wholeB l = true ↔ 0 < l.length ∧ ∀ i, i < l.length → okAt l i = true := by
  have g : ∀ i, i < l.length → l[i]! = l.getD i default := fun i hi => by rw [getElem!_pos l i hi, List.getD, List.getElem?_eq_getElem hi]; rfl
  unfold wholeB
  by_cases h0 : l.length = 0
  · rw [if_pos h0]
    constructor
    · intro h; cases h
    · rintro ⟨h, _⟩; omega
  · rw [if_neg h0]
    simp only [Bool.and_eq_true]
    rw [g 0 (by omega), g (l.length - 1) (by omega)]
    constructor
    · rintro ⟨h1, ⟨h2, h3⟩, h4⟩
      have h3 : FollowP l := by
        unfold followB at h3
        simpa using h3
      have h1 : ∀ x ∈ l, emptyB x = false := fun x hx => by
        have : l.any emptyB = false := by simpa using h1
        exact List.any_eq_false.1 this x hx |> fun h => by simpa using h
      refine ⟨by omega, fun i hi => ?_⟩
      unfold okAt
      have he : emptyB (l.getD i default) = false := h1 _ (by rw [List.getD, List.getElem?_eq_getElem hi]; exact List.getElem_mem hi)
      rw [he]
      have hl : (decide (i + 1 = l.length) == sem (l.getD i default).t) = true := by
        by_cases h : i + 1 = l.length
        · rw [decide_eq_true h, show i = l.length - 1 by omega, h4]; rfl
        · have := (h3 (i + 1) (by omega) (by omega)).1
          rw [Nat.add_sub_cancel, g i hi] at this
          rw [decide_eq_false h, this]; rfl
      rw [hl]
      by_cases hz : i = 0
      · rw [if_pos hz, hz, h2]; rfl
      · have := (h3 i (by omega) hi).2
        rw [g (i - 1) (by omega), g i hi] at this
        rw [if_neg hz, decide_eq_true this.symm]; rfl
    · rintro ⟨_, h⟩
      have hh : ∀ i, i < l.length → emptyB (l.getD i default) = false ∧ (if i = 0 then sem (l.getD i default).f else decide ((l.getD i default).f = (l.getD (i - 1) default).t)) = true ∧ sem (l.getD i default).t = decide (i + 1 = l.length) := fun i hi => by
        have := h i hi
        unfold okAt at this
        rw [Bool.and_eq_true, Bool.and_eq_true] at this
        obtain ⟨⟨a, b⟩, c⟩ := this
        exact ⟨by simpa using a, b, by simpa using (beq_iff_eq.1 c).symm⟩
      refine ⟨?_, ⟨?_, ?_⟩, ?_⟩
      · have : l.any emptyB = false := List.any_eq_false.2 fun x hx => by
          obtain ⟨i, hi, rfl⟩ := List.getElem_of_mem hx
          have := (hh i hi).1
          rw [List.getD, List.getElem?_eq_getElem hi] at this
          simpa using this
        rw [this]; rfl
      · have := (hh 0 (by omega)).2.1
        rw [if_pos rfl] at this
        exact this
      · have : FollowP l := fun j h0 hj => by
          rw [g j hj, g (j - 1) (by omega)]
          have h1 := (hh j hj).2.1
          rw [if_neg (by omega)] at h1
          have h2 := (hh (j - 1) (by omega)).2.2
          rw [decide_eq_false (by omega)] at h2
          exact ⟨h2, (of_decide_eq_true h1).symm⟩
        unfold followB
        simpa using this
      · rw [(hh (l.length - 1) (by omega)).2.2]
        exact decide_eq_true (by omega)
end Go.Gz
namespace Go.Proofs.Ytbhojddakmgdmaa
open Go.RowKit Go.Gz

theorem mixedW : Try.prog.follows .mixedOrders = true := by kernel_rfl
set_option maxHeartbeats 4000000 in
set_option maxRecDepth 100000 in
theorem refWhole_any (ls : List SP) (p : Option Addr) (c : Nat) (w : World) (hp : RowK KP w p ls) (hn : ls.length ≤ 1000000) :
    Calls Try.prog 67 #[.slice p ls.length c] w fun e w' => e = .returned (.bool (wholeB ls)) ∧ Below w.heap.size w w' := by
  have HR := Lib.hid hp
  obtain ⟨n, hN⟩ : ∃ n, ls.length = n := ⟨_, rfl⟩
  have HN := Lib.hid hN
  rw [hN] at hn ⊢
  have HI := Lib.hid (whole_iff ls)
  rw [hN] at HI
  have HBad := Lib.hid (show ∀ k, k < n → okAt ls k = false → wholeB ls = false from fun k hk h => by
    cases hw : wholeB ls with
    | false => rfl
    | true => have := (HI.out.1 hw).2 k hk; rw [h] at this; cases this)
  clear hN hp
  go_enter Try.func67, Try.ntmps67
  go_wp2_with fail
  go_loopg [3, 4, 5] n (fun gg s3 _ _ wr => ∃ k : Nat, k ≤ n ∧ n - k ≤ gg ∧ s3 = .int .i64 k ∧ Hid (Below w.heap.size w wr) ∧ Hid (∀ i, i < k → okAt ls i = true))
  case atStart => exact ⟨0, Nat.zero_le _, by omega, rfl, Lib.hid (Below.refl _ w), Lib.hid (fun i hi => by omega)⟩
  case round =>
    obtain ⟨k, hk, hg, rfl, BW, A⟩ := hrel
    rcases Nat.lt_or_ge k n with hlt | hge
    · have hltz : (k : Int) < (n : Int) := by omega
      have hkl : k < ls.length := by rw [HN.out]; exact hlt
      obtain ⟨pb, po, rfl, hpb, hcell⟩ := HR.out.cells BW.out hkl
      obtain ⟨x, hx⟩ : ∃ x, ls.getD k default = x := ⟨_, rfl⟩
      have z0 := hcell 0 (by decide)
      have z1 := hcell 1 (by decide)
      rw [hx] at z0 z1
      simp only [KP, Nat.add_zero] at z0 z1
      have HX := Lib.hid hx
      obtain ⟨xf, xt⟩ := x
      simp only at z0 z1
      have CE := Lib.hid (fun pw : BelowOf wr => Calls.below_of pw (refEmpty_any xf xt pw.w'))
      obtain ⟨e, he⟩ : ∃ e, emptyB ⟨xf, xt⟩ = e := ⟨_, rfl⟩
      rw [he] at CE
      have HE := Lib.hid he
      clear hcell hx he
      have hpbr : pb < wr.heap.size := Nat.lt_of_lt_of_le hpb BW.out.size
      have f0 := fun pw : BelowOf wr => pw.cell (a := ⟨pb, po + k * 2, none⟩) hpbr z0
      have f1 := fun pw : BelowOf wr => pw.cell (a := ⟨pb, po + k * 2 + 1, none⟩) hpbr z1
      have hpos : (0 : Int) ≤ (k : Int) := by omega
      clear z0 z1
      cases e with
      | true =>
        have HB := Lib.hid (HBad.out k hlt (by unfold okAt; rw [HX.out, HE.out]; rfl))
        go_wp2_with fail
        refine wp_region_quiet_below mixedW (by kernel_rfl) ?_
        repeat (go_big_quiet_step (first | (go_at_call 80; with_reducible exact CE.out _)))
        refine wpQuiet_nil ?_
        intro wq hw'
        obtain ⟨⟨wz, hbq⟩, hw''⟩ := hw'
        obtain rfl : wq = wz := hw''
        have HQ := Lib.hid (BW.out.trans (hbq.mono BW.out.size))
        clear hbq f0 f1
        go_wp2_with fail
        go_ret
        exact ⟨by rw [HB.out]; rfl, HQ.out⟩
      | false =>
        rcases Nat.eq_zero_or_pos k with hk0 | hk0
        · subst hk0
          simp only [Nat.zero_mul, Nat.add_zero] at f0 f1
          cases hsf : sem xf with
          | false =>
            have HB := Lib.hid (HBad.out 0 hlt (by unfold okAt; rw [HX.out, HE.out, if_pos rfl]; simp only; rw [hsf]; rfl))
            unfold sem at hsf
            go_wp2_with fail
            refine wp_region_quiet_below mixedW (by kernel_rfl) ?_
            repeat (go_big_quiet_step (first | (go_at_call 80; with_reducible exact CE.out _)))
            refine wpQuiet_nil ?_
            intro wq hw'
            obtain ⟨⟨wz, hbq⟩, hw''⟩ := hw'
            obtain rfl : wq = wz := hw''
            have HQ := Lib.hid (BW.out.trans (hbq.mono BW.out.size))
            clear hbq f0 f1
            go_wp2_with fail
            go_ret
            exact ⟨by rw [HB.out]; rfl, HQ.out⟩
          | true =>
            have hsf2 := hsf
            unfold sem at hsf2
            have HSF := Lib.hid hsf
            clear hsf
            obtain ⟨l, hl⟩ : ∃ l, decide (0 + 1 = n) = l := ⟨_, rfl⟩
            obtain ⟨s, hs⟩ : ∃ s, sem xt = s := ⟨_, rfl⟩
            have hl' : (((0 : Nat) : Int) == (n : Int) - 1) = l := by rw [← hl]; exact decide_eq_decide.2 (by omega)
            have HOKV := Lib.hid (show okAt ls 0 = (l == s) by unfold okAt; rw [HX.out, HE.out, HN.out, hl, if_pos rfl]; simp only; rw [hs, HSF.out]; simp)
            unfold sem at hs
            have hl0 : ((0 : Int) == (n : Int) - 1) = l := by rw [← hl']; rfl
            clear hl
            by_cases hls : l = s
            · subst hls
              have HOK := Lib.hid (show ∀ i, i < 0 + 1 → okAt ls i = true from fun i hi => by
                rcases Nat.lt_succ_iff_lt_or_eq.1 hi with h | h
                · exact A.out i h
                · rw [h, HOKV.out]; simp)
              cases l
              · go_wp2_with fail
                refine wp_region_quiet_below mixedW (by kernel_rfl) ?_
                repeat (go_big_quiet_step (first | (go_at_call 80; with_reducible exact CE.out _)))
                refine wpQuiet_nil ?_
                intro wq hw'
                obtain ⟨⟨wz, hbq⟩, hw''⟩ := hw'
                obtain rfl : wq = wz := hw''
                have HQ := Lib.hid (BW.out.trans (hbq.mono BW.out.size))
                clear hbq f0 f1
                go_wp2_with fail
                go_roundg (n - (0 + 1))
                case measure => omega
                case rel => exact ⟨0 + 1, by omega, by omega, by go_num, HQ, HOK⟩
              · go_wp2_with fail
                refine wp_region_quiet_below mixedW (by kernel_rfl) ?_
                repeat (go_big_quiet_step (first | (go_at_call 80; with_reducible exact CE.out _)))
                refine wpQuiet_nil ?_
                intro wq hw'
                obtain ⟨⟨wz, hbq⟩, hw''⟩ := hw'
                obtain rfl : wq = wz := hw''
                have HQ := Lib.hid (BW.out.trans (hbq.mono BW.out.size))
                clear hbq f0 f1
                go_wp2_with fail
                go_roundg (n - (0 + 1))
                case measure => omega
                case rel => exact ⟨0 + 1, by omega, by omega, by go_num, HQ, HOK⟩
            · have HB := Lib.hid (HBad.out 0 hlt (by rw [HOKV.out]; simpa using hls))
              cases l <;> cases s
              · exact absurd rfl hls
              · go_wp2_with fail
                refine wp_region_quiet_below mixedW (by kernel_rfl) ?_
                repeat (go_big_quiet_step (first | (go_at_call 80; with_reducible exact CE.out _)))
                refine wpQuiet_nil ?_
                intro wq hw'
                obtain ⟨⟨wz, hbq⟩, hw''⟩ := hw'
                obtain rfl : wq = wz := hw''
                have HQ := Lib.hid (BW.out.trans (hbq.mono BW.out.size))
                clear hbq f0 f1
                go_wp2_with fail
                go_ret
                exact ⟨by rw [HB.out]; rfl, HQ.out⟩
              · go_wp2_with fail
                refine wp_region_quiet_below mixedW (by kernel_rfl) ?_
                repeat (go_big_quiet_step (first | (go_at_call 80; with_reducible exact CE.out _)))
                refine wpQuiet_nil ?_
                intro wq hw'
                obtain ⟨⟨wz, hbq⟩, hw''⟩ := hw'
                obtain rfl : wq = wz := hw''
                have HQ := Lib.hid (BW.out.trans (hbq.mono BW.out.size))
                clear hbq f0 f1
                go_wp2_with fail
                go_ret
                exact ⟨by rw [HB.out]; rfl, HQ.out⟩
              · exact absurd rfl hls
        · obtain ⟨km, rfl⟩ : ∃ km, k = km + 1 := ⟨k - 1, by omega⟩
          obtain ⟨b2, o2, h2, hpb2, hcell2⟩ := HR.out.cells BW.out (show km < ls.length by omega)
          injection h2 with h2
          injection h2 with g1 g2 _
          subst g1 g2
          obtain ⟨y, hy⟩ : ∃ y, ls.getD km default = y := ⟨_, rfl⟩
          have y1 := hcell2 1 (by decide)
          rw [hy] at y1
          simp only [KP] at y1
          obtain ⟨yf, yt⟩ := y
          simp only at y1
          have HY := Lib.hid hy
          have f2 := fun pw : BelowOf wr => pw.cell (a := ⟨pb, po + km * 2 + 1, none⟩) hpbr y1
          clear hcell2 hy y1 hpb2
          have hkz : ((km : Int) + 1 == 0) = false := beq_eq_false_iff_ne.2 (by omega)
          cases hxy : decide (xf = yt) with
          | false =>
            have HB := Lib.hid (HBad.out (km + 1) hlt (by unfold okAt; rw [HX.out, HE.out, if_neg (by omega), Nat.add_sub_cancel, HY.out]; simp only; rw [hxy]; rfl))
            have hxt : (xf.toList == yt.toList) = false := by
              have h1 := of_decide_eq_false hxy
              refine beq_eq_false_iff_ne.2 fun h => h1 (data_inj ?_)
              rw [← Lib.toList_data, ← Lib.toList_data]; exact h
            clear hxy
            go_wp2_with fail
            refine wp_region_quiet_below mixedW (by kernel_rfl) ?_
            repeat (go_big_quiet_step (first | (go_at_call 80; with_reducible exact CE.out _)))
            refine wpQuiet_nil ?_
            intro wq hw'
            obtain ⟨⟨wz, hbq⟩, hw''⟩ := hw'
            obtain rfl : wq = wz := hw''
            have HQ := Lib.hid (BW.out.trans (hbq.mono BW.out.size))
            clear hbq f0 f1
            go_wp2_with fail
            go_ret
            exact ⟨by rw [HB.out]; rfl, HQ.out⟩
          | true =>
            have hxt : (xf.toList == yt.toList) = true := by rw [of_decide_eq_true hxy]; simp
            have HXY := Lib.hid hxy
            clear hxy
            obtain ⟨l, hl⟩ : ∃ l, decide (km + 1 + 1 = n) = l := ⟨_, rfl⟩
            obtain ⟨s, hs⟩ : ∃ s, sem xt = s := ⟨_, rfl⟩
            have hl' : ((km : Int) + 1 == (n : Int) - 1) = l := by rw [← hl]; exact decide_eq_decide.2 (by omega)
            have HOKV := Lib.hid (show okAt ls (km + 1) = (l == s) by unfold okAt; rw [HX.out, HE.out, HN.out, hl, if_neg (by omega), Nat.add_sub_cancel, HY.out]; simp only; rw [hs, HXY.out]; simp)
            unfold sem at hs
            clear hl
            by_cases hls : l = s
            · subst hls
              have HOK := Lib.hid (show ∀ i, i < km + 1 + 1 → okAt ls i = true from fun i hi => by
                rcases Nat.lt_succ_iff_lt_or_eq.1 hi with h | h
                · exact A.out i h
                · rw [h, HOKV.out]; simp)
              cases l
              · go_wp2_with fail
                refine wp_region_quiet_below mixedW (by kernel_rfl) ?_
                repeat (go_big_quiet_step (first | (go_at_call 80; with_reducible exact CE.out _)))
                refine wpQuiet_nil ?_
                intro wq hw'
                obtain ⟨⟨wz, hbq⟩, hw''⟩ := hw'
                obtain rfl : wq = wz := hw''
                have HQ := Lib.hid (BW.out.trans (hbq.mono BW.out.size))
                clear hbq f0 f1
                go_wp2_with fail
                go_roundg (n - (km + 1 + 1))
                case measure => omega
                case rel => exact ⟨km + 1 + 1, by omega, by omega, by go_num, HQ, HOK⟩
              · go_wp2_with fail
                refine wp_region_quiet_below mixedW (by kernel_rfl) ?_
                repeat (go_big_quiet_step (first | (go_at_call 80; with_reducible exact CE.out _)))
                refine wpQuiet_nil ?_
                intro wq hw'
                obtain ⟨⟨wz, hbq⟩, hw''⟩ := hw'
                obtain rfl : wq = wz := hw''
                have HQ := Lib.hid (BW.out.trans (hbq.mono BW.out.size))
                clear hbq f0 f1
                go_wp2_with fail
                go_roundg (n - (km + 1 + 1))
                case measure => omega
                case rel => exact ⟨km + 1 + 1, by omega, by omega, by go_num, HQ, HOK⟩
            · have HB := Lib.hid (HBad.out (km + 1) hlt (by rw [HOKV.out]; simpa using hls))
              cases l <;> cases s
              · exact absurd rfl hls
              · go_wp2_with fail
                refine wp_region_quiet_below mixedW (by kernel_rfl) ?_
                repeat (go_big_quiet_step (first | (go_at_call 80; with_reducible exact CE.out _)))
                refine wpQuiet_nil ?_
                intro wq hw'
                obtain ⟨⟨wz, hbq⟩, hw''⟩ := hw'
                obtain rfl : wq = wz := hw''
                have HQ := Lib.hid (BW.out.trans (hbq.mono BW.out.size))
                clear hbq f0 f1
                go_wp2_with fail
                go_ret
                exact ⟨by rw [HB.out]; rfl, HQ.out⟩
              · go_wp2_with fail
                refine wp_region_quiet_below mixedW (by kernel_rfl) ?_
                repeat (go_big_quiet_step (first | (go_at_call 80; with_reducible exact CE.out _)))
                refine wpQuiet_nil ?_
                intro wq hw'
                obtain ⟨⟨wz, hbq⟩, hw''⟩ := hw'
                obtain rfl : wq = wz := hw''
                have HQ := Lib.hid (BW.out.trans (hbq.mono BW.out.size))
                clear hbq f0 f1
                go_wp2_with fail
                go_ret
                exact ⟨by rw [HB.out]; rfl, HQ.out⟩
              · exact absurd rfl hls
    · have hgez : ¬ (k : Int) < (n : Int) := by omega
      obtain rfl : k = n := by omega
      cases hw : wholeB ls with
      | true =>
        have h0 := (HI.out.1 hw).1
        have hz : (0 : Int) < (k : Int) := by omega
        have hzd : decide ((0 : Int) < (k : Int)) = true := decide_eq_true hz
        go_wp2_with fail
        go_ret
        exact ⟨by simp, BW.out⟩
      | false =>
        have h0 : k = 0 := by
          refine Nat.le_antisymm (Nat.le_of_not_lt fun h => ?_) (Nat.zero_le _)
          have := HI.out.2 ⟨h, A.out⟩
          rw [hw] at this; cases this
        have HW := Lib.hid hw
        clear hw
        subst h0
        go_wp2_with fail
        go_ret
        exact ⟨by simp [HW.out], BW.out⟩
end Go.Proofs.Ytbhojddakmgdmaa
namespace Go.Proofs.Ytbhojddakmgdmaa
open Go.RowKit Go.Gz

open Classical in
noncomputable def mayAB (nodes ep : Int) (L : List Sd) : Bool := decide (MayA nodes ep L)
theorem mayAB_iff (nodes ep : Int) (L : List Sd) : mayAB nodes ep L = true ↔ MayA nodes ep L := by unfold mayAB; simp
def okSd (nodes ep : Int) (x : Sd) : Prop := 1 ≤ x.n ∧ x.n ≤ nodes ∧ 1 ≤ x.e ∧ x.e ≤ ep
theorem mayAB_no {nodes ep : Int} {L : List Sd} (h : ¬ MayA nodes ep L) : mayAB nodes ep L = false := by
  cases hb : mayAB nodes ep L with
  | false => rfl
  | true => exact absurd ((mayAB_iff _ _ _).1 hb) h

set_option maxHeartbeats 8000000 in
set_option maxRecDepth 100000 in
theorem refAtlasMay_any (w : World) (ep nodes : Int) (L : List Sd) (p : Option Addr) (ca : Nat) (hp : RowK KS w p L) (hL : L.length ≤ 9223372036854775807) :
    Calls Try.prog 32 #[.agg #[.int .i64 ep, .slice p L.length ca], .int .i64 nodes] w fun e w' => e = .returned (.bool (mayAB nodes ep L)) ∧ Below w.heap.size w w' := by
  obtain ⟨n, hN⟩ : ∃ n, L.length = n := ⟨_, rfl⟩
  have HN := Lib.hid hN
  have HMY := Lib.hid (show MayA nodes ep L → (1 ≤ nodes ∧ nodes ≤ 5) ∧ (1 ≤ n ∧ n ≤ 12) ∧ 1 ≤ ep ∧ (∀ x ∈ L, okSd nodes ep x) ∧ wholeB (L.map Sd.sp) = true from fun h => ⟨h.nd, by rw [← hN]; exact h.ln, h.ep1, h.sh, h.wh⟩)
  have HMK := Lib.hid (show (1 ≤ nodes ∧ nodes ≤ 5) → (1 ≤ n ∧ n ≤ 12) → 1 ≤ ep → (∀ x ∈ L, okSd nodes ep x) → mayAB nodes ep L = wholeB (L.map Sd.sp) from fun h1 h2 h3 h4 => by
    cases hw : wholeB (L.map Sd.sp) with
    | true => exact (mayAB_iff _ _ _).2 ⟨h1, by rw [hN]; exact h2, h3, h4, hw⟩
    | false => exact mayAB_no fun h => by have := h.wh; rw [hw] at this; cases this)
  rw [hN] at hL ⊢
  obtain ⟨w0, hw0⟩ : ∃ w0, w.alloc (.cells #[.int .i64 ep, .slice p n ca] 34) = w0 := ⟨_, rfl⟩
  have HB0 := Lib.hid (show Below w.heap.size w w0 from hw0 ▸ below_alloc _ _)
  have HBX := Lib.hid (show BoxA w0 w.heap.size ep (.slice p n ca) from hw0 ▸ BoxA.new w _ _ _)
  have HR := Lib.hid (hp.below HB0.out)
  have HBad := Lib.hid (show ¬ MayA nodes ep L → ∀ w', Below w0.heap.size w0 w' → (Ending.returned (Value.bool false) = .returned (.bool (mayAB nodes ep L)) ∧ Below w.heap.size w w') from fun h w' hb => ⟨by rw [mayAB_no h], HB0.out.trans (hb.mono HB0.out.size)⟩)
  obtain ⟨_, x0, x1⟩ := HBX.out
  clear hN hp
  go_enter Try.func32, Try.ntmps32
  by_cases hn1 : nodes < 1
  · have HQ := Lib.hid (HBad.out (fun h => by have := (HMY.out h).1; omega) w0 (Below.refl _ _))
    go_wp2_with fail
    go_ret
    exact HQ.out
  by_cases hn2 : 5 < nodes
  · have HQ := Lib.hid (HBad.out (fun h => by have := (HMY.out h).1; omega) w0 (Below.refl _ _))
    go_wp2_with fail
    go_ret
    exact HQ.out
  by_cases hl1 : (n : Int) < 1
  · have HQ := Lib.hid (HBad.out (fun h => by have := (HMY.out h).2.1; omega) w0 (Below.refl _ _))
    go_wp2_with fail
    go_ret
    exact HQ.out
  by_cases hl2 : (12 : Int) < (n : Int)
  · have HQ := Lib.hid (HBad.out (fun h => by have := (HMY.out h).2.1; omega) w0 (Below.refl _ _))
    go_wp2_with fail
    go_ret
    exact HQ.out
  by_cases he1 : ep < 1
  · have HQ := Lib.hid (HBad.out (fun h => by have := (HMY.out h).2.2.1; omega) w0 (Below.refl _ _))
    go_wp2_with fail
    go_ret
    exact HQ.out
  go_wp2_with fail
  clear x0 x1
  go_loopw [5, 6] (fun v i wr => ∃ k : Nat, i = .int .i64 k ∧ k ≤ n ∧ Hid (OwnK KP wr w0.heap.size 30 v ((L.take k).map Sd.sp)) ∧ Hid (Below w0.heap.size w0 wr) ∧ Hid (∀ x ∈ L.take k, okSd nodes ep x)) (fun _ i _ => n - (RowKit.intOf i).toNat)
  case atStart => exact ⟨0, rfl, Nat.zero_le _, Lib.hid (OwnK.nil KP _ _ _), Lib.hid (Below.refl _ _), Lib.hid (fun x hx => by simp at hx)⟩
  case round =>
    obtain ⟨k, rfl, hkn, HOW, BW, A⟩ := hrel
    obtain ⟨hkb, x0, x1⟩ := HBX.out.below BW.out
    rcases Nat.lt_or_ge k n with hk | hk
    · have hkz : (k : Int) < (n : Int) := by omega
      have hklt : k < L.length := by rw [HN.out]; exact hk
      obtain ⟨e, he⟩ : ∃ e, L.getD k default = e := ⟨_, rfl⟩
      obtain ⟨pb, po, rfl, hpb, hcell⟩ := HR.out.cells BW.out hklt
      rw [he] at hcell
      have HMem := Lib.hid (show e ∈ L by rw [← he]; exact get_mem hklt)
      have HTK1 := Lib.hid (show L.take (k + 1) = L.take k ++ [e] by
        rw [List.take_succ_eq_append_getElem hklt, ← he]
        simp [List.getD, hklt])
      have HLK := Lib.hid (show ((L.take k).map Sd.sp).length = k by rw [List.length_map, List.length_take]; omega)
      obtain ⟨⟨ef, et⟩, en, ee⟩ := e
      have z0 := hcell 0 (by decide)
      have z1 := hcell 1 (by decide)
      have z2 := hcell 2 (by decide)
      have z3 := hcell 3 (by decide)
      simp only [KS, Nat.add_zero] at z0 z1 z2 z3
      clear hcell he
      obtain ⟨q, c, hvq, _⟩ := HOW.out.row
      obtain ⟨w1, hw1⟩ : ∃ w1, wr.alloc (.cells #[.string ef, .string et, .int .i64 en, .int .i64 ee] 79) = w1 := ⟨_, rfl⟩
      have HB1 := Lib.hid (BW.out.trans ((show Below wr.heap.size wr w1 from hw1 ▸ below_alloc _ _).mono BW.out.size))
      have HO1 := Lib.hid (show OwnK KP w1 w0.heap.size 30 _ _ from hw1 ▸ HOW.out.alloc _)
      have HS1 := Lib.hid (show w1.heap.size = wr.heap.size + 1 by rw [← hw1]; simp)
      have HON := Lib.hid (show RowK KP (w1.alloc (.cells #[.string ef, .string et] 30)) (some ⟨wr.heap.size + 1, 0, none⟩) [⟨ef, et⟩] from HS1.out ▸ RowK.block KP (L := [⟨ef, et⟩]) (alloc_at w1 (.cells #[.string ef, .string et] 30)))
      have HBd := Lib.hid (show ¬ okSd nodes ep ⟨⟨ef, et⟩, en, ee⟩ → (Ending.returned (Value.bool false) = .returned (.bool (mayAB nodes ep L)) ∧ Below w.heap.size w w1) from fun h => HBad.out (fun hm => h ((HMY.out hm).2.2.2.1 _ HMem.out)) w1 HB1.out)
      have HW1 := Lib.hid hw1
      clear hw1
      by_cases a1 : en < 1
      · have HQ := Lib.hid (HBd.out (fun h => by have := h.1; simp only at this; omega))
        go_wp2_with fail
        rw [HW1.out]
        go_ret
        exact HQ.out
      by_cases a2 : nodes < en
      · have HQ := Lib.hid (HBd.out (fun h => by have := h.2.1; simp only at this; omega))
        go_wp2_with fail
        rw [HW1.out]
        go_ret
        exact HQ.out
      by_cases a3 : ee < 1
      · have HQ := Lib.hid (HBd.out (fun h => by have := h.2.2.1; simp only at this; omega))
        go_wp2_with fail
        rw [HW1.out]
        go_ret
        exact HQ.out
      by_cases a4 : ep < ee
      · have HQ := Lib.hid (HBd.out (fun h => by have := h.2.2.2; simp only at this; omega))
        go_wp2_with fail
        rw [HW1.out]
        go_ret
        exact HQ.out
      go_wp2_with (at_builtin; rw [HW1.out]; refine wpList_app_k skt_span rfl _ _ rfl rfl (HO1.out.alloc _) (some ⟨wr.heap.size + 1, 0, none⟩) 1 [⟨ef, et⟩] rfl HON.out (fun h => by cases h) (by have := HLK.out; simp only [List.length_cons, List.length_nil]; omega) (by have := HB1.out.size; simp; omega) ?_; intro v4 w4 hown4 hgrow4 hat4)
      have HO4 := Lib.hid (show OwnK KP w4 w0.heap.size 30 v4 ((L.take (k + 1)).map Sd.sp) by rw [HTK1.out, List.map_append]; exact hown4)
      have HB4 := Lib.hid ((HB1.out.alloc HB1.out.size _).grown hgrow4 (by have := HB1.out.size; simp; omega) (fun g hg => (HO1.out.ltB g hg).1))
      have HA4 := Lib.hid (show ∀ x ∈ L.take (k + 1), okSd nodes ep x from fun x hx => by
        rw [HTK1.out] at hx
        rcases List.mem_append.1 hx with hx | hx
        · exact A.out x hx
        · simp only [List.mem_cons, List.not_mem_nil, or_false] at hx
          subst hx
          exact ⟨by simp only; omega, by simp only; omega, by simp only; omega, by simp only; omega⟩)
      exact ⟨⟨k + 1, by go_num, hk, HO4, HB4, HA4⟩, by simp [RowKit.intOf]; omega⟩
    · have hkz : ¬ (k : Int) < (n : Int) := by omega
      obtain rfl : k = n := by omega
      obtain ⟨q, c, hvq, _, _, hrow, _⟩ := HOW.out.row
      have etk : L.take k = L := List.take_of_length_le (by rw [HN.out]; exact Nat.le_refl _)
      have hlen : ((L.take k).map Sd.sp).length = k := by rw [List.length_map, etk, HN.out]
      have CF := Lib.hid (refWhole_any ((L.take k).map Sd.sp) q c wr hrow (by rw [hlen]; omega))
      rw [hlen] at CF hvq
      rw [etk] at CF
      subst hvq
      have HQ := Lib.hid (show mayAB nodes ep L = wholeB (L.map Sd.sp) from HMK.out ⟨by omega, by omega⟩ ⟨by omega, by omega⟩ (by omega) (fun x hx => A.out x (by rw [etk]; exact hx)))
      clear hrow HOW
      go_wp2_with fail
      refine CF.out.mono ?_
      rintro e w5 ⟨rfl, hbl⟩
      have H5 := Lib.hid (HB0.out.trans ((BW.out.trans (hbl.mono BW.out.size)).mono HB0.out.size))
      clear hbl
      go_wp2_with fail
      go_ret
      exact ⟨by rw [HQ.out]; rfl, H5.out⟩
end Go.Proofs.Ytbhojddakmgdmaa
namespace Go.Proofs.Ytbhojddakmgdmaa
open Go.RowKit Go.Gz

def FewP (ls : List SP) (w : World) (e : Ending) (w' : World) : Prop := ∃ b : Bool, e = .returned (.bool b) ∧ (b = true → ls.length ≤ 60) ∧ Below w.heap.size w w'

set_option maxHeartbeats 1000000 in
theorem few_any (ls : List SP) (p : Option Addr) (c : Nat) (w : World) (hp : Spans w p ls) (hn : ls.length ≤ 9223372036854775807) :
    Calls Try.prog 33 #[.slice p ls.length c] w (FewP ls w) := by
  have mx := mixedSp
  have HP := Lib.hid hp; clear hp
  have HF := Lib.hid (show ∀ b : Bool, ∀ w', (b = true → ls.length ≤ 60) → Below w.heap.size w w' → FewP ls w (.returned (.bool b)) w' from fun b w' h1 h2 => ⟨b, rfl, h1, h2⟩)
  obtain ⟨n, hln⟩ : ∃ n, ls.length = n := ⟨_, rfl⟩
  have HN := Lib.hid hln
  rw [hln] at hn HF ⊢
  clear hln
  go_enter Try.func33, Try.ntmps33
  go_wp2_with fail
  go_loopg [3, 4] n (fun gg s3 s4 wr => ∃ (i : Nat) (x : Int), i ≤ n ∧ n - i ≤ gg ∧ s3 = .int .i64 x ∧ s4 = .int .i64 i ∧ Hid (Below w.heap.size w wr))
  case atStart => exact ⟨0, 0, by omega, by omega, rfl, rfl, Lib.hid (Below.refl _ _)⟩
  case round =>
    obtain ⟨i, x, hin, hg, rfl, rfl, BW⟩ := hrel
    by_cases hlt : i < n
    · have hltz : (i : Int) < (n : Int) := by omega
      obtain ⟨b, o, rfl, hbl, c1, c2⟩ := span_cell HP.out BW.out (show i < ls.length by rw [HN.out]; exact hlt)
      obtain ⟨f, hf⟩ : ∃ f, ls[i]!.f = f := ⟨_, rfl⟩
      obtain ⟨t, ht⟩ : ∃ t, ls[i]!.t = t := ⟨_, rfl⟩
      rw [hf] at c1
      rw [ht] at c2
      clear hf ht
      go_wp2_with fail
      go_quiet (fail)
      go_wp2_with fail
      go_roundg (n - (i + 1))
      case measure => omega
      case rel => exact ⟨i + 1, _, by omega, by omega, rfl, by go_num, Lib.hid (below_drewN BW.out _)⟩
    · have hltz : ¬ (i : Int) < (n : Int) := by omega
      by_cases h60 : n ≤ 60
      · have h60z : (n : Int) ≤ 60 := by omega
        go_wp2_with fail
        all_goals
          go_ret
          exact HF.out _ _ (fun _ => h60) BW.out
      · have h60z : ¬ (n : Int) ≤ 60 := by omega
        go_wp2_with fail
        go_ret
        exact HF.out _ _ (fun h => by cases h) BW.out
end Go.Proofs.Ytbhojddakmgdmaa
