/-
  Layer atlas: the reference's Whole.
-/
import Derived.Test.YtfadpiipigkocaaMg13
import Derived.Test.YtfadpiipigkocaaMg10
namespace Go.Gz
def okAt (l : List SP) (i : Nat) : Bool := !emptyB (l.getD i default) && (if i = 0 then sem (l.getD i default).f else decide ((l.getD i default).f = (l.getD (i - 1) default).t)) && (decide (i + 1 = l.length) == sem (l.getD i default).t)
theorem whole_iff (l : List SP) : wholeB l = true ↔ 0 < l.length ∧ ∀ i, i < l.length → okAt l i = true := by
  have g : ∀ i, i < l.length → l[i]! = l.getD i default := fun i hi => by rw [getElem!_pos l i hi, List.getD, List.getElem?_eq_getElem hi]; rfl
  unfold wholeB
  by_cases h0 : l.length = 0
  · rw [if_pos h0]
    constructor
    · intro h; cases h
    · rintro ⟨h, _⟩; omega
  · rw [if_neg h0]
    simp only [Bool.and_eq_true]
    rw [g 0 (by omega), g (l.length - 1) (by omega)]
    constructor
    · rintro ⟨h1, ⟨h2, h3⟩, h4⟩
      have h3 : FollowP l := by
        unfold followB at h3
        simpa using h3
      have h1 : ∀ x ∈ l, emptyB x = false := fun x hx => by
        have : l.any emptyB = false := by simpa using h1
        exact List.any_eq_false.1 this x hx |> fun h => by simpa using h
      refine ⟨by omega, fun i hi => ?_⟩
      unfold okAt
      have he : emptyB (l.getD i default) = false := h1 _ (by rw [List.getD, List.getElem?_eq_getElem hi]; exact List.getElem_mem hi)
      rw [he]
      have hl : (decide (i + 1 = l.length) == sem (l.getD i default).t) = true := by
        by_cases h : i + 1 = l.length
        · rw [decide_eq_true h, show i = l.length - 1 by omega, h4]; rfl
        · have := (h3 (i + 1) (by omega) (by omega)).1
          rw [Nat.add_sub_cancel, g i hi] at this
          rw [decide_eq_false h, this]; rfl
      rw [hl]
      by_cases hz : i = 0
      · rw [if_pos hz, hz, h2]; rfl
      · have := (h3 i (by omega) hi).2
        rw [g (i - 1) (by omega), g i hi] at this
        rw [if_neg hz, decide_eq_true this.symm]; rfl
    · rintro ⟨_, h⟩
      have hh : ∀ i, i < l.length → emptyB (l.getD i default) = false ∧ (if i = 0 then sem (l.getD i default).f else decide ((l.getD i default).f = (l.getD (i - 1) default).t)) = true ∧ sem (l.getD i default).t = decide (i + 1 = l.length) := fun i hi => by
        have := h i hi
        unfold okAt at this
        rw [Bool.and_eq_true, Bool.and_eq_true] at this
        obtain ⟨⟨a, b⟩, c⟩ := this
        exact ⟨by simpa using a, b, by simpa using (beq_iff_eq.1 c).symm⟩
      refine ⟨?_, ⟨?_, ?_⟩, ?_⟩
      · have : l.any emptyB = false := List.any_eq_false.2 fun x hx => by
          obtain ⟨i, hi, rfl⟩ := List.getElem_of_mem hx
          have := (hh i hi).1
          rw [List.getD, List.getElem?_eq_getElem hi] at this
          simpa using this
        rw [this]; rfl
      · have := (hh 0 (by omega)).2.1
        rw [if_pos rfl] at this
        exact this
      · have : FollowP l := fun j h0 hj => by
          rw [g j hj, g (j - 1) (by omega)]
          have h1 := (hh j hj).2.1
          rw [if_neg (by omega)] at h1
          have h2 := (hh (j - 1) (by omega)).2.2
          rw [decide_eq_false (by omega)] at h2
          exact ⟨h2, (of_decide_eq_true h1).symm⟩
        unfold followB
        simpa using this
      · rw [(hh (l.length - 1) (by omega)).2.2]
        exact decide_eq_true (by omega)
end Go.Gz
namespace Go.Proofs.Ytfadpiipigkocaa
open Go.RowKit Go.Gz

theorem mixedW : Try.prog.follows .mixedOrders = true := by kernel_rfl
set_option maxHeartbeats 4000000 in
set_option maxRecDepth 100000 in
theorem refWhole_any (ls : List SP) (p : Option Addr) (c : Nat) (w : World) (hp : RowK KP w p ls) (hn : ls.length ≤ 1000000) :
    Calls Try.prog 34 #[.slice p ls.length c] w fun e w' => e = .returned (.bool (wholeB ls)) ∧ Below w.heap.size w w' := by
  have HR := Lib.hid hp
  obtain ⟨n, hN⟩ : ∃ n, ls.length = n := ⟨_, rfl⟩
  have HN := Lib.hid hN
  rw [hN] at hn ⊢
  have HI := Lib.hid (whole_iff ls)
  rw [hN] at HI
  have HBad := Lib.hid (show ∀ k, k < n → okAt ls k = false → wholeB ls = false from fun k hk h => by
    cases hw : wholeB ls with
    | false => rfl
    | true => have := (HI.out.1 hw).2 k hk; rw [h] at this; cases this)
  clear hN hp
  go_enter Try.func34, Try.ntmps34
  go_wp2_with fail
  go_loopg [3, 4, 5] n (fun gg s3 _ _ wr => ∃ k : Nat, k ≤ n ∧ n - k ≤ gg ∧ s3 = .int .i64 k ∧ Hid (Below w.heap.size w wr) ∧ Hid (∀ i, i < k → okAt ls i = true))
  case atStart => exact ⟨0, Nat.zero_le _, by omega, rfl, Lib.hid (Below.refl _ w), Lib.hid (fun i hi => by omega)⟩
  case round =>
    obtain ⟨k, hk, hg, rfl, BW, A⟩ := hrel
    rcases Nat.lt_or_ge k n with hlt | hge
    · have hltz : (k : Int) < (n : Int) := by omega
      have hkl : k < ls.length := by rw [HN.out]; exact hlt
      obtain ⟨pb, po, rfl, hpb, hcell⟩ := HR.out.cells BW.out hkl
      obtain ⟨x, hx⟩ : ∃ x, ls.getD k default = x := ⟨_, rfl⟩
      have z0 := hcell 0 (by decide)
      have z1 := hcell 1 (by decide)
      rw [hx] at z0 z1
      simp only [KP, Nat.add_zero] at z0 z1
      have HX := Lib.hid hx
      obtain ⟨xf, xt⟩ := x
      simp only at z0 z1
      have CE := Lib.hid (fun pw : BelowOf wr => Calls.below_of pw (refEmpty_any xf xt pw.w'))
      obtain ⟨e, he⟩ : ∃ e, emptyB ⟨xf, xt⟩ = e := ⟨_, rfl⟩
      rw [he] at CE
      have HE := Lib.hid he
      clear hcell hx he
      have hpbr : pb < wr.heap.size := Nat.lt_of_lt_of_le hpb BW.out.size
      have f0 := fun pw : BelowOf wr => pw.cell (a := ⟨pb, po + k * 2, none⟩) hpbr z0
      have f1 := fun pw : BelowOf wr => pw.cell (a := ⟨pb, po + k * 2 + 1, none⟩) hpbr z1
      have hpos : (0 : Int) ≤ (k : Int) := by omega
      clear z0 z1
      cases e with
      | true =>
        have HB := Lib.hid (HBad.out k hlt (by unfold okAt; rw [HX.out, HE.out]; rfl))
        go_wp2_with fail
        refine wp_region_quiet_below mixedW (by kernel_rfl) ?_
        repeat (go_big_quiet_step (first | (go_at_call 66; with_reducible exact CE.out _)))
        refine wpQuiet_nil ?_
        intro wq hw'
        obtain ⟨⟨wz, hbq⟩, hw''⟩ := hw'
        obtain rfl : wq = wz := hw''
        have HQ := Lib.hid (BW.out.trans (hbq.mono BW.out.size))
        clear hbq f0 f1
        go_wp2_with fail
        go_ret
        exact ⟨by rw [HB.out]; rfl, HQ.out⟩
      | false =>
        rcases Nat.eq_zero_or_pos k with hk0 | hk0
        · subst hk0
          simp only [Nat.zero_mul, Nat.add_zero] at f0 f1
          cases hsf : sem xf with
          | false =>
            have HB := Lib.hid (HBad.out 0 hlt (by unfold okAt; rw [HX.out, HE.out, if_pos rfl]; simp only; rw [hsf]; rfl))
            unfold sem at hsf
            go_wp2_with fail
            refine wp_region_quiet_below mixedW (by kernel_rfl) ?_
            repeat (go_big_quiet_step (first | (go_at_call 66; with_reducible exact CE.out _)))
            refine wpQuiet_nil ?_
            intro wq hw'
            obtain ⟨⟨wz, hbq⟩, hw''⟩ := hw'
            obtain rfl : wq = wz := hw''
            have HQ := Lib.hid (BW.out.trans (hbq.mono BW.out.size))
            clear hbq f0 f1
            go_wp2_with fail
            go_ret
            exact ⟨by rw [HB.out]; rfl, HQ.out⟩
          | true =>
            have hsf2 := hsf
            unfold sem at hsf2
            have HSF := Lib.hid hsf
            clear hsf
            obtain ⟨l, hl⟩ : ∃ l, decide (0 + 1 = n) = l := ⟨_, rfl⟩
            obtain ⟨s, hs⟩ : ∃ s, sem xt = s := ⟨_, rfl⟩
            have hl' : (((0 : Nat) : Int) == (n : Int) - 1) = l := by rw [← hl]; exact decide_eq_decide.2 (by omega)
            have HOKV := Lib.hid (show okAt ls 0 = (l == s) by unfold okAt; rw [HX.out, HE.out, HN.out, hl, if_pos rfl]; simp only; rw [hs, HSF.out]; simp)
            unfold sem at hs
            have hl0 : ((0 : Int) == (n : Int) - 1) = l := by rw [← hl']; rfl
            clear hl
            by_cases hls : l = s
            · subst hls
              have HOK := Lib.hid (show ∀ i, i < 0 + 1 → okAt ls i = true from fun i hi => by
                rcases Nat.lt_succ_iff_lt_or_eq.1 hi with h | h
                · exact A.out i h
                · rw [h, HOKV.out]; simp)
              cases l
              · go_wp2_with fail
                refine wp_region_quiet_below mixedW (by kernel_rfl) ?_
                repeat (go_big_quiet_step (first | (go_at_call 66; with_reducible exact CE.out _)))
                refine wpQuiet_nil ?_
                intro wq hw'
                obtain ⟨⟨wz, hbq⟩, hw''⟩ := hw'
                obtain rfl : wq = wz := hw''
                have HQ := Lib.hid (BW.out.trans (hbq.mono BW.out.size))
                clear hbq f0 f1
                go_wp2_with fail
                go_roundg (n - (0 + 1))
                case measure => omega
                case rel => exact ⟨0 + 1, by omega, by omega, by go_num, HQ, HOK⟩
              · go_wp2_with fail
                refine wp_region_quiet_below mixedW (by kernel_rfl) ?_
                repeat (go_big_quiet_step (first | (go_at_call 66; with_reducible exact CE.out _)))
                refine wpQuiet_nil ?_
                intro wq hw'
                obtain ⟨⟨wz, hbq⟩, hw''⟩ := hw'
                obtain rfl : wq = wz := hw''
                have HQ := Lib.hid (BW.out.trans (hbq.mono BW.out.size))
                clear hbq f0 f1
                go_wp2_with fail
                go_roundg (n - (0 + 1))
                case measure => omega
                case rel => exact ⟨0 + 1, by omega, by omega, by go_num, HQ, HOK⟩
            · have HB := Lib.hid (HBad.out 0 hlt (by rw [HOKV.out]; simpa using hls))
              cases l <;> cases s
              · exact absurd rfl hls
              · go_wp2_with fail
                refine wp_region_quiet_below mixedW (by kernel_rfl) ?_
                repeat (go_big_quiet_step (first | (go_at_call 66; with_reducible exact CE.out _)))
                refine wpQuiet_nil ?_
                intro wq hw'
                obtain ⟨⟨wz, hbq⟩, hw''⟩ := hw'
                obtain rfl : wq = wz := hw''
                have HQ := Lib.hid (BW.out.trans (hbq.mono BW.out.size))
                clear hbq f0 f1
                go_wp2_with fail
                go_ret
                exact ⟨by rw [HB.out]; rfl, HQ.out⟩
              · go_wp2_with fail
                refine wp_region_quiet_below mixedW (by kernel_rfl) ?_
                repeat (go_big_quiet_step (first | (go_at_call 66; with_reducible exact CE.out _)))
                refine wpQuiet_nil ?_
                intro wq hw'
                obtain ⟨⟨wz, hbq⟩, hw''⟩ := hw'
                obtain rfl : wq = wz := hw''
                have HQ := Lib.hid (BW.out.trans (hbq.mono BW.out.size))
                clear hbq f0 f1
                go_wp2_with fail
                go_ret
                exact ⟨by rw [HB.out]; rfl, HQ.out⟩
              · exact absurd rfl hls
        · obtain ⟨km, rfl⟩ : ∃ km, k = km + 1 := ⟨k - 1, by omega⟩
          obtain ⟨b2, o2, h2, hpb2, hcell2⟩ := HR.out.cells BW.out (show km < ls.length by omega)
          injection h2 with h2
          injection h2 with g1 g2 _
          subst g1 g2
          obtain ⟨y, hy⟩ : ∃ y, ls.getD km default = y := ⟨_, rfl⟩
          have y1 := hcell2 1 (by decide)
          rw [hy] at y1
          simp only [KP] at y1
          obtain ⟨yf, yt⟩ := y
          simp only at y1
          have HY := Lib.hid hy
          have f2 := fun pw : BelowOf wr => pw.cell (a := ⟨pb, po + km * 2 + 1, none⟩) hpbr y1
          clear hcell2 hy y1 hpb2
          have hkz : ((km : Int) + 1 == 0) = false := beq_eq_false_iff_ne.2 (by omega)
          cases hxy : decide (xf = yt) with
          | false =>
            have HB := Lib.hid (HBad.out (km + 1) hlt (by unfold okAt; rw [HX.out, HE.out, if_neg (by omega), Nat.add_sub_cancel, HY.out]; simp only; rw [hxy]; rfl))
            have hxt : (xf.toList == yt.toList) = false := by
              have h1 := of_decide_eq_false hxy
              refine beq_eq_false_iff_ne.2 fun h => h1 (data_inj ?_)
              rw [← Lib.toList_data, ← Lib.toList_data]; exact h
            clear hxy
            go_wp2_with fail
            refine wp_region_quiet_below mixedW (by kernel_rfl) ?_
            repeat (go_big_quiet_step (first | (go_at_call 66; with_reducible exact CE.out _)))
            refine wpQuiet_nil ?_
            intro wq hw'
            obtain ⟨⟨wz, hbq⟩, hw''⟩ := hw'
            obtain rfl : wq = wz := hw''
            have HQ := Lib.hid (BW.out.trans (hbq.mono BW.out.size))
            clear hbq f0 f1
            go_wp2_with fail
            go_ret
            exact ⟨by rw [HB.out]; rfl, HQ.out⟩
          | true =>
            have hxt : (xf.toList == yt.toList) = true := by rw [of_decide_eq_true hxy]; simp
            have HXY := Lib.hid hxy
            clear hxy
            obtain ⟨l, hl⟩ : ∃ l, decide (km + 1 + 1 = n) = l := ⟨_, rfl⟩
            obtain ⟨s, hs⟩ : ∃ s, sem xt = s := ⟨_, rfl⟩
            have hl' : ((km : Int) + 1 == (n : Int) - 1) = l := by rw [← hl]; exact decide_eq_decide.2 (by omega)
            have HOKV := Lib.hid (show okAt ls (km + 1) = (l == s) by unfold okAt; rw [HX.out, HE.out, HN.out, hl, if_neg (by omega), Nat.add_sub_cancel, HY.out]; simp only; rw [hs, HXY.out]; simp)
            unfold sem at hs
            clear hl
            by_cases hls : l = s
            · subst hls
              have HOK := Lib.hid (show ∀ i, i < km + 1 + 1 → okAt ls i = true from fun i hi => by
                rcases Nat.lt_succ_iff_lt_or_eq.1 hi with h | h
                · exact A.out i h
                · rw [h, HOKV.out]; simp)
              cases l
              · go_wp2_with fail
                refine wp_region_quiet_below mixedW (by kernel_rfl) ?_
                repeat (go_big_quiet_step (first | (go_at_call 66; with_reducible exact CE.out _)))
                refine wpQuiet_nil ?_
                intro wq hw'
                obtain ⟨⟨wz, hbq⟩, hw''⟩ := hw'
                obtain rfl : wq = wz := hw''
                have HQ := Lib.hid (BW.out.trans (hbq.mono BW.out.size))
                clear hbq f0 f1
                go_wp2_with fail
                go_roundg (n - (km + 1 + 1))
                case measure => omega
                case rel => exact ⟨km + 1 + 1, by omega, by omega, by go_num, HQ, HOK⟩
              · go_wp2_with fail
                refine wp_region_quiet_below mixedW (by kernel_rfl) ?_
                repeat (go_big_quiet_step (first | (go_at_call 66; with_reducible exact CE.out _)))
                refine wpQuiet_nil ?_
                intro wq hw'
                obtain ⟨⟨wz, hbq⟩, hw''⟩ := hw'
                obtain rfl : wq = wz := hw''
                have HQ := Lib.hid (BW.out.trans (hbq.mono BW.out.size))
                clear hbq f0 f1
                go_wp2_with fail
                go_roundg (n - (km + 1 + 1))
                case measure => omega
                case rel => exact ⟨km + 1 + 1, by omega, by omega, by go_num, HQ, HOK⟩
            · have HB := Lib.hid (HBad.out (km + 1) hlt (by rw [HOKV.out]; simpa using hls))
              cases l <;> cases s
              · exact absurd rfl hls
              · go_wp2_with fail
                refine wp_region_quiet_below mixedW (by kernel_rfl) ?_
                repeat (go_big_quiet_step (first | (go_at_call 66; with_reducible exact CE.out _)))
                refine wpQuiet_nil ?_
                intro wq hw'
                obtain ⟨⟨wz, hbq⟩, hw''⟩ := hw'
                obtain rfl : wq = wz := hw''
                have HQ := Lib.hid (BW.out.trans (hbq.mono BW.out.size))
                clear hbq f0 f1
                go_wp2_with fail
                go_ret
                exact ⟨by rw [HB.out]; rfl, HQ.out⟩
              · go_wp2_with fail
                refine wp_region_quiet_below mixedW (by kernel_rfl) ?_
                repeat (go_big_quiet_step (first | (go_at_call 66; with_reducible exact CE.out _)))
                refine wpQuiet_nil ?_
                intro wq hw'
                obtain ⟨⟨wz, hbq⟩, hw''⟩ := hw'
                obtain rfl : wq = wz := hw''
                have HQ := Lib.hid (BW.out.trans (hbq.mono BW.out.size))
                clear hbq f0 f1
                go_wp2_with fail
                go_ret
                exact ⟨by rw [HB.out]; rfl, HQ.out⟩
              · exact absurd rfl hls
    · have hgez : ¬ (k : Int) < (n : Int) := by omega
      obtain rfl : k = n := by omega
      cases hw : wholeB ls with
      | true =>
        have h0 := (HI.out.1 hw).1
        have hz : (0 : Int) < (k : Int) := by omega
        have hzd : decide ((0 : Int) < (k : Int)) = true := decide_eq_true hz
        go_wp2_with fail
        go_ret
        exact ⟨by simp, BW.out⟩
      | false =>
        have h0 : k = 0 := by
          refine Nat.le_antisymm (Nat.le_of_not_lt fun h => ?_) (Nat.zero_le _)
          have := HI.out.2 ⟨h, A.out⟩
          rw [hw] at this; cases this
        have HW := Lib.hid hw
        clear hw
        subst h0
        go_wp2_with fail
        go_ret
        exact ⟨by simp [HW.out], BW.out⟩
end Go.Proofs.Ytfadpiipigkocaa
