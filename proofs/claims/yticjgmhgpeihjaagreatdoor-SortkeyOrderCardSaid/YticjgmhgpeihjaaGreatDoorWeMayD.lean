/-
  Layer weigh: which table may be.
-/
import Derived.Test.YticjgmhgpeihjaaGreatDoorWeMayC
import Derived.Test.YticjgmhgpeihjaaGreatDoorQuietBelow
namespace Go.Proofs.YticjgmhgpeihjaaGreatDoor
open Go.RowKit Go.Gz Go.Sort

set_option maxHeartbeats 2000000 in
set_option maxRecDepth 100000 in
theorem riseW_any (rs : List WR) (p : Option Addr) (cap : Nat) (W : World) (hl : Wrs W p rs) (hsz : rs.length < 1000000) (hof : ∀ x ∈ rs, x.of.length ≤ 9223372036854775807) :
    Calls Tryz.prog 49 #[.slice p rs.length cap] W fun e w' => e = .returned (.bool (riseWB rs)) ∧ Below W.heap.size W w' := by
  have HL := Lib.hid hl; clear hl
  have HF := Lib.hid hof; clear hof
  obtain ⟨an, han⟩ : ∃ an, riseWB rs = an := ⟨_, rfl⟩
  rw [han]
  have HA := Lib.hid han; clear han
  have mx := mixedL
  go_enter Tryz.func49, Tryz.ntmps49
  go_wp2_with fail
  go_loopg [3] rs.length (fun g va wr => ∃ k : Nat, va = .int .i64 k ∧ 1 ≤ k ∧ (k ≤ rs.length ∨ k = 1) ∧ rs.length + 1 - k ≤ g + 1 ∧ Hid (Below W.heap.size W wr) ∧ Hid (∀ j, j + 1 < k → cmpL rs[j]!.of rs[j + 1]!.of < 0))
  case atStart => exact ⟨1, rfl, by omega, Or.inr rfl, by omega, Lib.hid (Below.refl _ _), Lib.hid fun j hj => by omega⟩
  case round =>
    obtain ⟨k, rfl, hk1, hk2, hg, HB, HN⟩ := hrel
    by_cases hlt : k < rs.length
    · obtain ⟨i, rfl⟩ : ∃ i : Nat, k = i + 1 := ⟨k - 1, by omega⟩
      have hltz : (i : Int) + 1 < (rs.length : Int) := by omega
      have hin : i < rs.length := by omega
      obtain ⟨b, off, rfl, hbW, c1, _, hrc⟩ := HL.out.at_ HB.out hlt
      obtain ⟨b', off', hpe, hbW', d1, d2, hrd⟩ := HL.out.at_ HB.out hin
      simp only [Option.some.injEq, Addr.mk.injEq, and_true] at hpe
      obtain ⟨rfl, rfl⟩ := hpe
      have hfy := HF.out _ (getW_mem hlt)
      have hfx := HF.out _ (getW_mem hin)
      obtain ⟨y, hy⟩ : ∃ y, rs[i + 1]! = y := ⟨_, rfl⟩
      obtain ⟨x, hx⟩ : ∃ x, rs[i]! = x := ⟨_, rfl⟩
      rw [hy] at c1 hrc hfy
      rw [hx] at d1 d2 hrd hfx
      have HX := Lib.hid hx; clear hx
      have HY := Lib.hid hy; clear hy
      have hsr := HB.out.size
      have hbr : b < wr.heap.size := by omega
      have hc := Lib.hid (fun pw : BelowOf wr => Calls.below_of pw (compareRow_any x y.of y.op y.oc pw.w' (hrd.below pw.h) (hrc.1.1.below pw.h) (by omega)))
      have f1 := fun pw : BelowOf wr => pw.cell (a := ⟨b, off + (i + 1) * 2, none⟩) hbr c1
      have f2 := fun pw : BelowOf wr => pw.cell (a := ⟨b, off + i * 2, none⟩) hbr d1
      have f3 := fun pw : BelowOf wr => pw.cell (a := ⟨b, off + i * 2 + 1, none⟩) hbr d2
      clear c1 d1 d2 hrc hrd
      obtain ⟨z, hz⟩ : ∃ z, cmpL x.of y.of = z := ⟨_, rfl⟩
      rw [hz] at hc
      have HZ := Lib.hid hz; clear hz
      have jz1 : (i : Int) < (rs.length : Int) := by omega
      have p0 : (0 : Int) ≤ (i : Int) + 1 := by omega
      have e0 : ((i : Int) + 1).toNat = i + 1 := by omega
      have hwp : IntKind.i64.wrap (i : Int) = (i : Int) := by rw [IntKind.wrap_i64]; omega
      by_cases hge : 0 ≤ z
      · go_wp2_with fail
        refine wp_region_quiet_below (by assumption) (by kernel_rfl) ?_
        repeat (go_big_quiet_step (first | (go_at_call 72; with_reducible exact hc.out _)))
        refine wpQuiet_nil ?_
        intro _ hw'
        obtain ⟨⟨wq, hbq⟩, hw''⟩ := hw'
        subst hw''
        have HBq := Lib.hid (HB.out.trans (hbq.mono hsr))
        clear hbq
        go_wp2_with fail
        go_ret
        refine ⟨?_, HBq.out⟩
        have : an = false := by
          rw [← HA.out, ← Bool.not_eq_true, riseWB_iff]
          intro h
          have := h i (i + 1) (by omega) (by omega)
          rw [HX.out, HY.out, HZ.out] at this; omega
        rw [this]; rfl
      · go_wp2_with fail
        refine wp_region_quiet_below (by assumption) (by kernel_rfl) ?_
        repeat (go_big_quiet_step (first | (go_at_call 72; with_reducible exact hc.out _)))
        refine wpQuiet_nil ?_
        intro _ hw'
        obtain ⟨⟨wq, hbq⟩, hw''⟩ := hw'
        subst hw''
        have HBq := Lib.hid (HB.out.trans (hbq.mono hsr))
        clear hbq
        go_wp2_with fail
        go_roundg (rs.length - (i + 2))
        case measure => omega
        case rel => exact ⟨i + 1 + 1, by go_num, by omega, by omega, by omega, HBq, Lib.hid fun j hj => by
          by_cases c : j = i
          · rw [c, HX.out, HY.out, HZ.out]; omega
          · exact HN.out j (by omega)⟩
    · have hltz : ¬ (k : Int) < (rs.length : Int) := by omega
      go_wp2_with fail
      go_ret
      refine ⟨?_, HB.out⟩
      have : an = true := by
        rw [← HA.out]
        unfold riseWB
        rw [List.all_eq_true]
        intro i hi
        exact decide_eq_true (HN.out i (by have := List.mem_range.1 hi; omega))
      rw [this]; rfl

set_option maxHeartbeats 1000000 in
theorem may1_any (T : TB) (hm : mayB T.ls = true) (hr : RisingW T.rs) (x : WR) (B : Nat) (W : World) (hT : TableAt W T) (hx : RowAt W x) (hof : x.of.length ≤ 9223372036854775807) (hto : x.to.length ≤ 9223372036854775807)
    (hB : B < W.heap.size) (c0 : W.cell? ⟨B, 0, none⟩ = some (.slice T.lp T.ls.length T.lc)) (c1 : W.cell? ⟨B, 1, none⟩ = some (.slice T.rp T.rs.length T.rc)) (c2 : W.cell? ⟨B, 2, none⟩ = some (.int .i64 T.top)) (c3 : W.cell? ⟨B, 3, none⟩ = some (.bool T.sh)) :
    Calls Tryz.prog 45 #[.agg #[.slice x.op x.of.length x.oc, .slice x.tp x.to.length x.tc], .pointer (some ⟨B, 0, none⟩)] W fun e w' => e = .returned (.bool (!mayRowB T.ls T.rs x)) ∧ Below W.heap.size W w' := by
  obtain ⟨wb, hwb⟩ : ∃ wb, wb = W.alloc (.cells #[.slice x.op x.of.length x.oc, .slice x.tp x.to.length x.tc] 47) := ⟨_, rfl⟩
  have hb0 := Lib.hid (show Below W.heap.size W wb from hwb ▸ (Below.refl _ _).alloc (Nat.le_refl _) _)
  have h := Lib.hid (mayRow_any T hm hr x wb (hT.below hb0.out) (hx.below hb0.out) hof hto)
  obtain ⟨bv, hbv⟩ : ∃ bv, mayRowB T.ls T.rs x = bv := ⟨_, rfl⟩
  rw [hbv] at h ⊢
  have d0 : wb.cell? ⟨B, 0, none⟩ = some (.slice T.lp T.ls.length T.lc) := by rw [hb0.out.cell (p := ⟨B, 0, none⟩) hB]; exact c0
  have d1 : wb.cell? ⟨B, 1, none⟩ = some (.slice T.rp T.rs.length T.rc) := by rw [hb0.out.cell (p := ⟨B, 1, none⟩) hB]; exact c1
  have d2 : wb.cell? ⟨B, 2, none⟩ = some (.int .i64 T.top) := by rw [hb0.out.cell (p := ⟨B, 2, none⟩) hB]; exact c2
  have d3 : wb.cell? ⟨B, 3, none⟩ = some (.bool T.sh) := by rw [hb0.out.cell (p := ⟨B, 3, none⟩) hB]; exact c3
  rw [hwb] at d0 d1 d2 d3
  clear hm hr hx hT hbv c0 c1 c2 c3
  have HW := Lib.hid hwb; clear hwb
  go_enter Tryz.func45, Tryz.ntmps45
  go_wp2_with fail
  rw [← HW.out]
  refine h.out.mono ?_
  rintro e w' ⟨rfl, hb'⟩
  clear d0 d1 d2 d3
  have HB := Lib.hid (hb0.out.trans (hb'.mono hb0.out.size))
  clear hb'
  go_wp2
  go_ret
  exact ⟨rfl, HB.out⟩

/-- may a table be. -/
def mayWB (ls : List LR) (rs : List WR) (top : Int) : Bool := mayB ls && ((decide (0 ≤ top) && decide (top ≤ 60000)) && (decide (rs.length ≤ 64) && (riseWB rs && !rs.any fun x => !mayRowB ls rs x)))

/-- the table in a box, and the closure upon it in another. -/
abbrev boxMay (w : World) (lp : Option Addr) (ln lc : Nat) (rp : Option Addr) (rn rc : Nat) (top : Int) (sh : Bool) : World :=
  w.alloc (.cells #[.slice lp ln lc, .slice rp rn rc, .int .i64 top, .bool sh] 25)

set_option maxHeartbeats 4000000 in
set_option maxRecDepth 100000 in
theorem mayW_walk (lp : Option Addr) (ln lc : Nat) (rp : Option Addr) (rn rc : Nat) (top : Int) (sh : Bool) (bl br ba : Bool) (W : World)
    (h1 : Hid (∀ w, Below W.heap.size W w → Calls Tryz.prog 47 #[.slice lp ln lc] w fun e w' => e = .returned (.bool bl) ∧ Below w.heap.size w w'))
    (h2 : Hid (∀ w, Below W.heap.size W w → Calls Tryz.prog 49 #[.slice rp rn rc] w fun e w' => e = .returned (.bool br) ∧ Below w.heap.size w w'))
    (h3 : Hid (bl = true → br = true → ∀ w, Below (W.heap.size + 1) (boxMay W lp ln lc rp rn rc top sh) w → Calls Tryz.prog 50 #[.slice rp rn rc, .func (.func 45) #[] #[.pointer (some ⟨W.heap.size, 0, none⟩)]] w fun e w' => e = .returned (.bool ba) ∧ Below w.heap.size w w')) :
    Calls Tryz.prog 29 #[.agg #[.slice lp ln lc, .slice rp rn rc, .int .i64 top, .bool sh]] W fun e w' => e = .returned (.bool (bl && ((decide (0 ≤ top) && decide (top ≤ 60000)) && (decide (rn ≤ 64) && (br && !ba))))) ∧ Below W.heap.size W w' := by
  obtain ⟨bv, hbv⟩ : ∃ bv, (bl && ((decide (0 ≤ top) && decide (top ≤ 60000)) && (decide (rn ≤ 64) && (br && !ba)))) = bv := ⟨_, rfl⟩
  rw [hbv]
  have HV := Lib.hid hbv; clear hbv
  obtain ⟨wb, hwb⟩ : ∃ wb, wb = boxMay W lp ln lc rp rn rc top sh := ⟨_, rfl⟩
  rw [← hwb] at h3
  have hb0 := Lib.hid (show Below W.heap.size W wb from hwb ▸ (Below.refl _ _).alloc (Nat.le_refl _) _)
  have hs0 : wb.heap.size = W.heap.size + 1 := by rw [hwb]; simp
  have C1 := Lib.hid (show wb.cell? ⟨W.heap.size, 1, none⟩ = some (.slice rp rn rc) by rw [hwb]; simp [boxMay])
  have C2 := Lib.hid (show wb.cell? ⟨W.heap.size, 2, none⟩ = some (.int .i64 top) by rw [hwb]; simp [boxMay])
  have HW := Lib.hid hwb; clear hwb
  have H0 := Lib.hid hs0; clear hs0
  have h1' := Lib.hid (h1.out wb hb0.out)
  go_enter Tryz.func29, Tryz.ntmps29
  go_wp2_with fail
  rw [show W.alloc _ = wb from HW.out.symm]
  refine h1'.out.mono ?_
  rintro e w1 ⟨rfl, hb1⟩
  have hs1 := hb1.size
  rw [H0.out] at hs1
  have c1 : w1.cell? ⟨W.heap.size, 1, none⟩ = some (.slice rp rn rc) := by rw [hb1.cell (p := ⟨W.heap.size, 1, none⟩) (by rw [H0.out]; show W.heap.size < _; omega)]; exact C1.out
  have c2 : w1.cell? ⟨W.heap.size, 2, none⟩ = some (.int .i64 top) := by rw [hb1.cell (p := ⟨W.heap.size, 2, none⟩) (by rw [H0.out]; show W.heap.size < _; omega)]; exact C2.out
  have HB1 := Lib.hid (hb0.out.trans (hb1.mono hb0.out.size))
  have HC1 := Lib.hid (hb1.mono (show W.heap.size + 1 ≤ wb.heap.size by rw [H0.out]; exact Nat.le_refl _))
  clear hb1 h1 h1'
  cases bl with
  | false =>
    have e0 := Lib.hid (show bv = false by rw [← HV.out]; simp)
    go_wp2_with fail
    go_ret
    exact ⟨by rw [e0.out]; rfl, HB1.out⟩
  | true =>
    have hwi := Lib.hid (within_any top 60000)
    by_cases ht : 0 ≤ top ∧ top ≤ 60000
    · rw [decide_eq_true ht.1, decide_eq_true ht.2] at hwi
      have HT := Lib.hid ht; clear ht
      by_cases hn : rn ≤ 64
      · have hnz : (rn : Int) ≤ 64 := by omega
        have HN := Lib.hid hn; clear hn
        have h2' := Lib.hid (h2.out w1 HB1.out)
        go_wp2_with fail
        refine (hwi.out _).mono ?_
        rintro e w' ⟨rfl, rfl⟩
        go_wp2_with fail
        refine h2'.out.mono ?_
        rintro e w2 ⟨rfl, hb2⟩
        have hs2 := hb2.size
        have c1' : w2.cell? ⟨W.heap.size, 1, none⟩ = some (.slice rp rn rc) := by rw [hb2.cell (p := ⟨W.heap.size, 1, none⟩) (by show W.heap.size < _; omega)]; exact c1
        have HB2 := Lib.hid (HB1.out.trans (hb2.mono HB1.out.size))
        have HC2 := Lib.hid (HC1.out.trans (hb2.mono (by omega)))
        clear hb2 c1 c2 h2 h2'
        cases br with
        | false =>
          have e0 := Lib.hid (show bv = false by rw [← HV.out]; simp)
          go_wp2_with fail
          go_ret
          exact ⟨by rw [e0.out]; rfl, HB2.out⟩
        | true =>
          have h3' := Lib.hid (h3.out (by simp) (by simp) w2 HC2.out)
          clear h3
          have e0 := Lib.hid (show bv = !ba by rw [← HV.out]; simp [HT.out.1, HT.out.2, HN.out])
          go_wp2_with fail
          refine h3'.out.mono ?_
          rintro e w3 ⟨rfl, hb3⟩
          have HB3 := Lib.hid (HB2.out.trans (hb3.mono HB2.out.size))
          clear hb3
          go_wp2_with fail
          go_ret
          exact ⟨by rw [e0.out]; rfl, HB3.out⟩
      · have hnz : decide ((rn : Int) ≤ 64) = false := decide_eq_false (by omega)
        have e0 := Lib.hid (show bv = false by rw [← HV.out]; simp [hn])
        clear hn h2 h3
        go_wp2_with fail
        refine (hwi.out _).mono ?_
        rintro e w' ⟨rfl, rfl⟩
        go_wp2_with fail
        go_ret
        exact ⟨by rw [e0.out]; rfl, HB1.out⟩
    · have hd : (decide (0 ≤ top) && decide (top ≤ 60000)) = false := by rw [← Bool.not_eq_true, Bool.and_eq_true, decide_eq_true_eq, decide_eq_true_eq]; exact ht
      rw [hd] at hwi
      have e0 := Lib.hid (show bv = false by rw [← HV.out, hd]; rfl)
      clear hd ht h2 h3
      go_wp2_with fail
      refine (hwi.out _).mono ?_
      rintro e w' ⟨rfl, rfl⟩
      go_wp2_with fail
      go_ret
      exact ⟨by rw [e0.out]; rfl, HB1.out⟩

set_option maxRecDepth 100000 in
theorem mayW_any (T : TB) (W : World) (hT : TableAt W T) :
    Calls Tryz.prog 29 #[.agg #[.slice T.lp T.ls.length T.lc, .slice T.rp T.rs.length T.rc, .int .i64 T.top, .bool T.sh]] W fun e w' => e = .returned (.bool (mayWB T.ls T.rs T.top)) ∧ Below W.heap.size W w' := by
  unfold mayWB
  refine mayW_walk _ _ _ _ _ _ _ _ _ _ _ W (Lib.hid fun w hb => may_any T.ls T.lp T.lc w (hT.lore.below hb) hT.few.1) (Lib.hid fun w hb => riseW_any T.rs T.rp T.rc w (hT.rows.below hb) hT.few.2.1 fun x hx => (hT.few.2.2 x hx).1) (Lib.hid fun hl hr w hb => ?_)
  have hb0 : Below W.heap.size W w := ((Below.refl W.heap.size W).alloc (Nat.le_refl _) _).trans (hb.mono (Nat.le_succ _))
  have hsz := hb.size
  simp only [boxMay, World.size_alloc] at hsz
  refine containsWrs 45 #[.pointer (some ⟨W.heap.size, 0, none⟩)] egMR (fun x => !mayRowB T.ls T.rs x) T.rp T.rc T.rs w (hT.rows.below hb0) (by have := hT.few.2.1; omega) fun x w1 hb1 hx hxm => ?_
  have hb01 := hb0.trans (hb1.mono hb0.size)
  have hf := hT.few.2.2 x hxm
  have cell : ∀ o, w1.cell? ⟨W.heap.size, o, none⟩ = (boxMay W T.lp T.ls.length T.lc T.rp T.rs.length T.rc T.top T.sh).cell? ⟨W.heap.size, o, none⟩ := fun o => by
    rw [hb1.cell (p := ⟨W.heap.size, o, none⟩) (by show W.heap.size < _; omega), hb.cell (p := ⟨W.heap.size, o, none⟩) (by simp)]
  exact (may1_any T hl ((riseWB_iff T.rs).1 hr) x W.heap.size w1 (hT.below hb01) hx hf.1 hf.2 (by have := hb1.size; omega) (by rw [cell]; simp [boxMay]) (by rw [cell]; simp [boxMay]) (by rw [cell]; simp [boxMay]) (by rw [cell]; simp [boxMay])).mono fun _ _ h => ⟨h.1, hb1.trans (h.2.mono hb1.size)⟩
end Go.Proofs.YticjgmhgpeihjaaGreatDoor
