/-
  Layer lease: the generic comparison, Later, and the reference's.
-/
import Derived.Test.YtohomnfededglaaLsBase
import Derived.BigQuiet
import Derived.Tactics2
import Derived.LoopTactic
import Derived.Deep.LoopGhost
namespace Go.Proofs.Ytohomnfededglaa
open Go.RowKit Go.Gz

def cmpI (a b : Int) : Int := if a < b then -1 else if b < a then 1 else 0
theorem isNaN_any (a : Int) (w : World) : Calls Try.prog 28 #[.int .i64 a] w fun e w' => e = .returned (.bool false) ∧ w = w' := by
  go_enter Try.func28, Try.ntmps28
  go_wp2_with fail
  go_ret
  simp
theorem cmpInt_any (a b : Int) (w : World) : Calls Try.prog 27 #[.int .i64 a, .int .i64 b] w fun e w' => e = .returned (.int .i64 (cmpI a b)) ∧ Below w.heap.size w w' := by
  have C1 := Lib.hid (fun w => isNaN_any a w)
  have C2 := Lib.hid (fun w => isNaN_any b w)
  have HX := Lib.hid (show ∀ r, (a < b → r = -1) → (¬ a < b → b < a → r = 1) → (¬ a < b → ¬ b < a → r = 0) → cmpI a b = r from fun r h1 h2 h3 => by
    unfold cmpI; split
    · exact (h1 ‹_›).symm
    · split
      · exact (h2 ‹_› ‹_›).symm
      · exact (h3 ‹_› ‹_›).symm)
  go_enter Try.func27, Try.ntmps27
  go_wp2_with fail
  refine (C1.out _).mono ?_
  rintro e w1 ⟨rfl, rfl⟩
  go_wp2_with fail
  refine (C2.out _).mono ?_
  rintro e w1 ⟨rfl, rfl⟩
  go_wp2_with fail
  all_goals
    go_ret
    refine ⟨?_, Below.refl _ _⟩
    refine congrArg (fun b => Ending.returned (Value.int .i64 b)) (HX.out _ ?_ ?_ ?_).symm
    all_goals (intros; first | rfl | omega)
/-- a row of the two things. -/
def ThingsZ (W : World) (p : Addr) : Prop := ∃ b, p = ⟨b, 0, none⟩ ∧ b < W.heap.size ∧ W.cell? ⟨b, 0, none⟩ = some (.func (.func 24) #[] #[]) ∧ W.cell? ⟨b, 1, none⟩ = some (.func (.func 25) #[] #[])
def cmpZ (a b : Lz) : Int := if a.e = b.e then cmpI (a.s + a.f) (b.s + b.f) else cmpI a.e b.e
theorem cmpI_zero (a b : Int) : cmpI a b = 0 ↔ a = b := by
  unfold cmpI; split
  · simp; omega
  · split
    · simp; omega
    · simp; omega
theorem cmpZ_lt (a b : Lz) : decide (cmpZ a b < 0) = beforeZ a b := by
  unfold cmpZ beforeZ cmpI
  refine decide_eq_decide.2 ?_
  repeat' split
  all_goals omega

set_option maxHeartbeats 1000000 in
theorem compare_any (a b : Lz) (ha : mayZ a = true) (hb : mayZ b = true) (p : Addr) (c : Nat) (w : World) (hT : ThingsZ w p) : Calls Try.prog 23 #[a.val, b.val, .slice (some p) 2 c] w fun e w' => e = .returned (.int .i64 (cmpZ a b)) ∧ Below w.heap.size w w' := by
  have mx : Try.prog.follows .mixedOrders = true := by kernel_rfl
  obtain ⟨pb, rfl, hpb, hp0, hp1⟩ := hT
  obtain ⟨w0, hw0⟩ : ∃ w0, (w.alloc (.cells #[.int .i64 a.e, .int .i64 a.s, .int .i64 a.f] 26)).alloc (.cells #[.int .i64 b.e, .int .i64 b.s, .int .i64 b.f] 26) = w0 := ⟨_, rfl⟩
  have hb0 : Below w.heap.size w w0 := hw0 ▸ ((Below.refl _ _).alloc (Nat.le_refl _) _).alloc (by simp) _
  have NA : BoxZ w0 w.heap.size a := hw0 ▸ (BoxZ.new w a _).below (below_new _ _)
  have NB : BoxZ w0 (w.heap.size + 1) b := by
    have := BoxZ.new (w.alloc (.cells #[.int .i64 a.e, .int .i64 a.s, .int .i64 a.f] 26)) b 26
    rw [hw0] at this
    simpa using this
  have hq0 : w0.cell? ⟨pb, 0, none⟩ = some (.func (.func 24) #[] #[]) := by rw [hb0.cell (p := ⟨pb, 0, none⟩) hpb]; exact hp0
  have hq1 : w0.cell? ⟨pb, 1, none⟩ = some (.func (.func 25) #[] #[]) := by rw [hb0.cell (p := ⟨pb, 1, none⟩) hpb]; exact hp1
  have hpb0 : pb < w0.heap.size := Nat.lt_of_lt_of_le hpb hb0.size
  have HQ := Lib.hid (And.intro hq0 hq1)
  have HB0 := Lib.hid hb0
  have HNA := Lib.hid NA
  have HNB := Lib.hid NB
  have HM := Lib.hid (And.intro ha hb)
  have HX := Lib.hid (show a.e = b.e → cmpZ a b = cmpI (a.s + a.f) (b.s + b.f) from fun h => by unfold cmpZ; rw [if_pos h])
  have HY := Lib.hid (show cmpI a.e b.e ≠ 0 → cmpZ a b = cmpI a.e b.e from fun h => by unfold cmpZ; rw [if_neg (fun e => h ((cmpI_zero _ _).2 e))])
  clear hp0 hp1 hq0 hq1 hb0 NA NB ha hb hpb
  unfold Lz.val
  go_enter Try.func23, Try.ntmps23
  go_wp2_with fail
  go_loopg [8, 9, 12] 2 (fun gg _ _ s12 wr => ∃ kk : Nat, kk ≤ 2 ∧ 2 - kk ≤ gg ∧ s12 = .int .i64 kk ∧ Hid (Below w0.heap.size w0 wr) ∧ Hid (1 ≤ kk → a.e = b.e) ∧ Hid (2 ≤ kk → a.s + a.f = b.s + b.f))
  case atStart => exact ⟨0, Nat.zero_le _, by omega, rfl, Lib.hid (Below.refl _ w0), Lib.hid (fun h => by omega), Lib.hid (fun h => by omega)⟩
  case round =>
    obtain ⟨kk, hkk, hg, rfl, BW, A1, A2⟩ := hrel
    have hc0 := (BW.out.cell (p := ⟨pb, 0, none⟩) hpb0).trans HQ.out.1
    have hc1 := (BW.out.cell (p := ⟨pb, 1, none⟩) hpb0).trans HQ.out.2
    obtain ⟨k1, xa0, xa1, xa2⟩ := HNA.out.below BW.out
    obtain ⟨k2, xb0, xb1, xb2⟩ := HNB.out.below BW.out
    rcases (show kk = 0 ∨ kk = 1 ∨ kk = 2 by omega) with rfl | rfl | rfl
    · have HA := Lib.hid (fun pw : BelowOf wr => Calls.below_of pw (epoch_any a pw.w'))
      have HB := Lib.hid (fun pw : BelowOf wr => Calls.below_of pw (epoch_any b pw.w'))
      have HC := Lib.hid (fun pw : BelowOf wr => Calls.below_of pw (cmpInt_any (a.e) (b.e) pw.w'))
      obtain ⟨r, hr⟩ : ∃ r, cmpI (a.e) (b.e) = r := ⟨_, rfl⟩
      rw [hr] at HC
      have HR := Lib.hid hr
      unfold Lz.val at HA HB
      have f0 := fun pw : BelowOf wr => pw.cell (a := ⟨w.heap.size, 0, none⟩) k1 xa0
      have f1 := fun pw : BelowOf wr => pw.cell (a := ⟨w.heap.size, 1, none⟩) k1 xa1
      have f2 := fun pw : BelowOf wr => pw.cell (a := ⟨w.heap.size, 2, none⟩) k1 xa2
      have g0 := fun pw : BelowOf wr => pw.cell (a := ⟨w.heap.size + 1, 0, none⟩) k2 xb0
      have g1 := fun pw : BelowOf wr => pw.cell (a := ⟨w.heap.size + 1, 1, none⟩) k2 xb1
      have g2 := fun pw : BelowOf wr => pw.cell (a := ⟨w.heap.size + 1, 2, none⟩) k2 xb2
      clear hr
      go_wp2_with fail
      refine wp_region_quiet_below (by assumption) (by kernel_rfl) ?_
      repeat (go_big_quiet_step (first | (go_at_call 27; with_reducible exact HC.out _) | (with_reducible exact HA.out _) | (with_reducible exact HB.out _)))
      refine wpQuiet_nil ?_
      intro wq hw'
      obtain ⟨⟨wz, hbq⟩, hw''⟩ := hw'
      obtain rfl : wq = wz := hw''
      have HBQ := Lib.hid (BW.out.trans (hbq.mono BW.out.size))
      clear hbq HA HB HC f0 f1 f2 g0 g1 g2
      by_cases h0 : r = 0
      · go_wp2_with fail
        go_roundg (2 - 1)
        case measure => omega
        case rel =>
          exact ⟨1, by omega, by omega, by go_num, HBQ, Lib.hid fun _ => (cmpI_zero _ _).1 (HR.out.trans h0), Lib.hid fun h => by omega⟩
      · go_wp2_with fail
        go_ret
        refine ⟨?_, HB0.out.trans (HBQ.out.mono HB0.out.size)⟩
        rw [HY.out (by rw [HR.out]; exact h0), HR.out]
        rfl
    · have HA := Lib.hid (fun pw : BelowOf wr => Calls.below_of pw (end_any a HM.out.1 pw.w'))
      have HB := Lib.hid (fun pw : BelowOf wr => Calls.below_of pw (end_any b HM.out.2 pw.w'))
      have HC := Lib.hid (fun pw : BelowOf wr => Calls.below_of pw (cmpInt_any (a.s + a.f) (b.s + b.f) pw.w'))
      obtain ⟨r, hr⟩ : ∃ r, cmpI (a.s + a.f) (b.s + b.f) = r := ⟨_, rfl⟩
      rw [hr] at HC
      have HR := Lib.hid hr
      unfold Lz.val at HA HB
      have f0 := fun pw : BelowOf wr => pw.cell (a := ⟨w.heap.size, 0, none⟩) k1 xa0
      have f1 := fun pw : BelowOf wr => pw.cell (a := ⟨w.heap.size, 1, none⟩) k1 xa1
      have f2 := fun pw : BelowOf wr => pw.cell (a := ⟨w.heap.size, 2, none⟩) k1 xa2
      have g0 := fun pw : BelowOf wr => pw.cell (a := ⟨w.heap.size + 1, 0, none⟩) k2 xb0
      have g1 := fun pw : BelowOf wr => pw.cell (a := ⟨w.heap.size + 1, 1, none⟩) k2 xb1
      have g2 := fun pw : BelowOf wr => pw.cell (a := ⟨w.heap.size + 1, 2, none⟩) k2 xb2
      clear hr
      go_wp2_with fail
      refine wp_region_quiet_below (by assumption) (by kernel_rfl) ?_
      repeat (go_big_quiet_step (first | (go_at_call 27; with_reducible exact HC.out _) | (with_reducible exact HA.out _) | (with_reducible exact HB.out _)))
      refine wpQuiet_nil ?_
      intro wq hw'
      obtain ⟨⟨wz, hbq⟩, hw''⟩ := hw'
      obtain rfl : wq = wz := hw''
      have HBQ := Lib.hid (BW.out.trans (hbq.mono BW.out.size))
      clear hbq HA HB HC f0 f1 f2 g0 g1 g2
      by_cases h0 : r = 0
      · go_wp2_with fail
        go_roundg (2 - 2)
        case measure => omega
        case rel =>
          exact ⟨2, by omega, by omega, by go_num, HBQ, Lib.hid fun _ => A1.out (by omega), Lib.hid fun _ => (cmpI_zero _ _).1 (HR.out.trans h0)⟩
      · go_wp2_with fail
        go_ret
        refine ⟨?_, HB0.out.trans (HBQ.out.mono HB0.out.size)⟩
        rw [HX.out (A1.out (by omega)), HR.out]
        rfl
    · go_wp2_with fail
      go_ret
      refine ⟨?_, HB0.out.trans (BW.out.mono HB0.out.size)⟩
      rw [HX.out (A1.out (by omega)), (cmpI_zero _ _).2 (A2.out (by omega))]
      rfl
end Go.Proofs.Ytohomnfededglaa
