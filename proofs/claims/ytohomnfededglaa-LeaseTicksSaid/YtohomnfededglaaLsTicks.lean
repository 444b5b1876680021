/-
  Layer lease: the walk of LeaseTicks.
-/
import Derived.Test.YtohomnfededglaaLsAwake
import Derived.Tactics2
import Derived.LoopTactic
import Derived.Deep.LoopGhost
namespace Go.Proofs.Ytohomnfededglaa
open Go.RowKit Go.Gz

/-- how many ticks of s to s + f are below n. -/
def manyZ (s f n : Int) : Int := if n ≤ s then 0 else if s + f ≤ n then f else n - s

set_option maxHeartbeats 4000000 in
theorem ticks_any (s f e : Int) (h0 : 0 ≤ s) (h1 : s ≤ 65535) (h2 : 1 ≤ f) (h3 : f ≤ 256) (h4 : 1 ≤ e) (_ : e ≤ 256) (w : World) : Calls Try.prog 21 #[.int .i64 s, .int .i64 f, .int .i64 e] w fun e w' => e = .returned (.bool true) ∧ Below w.heap.size w w' := by
  obtain ⟨w0, hw0⟩ : ∃ w0, w.alloc (.cells #[.int .i64 e, .int .i64 s, .int .i64 f] 26) = w0 := ⟨_, rfl⟩
  have HB0 := Lib.hid (show Below w.heap.size w w0 from hw0 ▸ below_new _ _)
  have HN := Lib.hid (show BoxZ w0 w.heap.size ⟨e, s, f⟩ from hw0 ▸ BoxZ.new w ⟨e, s, f⟩ _)
  have HM := Lib.hid (show mayZ ⟨e, s, f⟩ = true from (mayZ_iff _).2 ⟨h4, h0, by simp only; omega, h2, by simp only; omega⟩)
  have CA := Lib.hid (fun w => awake_yes w)
  have CH := Lib.hid (fun n w => holds_any ⟨e, s, f⟩ n w)
  have CL := Lib.hid (fun n w => left_any ⟨e, s, f⟩ n w)
  have CS := Lib.hid (fun n w => safe_any ⟨e, s, f⟩ n 2 w)
  have EH := Lib.hid (show ∀ n, holdsZ ⟨e, s, f⟩ n = decide (s ≤ n ∧ n < s + f) from fun n => by unfold holdsZ; rw [HM.out]; rfl)
  have EL := Lib.hid (show ∀ n, leftZ ⟨e, s, f⟩ n = if s ≤ n ∧ n < s + f then s + f - n else 0 from fun n => by unfold leftZ; rw [EH.out]; simp)
  have ES := Lib.hid (show ∀ n, safeZ ⟨e, s, f⟩ n 2 = decide (s + f + 2 ≤ n) from fun n => by unfold safeZ; rw [HM.out]; simp [clampZ])
  unfold Lz.val at *
  go_enter Try.func21, Try.ntmps21
  go_wp2_with fail
  go_loopg [8, 9] (f + 6).toNat (fun gg s8 s9 wr => ∃ m n : Int, s8 = .int .i64 m ∧ s9 = .int .i64 n ∧ s - 3 ≤ n ∧ n ≤ s + f + 3 ∧ (s + f + 3 - n).toNat ≤ gg ∧ Hid (m = manyZ s f n) ∧ Hid (Below w0.heap.size w0 wr))
  case atStart => exact ⟨0, s - 3, rfl, by go_num, by omega, by omega, by omega, Lib.hid (by unfold manyZ; rw [if_pos (by omega)]), Lib.hid (Below.refl _ w0)⟩
  case round =>
    obtain ⟨m, n, rfl, rfl, hn0, hn1, hg, hm, BW⟩ := hrel
    obtain ⟨_, x0, x1, x2⟩ := HN.out.below BW.out
    simp only at x0 x1 x2
    have HM0 := hm
    clear hm
    by_cases hlt : n < s + f + 3
    · by_cases hin : s ≤ n ∧ n < s + f
      · obtain ⟨hi1, hi2⟩ := hin
        have hmb := HM0.out
        unfold manyZ at hmb
        have hm0 : 0 ≤ m ∧ m ≤ 256 := by repeat' (split at hmb)
                                         all_goals omega
        clear hmb
        have c1 := Lib.hid (fun w => CH.out n w)
        have c2 := Lib.hid (fun w => CL.out n w)
        have c3 := Lib.hid (fun w => CS.out n w)
        rw [EH.out, show decide (s ≤ n ∧ n < s + f) = true by simp; omega] at c1
        rw [EL.out, if_pos ⟨hi1, hi2⟩] at c2
        rw [ES.out, show decide (s + f + 2 ≤ n) = false by simp; omega] at c3
        go_wp2_with fail
        refine (c1.out _).mono ?_
        rintro e1 w1 ⟨rfl, hb1⟩
        have H1 := Lib.hid (BW.out.trans (hb1.mono BW.out.size))
        clear hb1 x0 x1 x2
        obtain ⟨_, x0, x1, x2⟩ := HN.out.below H1.out
        simp only at x0 x1 x2
        go_wp2_with fail
        refine (c2.out _).mono ?_
        rintro e2 w2 ⟨rfl, hb2⟩
        have H2 := Lib.hid (H1.out.trans (hb2.mono H1.out.size))
        clear hb2 x0 x1 x2
        obtain ⟨_, x0, x1, x2⟩ := HN.out.below H2.out
        simp only at x0 x1 x2
        go_wp2_with fail
        refine (c3.out _).mono ?_
        rintro e3 w3 ⟨rfl, hb3⟩
        have H3 := Lib.hid (H2.out.trans (hb3.mono H2.out.size))
        clear hb3 x0 x1 x2
        obtain ⟨_, x0, x1, x2⟩ := HN.out.below H3.out
        simp only at x0 x1 x2
        go_wp2_with fail
        go_roundg (s + f + 3 - (n + 1)).toNat
        case measure => omega
        case rel =>
          refine ⟨_, n + 1, rfl, by go_num, by omega, by omega, by omega, Lib.hid ?_, H3⟩
          have hq := HM0.out
          unfold manyZ at hq ⊢
          repeat' split
          all_goals (try unfold wrap64)
          all_goals (repeat' (split at hq))
          all_goals omega
      · have hni := Lib.hid hin
        by_cases hsf : s + f + 2 ≤ n
        · have hx1 : s + f ≤ n := by omega
          clear hin
          have c1 := Lib.hid (fun w => CH.out n w)
          have c2 := Lib.hid (fun w => CL.out n w)
          have c3 := Lib.hid (fun w => CS.out n w)
          rw [EH.out, show decide (s ≤ n ∧ n < s + f) = false from decide_eq_false hni.out] at c1
          rw [EL.out, if_neg hni.out] at c2
          rw [ES.out, show decide (s + f + 2 ≤ n) = true by simp; omega] at c3
          go_wp2_with fail
          refine (c1.out _).mono ?_
          rintro e1 w1 ⟨rfl, hb1⟩
          have H1 := Lib.hid (BW.out.trans (hb1.mono BW.out.size))
          clear hb1 x0 x1 x2
          obtain ⟨_, x0, x1, x2⟩ := HN.out.below H1.out
          simp only at x0 x1 x2
          go_wp2_with fail
          refine (c2.out _).mono ?_
          rintro e2 w2 ⟨rfl, hb2⟩
          have H2 := Lib.hid (H1.out.trans (hb2.mono H1.out.size))
          clear hb2 x0 x1 x2
          obtain ⟨_, x0, x1, x2⟩ := HN.out.below H2.out
          simp only at x0 x1 x2
          go_wp2_with fail
          refine (c3.out _).mono ?_
          rintro e3 w3 ⟨rfl, hb3⟩
          have H3 := Lib.hid (H2.out.trans (hb3.mono H2.out.size))
          clear hb3 x0 x1 x2
          obtain ⟨_, x0, x1, x2⟩ := HN.out.below H3.out
          simp only at x0 x1 x2
          go_wp2_with fail
          go_roundg (s + f + 3 - (n + 1)).toNat
          case measure => omega
          case rel =>
            refine ⟨_, n + 1, rfl, by go_num, by omega, by omega, by omega, Lib.hid ?_, H3⟩
            have hq := HM0.out
            have hni' := hni.out
            unfold manyZ at hq ⊢
            repeat' split
            all_goals (try unfold wrap64)
            all_goals (repeat' (split at hq))
            all_goals omega
        · clear hin
          have c1 := Lib.hid (fun w => CH.out n w)
          have c2 := Lib.hid (fun w => CL.out n w)
          have c3 := Lib.hid (fun w => CS.out n w)
          rw [EH.out, show decide (s ≤ n ∧ n < s + f) = false from decide_eq_false hni.out] at c1
          rw [EL.out, if_neg hni.out] at c2
          rw [ES.out, show decide (s + f + 2 ≤ n) = false by simp; omega] at c3
          go_wp2_with fail
          refine (c1.out _).mono ?_
          rintro e1 w1 ⟨rfl, hb1⟩
          have H1 := Lib.hid (BW.out.trans (hb1.mono BW.out.size))
          clear hb1 x0 x1 x2
          obtain ⟨_, x0, x1, x2⟩ := HN.out.below H1.out
          simp only at x0 x1 x2
          go_wp2_with fail
          refine (c2.out _).mono ?_
          rintro e2 w2 ⟨rfl, hb2⟩
          have H2 := Lib.hid (H1.out.trans (hb2.mono H1.out.size))
          clear hb2 x0 x1 x2
          obtain ⟨_, x0, x1, x2⟩ := HN.out.below H2.out
          simp only at x0 x1 x2
          go_wp2_with fail
          refine (c3.out _).mono ?_
          rintro e3 w3 ⟨rfl, hb3⟩
          have H3 := Lib.hid (H2.out.trans (hb3.mono H2.out.size))
          clear hb3 x0 x1 x2
          obtain ⟨_, x0, x1, x2⟩ := HN.out.below H3.out
          simp only at x0 x1 x2
          go_wp2_with fail
          go_roundg (s + f + 3 - (n + 1)).toNat
          case measure => omega
          case rel =>
            refine ⟨_, n + 1, rfl, by go_num, by omega, by omega, by omega, Lib.hid ?_, H3⟩
            have hq := HM0.out
            have hni' := hni.out
            unfold manyZ at hq ⊢
            repeat' split
            all_goals (try unfold wrap64)
            all_goals (repeat' (split at hq))
            all_goals omega
    · obtain rfl : n = s + f + 3 := by omega
      have hmf : m = f := by rw [HM0.out]; unfold manyZ; rw [if_neg (by omega), if_pos (by omega)]
      subst hmf
      go_wp2_with fail
      refine (CA.out _).mono ?_
      rintro e1 w1 ⟨rfl, hb1⟩
      have H1 := Lib.hid (BW.out.trans (hb1.mono BW.out.size))
      clear hb1
      go_wp2_with fail
      go_ret
      exact ⟨rfl, HB0.out.trans (H1.out.mono HB0.out.size)⟩

theorem ticks_walk (s f e : Int) (w : World) (hs : (Lit.int .u16 s).wf = true) (hf : (Lit.int .u8 f).wf = true) (he : (Lit.int .u8 e).wf = true) : Calls Try.prog 6 #[.int .u16 s, .int .u8 f, .int .u8 e] w fun e w' => e = .returned (.bool true) ∧ Below w.heap.size w w' := by
  have e1 : IntKind.u16.min = 0 := by decide
  have e2 : IntKind.u16.max = 65535 := by decide
  have e3 : IntKind.u8.min = 0 := by decide
  have e4 : IntKind.u8.max = 255 := by decide
  simp only [Lit.wf, Bool.and_eq_true, decide_eq_true_eq, e1, e2, e3, e4] at hs hf he
  obtain ⟨s1, s2⟩ := hs
  obtain ⟨f1, f2⟩ := hf
  obtain ⟨g1, g2⟩ := he
  have CA := Lib.hid (fun w => awake_yes w)
  have CT := Lib.hid (fun w => ticks_any s (1 + f) (1 + e) s1 s2 (by omega) (by omega) (by omega) (by omega) w)
  clear e1 e2 e3 e4
  go_enter Try.func6, Try.ntmps6
  go_wp2_with fail
  refine (CA.out _).mono ?_
  rintro e1 w1 ⟨rfl, hb1⟩
  have H1 := Lib.hid hb1
  clear hb1
  go_wp2_with fail
  refine (CT.out _).mono ?_
  rintro e2 w2 ⟨rfl, hb2⟩
  have H2 := Lib.hid (H1.out.trans (hb2.mono H1.out.size))
  clear hb2
  go_wp2_with fail
  go_ret
  exact ⟨rfl, H2.out⟩
end Go.Proofs.Ytohomnfededglaa
