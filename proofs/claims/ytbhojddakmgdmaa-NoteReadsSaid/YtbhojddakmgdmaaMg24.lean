/-
  Several texts in one: NtPack, NtRead, NtBack.
-/
import Derived.Test.YtbhojddakmgdmaaNtFits1
import Derived.Test.YtbhojddakmgdmaaNtFits2
import Derived.Test.YtbhojddakmgdmaaNtFits3
import Derived.Test.YtbhojddakmgdmaaMg23
namespace Go.Proofs.Ytbhojddakmgdmaa
open Go.RowKit Go.Gz

theorem ntfrom_any (a b c : Int) (w : World) : Calls Try.prog 48 #[.int .i64 a, .int .i64 b, .int .i64 c] w fun e w' => e = .returned (.bool (decide (a ≤ b ∧ b ≤ c))) ∧ w = w' := by
  by_cases h1 : a ≤ b
  · by_cases h2 : b ≤ c
    · have e : decide (a ≤ b ∧ b ≤ c) = true := by simp [h1, h2]
      rw [e]
      go_enter Try.func48, Try.ntmps48
      go_wp2_with fail
      go_ret
      exact ⟨by simp, rfl⟩
    · have e : decide (a ≤ b ∧ b ≤ c) = false := by simp [h2]
      rw [e]
      have h2b : decide (b ≤ c) = false := by simp [h2]
      clear h2
      go_enter Try.func48, Try.ntmps48
      go_wp2_with fail
      go_ret
      exact ⟨rfl, rfl⟩
  · have e : decide (a ≤ b ∧ b ≤ c) = false := by simp [h1]
    rw [e]
    go_enter Try.func48, Try.ntmps48
    go_wp2_with fail
    go_ret
    exact ⟨rfl, rfl⟩

/-- is a number a party's? -/
def partyB (n : Int) : Bool := decide (n = 0 ∨ (1 ≤ n ∧ n ≤ 5) ∨ (100 ≤ n ∧ n ≤ 103))
theorem isParty_any (n : Int) (w : World) : Calls Try.prog 19 #[.int .i64 n] w fun e w' => e = .returned (.bool (partyB n)) ∧ w = w' := by
  have C1 := Lib.hid (ntfrom_any 1 n 5)
  have C2 := Lib.hid (ntfrom_any 100 n 103)
  obtain ⟨q1, hq1⟩ : ∃ q, decide (1 ≤ n ∧ n ≤ 5) = q := ⟨_, rfl⟩
  obtain ⟨q2, hq2⟩ : ∃ q, decide (100 ≤ n ∧ n ≤ 103) = q := ⟨_, rfl⟩
  rw [hq1] at C1
  rw [hq2] at C2
  have HE := Lib.hid (show partyB n = (decide (n = 0) || (q1 || q2)) by
    rw [← hq1, ← hq2]; unfold partyB
    rw [Bool.eq_iff_iff]; simp only [Bool.or_eq_true, decide_eq_true_eq])
  rw [HE.out]
  clear hq1 hq2 HE
  by_cases h0 : n = 0
  · subst h0
    go_enter Try.func19, Try.ntmps19
    go_wp2_with fail
    go_ret
    exact ⟨rfl, rfl⟩
  · have h0b : (n == 0) = false := by simp [h0]
    have HF := Lib.hid (show ∀ b : Bool, b = (q1 || q2) → Ending.returned (Value.bool b) = .returned (.bool (decide (n = 0) || (q1 || q2))) from fun b hb => by rw [hb]; simp [h0])
    clear h0
    cases q1 with
    | true =>
      have HX := Lib.hid (HF.out true rfl)
      go_enter Try.func19, Try.ntmps19
      go_wp2_with fail
      refine (C1.out _).mono ?_
      rintro e w' ⟨rfl, rfl⟩
      go_wp2_with fail
      go_ret
      exact ⟨HX.out, rfl⟩
    | false =>
      have HX := Lib.hid (HF.out q2 rfl)
      go_enter Try.func19, Try.ntmps19
      go_wp2_with fail
      refine (C1.out _).mono ?_
      rintro e w' ⟨rfl, rfl⟩
      go_wp2_with fail
      refine (C2.out _).mono ?_
      rintro e w' ⟨rfl, rfl⟩
      go_wp2_with fail
      go_ret
      exact ⟨HX.out, rfl⟩

set_option maxHeartbeats 2000000 in
set_option maxRecDepth 100000 in
/-- fits, of no kind. -/
theorem fits_else (n : NtL) (P : NtP) (w : World) (h1 : n.kd ≠ 1) (h2 : n.kd ≠ 2) (h3 : n.kd ≠ 3) (h4 : n.kd ≠ 4) (h5 : n.kd ≠ 5) (h6 : n.kd ≠ 6) (h7 : n.kd ≠ 7) (h8 : n.kd ≠ 8) (h9 : n.kd ≠ 9) (h10 : n.kd ≠ 10) (h11 : n.kd ≠ 11) (h12 : n.kd ≠ 12) :
    Calls Try.prog 20 #[ntV n P] w fun e w' => e = .returned (.bool false) ∧ Below w.heap.size w w' := by
  unfold ntV
  obtain ⟨c, hc⟩ : ∃ c, (ntList n P).toArray = c := ⟨_, rfl⟩
  have hcs : c.size = 27 := by rw [← hc]; rfl
  have HSZ := Lib.hid (show (Try.prog.info? 44).map (·.size) = some c.size by rw [hcs]; exact info_note)
  have HONE := Lib.hid (show c.all (·.oneCell') = true by rw [← hc]; exact nt_one n P)
  have C0 := Lib.hid (show c[0]? = some (.int .i64 n.kd) by rw [← hc]; rfl)
  generalize n.kd = k at h1 h2 h3 h4 h5 h6 h7 h8 h9 h10 h11 h12 C0
  rw [hc]
  obtain ⟨W0, hW0⟩ : ∃ W0, w.alloc (.cells c 44) = W0 := ⟨_, rfl⟩
  obtain ⟨W1, hW1⟩ : ∃ W1, W0.alloc (.cells c 44) = W1 := ⟨_, rfl⟩
  have hb0 : Below w.heap.size w W0 := hW0 ▸ (Below.refl _ _).alloc (Nat.le_refl _) _
  have hz0 : W0.heap.size = w.heap.size + 1 := by rw [← hW0]; simp
  have hb1 : Below W0.heap.size W0 W1 := hW1 ▸ (Below.refl _ _).alloc (Nat.le_refl _) _
  have hk0 : W0.heap[w.heap.size]? = some (.cells c 44 (0, 0)) := hW0 ▸ new_block w _ _
  have hk1 : W1.heap[w.heap.size]? = some (.cells c 44 (0, 0)) := by rw [hb1.block _ (by omega)]; exact hk0
  have HST := Lib.hid (note_store W0 c (w.heap.size + 1) hz0 hcs)
  rw [hW1] at HST
  have HB := Lib.hid (hb0.trans (hb1.mono (by omega)))
  have HW0 := Lib.hid hW0
  have HZ0 := Lib.hid hz0
  have HK0 := Lib.hid hk0
  have t0 := (cell_at hk1 0).trans C0.out
  have g1 : (k == 1) = false := by simp [h1]
  have g2 : (k == 2) = false := by simp [h2]
  have g3 : (k == 3) = false := by simp [h3]
  have g4 : (k == 4) = false := by simp [h4]
  have g5 : (k == 5) = false := by simp [h5]
  have g6 : (k == 6) = false := by simp [h6]
  have g7 : (k == 7) = false := by simp [h7]
  have g8 : (k == 8) = false := by simp [h8]
  have g9 : (k == 9) = false := by simp [h9]
  have g10 : (k == 10) = false := by simp [h10]
  have g11 : (k == 11) = false := by simp [h11]
  have g12 : (k == 12) = false := by simp [h12]
  clear hc hcs hW0 hW1 hb0 hz0 hb1 hk0 hk1 h1 h2 h3 h4 h5 h6 h7 h8 h9 h10 h11 h12
  go_enter Try.func20, Try.ntmps20
  go_upto_region 1 with fail
  rw [HW0.out]
  have hzz := HZ0.out
  go_upto_region 2 with (first | (refine wpList_load_rowW (by simp [Region.wanted, yielded]) 44 (.tmp 1) rfl w.heap.size rfl 44 c (0, 0) _ HK0.out Try.underlying44 rfl HSZ.out ?_) | (with_reducible refine wpList_store_row rfl 44 (.tmp 3) (.tmp 4) rfl (w.heap.size + 1) c rfl rfl 44 noteZ HST.out.1 HSZ.out HST.out.2.1 HONE.out ?_))
  rw [HST.out.2.2]
  clear hzz
  go_wp2_with fail
  go_ret
  exact ⟨rfl, HB.out⟩
theorem fits_any (n : NtL) (P : NtP) (w : World) (hp : RowK KS w P.hp n.sh) (hl : n.sh.length ≤ 1000000) : Calls Try.prog 20 #[ntV n P] w fun e w' => e = .returned (.bool (fitsB n)) ∧ Below w.heap.size w w' := by
  unfold fitsB
  by_cases h1 : n.kd = 1
  · rw [if_pos h1]; exact fits_1 n P w h1
  rw [if_neg h1]
  by_cases h2 : n.kd = 2
  · rw [if_pos h2]; exact fits_2 n P w h2
  rw [if_neg h2]
  by_cases h3 : n.kd = 3
  · rw [if_pos h3]; exact fits_3 n P w h3
  rw [if_neg h3]
  by_cases h5 : n.kd = 5
  · rw [if_pos h5]; exact fits_5 n P w h5
  rw [if_neg h5]
  by_cases h6 : n.kd = 6
  · rw [if_pos h6]; exact fits_6 n P w h6 hp hl
  rw [if_neg h6]
  by_cases h4 : n.kd = 4
  · rw [if_pos h4]; exact fits_4 n P w h4 hp hl
  rw [if_neg h4]
  by_cases h8 : n.kd = 8
  · rw [if_pos (Or.inl h8)]; exact fits_8 n P w h8
  by_cases h9 : n.kd = 9
  · rw [if_pos (Or.inr h9)]; exact fits_9 n P w h9
  rw [if_neg (by omega)]
  by_cases h7 : n.kd = 7
  · rw [if_pos (by omega)]; exact fits_7 n P w h7
  by_cases h10 : n.kd = 10
  · rw [if_pos (by omega)]; exact fits_10 n P w h10
  by_cases h11 : n.kd = 11
  · rw [if_pos (by omega)]; exact fits_11 n P w h11
  by_cases h12 : n.kd = 12
  · rw [if_pos (by omega)]; exact fits_12 n P w h12
  rw [if_neg (by omega)]
  exact fits_else n P w h1 h2 h3 h4 h5 h6 h7 h8 h9 h10 h11 h12

/-- P16.1: the bytes of a note that may be; none of one that may not. -/
noncomputable def packN (n : NtL) : Option (List UInt8) := if partyB n.fr = true ∧ partyB n.to_ = true ∧ n.fr ≠ n.to_ ∧ fitsB n = true then layN n else none

set_option maxHeartbeats 2000000 in
set_option maxRecDepth 100000 in
theorem pack_n (n : NtL) (P : NtP) (w : World) (hin : NtIn w n P) (hsm : NtSm n) : Calls Try.prog 10 #[ntV n P] w (RetPk w.heap.size (packN n) w) := by
  have CF := Lib.hid (fun w1 (hb : Below w.heap.size w w1) => fits_any n P w1 (hin.sh.below hb) hsm.hl)
  have CL := Lib.hid (fun w1 (hb : Below w.heap.size w w1) => lay_n n P w1 (hin.below hb) hsm)
  have C1 := Lib.hid (fun w1 => isParty_any n.fr w1)
  have C2 := Lib.hid (fun w1 => isParty_any n.to_ w1)
  have HQ := Lib.hid (show ∀ S, S = (if partyB n.fr = true ∧ partyB n.to_ = true ∧ n.fr ≠ n.to_ ∧ fitsB n = true then layN n else none) → packN n = S from fun S h => h.symm)
  have HNO := Lib.hid (show ∀ w', Below w.heap.size w w' → RetPk w.heap.size none w (.returned (.tuple #[.slice none 0 0, .int .i64 1])) w' from fun w' hb => ⟨_, rfl, ⟨rfl, Or.inl ⟨rfl, rfl⟩⟩, hb⟩)
  generalize packN n = R at HQ ⊢
  unfold ntV at CF CL ⊢
  obtain ⟨c, hc⟩ : ∃ c, (ntList n P).toArray = c := ⟨_, rfl⟩
  have hcs : c.size = 27 := by rw [← hc]; rfl
  have HSZ := Lib.hid (show (Try.prog.info? 44).map (·.size) = some c.size by rw [hcs]; exact info_note)
  have X1 := Lib.hid (show c[1]? = some (.int .i64 n.fr) by rw [← hc]; rfl)
  have X2 := Lib.hid (show c[2]? = some (.int .i64 n.to_) by rw [← hc]; rfl)
  rw [hc] at CF CL ⊢
  obtain ⟨W0, hW0⟩ : ∃ W0, w.alloc (.cells c 44) = W0 := ⟨_, rfl⟩
  have hb0 : Below w.heap.size w W0 := hW0 ▸ (Below.refl _ _).alloc (Nat.le_refl _) _
  have HK0 := Lib.hid (show W0.heap[w.heap.size]? = some (.cells c 44 (0, 0)) from hW0 ▸ new_block w _ _)
  have HZ0 := Lib.hid (show W0.heap.size = w.heap.size + 1 by rw [← hW0]; simp)
  have HB0 := Lib.hid hb0
  have HW0 := Lib.hid hW0
  generalize n.fr = fr at C1 HQ X1
  generalize n.to_ = to_ at C2 HQ X2
  generalize layN n = L at HQ CL
  obtain ⟨b1, hb1⟩ : ∃ b, partyB fr = b := ⟨_, rfl⟩
  obtain ⟨b2, hb2⟩ : ∃ b, partyB to_ = b := ⟨_, rfl⟩
  obtain ⟨b3, hb3⟩ : ∃ b, fitsB n = b := ⟨_, rfl⟩
  rw [hb1] at C1 HQ
  rw [hb2] at C2 HQ
  rw [hb3] at CF HQ
  have k1 := (cell_at HK0.out 1).trans X1.out
  have k2 := (cell_at HK0.out 2).trans X2.out
  clear hc hcs hW0 hb0 hin hsm hb1 hb2 hb3
  cases b1 with
  | false =>
    obtain rfl : R = none := HQ.out none (by rw [if_neg (by simp)])
    go_enter Try.func10, Try.ntmps10
    go_upto_region 1 with fail
    rw [HW0.out]
    go_wp2_with fail
    refine (C1.out _).mono ?_
    rintro e w' ⟨rfl, rfl⟩
    have HX := Lib.hid (HNO.out _ HB0.out)
    go_wp2_with fail
    go_ret2
    exact HX.out
  | true =>
    cases b2 with
    | false =>
      obtain rfl : R = none := HQ.out none (by rw [if_neg (by simp)])
      go_enter Try.func10, Try.ntmps10
      go_upto_region 1 with fail
      rw [HW0.out]
      go_wp2_with fail
      refine (C1.out _).mono ?_
      rintro e w' ⟨rfl, rfl⟩
      go_wp2_with fail
      refine (C2.out _).mono ?_
      rintro e w' ⟨rfl, rfl⟩
      have HX := Lib.hid (HNO.out _ HB0.out)
      go_wp2_with fail
      go_ret2
      exact HX.out
    | true =>
      by_cases hft : fr = to_
      · obtain rfl : R = none := HQ.out none (by rw [if_neg (by simp [hft])])
        subst hft
        go_enter Try.func10, Try.ntmps10
        go_upto_region 1 with fail
        rw [HW0.out]
        go_wp2_with fail
        refine (C1.out _).mono ?_
        rintro e w' ⟨rfl, rfl⟩
        go_wp2_with fail
        refine (C2.out _).mono ?_
        rintro e w' ⟨rfl, rfl⟩
        have HX := Lib.hid (HNO.out _ HB0.out)
        go_wp2_with fail
        go_ret2
        exact HX.out
      · have hne : (fr == to_) = false := by simp [hft]
        have HFT := Lib.hid hft
        clear hft
        cases b3 with
        | false =>
          obtain rfl : R = none := HQ.out none (by rw [if_neg (by simp)])
          go_enter Try.func10, Try.ntmps10
          go_upto_region 1 with fail
          rw [HW0.out]
          go_wp2_with fail
          refine (C1.out _).mono ?_
          rintro e w' ⟨rfl, rfl⟩
          go_wp2_with fail
          refine (C2.out _).mono ?_
          rintro e w' ⟨rfl, rfl⟩
          have C3 := Lib.hid (CF.out _ HB0.out)
          have hhk := HK0.out
          go_wp2_with (refine wpList_load_rowW (by simp [Region.wanted, yielded]) 44 (.tmp 1) rfl w.heap.size rfl 44 c (0, 0) _ HK0.out Try.underlying44 rfl HSZ.out ?_)
          refine C3.out.mono ?_
          rintro e w3 ⟨rfl, hb3⟩
          have HX := Lib.hid (HNO.out _ (HB0.out.trans (hb3.mono HB0.out.size)))
          clear hb3
          go_wp2_with fail
          go_ret2
          exact HX.out
        | true =>
          obtain rfl : R = L := HQ.out L (by rw [if_pos ⟨rfl, rfl, HFT.out, rfl⟩])
          go_enter Try.func10, Try.ntmps10
          go_upto_region 1 with fail
          rw [HW0.out]
          go_wp2_with fail
          refine (C1.out _).mono ?_
          rintro e w' ⟨rfl, rfl⟩
          go_wp2_with fail
          refine (C2.out _).mono ?_
          rintro e w' ⟨rfl, rfl⟩
          have C3 := Lib.hid (CF.out _ HB0.out)
          go_wp2_with (refine wpList_load_rowW (by simp [Region.wanted, yielded]) 44 (.tmp 1) rfl w.heap.size rfl 44 c (0, 0) _ HK0.out Try.underlying44 rfl HSZ.out ?_)
          refine C3.out.mono ?_
          rintro e w3 ⟨rfl, hb3⟩
          have HK3 := Lib.hid (show w3.heap[w.heap.size]? = some (.cells c 44 (0, 0)) by rw [hb3.block _ (by have := HZ0.out; omega)]; exact HK0.out)
          have HB3 := Lib.hid (HB0.out.trans (hb3.mono HB0.out.size))
          have C4 := Lib.hid (CL.out _ HB3.out)
          clear hb3
          go_wp2_with (with_reducible refine wpList_load_row rfl 44 (.tmp 1) rfl w.heap.size rfl 44 c (0, 0) _ HK3.out Try.underlying44 rfl HSZ.out ?_)
          refine C4.out.mono ?_
          intro e w4 h4
          have HR := Lib.hid (h4.of (B' := w.heap.size) (w0 := w) HB3.out.size HB3.out)
          obtain ⟨v4, he4, -, -⟩ := h4
          subst he4
          go_wp2_with fail
          go_ret2
          exact HR.out

set_option maxHeartbeats 2000000 in
set_option maxRecDepth 100000 in
theorem may_n (n : NtL) (P : NtP) (w : World) (hin : NtIn w n P) (hsm : NtSm n) : Calls Try.prog 11 #[ntV n P] w fun e w' => e = .returned (.bool (packN n).isSome) ∧ Below w.heap.size w w' := by
  have CP := Lib.hid (fun w1 (hb : Below w.heap.size w w1) => pack_n n P w1 (hin.below hb) hsm)
  generalize packN n = S at CP ⊢
  unfold ntV at CP ⊢
  obtain ⟨c, hc⟩ : ∃ c, (ntList n P).toArray = c := ⟨_, rfl⟩
  have hsz : (Try.prog.info? 44).map (·.size) = some c.size := by rw [← hc]; exact info_note
  have HSZ := Lib.hid hsz
  obtain ⟨W0, hW0⟩ : ∃ W0, w.alloc (.cells c 44) = W0 := ⟨_, rfl⟩
  have hb0 : Below w.heap.size w W0 := hW0 ▸ (Below.refl _ _).alloc (Nat.le_refl _) _
  have HK0 := Lib.hid (show W0.heap[w.heap.size]? = some (.cells c 44 (0, 0)) from hW0 ▸ new_block w _ _)
  have HW0 := Lib.hid hW0
  have C := Lib.hid (CP.out _ hb0)
  have HB0 := Lib.hid hb0
  rw [hc] at C ⊢
  clear hc CP hb0 hsz hW0 hin hsm
  go_enter Try.func11, Try.ntmps11
  go_upto_region 1 with fail
  rw [HW0.out]
  go_wp2_with (with_reducible refine wpList_load_row rfl 44 (.tmp 1) rfl w.heap.size rfl 44 c (0, 0) _ HK0.out Try.underlying44 rfl HSZ.out ?_)
  refine C.out.mono ?_
  rintro e w2 ⟨v, rfl, -, hb2⟩
  have HB2 := Lib.hid (HB0.out.trans (hb2.mono HB0.out.size))
  clear hb2
  cases S with
  | none =>
    rw [show errP none = 1 from rfl]
    go_wp2_with fail
    go_ret
    exact ⟨rfl, HB2.out⟩
  | some b =>
    rw [show errP (some b) = 0 from rfl]
    go_wp2_with fail
    go_ret
    exact ⟨rfl, HB2.out⟩
end Go.Proofs.Ytbhojddakmgdmaa
namespace Go.Proofs.Ytbhojddakmgdmaa
open Go.RowKit Go.Gz

/-- a note of nothing. -/
def ntN : NtL := ⟨0, 0, 0, 0, 0, askZ, ⟨0, 0, 0, false, [], [], [], false⟩, [], [], [], [], 0, []⟩
def ntQ : NtP := ⟨none, 0, none, 0, none, 0, none, 0⟩
theorem ntN_val : ntV ntN ntQ = .agg noteZ := rfl
theorem ntN_in (w : World) : NtIn w ntN ntQ := ⟨Or.inl rfl, Or.inl rfl, Or.inl rfl, (fun e he => by cases he), Or.inl rfl⟩
/-- what Read answers. -/
def RetRd (w : World) (l : List UInt8) (e : Ending) (w' : World) : Prop :=
  ∃ n P E, e = .returned (.tuple #[ntV n P, .int .i64 E]) ∧ Below w.heap.size w w' ∧ NtIn w' n P ∧
    ((E = 0 ∧ ∃ x, readL noteC l = .ok x ∧ NtOf n x ∧ (packN n).isSome = true) ∨ (E = 5 ∧ n = ntN ∧ ((∃ e, readL noteC l = .error e) ∨ ∃ m x, readL noteC l = .ok x ∧ NtOf m x ∧ packN m = none)))

theorem NtIn.offRow {w : World} {n : NtL} {P : NtP} {A B : Nat} {c : Array Value} (h : NtIn w n P) (hn : NtNew B n P) (hA : A < B) : NtIn (w.setRow A c) n P := by
  have hz : (w.setRow A c).heap.size = w.heap.size := size_setRow ..
  have hb : ∀ b, B ≤ b → (w.setRow A c).heap[b]? = w.heap[b]? := fun b h => setRow_other (by omega)
  refine ⟨h.rs.move (by omega) fun b off hp _ => hb b (hn.rp b off hp), h.ls.move (by omega) fun b off hp _ => hb b (hn.lp b off hp), ?_, fun e he => (h.les e he).move (by omega) fun b off hp _ => hb b (hn.es e he b off hp), ?_⟩
  · rcases h.la with h1 | ⟨b, off, hp, hlt, hc⟩
    · exact Or.inl h1
    · exact Or.inr ⟨b, off, hp, by omega, fun j hj i hi => by rw [World.cell?_of_block (w := w) (a := ⟨b, off + j * 9 + i, none⟩) (hb b (hn.ap b off hp))]; exact hc j hj i hi⟩
  · rcases h.sh with h1 | ⟨b, off, hp, hlt, hc⟩
    · exact Or.inl h1
    · exact Or.inr ⟨b, off, hp, by omega, fun j hj i hi => by rw [World.cell?_of_block (w := w) (a := ⟨b, off + j * KS.n + i, none⟩) (hb b (hn.hp b off hp))]; exact hc j hj i hi⟩
set_option maxHeartbeats 8000000 in
set_option maxRecDepth 100000 in
theorem read_n (l : List UInt8) (p : Option Addr) (cap : Nat) (w : World) (hp : Row w .u8 p (nums l)) (hl : l.length ≤ 1000000) :
    Calls Try.prog 9 #[.slice p l.length cap] w (RetRd w l) := by
  obtain ⟨W1, hW1⟩ : ∃ W1, w.alloc (.cells noteZ 44) = W1 := ⟨_, rfl⟩
  have hb1 : Below w.heap.size w W1 := hW1 ▸ (Below.refl _ _).alloc (Nat.le_refl _) _
  have hz1 : W1.heap.size = w.heap.size + 1 := by rw [← hW1]; simp
  have HA1 := Lib.hid (show W1.heap[w.heap.size]? = some (.cells noteZ 44 (0, 0)) from hW1 ▸ new_block _ _ _)
  have CT := Lib.hid (take_n l p cap W1 (hp.below hb1) (by omega))
  have HSM := Lib.hid (fun (n : NtL) (x : NtT) (h1 : readL noteC l = .ok x) (h2 : NtOf n x) => (nt_small h1 h2 hl).1)
  have HB1 := Lib.hid hb1
  have HW1 := Lib.hid hW1
  have HZ1 := Lib.hid hz1
  have HNZ := Lib.hid (show ∀ e, readL noteC l = .error e → e ≠ 0 from fun e h h0 => by
    have := rdPart_ne (M := l.length) noz_note (show rdPart l.length noteC l = .error e by unfold rdPart; rw [if_neg (by omega)]; exact h)
    exact this h0)
  have HIZ := Lib.hid (show (Try.prog.info? 44).map (·.size) = some noteZ.size from info_note)
  have HOZ := Lib.hid (show noteZ.all (·.oneCell') = true from nt_one ntN ntQ)
  obtain ⟨ll, hll⟩ : ∃ n, l.length = n := ⟨_, rfl⟩
  rw [hll] at CT ⊢
  obtain ⟨Z, hZ⟩ : ∃ Z : Array Value, noteZ = Z := ⟨_, rfl⟩
  have HZ := Lib.hid hZ
  have HIN0 := Lib.hid (show (Try.prog.info? 44).map (·.size) = some noteZ.size from info_note)
  have HON0 := Lib.hid (show noteZ.all (·.oneCell') = true from nt_one ntN ntQ)
  have HSN0 := Lib.hid (show Z.size = noteZ.size by rw [hZ])
  rw [hZ] at HA1 HIZ HOZ
  clear hp hb1 hz1 hW1 hl hll hZ
  go_enter Try.func9, Try.ntmps9
  go_upto_region 1 with fail
  rw [HW1.out]
  go_wp2_with fail
  refine CT.out.mono ?_
  rintro e w2 ⟨n, P, rfl, hb2, hx⟩
  have HX := Lib.hid hx
  have HB2 := Lib.hid (HB1.out.trans (hb2.mono (by have := HZ1.out; omega)))
  have HA2 := Lib.hid (show w2.heap[w.heap.size]? = some (.cells Z 44 (0, 0)) by rw [hb2.block _ (by have := HZ1.out; omega)]; exact HA1.out)
  have HS2 := Lib.hid (show w.heap.size + 1 ≤ w2.heap.size by have := hb2.size; have := HZ1.out; omega)
  have CM := Lib.hid (fun w1 (h1 : NtIn w1 n P) (h2 : NtSm n) => may_n n P w1 h1 h2)
  have HF := Lib.hid (show ∀ E w', Below w.heap.size w w' → NtIn w' n P → ((E = 0 ∧ ∃ x, readL noteC l = .ok x ∧ NtOf n x ∧ (packN n).isSome = true) ∨ (E = 5 ∧ n = ntN ∧ ((∃ e, readL noteC l = .error e) ∨ ∃ m x, readL noteC l = .ok x ∧ NtOf m x ∧ packN m = none))) → RetRd w l (.returned (.tuple #[ntV n P, .int .i64 E])) w' from fun E w' h1 h2 h3 => ⟨n, P, E, rfl, h1, h2, h3⟩)
  have HF0 := Lib.hid (show ∀ w', Below w.heap.size w w' → ((∃ e, readL noteC l = .error e) ∨ ∃ m x, readL noteC l = .ok x ∧ NtOf m x ∧ packN m = none) → RetRd w l (.returned (.tuple #[.agg Z, .int .i64 5])) w' from fun w' h1 h2 => ⟨ntN, ntQ, 5, by rw [ntN_val, HZ.out], h1, ntN_in _, Or.inr ⟨rfl, rfl, h2⟩⟩)
  unfold ntV at HF CM ⊢
  obtain ⟨c, hc⟩ : ∃ c, (ntList n P).toArray = c := ⟨_, rfl⟩
  rw [hc] at HF CM ⊢
  have hcs : c.size = 27 := by rw [← hc]; rfl
  have HSZ := Lib.hid (show (Try.prog.info? 44).map (·.size) = some c.size by rw [hcs]; exact info_note)
  have HONE := Lib.hid (show c.all (·.oneCell') = true by rw [← hc]; exact nt_one n P)
  have HCS := Lib.hid hcs
  have hst := note_store w2 c w2.heap.size rfl hcs
  obtain ⟨W3, hW3⟩ : ∃ W3, w2.alloc (.cells c 44) = W3 := ⟨_, rfl⟩
  rw [hW3] at hst
  have HST := Lib.hid hst
  have hb3 : Below w2.heap.size w2 W3 := hW3 ▸ (Below.refl _ _).alloc (Nat.le_refl _) _
  have HA3 := Lib.hid (show W3.heap[w.heap.size]? = some (.cells Z 44 (0, 0)) by rw [hb3.block _ (by have := HS2.out; omega)]; exact HA2.out)
  have HC3 := Lib.hid (show W3.heap[w2.heap.size]? = some (.cells c 44 (0, 0)) from hW3 ▸ new_block _ _ _)
  have HB3 := Lib.hid hb3
  have HBW3 := Lib.hid (HB2.out.trans (hb3.mono HB2.out.size))
  obtain ⟨E, hE⟩ : ∃ E, errX (readL noteC l) = E := ⟨_, rfl⟩
  have HE := Lib.hid hE
  rw [hE]
  clear hb2 hx hc hcs hst hW3 hb3 hE CT
  go_upto_region 2 with (with_reducible refine wpList_store_row rfl 44 (.tmp 4) (.tmp 9) rfl w2.heap.size c rfl rfl 44 noteZ HST.out.1 HSZ.out HST.out.2.1 HONE.out ?_)
  rw [HST.out.2.2]
  by_cases h0 : E = 0
  · subst h0
    have HOK := Lib.hid (show ∃ x, readL noteC l = .ok x from by
      cases hr : readL noteC l with
      | ok x => exact ⟨x, rfl⟩
      | error e => exact absurd (by have := HE.out; rw [hr] at this; exact this) (HNZ.out e hr))
    have HIN := Lib.hid (show NtIn w2 n P ∧ NtSm n ∧ ∃ x, readL noteC l = .ok x ∧ NtOf n x from by
      obtain ⟨x, hx⟩ := HOK.out
      exact ⟨(HX.out x hx).2.1, HSM.out n x hx (HX.out x hx).1, x, hx, (HX.out x hx).1⟩)
    have HNW := Lib.hid (show NtNew W1.heap.size n P from by
      obtain ⟨x, hx⟩ := HOK.out
      exact (HX.out x hx).2.2)
    have C1 := Lib.hid (CM.out W3 (HIN.out.1.below HB3.out) HIN.out.2.1)
    go_wp2_with (refine wpList_load_rowW (by simp [Region.wanted, yielded]) 44 (.tmp 4) rfl w2.heap.size rfl 44 c (0, 0) _ HC3.out Try.underlying44 rfl HSZ.out ?_)
    refine C1.out.mono ?_
    rintro e w4 ⟨rfl, hb4⟩
    have HA4 := Lib.hid (show w4.heap[w.heap.size]? = some (.cells Z 44 (0, 0)) by rw [hb4.block _ (by have := HS2.out; have := HB3.out.size; omega)]; exact HA3.out)
    have HC4 := Lib.hid (show w4.heap[w2.heap.size]? = some (.cells c 44 (0, 0)) by rw [hb4.block _ (Array.getElem?_eq_some_iff.1 HC3.out).1]; exact HC3.out)
    have HB4 := Lib.hid (HBW3.out.trans (hb4.mono HBW3.out.size))
    have HB24 := Lib.hid (HB3.out.trans (hb4.mono HB3.out.size))
    clear hb4
    obtain ⟨q, hq⟩ : ∃ q, (packN n).isSome = q := ⟨_, rfl⟩
    have HQ := Lib.hid hq
    rw [hq]
    clear hq
    cases q with
    | true =>
      have HRZ := Lib.hid (show Z.size = c.size from HZ.out ▸ HST.out.2.1)
      have hA5 : (w4.setRow w.heap.size c).heap[w.heap.size]? = some (.cells c 44 (0, 0)) := setRow_heap _ _ _ _ _ _ HA4.out
      have HA5 := Lib.hid hA5
      have HB5 := Lib.hid (below_setRow (cs := c) HB4.out (Nat.le_refl w.heap.size))
      have HP := Lib.hid (HF.out 0 (w4.setRow w.heap.size c) HB5.out ((HIN.out.1.below HB24.out).offRow HNW.out (by have := HZ1.out; omega)) (Or.inl ⟨rfl, by obtain ⟨x, h1, h2⟩ := HIN.out.2.2; exact ⟨x, h1, h2, HQ.out⟩⟩))
      clear hA5
      go_wp2_with (first | (with_reducible refine wpList_load_row rfl 44 (.tmp 4) rfl w2.heap.size rfl 44 c (0, 0) _ HC4.out Try.underlying44 rfl HSZ.out ?_) | (with_reducible refine wpList_store_row rfl 44 (.tmp 2) (.tmp 19) rfl w.heap.size c rfl rfl 44 Z HA4.out HSZ.out HRZ.out HONE.out ?_))
      refine bodyPost_ret (v := .tuple #[.agg c, .int .i64 0]) ?_ rfl HP.out
      exact results_cell_slot rfl _ _ w.heap.size 44 c (0, 0) _ (.int .i64 0) rfl rfl HA5.out Try.underlying44 rfl HSZ.out
    | false =>
      have hq : w4.setRow w.heap.size noteZ = w4 := by rw [HZ.out]; exact setRow_self _ _ _ _ _ HA4.out
      have HP := Lib.hid (HF0.out w4 HB4.out (Or.inr (by obtain ⟨x, h1, h2⟩ := HIN.out.2.2; exact ⟨n, x, h1, h2, by have := HQ.out; cases hp : packN n with | none => rfl | some y => rw [hp] at this; cases this⟩)))
      go_wp2_with (with_reducible refine wpList_store_row rfl 44 (.tmp 2) (.tmp 18) rfl w.heap.size noteZ rfl rfl 44 Z HA4.out HIN0.out HSN0.out HON0.out ?_)
      refine bodyPost_ret (v := .tuple #[.agg Z, .int .i64 5]) ?_ rfl HP.out
      exact results_cell_slot rfl _ _ w.heap.size 44 Z (0, 0) _ (.int .i64 5) rfl rfl HA4.out Try.underlying44 rfl HIZ.out
  · have hEz : ((E : Int) != 0) = true := by simp; omega
    have HEN := Lib.hid (show ∃ e, readL noteC l = .error e from by
      cases hr : readL noteC l with
      | ok x => exact absurd (by have := HE.out; rw [hr] at this; exact this.symm) h0
      | error e => exact ⟨e, rfl⟩)
    have hq : W3.setRow w.heap.size noteZ = W3 := by rw [HZ.out]; exact setRow_self _ _ _ _ _ HA3.out
    have HP := Lib.hid (HF0.out W3 HBW3.out (Or.inl HEN.out))
    clear h0
    go_wp2_with (with_reducible refine wpList_store_row rfl 44 (.tmp 2) (.tmp 18) rfl w.heap.size noteZ rfl rfl 44 Z HA3.out HIN0.out HSN0.out HON0.out ?_)
    refine bodyPost_ret (v := .tuple #[.agg Z, .int .i64 5]) ?_ rfl HP.out
    exact results_cell_slot rfl _ _ w.heap.size 44 Z (0, 0) _ (.int .i64 5) rfl rfl HA3.out Try.underlying44 rfl HIZ.out
end Go.Proofs.Ytbhojddakmgdmaa
namespace Go.Proofs.Ytbhojddakmgdmaa
open Go.RowKit Go.Gz

theorem lastS_sem (M : Nat) (st : Option (List UInt8)) {e e' : Ent} (h : e.sem = e'.sem) : lastS M st e = lastS M st e' := by
  have h1 : e.s = e'.s := congrArg Prod.fst h
  have h2 : e.r = e'.r := congrArg Prod.snd h
  unfold lastS
  rw [h1, h2]
theorem foldl_sem (M : Nat) : ∀ (L L' : List Ent) (st : Option (List UInt8)), L.map Ent.sem = L'.map Ent.sem → L.foldl (lastS M) st = L'.foldl (lastS M) st
  | [], [], _, _ => rfl
  | [], _ :: _, _, h => by cases h
  | _ :: _, [], _, h => by cases h
  | e :: L, e' :: L', st, h => by
    simp only [List.map_cons, List.cons.injEq] at h
    show L.foldl (lastS M) (lastS M st e) = L'.foldl (lastS M) (lastS M st e')
    rw [lastS_sem M st h.1]
    exact foldl_sem M L L' _ h.2
theorem nil_sem {L L' : List Ent} (h : L.map Ent.sem = L'.map Ent.sem) : (L = []) = (L' = []) := by
  have := congrArg List.length h
  simp only [List.length_map] at this
  exact propext ⟨fun e => by subst e; exact List.length_eq_zero_iff.1 this.symm, fun e => by subst e; exact List.length_eq_zero_iff.1 this⟩
theorem lay_same {a b : NtL} (h : NtSame a b) : layN a = layN b := by
  obtain ⟨kd, fr, to_, ep, tk, ask, rep, sf, st, ls, la, ae, sh⟩ := a
  obtain ⟨kd', fr', to_', ep', tk', ask', rep', sf', st', ls', la', ae', sh'⟩ := b
  obtain ⟨h1, h2, h3, h4, h5, h6, h7, h8, h9, h10, h11, h12, h13⟩ := h
  simp only at h1 h2 h3 h4 h5 h6 h7 h8 h9 h10 h11 h12 h13
  subst h1 h2 h3 h4 h5 h6 h7 h8 h9 h10 h12 h13
  have hl : la.length = la'.length := by simpa using congrArg List.length h11
  unfold layN lay7 lay6 itemsS
  simp only
  rw [hl, foldl_sem MX la la' _ h11]
  rfl
theorem dec_congr {p q : Prop} (h : p ↔ q) : @decide p (Classical.propDecidable p) = @decide q (Classical.propDecidable q) := by
  have := propext h
  subst this
  rfl
theorem bare_la {la la' : List Ent} (h : la.map Ent.sem = la'.map Ent.sem) (kd fr to_ ep tk : Int) (ask : AskL) (rep : RepL) (sf st : List UInt8) (ls : List RecL) (ae : Int) (sh : List Sd) :
    bareB ⟨kd, fr, to_, ep, tk, ask, rep, sf, st, ls, la, ae, sh⟩ = bareB ⟨kd, fr, to_, ep, tk, ask, rep, sf, st, ls, la', ae, sh⟩ := by
  have hn := nil_sem h
  unfold bareB
  exact dec_congr (by simp only [hn])
theorem fits_same {a b : NtL} (h : NtSame a b) : fitsB a = fitsB b := by
  obtain ⟨kd, fr, to_, ep, tk, ask, rep, sf, st, ls, la, ae, sh⟩ := a
  obtain ⟨kd', fr', to_', ep', tk', ask', rep', sf', st', ls', la', ae', sh'⟩ := b
  obtain ⟨h1, h2, h3, h4, h5, h6, h7, h8, h9, h10, h11, h12, h13⟩ := h
  simp only at h1 h2 h3 h4 h5 h6 h7 h8 h9 h10 h11 h12 h13
  subst h1 h2 h3 h4 h5 h6 h7 h8 h9 h10 h12 h13
  have e := bare_la h11
  unfold fitsB
  simp only [e]
theorem pack_eq {a b : NtL} (h : NtSame a b) : packN a = packN b := by
  unfold packN
  rw [h.fr, h.to_, fits_same h, lay_same h]
theorem pack_lay {n : NtL} {Y : List UInt8} (h : packN n = some Y) : layN n = some Y := by
  unfold packN at h
  split at h
  · exact h
  · cases h
theorem NtSame.symm {a b : NtL} (h : NtSame a b) : NtSame b a := ⟨h.kd.symm, h.fr.symm, h.to_.symm, h.ep.symm, h.tk.symm, h.ask.symm, h.rep.symm, h.sf.symm, h.st.symm, h.ls.symm, h.la.symm, h.ae.symm, h.sh.symm⟩
/-- what Read answers of bytes that Pack answered. -/
def RetBk (w : World) (n : NtL) (e : Ending) (w' : World) : Prop := ∃ m P, e = .returned (.tuple #[ntV m P, .int .i64 0]) ∧ Below w.heap.size w w' ∧ NtIn w' m P ∧ NtSame n m
theorem read_back (n : NtL) (Y : List UInt8) (hY : packN n = some Y) (hl : Y.length ≤ 1000000) (p : Option Addr) (cap : Nat) (w : World) (hp : Row w .u8 p (nums Y)) :
    Calls Try.prog 9 #[.slice p Y.length cap] w (RetBk w n) := by
  refine (read_n Y p cap w hp hl).mono ?_
  rintro e w' ⟨m, P, E, rfl, hb, hin, h⟩
  obtain ⟨x, hx1, hx2, hx3⟩ := lay_packed (pack_lay hY)
  have hr : readL noteC Y = .ok x := by rw [hx2]; exact read_enc noteC x hx1
  rcases h with ⟨rfl, y, h1, h2, -⟩ | ⟨-, -, ⟨e, h1⟩ | ⟨k, y, h1, h2, h3⟩⟩
  · rw [hr] at h1
    injection h1 with h1
    subst h1
    exact ⟨m, P, rfl, hb, hin, (nt_of_inj hx3 h2).1 rfl⟩
  · rw [hr] at h1; cases h1
  · rw [hr] at h1
    injection h1 with h1
    subst h1
    rw [← pack_eq ((nt_of_inj hx3 h2).1 rfl), hY] at h3
    cases h3
end Go.Proofs.Ytbhojddakmgdmaa
