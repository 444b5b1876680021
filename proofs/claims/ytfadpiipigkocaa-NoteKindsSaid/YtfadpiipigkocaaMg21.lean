/-
  Several texts in one: NtPack, RegRow, NtMd.
-/
import Derived.Test.YtfadpiipigkocaaNtFits1
import Derived.Test.YtfadpiipigkocaaNtFits2
import Derived.Test.YtfadpiipigkocaaNtFits3
import Derived.Test.YtfadpiipigkocaaMg17
import Derived.Deep.WholeRow
import Derived.Laws.Tables
import Derived.Test.YtfadpiipigkocaaNtMade
import Derived.Test.YtfadpiipigkocaaMg20
namespace Go.Proofs.Ytfadpiipigkocaa
open Go.RowKit Go.Gz

theorem ntfrom_any (a b c : Int) (w : World) : Calls Try.prog 35 #[.int .i64 a, .int .i64 b, .int .i64 c] w fun e w' => e = .returned (.bool (decide (a ≤ b ∧ b ≤ c))) ∧ w = w' := by
  by_cases h1 : a ≤ b
  · by_cases h2 : b ≤ c
    · have e : decide (a ≤ b ∧ b ≤ c) = true := by simp [h1, h2]
      rw [e]
      go_enter Try.func35, Try.ntmps35
      go_wp2_with fail
      go_ret
      exact ⟨by simp, rfl⟩
    · have e : decide (a ≤ b ∧ b ≤ c) = false := by simp [h2]
      rw [e]
      have h2b : decide (b ≤ c) = false := by simp [h2]
      clear h2
      go_enter Try.func35, Try.ntmps35
      go_wp2_with fail
      go_ret
      exact ⟨rfl, rfl⟩
  · have e : decide (a ≤ b ∧ b ≤ c) = false := by simp [h1]
    rw [e]
    go_enter Try.func35, Try.ntmps35
    go_wp2_with fail
    go_ret
    exact ⟨rfl, rfl⟩

/-- is a number a party's? -/
def partyB (n : Int) : Bool := decide (n = 0 ∨ (1 ≤ n ∧ n ≤ 5) ∨ (100 ≤ n ∧ n ≤ 103))
theorem isParty_any (n : Int) (w : World) : Calls Try.prog 22 #[.int .i64 n] w fun e w' => e = .returned (.bool (partyB n)) ∧ w = w' := by
  have C1 := Lib.hid (ntfrom_any 1 n 5)
  have C2 := Lib.hid (ntfrom_any 100 n 103)
  obtain ⟨q1, hq1⟩ : ∃ q, decide (1 ≤ n ∧ n ≤ 5) = q := ⟨_, rfl⟩
  obtain ⟨q2, hq2⟩ : ∃ q, decide (100 ≤ n ∧ n ≤ 103) = q := ⟨_, rfl⟩
  rw [hq1] at C1
  rw [hq2] at C2
  have HE := Lib.hid (show partyB n = (decide (n = 0) || (q1 || q2)) by
    rw [← hq1, ← hq2]; unfold partyB
    rw [Bool.eq_iff_iff]; simp only [Bool.or_eq_true, decide_eq_true_eq])
  rw [HE.out]
  clear hq1 hq2 HE
  by_cases h0 : n = 0
  · subst h0
    go_enter Try.func22, Try.ntmps22
    go_wp2_with fail
    go_ret
    exact ⟨rfl, rfl⟩
  · have h0b : (n == 0) = false := by simp [h0]
    have HF := Lib.hid (show ∀ b : Bool, b = (q1 || q2) → Ending.returned (Value.bool b) = .returned (.bool (decide (n = 0) || (q1 || q2))) from fun b hb => by rw [hb]; simp [h0])
    clear h0
    cases q1 with
    | true =>
      have HX := Lib.hid (HF.out true rfl)
      go_enter Try.func22, Try.ntmps22
      go_wp2_with fail
      refine (C1.out _).mono ?_
      rintro e w' ⟨rfl, rfl⟩
      go_wp2_with fail
      go_ret
      exact ⟨HX.out, rfl⟩
    | false =>
      have HX := Lib.hid (HF.out q2 rfl)
      go_enter Try.func22, Try.ntmps22
      go_wp2_with fail
      refine (C1.out _).mono ?_
      rintro e w' ⟨rfl, rfl⟩
      go_wp2_with fail
      refine (C2.out _).mono ?_
      rintro e w' ⟨rfl, rfl⟩
      go_wp2_with fail
      go_ret
      exact ⟨HX.out, rfl⟩

set_option maxHeartbeats 2000000 in
set_option maxRecDepth 100000 in
/-- fits, of no kind. -/
theorem fits_else (n : NtL) (P : NtP) (w : World) (h1 : n.kd ≠ 1) (h2 : n.kd ≠ 2) (h3 : n.kd ≠ 3) (h4 : n.kd ≠ 4) (h5 : n.kd ≠ 5) (h6 : n.kd ≠ 6) (h7 : n.kd ≠ 7) (h8 : n.kd ≠ 8) (h9 : n.kd ≠ 9) (h10 : n.kd ≠ 10) (h11 : n.kd ≠ 11) (h12 : n.kd ≠ 12) :
    Calls Try.prog 23 #[ntV n P] w fun e w' => e = .returned (.bool false) ∧ Below w.heap.size w w' := by
  unfold ntV
  obtain ⟨c, hc⟩ : ∃ c, (ntList n P).toArray = c := ⟨_, rfl⟩
  have hcs : c.size = 27 := by rw [← hc]; rfl
  have HSZ := Lib.hid (show (Try.prog.info? 43).map (·.size) = some c.size by rw [hcs]; exact info_note)
  have HONE := Lib.hid (show c.all (·.oneCell') = true by rw [← hc]; exact nt_one n P)
  have C0 := Lib.hid (show c[0]? = some (.int .i64 n.kd) by rw [← hc]; rfl)
  generalize n.kd = k at h1 h2 h3 h4 h5 h6 h7 h8 h9 h10 h11 h12 C0
  rw [hc]
  obtain ⟨W0, hW0⟩ : ∃ W0, w.alloc (.cells c 43) = W0 := ⟨_, rfl⟩
  obtain ⟨W1, hW1⟩ : ∃ W1, W0.alloc (.cells c 43) = W1 := ⟨_, rfl⟩
  have hb0 : Below w.heap.size w W0 := hW0 ▸ (Below.refl _ _).alloc (Nat.le_refl _) _
  have hz0 : W0.heap.size = w.heap.size + 1 := by rw [← hW0]; simp
  have hb1 : Below W0.heap.size W0 W1 := hW1 ▸ (Below.refl _ _).alloc (Nat.le_refl _) _
  have hk0 : W0.heap[w.heap.size]? = some (.cells c 43 (0, 0)) := hW0 ▸ new_block w _ _
  have hk1 : W1.heap[w.heap.size]? = some (.cells c 43 (0, 0)) := by rw [hb1.block _ (by omega)]; exact hk0
  have HST := Lib.hid (note_store W0 c (w.heap.size + 1) hz0 hcs)
  rw [hW1] at HST
  have HB := Lib.hid (hb0.trans (hb1.mono (by omega)))
  have HW0 := Lib.hid hW0
  have HZ0 := Lib.hid hz0
  have HK0 := Lib.hid hk0
  have t0 := (cell_at hk1 0).trans C0.out
  have g1 : (k == 1) = false := by simp [h1]
  have g2 : (k == 2) = false := by simp [h2]
  have g3 : (k == 3) = false := by simp [h3]
  have g4 : (k == 4) = false := by simp [h4]
  have g5 : (k == 5) = false := by simp [h5]
  have g6 : (k == 6) = false := by simp [h6]
  have g7 : (k == 7) = false := by simp [h7]
  have g8 : (k == 8) = false := by simp [h8]
  have g9 : (k == 9) = false := by simp [h9]
  have g10 : (k == 10) = false := by simp [h10]
  have g11 : (k == 11) = false := by simp [h11]
  have g12 : (k == 12) = false := by simp [h12]
  clear hc hcs hW0 hW1 hb0 hz0 hb1 hk0 hk1 h1 h2 h3 h4 h5 h6 h7 h8 h9 h10 h11 h12
  go_enter Try.func23, Try.ntmps23
  go_upto_region 1 with fail
  rw [HW0.out]
  have hzz := HZ0.out
  go_upto_region 2 with (first | (refine wpList_load_rowW (by simp [Region.wanted, yielded]) 43 (.tmp 1) rfl w.heap.size rfl 43 c (0, 0) _ HK0.out Try.underlying43 rfl HSZ.out ?_) | (with_reducible refine wpList_store_row rfl 43 (.tmp 3) (.tmp 4) rfl (w.heap.size + 1) c rfl rfl 43 noteZ HST.out.1 HSZ.out HST.out.2.1 HONE.out ?_))
  rw [HST.out.2.2]
  clear hzz
  go_wp2_with fail
  go_ret
  exact ⟨rfl, HB.out⟩
theorem fits_any (n : NtL) (P : NtP) (w : World) (hp : RowK KS w P.hp n.sh) (hl : n.sh.length ≤ 1000000) : Calls Try.prog 23 #[ntV n P] w fun e w' => e = .returned (.bool (fitsB n)) ∧ Below w.heap.size w w' := by
  unfold fitsB
  by_cases h1 : n.kd = 1
  · rw [if_pos h1]; exact fits_1 n P w h1
  rw [if_neg h1]
  by_cases h2 : n.kd = 2
  · rw [if_pos h2]; exact fits_2 n P w h2
  rw [if_neg h2]
  by_cases h3 : n.kd = 3
  · rw [if_pos h3]; exact fits_3 n P w h3
  rw [if_neg h3]
  by_cases h5 : n.kd = 5
  · rw [if_pos h5]; exact fits_5 n P w h5
  rw [if_neg h5]
  by_cases h6 : n.kd = 6
  · rw [if_pos h6]; exact fits_6 n P w h6 hp hl
  rw [if_neg h6]
  by_cases h4 : n.kd = 4
  · rw [if_pos h4]; exact fits_4 n P w h4 hp hl
  rw [if_neg h4]
  by_cases h8 : n.kd = 8
  · rw [if_pos (Or.inl h8)]; exact fits_8 n P w h8
  by_cases h9 : n.kd = 9
  · rw [if_pos (Or.inr h9)]; exact fits_9 n P w h9
  rw [if_neg (by omega)]
  by_cases h7 : n.kd = 7
  · rw [if_pos (by omega)]; exact fits_7 n P w h7
  by_cases h10 : n.kd = 10
  · rw [if_pos (by omega)]; exact fits_10 n P w h10
  by_cases h11 : n.kd = 11
  · rw [if_pos (by omega)]; exact fits_11 n P w h11
  by_cases h12 : n.kd = 12
  · rw [if_pos (by omega)]; exact fits_12 n P w h12
  rw [if_neg (by omega)]
  exact fits_else n P w h1 h2 h3 h4 h5 h6 h7 h8 h9 h10 h11 h12

/-- P16.1: the bytes of a note that may be; none of one that may not. -/
noncomputable def packN (n : NtL) : Option (List UInt8) := if partyB n.fr = true ∧ partyB n.to_ = true ∧ n.fr ≠ n.to_ ∧ fitsB n = true then layN n else none

set_option maxHeartbeats 2000000 in
set_option maxRecDepth 100000 in
theorem pack_n (n : NtL) (P : NtP) (w : World) (hin : NtIn w n P) (hsm : NtSm n) : Calls Try.prog 10 #[ntV n P] w (RetPk w.heap.size (packN n) w) := by
  have CF := Lib.hid (fun w1 (hb : Below w.heap.size w w1) => fits_any n P w1 (hin.sh.below hb) hsm.hl)
  have CL := Lib.hid (fun w1 (hb : Below w.heap.size w w1) => lay_n n P w1 (hin.below hb) hsm)
  have C1 := Lib.hid (fun w1 => isParty_any n.fr w1)
  have C2 := Lib.hid (fun w1 => isParty_any n.to_ w1)
  have HQ := Lib.hid (show ∀ S, S = (if partyB n.fr = true ∧ partyB n.to_ = true ∧ n.fr ≠ n.to_ ∧ fitsB n = true then layN n else none) → packN n = S from fun S h => h.symm)
  have HNO := Lib.hid (show ∀ w', Below w.heap.size w w' → RetPk w.heap.size none w (.returned (.tuple #[.slice none 0 0, .int .i64 1])) w' from fun w' hb => ⟨_, rfl, ⟨rfl, Or.inl ⟨rfl, rfl⟩⟩, hb⟩)
  generalize packN n = R at HQ ⊢
  unfold ntV at CF CL ⊢
  obtain ⟨c, hc⟩ : ∃ c, (ntList n P).toArray = c := ⟨_, rfl⟩
  have hcs : c.size = 27 := by rw [← hc]; rfl
  have HSZ := Lib.hid (show (Try.prog.info? 43).map (·.size) = some c.size by rw [hcs]; exact info_note)
  have X1 := Lib.hid (show c[1]? = some (.int .i64 n.fr) by rw [← hc]; rfl)
  have X2 := Lib.hid (show c[2]? = some (.int .i64 n.to_) by rw [← hc]; rfl)
  rw [hc] at CF CL ⊢
  obtain ⟨W0, hW0⟩ : ∃ W0, w.alloc (.cells c 43) = W0 := ⟨_, rfl⟩
  have hb0 : Below w.heap.size w W0 := hW0 ▸ (Below.refl _ _).alloc (Nat.le_refl _) _
  have HK0 := Lib.hid (show W0.heap[w.heap.size]? = some (.cells c 43 (0, 0)) from hW0 ▸ new_block w _ _)
  have HZ0 := Lib.hid (show W0.heap.size = w.heap.size + 1 by rw [← hW0]; simp)
  have HB0 := Lib.hid hb0
  have HW0 := Lib.hid hW0
  generalize n.fr = fr at C1 HQ X1
  generalize n.to_ = to_ at C2 HQ X2
  generalize layN n = L at HQ CL
  obtain ⟨b1, hb1⟩ : ∃ b, partyB fr = b := ⟨_, rfl⟩
  obtain ⟨b2, hb2⟩ : ∃ b, partyB to_ = b := ⟨_, rfl⟩
  obtain ⟨b3, hb3⟩ : ∃ b, fitsB n = b := ⟨_, rfl⟩
  rw [hb1] at C1 HQ
  rw [hb2] at C2 HQ
  rw [hb3] at CF HQ
  have k1 := (cell_at HK0.out 1).trans X1.out
  have k2 := (cell_at HK0.out 2).trans X2.out
  clear hc hcs hW0 hb0 hin hsm hb1 hb2 hb3
  cases b1 with
  | false =>
    obtain rfl : R = none := HQ.out none (by rw [if_neg (by simp)])
    go_enter Try.func10, Try.ntmps10
    go_upto_region 1 with fail
    rw [HW0.out]
    go_wp2_with fail
    refine (C1.out _).mono ?_
    rintro e w' ⟨rfl, rfl⟩
    have HX := Lib.hid (HNO.out _ HB0.out)
    go_wp2_with fail
    go_ret2
    exact HX.out
  | true =>
    cases b2 with
    | false =>
      obtain rfl : R = none := HQ.out none (by rw [if_neg (by simp)])
      go_enter Try.func10, Try.ntmps10
      go_upto_region 1 with fail
      rw [HW0.out]
      go_wp2_with fail
      refine (C1.out _).mono ?_
      rintro e w' ⟨rfl, rfl⟩
      go_wp2_with fail
      refine (C2.out _).mono ?_
      rintro e w' ⟨rfl, rfl⟩
      have HX := Lib.hid (HNO.out _ HB0.out)
      go_wp2_with fail
      go_ret2
      exact HX.out
    | true =>
      by_cases hft : fr = to_
      · obtain rfl : R = none := HQ.out none (by rw [if_neg (by simp [hft])])
        subst hft
        go_enter Try.func10, Try.ntmps10
        go_upto_region 1 with fail
        rw [HW0.out]
        go_wp2_with fail
        refine (C1.out _).mono ?_
        rintro e w' ⟨rfl, rfl⟩
        go_wp2_with fail
        refine (C2.out _).mono ?_
        rintro e w' ⟨rfl, rfl⟩
        have HX := Lib.hid (HNO.out _ HB0.out)
        go_wp2_with fail
        go_ret2
        exact HX.out
      · have hne : (fr == to_) = false := by simp [hft]
        have HFT := Lib.hid hft
        clear hft
        cases b3 with
        | false =>
          obtain rfl : R = none := HQ.out none (by rw [if_neg (by simp)])
          go_enter Try.func10, Try.ntmps10
          go_upto_region 1 with fail
          rw [HW0.out]
          go_wp2_with fail
          refine (C1.out _).mono ?_
          rintro e w' ⟨rfl, rfl⟩
          go_wp2_with fail
          refine (C2.out _).mono ?_
          rintro e w' ⟨rfl, rfl⟩
          have C3 := Lib.hid (CF.out _ HB0.out)
          have hhk := HK0.out
          go_wp2_with (refine wpList_load_rowW (by simp [Region.wanted, yielded]) 43 (.tmp 1) rfl w.heap.size rfl 43 c (0, 0) _ HK0.out Try.underlying43 rfl HSZ.out ?_)
          refine C3.out.mono ?_
          rintro e w3 ⟨rfl, hb3⟩
          have HX := Lib.hid (HNO.out _ (HB0.out.trans (hb3.mono HB0.out.size)))
          clear hb3
          go_wp2_with fail
          go_ret2
          exact HX.out
        | true =>
          obtain rfl : R = L := HQ.out L (by rw [if_pos ⟨rfl, rfl, HFT.out, rfl⟩])
          go_enter Try.func10, Try.ntmps10
          go_upto_region 1 with fail
          rw [HW0.out]
          go_wp2_with fail
          refine (C1.out _).mono ?_
          rintro e w' ⟨rfl, rfl⟩
          go_wp2_with fail
          refine (C2.out _).mono ?_
          rintro e w' ⟨rfl, rfl⟩
          have C3 := Lib.hid (CF.out _ HB0.out)
          go_wp2_with (refine wpList_load_rowW (by simp [Region.wanted, yielded]) 43 (.tmp 1) rfl w.heap.size rfl 43 c (0, 0) _ HK0.out Try.underlying43 rfl HSZ.out ?_)
          refine C3.out.mono ?_
          rintro e w3 ⟨rfl, hb3⟩
          have HK3 := Lib.hid (show w3.heap[w.heap.size]? = some (.cells c 43 (0, 0)) by rw [hb3.block _ (by have := HZ0.out; omega)]; exact HK0.out)
          have HB3 := Lib.hid (HB0.out.trans (hb3.mono HB0.out.size))
          have C4 := Lib.hid (CL.out _ HB3.out)
          clear hb3
          go_wp2_with (with_reducible refine wpList_load_row rfl 43 (.tmp 1) rfl w.heap.size rfl 43 c (0, 0) _ HK3.out Try.underlying43 rfl HSZ.out ?_)
          refine C4.out.mono ?_
          intro e w4 h4
          have HR := Lib.hid (h4.of (B' := w.heap.size) (w0 := w) HB3.out.size HB3.out)
          obtain ⟨v4, he4, -, -⟩ := h4
          subst he4
          go_wp2_with fail
          go_ret2
          exact HR.out

set_option maxHeartbeats 2000000 in
set_option maxRecDepth 100000 in
theorem may_n (n : NtL) (P : NtP) (w : World) (hin : NtIn w n P) (hsm : NtSm n) : Calls Try.prog 8 #[ntV n P] w fun e w' => e = .returned (.bool (packN n).isSome) ∧ Below w.heap.size w w' := by
  have CP := Lib.hid (fun w1 (hb : Below w.heap.size w w1) => pack_n n P w1 (hin.below hb) hsm)
  generalize packN n = S at CP ⊢
  unfold ntV at CP ⊢
  obtain ⟨c, hc⟩ : ∃ c, (ntList n P).toArray = c := ⟨_, rfl⟩
  have hsz : (Try.prog.info? 43).map (·.size) = some c.size := by rw [← hc]; exact info_note
  have HSZ := Lib.hid hsz
  obtain ⟨W0, hW0⟩ : ∃ W0, w.alloc (.cells c 43) = W0 := ⟨_, rfl⟩
  have hb0 : Below w.heap.size w W0 := hW0 ▸ (Below.refl _ _).alloc (Nat.le_refl _) _
  have HK0 := Lib.hid (show W0.heap[w.heap.size]? = some (.cells c 43 (0, 0)) from hW0 ▸ new_block w _ _)
  have HW0 := Lib.hid hW0
  have C := Lib.hid (CP.out _ hb0)
  have HB0 := Lib.hid hb0
  rw [hc] at C ⊢
  clear hc CP hb0 hsz hW0 hin hsm
  go_enter Try.func8, Try.ntmps8
  go_upto_region 1 with fail
  rw [HW0.out]
  go_wp2_with (with_reducible refine wpList_load_row rfl 43 (.tmp 1) rfl w.heap.size rfl 43 c (0, 0) _ HK0.out Try.underlying43 rfl HSZ.out ?_)
  refine C.out.mono ?_
  rintro e w2 ⟨v, rfl, -, hb2⟩
  have HB2 := Lib.hid (HB0.out.trans (hb2.mono HB0.out.size))
  clear hb2
  cases S with
  | none =>
    rw [show errP none = 1 from rfl]
    go_wp2_with fail
    go_ret
    exact ⟨rfl, HB2.out⟩
  | some b =>
    rw [show errP (some b) = 0 from rfl]
    go_wp2_with fail
    go_ret
    exact ⟨rfl, HB2.out⟩
end Go.Proofs.Ytfadpiipigkocaa
namespace Go.Gz
open Go.RowKit Go.Proofs

theorem layCells_with (g : Nat) : ∀ (vs : List Value) (o : Nat) (w : World), layCells w g o vs = { w with heap := (layCells w g o vs).heap }
  | [], _, _ => rfl
  | v :: t, o, w => by
    have h := layCells_with g t (o + 1) (w.setCell ⟨g, o, none⟩ v)
    show layCells (w.setCell ⟨g, o, none⟩ v) g (o + 1) t = _
    rw [h]; rfl
theorem setRow_lay {w : World} {g : Nat} {t : TypeId} {fz : Nat × Nat} {old cs : Array Value} (h : w.heap[g]? = some (.cells old t fz)) (hl : cs.size = old.size) : w.setRow g cs = layCells w g 0 cs.toList := by
  rw [layCells_with]
  unfold World.setRow
  congr 1
  apply Array.ext_getElem?
  intro i
  rw [Array.getElem?_modify]
  by_cases hi : g = i
  · subst hi
    rw [if_pos rfl, h, layCells_all (cs := old.toList) cs.toList (by simpa using h) (by simpa using hl)]
    simp
  · rw [if_neg hi, layCells_other g cs.toList 0 w i (Ne.symm hi)]
end Go.Gz
namespace Go.Proofs.Ytfadpiipigkocaa
open Go.RowKit Go.Gz

theorem sizeU_two (a b : List UInt8) : sizeU [a, b] ≤ 536870920 := by
  have h1 := tlU_lt a
  have h2 := tlU_lt b
  show 4 + tlU a + (4 + tlU b + 0) ≤ _
  omega
theorem sumZ_leM {α : Type} (sz : α → Nat) (c m : Nat) (h : ∀ x, sz x ≤ c) (xs : List α) (hm : xs.length ≤ m) : sumZ sz xs ≤ c * m := Nat.le_trans (sumZ_le sz c h xs) (Nat.mul_le_mul_left c hm)
/-- where there is little, it can be laid. -/
theorem few_sm {n : NtL} (h : NtFew n) : NtSm n := by
  have h1 := sumZ_leM szR 536870920 100 (fun x => sizeU_two _ _) n.ls h.ll
  have h2 := sumZ_leM szE 40000 21 (fun x => by have := repS_len x.r; unfold szE; omega) n.la h.al
  have h3 := sumZ_leM szH 536870928 60 (fun x => by have := sizeU_two x.sp.f.data.toList x.sp.t.data.toList; unfold szH; omega) n.sh h.hl
  have h4 := sizeU_two n.sf n.st
  refine ⟨?_, Nat.le_trans h.rl (by decide), Nat.le_trans h.ll (by decide), Nat.le_trans h.al (by decide), fun e he => Nat.le_trans (h.ael e he) (by decide), Nat.le_trans h.hl (by decide)⟩
  unfold sizeN
  omega
/-- the entries of a note that was made are as they should be. -/
theorem made_ents {w w' : World} {n : NtL} {P : NtP} (h : NtAg w n P) (hf : NtFew n) (hb : Below w.heap.size w w') : EntsIn w' n.la := fun e he =>
  ⟨(h.les e he).rs.below hb, hf.ael e he, (h.les e he).pc, (h.les e he).wf⟩
/-- a note that was made, as a value. -/
def vpN (n : NtL) (P : NtP) : VP := ⟨fun v w => ∃ P', v = ntV n P' ∧ (P'.rp = P.rp ∧ P'.lp = P.lp) ∧ (RowE w P'.ap n.la ∧ TyP w P'.ap 84) ∧ (RowK KS w P'.hp n.sh ∧ TyP w P'.hp 70),
  fun _ _ _ ⟨P', h1, h2, h3, h4⟩ hb => ⟨P', h1, h2, ⟨h3.1.below hb, h3.2.below hb⟩, ⟨h4.1.below hb, h4.2.below hb⟩⟩⟩
theorem vpN_lay {n : NtL} {P : NtP} {v : Value} {w : World} {b : Nat} {cs : Array Value} {fz : Nat × Nat} (h : (vpN n P).f v w) (hb : w.heap[b]? = some (.cells cs 43 fz)) (vs : List Value) : (vpN n P).f v (layCells w b 0 vs) := by
  obtain ⟨P', h1, h2, h3, h4⟩ := h
  exact ⟨P', h1, h2, ⟨rowE_iff.1 ((rowE_iff.2 h3.1).layCells (h3.2.ne hb (by decide)) 0 vs), h3.2.layCells hb (by decide) 0 vs⟩, ⟨h4.1.layCells (h4.2.ne hb (by decide)) 0 vs, h4.2.layCells hb (by decide) 0 vs⟩⟩
theorem vpN_in {n : NtL} {P : NtP} {w w' : World} (h : NtAg w n P) (hb : Below w.heap.size w w') {P' : NtP} (h2 : P'.rp = P.rp ∧ P'.lp = P.lp) (h3 : RowE w' P'.ap n.la) (h4 : RowK KS w' P'.hp n.sh) : NtIn w' n P' :=
  ⟨by rw [h2.1]; exact h.rs.below hb, by rw [h2.2]; exact h.ls.below hb, h3, fun e he => (h.les e he).rs.below hb, h4⟩
end Go.Proofs.Ytfadpiipigkocaa
