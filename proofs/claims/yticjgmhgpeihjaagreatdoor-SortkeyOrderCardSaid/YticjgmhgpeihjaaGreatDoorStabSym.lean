/-
  slices.symMergeCmpFunc at lore's pairs: two sorted rows, side by side, merged stably.
-/
import Derived.Test.YticjgmhgpeihjaaGreatDoorStabPack
namespace Go.Proofs.YticjgmhgpeihjaaGreatDoor
open Go.RowKit Go.Gz Go.Sort Go.Lib

theorem rot_same {s m t : Nat} (d : Array Int) (h : s = m ∨ m = t) : Rot s m t d d := by
  rcases h with rfl | rfl
  · exact Rot.refl_left d
  · exact Rot.refl_right d
theorem found_at {cls : Int → Int} {d e : Array Int} {a m b mid s t : Nat} (f : Go.Gz.Found cls d a m b mid s) (hb : b ≤ d.size) (hm : m ≤ b) (h1 : Srt cls d a m) (h2 : Srt cls d m b) (ht : mid + m - s = t) (hr : Rot s m t d e) :
    Stb cls d e ∧ Chg a b d e ∧ Step cls a s mid t b e := by
  subst ht
  exact f.step hb hm h1 h2 hr
theorem step_first {cls : Int → Int} {e : Array Int} {a s mid t b : Nat} (h : Step cls a s mid t b e) (hc : s = a ∨ s = mid) : Done cls a mid e e := by
  rcases hc with rfl | rfl
  · exact done_of_srt h.left'
  · exact done_of_srt h.left
theorem step_second {cls : Int → Int} {e f : Array Int} {a s mid t b : Nat} (h : Step cls a s mid t b e) (hd : Done cls a mid e f) (hc : t = mid ∨ t = b) : Done cls mid b f f := by
  rcases hc with rfl | rfl
  · exact done_of_srt (hd.srt_out h.right' (Or.inr (Nat.le_refl _)))
  · exact done_of_srt (hd.srt_out h.right (Or.inr (Nat.le_refl _)))

set_option maxHeartbeats 4000000 in
set_option maxRecDepth 1000000 in
theorem symC1 (cls : Int → Int) (B blk off cap a m b mid : Nat) (d0 : Array Int) (w0 : World) (R : RowK (encC cls) 2 w0 blk off d0) (C : CmpOK w0 blk B) (ham : a + 1 < m) (hmb : m + 1 < b) (hb : b ≤ d0.size) (hsz : d0.size < 1000000)
    (hm1 : 2 * mid ≤ a + b) (hm2 : a + b ≤ 2 * mid + 1) (hmm : mid < m) (ih : ∀ a' m' b', b' - a' < b - a → a' < m' → m' < b' → b' ≤ d0.size → SymOK cls B blk off cap a' m' b' d0 w0) : SymOK cls B blk off cap a m b d0 w0 := by
  intro d w hs0 S hS1 hS2
  have hs := hs0.symm; clear hs0
  have S0 := Lib.hid S; clear S
  have HS1 := Lib.hid hS1; clear hS1
  have HS2 := Lib.hid hS2; clear hS2
  have mx := mixed
  obtain ⟨n, hn1, hn2, en⟩ : ∃ n : Nat, n ≤ mid + m ∧ mid + m ≤ n ∧ (mid : Int) + (m : Int) = (n : Int) := ⟨mid + m, by omega, by omega, by omega⟩
  obtain ⟨p, hp1, hp2, ep⟩ : ∃ p : Nat, p + 1 ≤ n ∧ n ≤ p + 1 ∧ (n : Int) - 1 = (p : Int) := ⟨n - 1, by omega, by omega, by omega⟩
  have emid : ((a : Int) + (b : Int)) / 2 = (mid : Int) := by omega
  have e2 : IntKind.i64.wrap ((m : Int) - (a : Int)) = (m : Int) - (a : Int) := by rw [IntKind.wrap_i64]; omega
  have e3 : ((m : Int) - (a : Int) == 1) = false := by simp; omega
  have e4 : IntKind.i64.wrap ((b : Int) - (m : Int)) = (b : Int) - (m : Int) := by rw [IntKind.wrap_i64]; omega
  have e5 : ((b : Int) - (m : Int) == 1) = false := by simp; omega
  obtain ⟨s0, hs1, hs2, es⟩ : ∃ s0 : Nat, s0 + b ≤ n ∧ n ≤ s0 + b ∧ (n : Int) - (b : Int) = (s0 : Int) := ⟨n - b, by omega, by omega, by omega⟩
  have hmmz : (mid : Int) < (m : Int) := by omega
  have IH := Lib.hid ih; clear ih
  go_enter Tryz.func112, Tryz.ntmps112
  go_wp2_with fail
  go_loopg [20, 21] (b - a) (fun g vi vj wr => ∃ (i j : Nat), vi = .int .i64 i ∧ vj = .int .i64 j ∧ s0 ≤ i ∧ i ≤ j ∧ j ≤ mid ∧ j - i ≤ g ∧ Hid (SWK (encC cls) 2 w0 blk off d wr) ∧ Hid (∀ x, s0 ≤ x → x < i → cls d[x]! ≤ cls d[p - x]!) ∧ Hid (∀ x, j ≤ x → x < mid → cls d[p - x]! < cls d[x]!))
  case atStart => exact ⟨s0, mid, rfl, rfl, Nat.le_refl _, by omega, Nat.le_refl _, by omega, S0, Lib.hid fun x h1 h2 => by omega, Lib.hid fun x h1 h2 => by omega⟩
  case round =>
    clear S0
    obtain ⟨i, j, rfl, rfl, hmi, hij, hjb, hg, S1, HL, HH⟩ := hrel
    by_cases hlt : i < j
    · have hltz : (i : Int) < (j : Int) := by omega
      obtain ⟨h, hih, hhj, ez⟩ : ∃ h : Nat, i ≤ h ∧ h < j ∧ ((i : Int) + (j : Int)) / 2 = (h : Int) := ⟨(i + j) / 2, (half i j hlt).1, (half i j hlt).2, by omega⟩
      obtain ⟨q, hq1, hq2, eq⟩ : ∃ q : Nat, q + h ≤ p ∧ p ≤ q + h ∧ (p : Int) - (h : Int) = (q : Int) := ⟨p - h, by omega, by omega, by omega⟩
      obtain ⟨x, y, cx, cy, HE, f1, f2, f3, f4, hcmp⟩ := cmp_pack S1.out R C hs.symm q h (by omega) (by omega)
      have bz1 : (h : Int) < (d.size : Int) := by omega
      have bz2 : (q : Int) < (d.size : Int) := by omega
      have ew : IntKind.i64.wrap (q : Int) = (q : Int) := by rw [IntKind.wrap_i64]; omega
      have hq : p - h = q := by omega
      have HQ := Lib.hid hq; clear hq
      by_cases hlv : cmpI cx cy < 0
      · go_wp2_with fail
        go_quiet_grown (first | (go_at_call 106; exact hcmp.out _ _))
        have S3 := Lib.hid (S1.out.grown nq osq)
        clear hcmp f1 f2 f3 f4
        go_wp2_with fail
        go_roundg (h - i)
        case measure => omega
        case rel =>
          have hk : cls d[p - h]! < cls d[h]! := by rw [HQ.out]; obtain ⟨_, h2, _, h4⟩ := HE.out; rw [h2, h4]; exact (cmpI_neg _ _).1 hlv
          exact ⟨i, h, rfl, rfl, hmi, by omega, by omega, by omega, S3, HL, Lib.hid fun z z1 z2 => by
            by_cases c : z = h
            · rw [c]; exact hk
            · have k1 := HS1.out h z (by omega) (by omega) (by omega)
              have k2 := HS2.out (p - z) (p - h) (by omega) (by omega) (by omega)
              omega⟩
      · have hld : decide (cmpI cx cy < 0) = false := decide_eq_false hlv
        go_wp2_with fail
        go_quiet_grown (first | (go_at_call 106; exact hcmp.out _ _))
        have S3 := Lib.hid (S1.out.grown nq osq)
        clear hcmp f1 f2 f3 f4
        go_wp2_with fail
        go_roundg (j - (h + 1))
        case measure => omega
        case rel =>
          have hk : cls d[h]! ≤ cls d[p - h]! := by rw [HQ.out]; obtain ⟨_, h2, _, h4⟩ := HE.out; rw [h2, h4]; have := mt (cmpI_neg cx cy).2 (by omega); omega
          exact ⟨h + 1, j, by go_num, rfl, by omega, by omega, hjb, by omega, S3, Lib.hid fun z z1 z2 => by
            by_cases c : z = h
            · rw [c]; exact hk
            · have k1 := HS1.out z h (by omega) (by omega) (by omega)
              have k2 := HS2.out (p - h) (p - z) (by omega) (by omega) (by omega)
              omega, HH⟩
    · obtain rfl : j = i := by omega
      obtain ⟨s, rfl⟩ : ∃ s, s = j := ⟨j, rfl⟩
      have HFd : Hid (Go.Gz.Found cls d a m b mid s) := Lib.hid ⟨by omega, by omega, by omega, by omega, fun x x1 x2 x3 => by
          have := HL.out x (by omega) x2
          rw [show p - x = mid + m - 1 - x by omega] at this; exact this, fun x x1 x2 x3 => by
          have := HH.out x x1 (by omega)
          rw [show p - x = mid + m - 1 - x by omega] at this; exact this⟩
      clear HL HH
      obtain ⟨t, ht1, ht2, et⟩ : ∃ t : Nat, t + s ≤ n ∧ n ≤ t + s ∧ (n : Int) - (s : Int) = (t : Int) := ⟨n - s, by omega, by omega, by omega⟩
      have hlz : ¬ (s : Int) < (s : Int) := by omega
      by_cases hA : s < mid
      · by_cases hB : a < s
        · by_cases hC : t < b
          · have z0 : (s : Int) < (m : Int) := by omega
            have z1 : (m : Int) < (t : Int) := by omega
            have z2 : (a : Int) < (s : Int) := by omega
            have z3 : (s : Int) < (mid : Int) := by omega
            have z4 : (mid : Int) < (t : Int) := by omega
            have z5 : (t : Int) < (b : Int) := by omega
            have fr := Lib.hid (rotate cls (cmpV B) blk off cap s m t d0 d w0 wr R hs S1.out (by omega) (by omega) (by omega) (by omega))
            go_wp2_with fail
            refine fr.out.mono ?_
            rintro e w1 ⟨rfl, d1, hr1, S2⟩
            have HR := Lib.hid hr1; clear hr1 fr
            have S3 := Lib.hid S2; clear S2
            have hd1 := Lib.hid HR.out.1
            have HF := Lib.hid (found_at HFd.out (by omega) (by omega) HS1.out HS2.out (by omega) HR.out)
            have c1 := IH.out a s mid (by omega) (by omega) (by omega) (by omega) d1 w1 (by rw [hd1.out]; exact hs.symm) S3.out HF.out.2.2.left HF.out.2.2.left'
            rw [hd1.out] at c1
            have C1 := Lib.hid c1; clear c1
            go_wp2_with fail
            refine C1.out.mono ?_
            rintro e w2 ⟨rfl, d2, hd2, S4⟩
            have HD := Lib.hid hd2; clear hd2 C1
            have S5 := Lib.hid S4; clear S4
            have hz2 := Lib.hid (HD.out.1.1.trans hd1.out)
            have c2 := IH.out mid t b (by omega) (by omega) (by omega) (by omega) d2 w2 (by rw [hz2.out]; exact hs.symm) S5.out (HD.out.srt_out HF.out.2.2.right (Or.inr (Nat.le_refl _))) (HD.out.srt_out HF.out.2.2.right' (Or.inr (by omega)))
            rw [hz2.out] at c2
            have C2 := Lib.hid c2; clear c2
            go_wp2_with fail
            refine C2.out.mono ?_
            rintro e w3 ⟨rfl, d3, hd3, S6⟩
            go_wp2_with fail
            go_end0
            exact ⟨rfl, d3, HF.out.2.2.done HF.out.1 HF.out.2.1 HD.out hd3 (by omega) (by omega), S6⟩
          · have z0 : (s : Int) < (m : Int) := by omega
            have z1 : (m : Int) < (t : Int) := by omega
            have z2 : (a : Int) < (s : Int) := by omega
            have z3 : (s : Int) < (mid : Int) := by omega
            have z4 : (mid : Int) < (t : Int) := by omega
            have z5 : ¬ (t : Int) < (b : Int) := by omega
            have fr := Lib.hid (rotate cls (cmpV B) blk off cap s m t d0 d w0 wr R hs S1.out (by omega) (by omega) (by omega) (by omega))
            go_wp2_with fail
            refine fr.out.mono ?_
            rintro e w1 ⟨rfl, d1, hr1, S2⟩
            have HR := Lib.hid hr1; clear hr1 fr
            have S3 := Lib.hid S2; clear S2
            have hd1 := Lib.hid HR.out.1
            have HF := Lib.hid (found_at HFd.out (by omega) (by omega) HS1.out HS2.out (by omega) HR.out)
            have c1 := IH.out a s mid (by omega) (by omega) (by omega) (by omega) d1 w1 (by rw [hd1.out]; exact hs.symm) S3.out HF.out.2.2.left HF.out.2.2.left'
            rw [hd1.out] at c1
            have C1 := Lib.hid c1; clear c1
            go_wp2_with fail
            refine C1.out.mono ?_
            rintro e w2 ⟨rfl, d2, hd2, S4⟩
            have HD := Lib.hid hd2; clear hd2 C1
            have S5 := Lib.hid S4; clear S4
            have hz2 := Lib.hid (HD.out.1.1.trans hd1.out)
            have HD3 := Lib.hid (step_second HF.out.2.2 HD.out (by omega))
            go_wp2_with fail
            go_end0
            exact ⟨rfl, d2, HF.out.2.2.done HF.out.1 HF.out.2.1 HD.out HD3.out (by omega) (by omega), S5.out⟩
        · by_cases hC : t < b
          · have z0 : (s : Int) < (m : Int) := by omega
            have z1 : (m : Int) < (t : Int) := by omega
            have z2 : ¬ (a : Int) < (s : Int) := by omega
            have z3 : (mid : Int) < (t : Int) := by omega
            have z4 : (t : Int) < (b : Int) := by omega
            have fr := Lib.hid (rotate cls (cmpV B) blk off cap s m t d0 d w0 wr R hs S1.out (by omega) (by omega) (by omega) (by omega))
            go_wp2_with fail
            refine fr.out.mono ?_
            rintro e w1 ⟨rfl, d1, hr1, S2⟩
            have HR := Lib.hid hr1; clear hr1 fr
            have S3 := Lib.hid S2; clear S2
            have hd1 := Lib.hid HR.out.1
            have HF := Lib.hid (found_at HFd.out (by omega) (by omega) HS1.out HS2.out (by omega) HR.out)
            obtain ⟨d2, HD, hz2⟩ : ∃ d2 : Array Int, Hid (d2 = d1 ∧ Done cls a mid d1 d2) ∧ Hid (d2.size = d.size) := ⟨d1, Lib.hid ⟨rfl, step_first HF.out.2.2 (by omega)⟩, hd1⟩
            obtain ⟨w2, S5, HW2⟩ : ∃ w2 : World, Hid (SWK (encC cls) 2 w0 blk off d2 w2) ∧ w2 = w1 := ⟨w1, Lib.hid (by rw [HD.out.1]; exact S3.out), rfl⟩
            subst HW2
            have HD := Lib.hid HD.out.2
            have c2 := IH.out mid t b (by omega) (by omega) (by omega) (by omega) d2 w2 (by rw [hz2.out]; exact hs.symm) S5.out (HD.out.srt_out HF.out.2.2.right (Or.inr (Nat.le_refl _))) (HD.out.srt_out HF.out.2.2.right' (Or.inr (by omega)))
            rw [hz2.out] at c2
            have C2 := Lib.hid c2; clear c2
            go_wp2_with fail
            refine C2.out.mono ?_
            rintro e w3 ⟨rfl, d3, hd3, S6⟩
            go_wp2_with fail
            go_end0
            exact ⟨rfl, d3, HF.out.2.2.done HF.out.1 HF.out.2.1 HD.out hd3 (by omega) (by omega), S6⟩
          · have z0 : (s : Int) < (m : Int) := by omega
            have z1 : (m : Int) < (t : Int) := by omega
            have z2 : ¬ (a : Int) < (s : Int) := by omega
            have z3 : (mid : Int) < (t : Int) := by omega
            have z4 : ¬ (t : Int) < (b : Int) := by omega
            have fr := Lib.hid (rotate cls (cmpV B) blk off cap s m t d0 d w0 wr R hs S1.out (by omega) (by omega) (by omega) (by omega))
            go_wp2_with fail
            refine fr.out.mono ?_
            rintro e w1 ⟨rfl, d1, hr1, S2⟩
            have HR := Lib.hid hr1; clear hr1 fr
            have S3 := Lib.hid S2; clear S2
            have hd1 := Lib.hid HR.out.1
            have HF := Lib.hid (found_at HFd.out (by omega) (by omega) HS1.out HS2.out (by omega) HR.out)
            obtain ⟨d2, HD, hz2⟩ : ∃ d2 : Array Int, Hid (d2 = d1 ∧ Done cls a mid d1 d2) ∧ Hid (d2.size = d.size) := ⟨d1, Lib.hid ⟨rfl, step_first HF.out.2.2 (by omega)⟩, hd1⟩
            obtain ⟨w2, S5, HW2⟩ : ∃ w2 : World, Hid (SWK (encC cls) 2 w0 blk off d2 w2) ∧ w2 = w1 := ⟨w1, Lib.hid (by rw [HD.out.1]; exact S3.out), rfl⟩
            subst HW2
            have HD := Lib.hid HD.out.2
            have HD3 := Lib.hid (step_second HF.out.2.2 HD.out (by omega))
            go_wp2_with fail
            go_end0
            exact ⟨rfl, d2, HF.out.2.2.done HF.out.1 HF.out.2.1 HD.out HD3.out (by omega) (by omega), S5.out⟩
      · by_cases hC : t < b
        · have z0 : (s : Int) < (m : Int) := by omega
          have z1 : ¬ (m : Int) < (t : Int) := by omega
          have z2 : (a : Int) < (s : Int) := by omega
          have z3 : ¬ (s : Int) < (mid : Int) := by omega
          have z4 : (mid : Int) < (t : Int) := by omega
          have z5 : (t : Int) < (b : Int) := by omega
          obtain ⟨d1, HR, hd1⟩ : ∃ d1 : Array Int, Hid (d1 = d ∧ Rot s m t d d1) ∧ Hid (d1.size = d.size) := ⟨d, Lib.hid ⟨rfl, rot_same d (by omega)⟩, Lib.hid rfl⟩
          obtain ⟨w1, S3, HW⟩ : ∃ w1 : World, Hid (SWK (encC cls) 2 w0 blk off d1 w1) ∧ w1 = wr := ⟨wr, Lib.hid (by rw [HR.out.1]; exact S1.out), rfl⟩
          subst HW
          have HR := Lib.hid HR.out.2
          have HF := Lib.hid (found_at HFd.out (by omega) (by omega) HS1.out HS2.out (by omega) HR.out)
          obtain ⟨d2, HD, hz2⟩ : ∃ d2 : Array Int, Hid (d2 = d1 ∧ Done cls a mid d1 d2) ∧ Hid (d2.size = d.size) := ⟨d1, Lib.hid ⟨rfl, step_first HF.out.2.2 (by omega)⟩, hd1⟩
          obtain ⟨w2, S5, HW2⟩ : ∃ w2 : World, Hid (SWK (encC cls) 2 w0 blk off d2 w2) ∧ w2 = w1 := ⟨w1, Lib.hid (by rw [HD.out.1]; exact S3.out), rfl⟩
          subst HW2
          have HD := Lib.hid HD.out.2
          have c2 := IH.out mid t b (by omega) (by omega) (by omega) (by omega) d2 w2 (by rw [hz2.out]; exact hs.symm) S5.out (HD.out.srt_out HF.out.2.2.right (Or.inr (Nat.le_refl _))) (HD.out.srt_out HF.out.2.2.right' (Or.inr (by omega)))
          rw [hz2.out] at c2
          have C2 := Lib.hid c2; clear c2
          go_wp2_with fail
          refine C2.out.mono ?_
          rintro e w3 ⟨rfl, d3, hd3, S6⟩
          go_wp2_with fail
          go_end0
          exact ⟨rfl, d3, HF.out.2.2.done HF.out.1 HF.out.2.1 HD.out hd3 (by omega) (by omega), S6⟩
        · have z0 : (s : Int) < (m : Int) := by omega
          have z1 : ¬ (m : Int) < (t : Int) := by omega
          have z2 : (a : Int) < (s : Int) := by omega
          have z3 : ¬ (s : Int) < (mid : Int) := by omega
          have z4 : (mid : Int) < (t : Int) := by omega
          have z5 : ¬ (t : Int) < (b : Int) := by omega
          obtain ⟨d1, HR, hd1⟩ : ∃ d1 : Array Int, Hid (d1 = d ∧ Rot s m t d d1) ∧ Hid (d1.size = d.size) := ⟨d, Lib.hid ⟨rfl, rot_same d (by omega)⟩, Lib.hid rfl⟩
          obtain ⟨w1, S3, HW⟩ : ∃ w1 : World, Hid (SWK (encC cls) 2 w0 blk off d1 w1) ∧ w1 = wr := ⟨wr, Lib.hid (by rw [HR.out.1]; exact S1.out), rfl⟩
          subst HW
          have HR := Lib.hid HR.out.2
          have HF := Lib.hid (found_at HFd.out (by omega) (by omega) HS1.out HS2.out (by omega) HR.out)
          obtain ⟨d2, HD, hz2⟩ : ∃ d2 : Array Int, Hid (d2 = d1 ∧ Done cls a mid d1 d2) ∧ Hid (d2.size = d.size) := ⟨d1, Lib.hid ⟨rfl, step_first HF.out.2.2 (by omega)⟩, hd1⟩
          obtain ⟨w2, S5, HW2⟩ : ∃ w2 : World, Hid (SWK (encC cls) 2 w0 blk off d2 w2) ∧ w2 = w1 := ⟨w1, Lib.hid (by rw [HD.out.1]; exact S3.out), rfl⟩
          subst HW2
          have HD := Lib.hid HD.out.2
          have HD3 := Lib.hid (step_second HF.out.2.2 HD.out (by omega))
          go_wp2_with fail
          go_end0
          exact ⟨rfl, d2, HF.out.2.2.done HF.out.1 HF.out.2.1 HD.out HD3.out (by omega) (by omega), S5.out⟩

set_option maxHeartbeats 4000000 in
set_option maxRecDepth 1000000 in
theorem symC2 (cls : Int → Int) (B blk off cap a m b mid : Nat) (d0 : Array Int) (w0 : World) (R : RowK (encC cls) 2 w0 blk off d0) (C : CmpOK w0 blk B) (ham : a + 1 < m) (hmb : m + 1 < b) (hb : b ≤ d0.size) (hsz : d0.size < 1000000)
    (hm1 : 2 * mid ≤ a + b) (hm2 : a + b ≤ 2 * mid + 1) (hmm : m ≤ mid) (ih : ∀ a' m' b', b' - a' < b - a → a' < m' → m' < b' → b' ≤ d0.size → SymOK cls B blk off cap a' m' b' d0 w0) : SymOK cls B blk off cap a m b d0 w0 := by
  intro d w hs0 S hS1 hS2
  have hs := hs0.symm; clear hs0
  have S0 := Lib.hid S; clear S
  have HS1 := Lib.hid hS1; clear hS1
  have HS2 := Lib.hid hS2; clear hS2
  have mx := mixed
  obtain ⟨n, hn1, hn2, en⟩ : ∃ n : Nat, n ≤ mid + m ∧ mid + m ≤ n ∧ (mid : Int) + (m : Int) = (n : Int) := ⟨mid + m, by omega, by omega, by omega⟩
  obtain ⟨p, hp1, hp2, ep⟩ : ∃ p : Nat, p + 1 ≤ n ∧ n ≤ p + 1 ∧ (n : Int) - 1 = (p : Int) := ⟨n - 1, by omega, by omega, by omega⟩
  have emid : ((a : Int) + (b : Int)) / 2 = (mid : Int) := by omega
  have e2 : IntKind.i64.wrap ((m : Int) - (a : Int)) = (m : Int) - (a : Int) := by rw [IntKind.wrap_i64]; omega
  have e3 : ((m : Int) - (a : Int) == 1) = false := by simp; omega
  have e4 : IntKind.i64.wrap ((b : Int) - (m : Int)) = (b : Int) - (m : Int) := by rw [IntKind.wrap_i64]; omega
  have e5 : ((b : Int) - (m : Int) == 1) = false := by simp; omega
  have hmmz : ¬ (mid : Int) < (m : Int) := by omega
  have IH := Lib.hid ih; clear ih
  go_enter Tryz.func112, Tryz.ntmps112
  go_wp2_with fail
  go_loopg [20, 21] (b - a) (fun g vi vj wr => ∃ (i j : Nat), vi = .int .i64 i ∧ vj = .int .i64 j ∧ a ≤ i ∧ i ≤ j ∧ j ≤ m ∧ j - i ≤ g ∧ Hid (SWK (encC cls) 2 w0 blk off d wr) ∧ Hid (∀ x, a ≤ x → x < i → cls d[x]! ≤ cls d[p - x]!) ∧ Hid (∀ x, j ≤ x → x < m → cls d[p - x]! < cls d[x]!))
  case atStart => exact ⟨a, m, rfl, rfl, Nat.le_refl _, by omega, Nat.le_refl _, by omega, S0, Lib.hid fun x h1 h2 => by omega, Lib.hid fun x h1 h2 => by omega⟩
  case round =>
    clear S0
    obtain ⟨i, j, rfl, rfl, hmi, hij, hjb, hg, S1, HL, HH⟩ := hrel
    by_cases hlt : i < j
    · have hltz : (i : Int) < (j : Int) := by omega
      obtain ⟨h, hih, hhj, ez⟩ : ∃ h : Nat, i ≤ h ∧ h < j ∧ ((i : Int) + (j : Int)) / 2 = (h : Int) := ⟨(i + j) / 2, (half i j hlt).1, (half i j hlt).2, by omega⟩
      obtain ⟨q, hq1, hq2, eq⟩ : ∃ q : Nat, q + h ≤ p ∧ p ≤ q + h ∧ (p : Int) - (h : Int) = (q : Int) := ⟨p - h, by omega, by omega, by omega⟩
      obtain ⟨x, y, cx, cy, HE, f1, f2, f3, f4, hcmp⟩ := cmp_pack S1.out R C hs.symm q h (by omega) (by omega)
      have bz1 : (h : Int) < (d.size : Int) := by omega
      have bz2 : (q : Int) < (d.size : Int) := by omega
      have ew : IntKind.i64.wrap (q : Int) = (q : Int) := by rw [IntKind.wrap_i64]; omega
      have hq : p - h = q := by omega
      have HQ := Lib.hid hq; clear hq
      by_cases hlv : cmpI cx cy < 0
      · go_wp2_with fail
        go_quiet_grown (first | (go_at_call 106; exact hcmp.out _ _))
        have S3 := Lib.hid (S1.out.grown nq osq)
        clear hcmp f1 f2 f3 f4
        go_wp2_with fail
        go_roundg (h - i)
        case measure => omega
        case rel =>
          have hk : cls d[p - h]! < cls d[h]! := by rw [HQ.out]; obtain ⟨_, h2, _, h4⟩ := HE.out; rw [h2, h4]; exact (cmpI_neg _ _).1 hlv
          exact ⟨i, h, rfl, rfl, hmi, by omega, by omega, by omega, S3, HL, Lib.hid fun z z1 z2 => by
            by_cases c : z = h
            · rw [c]; exact hk
            · have k1 := HS1.out h z (by omega) (by omega) (by omega)
              have k2 := HS2.out (p - z) (p - h) (by omega) (by omega) (by omega)
              omega⟩
      · have hld : decide (cmpI cx cy < 0) = false := decide_eq_false hlv
        go_wp2_with fail
        go_quiet_grown (first | (go_at_call 106; exact hcmp.out _ _))
        have S3 := Lib.hid (S1.out.grown nq osq)
        clear hcmp f1 f2 f3 f4
        go_wp2_with fail
        go_roundg (j - (h + 1))
        case measure => omega
        case rel =>
          have hk : cls d[h]! ≤ cls d[p - h]! := by rw [HQ.out]; obtain ⟨_, h2, _, h4⟩ := HE.out; rw [h2, h4]; have := mt (cmpI_neg cx cy).2 (by omega); omega
          exact ⟨h + 1, j, by go_num, rfl, by omega, by omega, hjb, by omega, S3, Lib.hid fun z z1 z2 => by
            by_cases c : z = h
            · rw [c]; exact hk
            · have k1 := HS1.out z h (by omega) (by omega) (by omega)
              have k2 := HS2.out (p - h) (p - z) (by omega) (by omega) (by omega)
              omega, HH⟩
    · obtain rfl : j = i := by omega
      obtain ⟨s, rfl⟩ : ∃ s, s = j := ⟨j, rfl⟩
      have HFd : Hid (Go.Gz.Found cls d a m b mid s) := Lib.hid ⟨by omega, by omega, by omega, by omega, fun x x1 x2 x3 => by
          have := HL.out x (by omega) x2
          rw [show p - x = mid + m - 1 - x by omega] at this; exact this, fun x x1 x2 x3 => by
          have := HH.out x x1 (by omega)
          rw [show p - x = mid + m - 1 - x by omega] at this; exact this⟩
      clear HL HH
      obtain ⟨t, ht1, ht2, et⟩ : ∃ t : Nat, t + s ≤ n ∧ n ≤ t + s ∧ (n : Int) - (s : Int) = (t : Int) := ⟨n - s, by omega, by omega, by omega⟩
      have hlz : ¬ (s : Int) < (s : Int) := by omega
      by_cases hA : s < m
      · by_cases hB : a < s
        · by_cases hC : t < b
          · have z0 : (s : Int) < (m : Int) := by omega
            have z1 : (m : Int) < (t : Int) := by omega
            have z2 : (a : Int) < (s : Int) := by omega
            have z3 : (s : Int) < (mid : Int) := by omega
            have z4 : (mid : Int) < (t : Int) := by omega
            have z5 : (t : Int) < (b : Int) := by omega
            have fr := Lib.hid (rotate cls (cmpV B) blk off cap s m t d0 d w0 wr R hs S1.out (by omega) (by omega) (by omega) (by omega))
            go_wp2_with fail
            refine fr.out.mono ?_
            rintro e w1 ⟨rfl, d1, hr1, S2⟩
            have HR := Lib.hid hr1; clear hr1 fr
            have S3 := Lib.hid S2; clear S2
            have hd1 := Lib.hid HR.out.1
            have HF := Lib.hid (found_at HFd.out (by omega) (by omega) HS1.out HS2.out (by omega) HR.out)
            have c1 := IH.out a s mid (by omega) (by omega) (by omega) (by omega) d1 w1 (by rw [hd1.out]; exact hs.symm) S3.out HF.out.2.2.left HF.out.2.2.left'
            rw [hd1.out] at c1
            have C1 := Lib.hid c1; clear c1
            go_wp2_with fail
            refine C1.out.mono ?_
            rintro e w2 ⟨rfl, d2, hd2, S4⟩
            have HD := Lib.hid hd2; clear hd2 C1
            have S5 := Lib.hid S4; clear S4
            have hz2 := Lib.hid (HD.out.1.1.trans hd1.out)
            have c2 := IH.out mid t b (by omega) (by omega) (by omega) (by omega) d2 w2 (by rw [hz2.out]; exact hs.symm) S5.out (HD.out.srt_out HF.out.2.2.right (Or.inr (Nat.le_refl _))) (HD.out.srt_out HF.out.2.2.right' (Or.inr (by omega)))
            rw [hz2.out] at c2
            have C2 := Lib.hid c2; clear c2
            go_wp2_with fail
            refine C2.out.mono ?_
            rintro e w3 ⟨rfl, d3, hd3, S6⟩
            go_wp2_with fail
            go_end0
            exact ⟨rfl, d3, HF.out.2.2.done HF.out.1 HF.out.2.1 HD.out hd3 (by omega) (by omega), S6⟩
          · have z0 : (s : Int) < (m : Int) := by omega
            have z1 : (m : Int) < (t : Int) := by omega
            have z2 : (a : Int) < (s : Int) := by omega
            have z3 : (s : Int) < (mid : Int) := by omega
            have z4 : (mid : Int) < (t : Int) := by omega
            have z5 : ¬ (t : Int) < (b : Int) := by omega
            have fr := Lib.hid (rotate cls (cmpV B) blk off cap s m t d0 d w0 wr R hs S1.out (by omega) (by omega) (by omega) (by omega))
            go_wp2_with fail
            refine fr.out.mono ?_
            rintro e w1 ⟨rfl, d1, hr1, S2⟩
            have HR := Lib.hid hr1; clear hr1 fr
            have S3 := Lib.hid S2; clear S2
            have hd1 := Lib.hid HR.out.1
            have HF := Lib.hid (found_at HFd.out (by omega) (by omega) HS1.out HS2.out (by omega) HR.out)
            have c1 := IH.out a s mid (by omega) (by omega) (by omega) (by omega) d1 w1 (by rw [hd1.out]; exact hs.symm) S3.out HF.out.2.2.left HF.out.2.2.left'
            rw [hd1.out] at c1
            have C1 := Lib.hid c1; clear c1
            go_wp2_with fail
            refine C1.out.mono ?_
            rintro e w2 ⟨rfl, d2, hd2, S4⟩
            have HD := Lib.hid hd2; clear hd2 C1
            have S5 := Lib.hid S4; clear S4
            have hz2 := Lib.hid (HD.out.1.1.trans hd1.out)
            have HD3 := Lib.hid (step_second HF.out.2.2 HD.out (by omega))
            go_wp2_with fail
            go_end0
            exact ⟨rfl, d2, HF.out.2.2.done HF.out.1 HF.out.2.1 HD.out HD3.out (by omega) (by omega), S5.out⟩
        · by_cases hC : t < b
          · have z0 : (s : Int) < (m : Int) := by omega
            have z1 : (m : Int) < (t : Int) := by omega
            have z2 : ¬ (a : Int) < (s : Int) := by omega
            have z3 : (mid : Int) < (t : Int) := by omega
            have z4 : (t : Int) < (b : Int) := by omega
            have fr := Lib.hid (rotate cls (cmpV B) blk off cap s m t d0 d w0 wr R hs S1.out (by omega) (by omega) (by omega) (by omega))
            go_wp2_with fail
            refine fr.out.mono ?_
            rintro e w1 ⟨rfl, d1, hr1, S2⟩
            have HR := Lib.hid hr1; clear hr1 fr
            have S3 := Lib.hid S2; clear S2
            have hd1 := Lib.hid HR.out.1
            have HF := Lib.hid (found_at HFd.out (by omega) (by omega) HS1.out HS2.out (by omega) HR.out)
            obtain ⟨d2, HD, hz2⟩ : ∃ d2 : Array Int, Hid (d2 = d1 ∧ Done cls a mid d1 d2) ∧ Hid (d2.size = d.size) := ⟨d1, Lib.hid ⟨rfl, step_first HF.out.2.2 (by omega)⟩, hd1⟩
            obtain ⟨w2, S5, HW2⟩ : ∃ w2 : World, Hid (SWK (encC cls) 2 w0 blk off d2 w2) ∧ w2 = w1 := ⟨w1, Lib.hid (by rw [HD.out.1]; exact S3.out), rfl⟩
            subst HW2
            have HD := Lib.hid HD.out.2
            have c2 := IH.out mid t b (by omega) (by omega) (by omega) (by omega) d2 w2 (by rw [hz2.out]; exact hs.symm) S5.out (HD.out.srt_out HF.out.2.2.right (Or.inr (Nat.le_refl _))) (HD.out.srt_out HF.out.2.2.right' (Or.inr (by omega)))
            rw [hz2.out] at c2
            have C2 := Lib.hid c2; clear c2
            go_wp2_with fail
            refine C2.out.mono ?_
            rintro e w3 ⟨rfl, d3, hd3, S6⟩
            go_wp2_with fail
            go_end0
            exact ⟨rfl, d3, HF.out.2.2.done HF.out.1 HF.out.2.1 HD.out hd3 (by omega) (by omega), S6⟩
          · have z0 : (s : Int) < (m : Int) := by omega
            have z1 : (m : Int) < (t : Int) := by omega
            have z2 : ¬ (a : Int) < (s : Int) := by omega
            have z3 : (mid : Int) < (t : Int) := by omega
            have z4 : ¬ (t : Int) < (b : Int) := by omega
            have fr := Lib.hid (rotate cls (cmpV B) blk off cap s m t d0 d w0 wr R hs S1.out (by omega) (by omega) (by omega) (by omega))
            go_wp2_with fail
            refine fr.out.mono ?_
            rintro e w1 ⟨rfl, d1, hr1, S2⟩
            have HR := Lib.hid hr1; clear hr1 fr
            have S3 := Lib.hid S2; clear S2
            have hd1 := Lib.hid HR.out.1
            have HF := Lib.hid (found_at HFd.out (by omega) (by omega) HS1.out HS2.out (by omega) HR.out)
            obtain ⟨d2, HD, hz2⟩ : ∃ d2 : Array Int, Hid (d2 = d1 ∧ Done cls a mid d1 d2) ∧ Hid (d2.size = d.size) := ⟨d1, Lib.hid ⟨rfl, step_first HF.out.2.2 (by omega)⟩, hd1⟩
            obtain ⟨w2, S5, HW2⟩ : ∃ w2 : World, Hid (SWK (encC cls) 2 w0 blk off d2 w2) ∧ w2 = w1 := ⟨w1, Lib.hid (by rw [HD.out.1]; exact S3.out), rfl⟩
            subst HW2
            have HD := Lib.hid HD.out.2
            have HD3 := Lib.hid (step_second HF.out.2.2 HD.out (by omega))
            go_wp2_with fail
            go_end0
            exact ⟨rfl, d2, HF.out.2.2.done HF.out.1 HF.out.2.1 HD.out HD3.out (by omega) (by omega), S5.out⟩
      · by_cases hB : s < mid
        · have z0 : ¬ (s : Int) < (m : Int) := by omega
          have z1 : (a : Int) < (s : Int) := by omega
          have z2 : (s : Int) < (mid : Int) := by omega
          have z3 : ¬ (mid : Int) < (t : Int) := by omega
          obtain ⟨d1, HR, hd1⟩ : ∃ d1 : Array Int, Hid (d1 = d ∧ Rot s m t d d1) ∧ Hid (d1.size = d.size) := ⟨d, Lib.hid ⟨rfl, rot_same d (by omega)⟩, Lib.hid rfl⟩
          obtain ⟨w1, S3, HW⟩ : ∃ w1 : World, Hid (SWK (encC cls) 2 w0 blk off d1 w1) ∧ w1 = wr := ⟨wr, Lib.hid (by rw [HR.out.1]; exact S1.out), rfl⟩
          subst HW
          have HR := Lib.hid HR.out.2
          have HF := Lib.hid (found_at HFd.out (by omega) (by omega) HS1.out HS2.out (by omega) HR.out)
          have c1 := IH.out a s mid (by omega) (by omega) (by omega) (by omega) d1 w1 (by rw [hd1.out]; exact hs.symm) S3.out HF.out.2.2.left HF.out.2.2.left'
          rw [hd1.out] at c1
          have C1 := Lib.hid c1; clear c1
          go_wp2_with fail
          refine C1.out.mono ?_
          rintro e w2 ⟨rfl, d2, hd2, S4⟩
          have HD := Lib.hid hd2; clear hd2 C1
          have S5 := Lib.hid S4; clear S4
          have hz2 := Lib.hid (HD.out.1.1.trans hd1.out)
          have HD3 := Lib.hid (step_second HF.out.2.2 HD.out (by omega))
          go_wp2_with fail
          go_end0
          exact ⟨rfl, d2, HF.out.2.2.done HF.out.1 HF.out.2.1 HD.out HD3.out (by omega) (by omega), S5.out⟩
        · have z0 : ¬ (s : Int) < (m : Int) := by omega
          have z1 : (a : Int) < (s : Int) := by omega
          have z2 : ¬ (s : Int) < (mid : Int) := by omega
          have z3 : ¬ (mid : Int) < (t : Int) := by omega
          obtain ⟨d1, HR, hd1⟩ : ∃ d1 : Array Int, Hid (d1 = d ∧ Rot s m t d d1) ∧ Hid (d1.size = d.size) := ⟨d, Lib.hid ⟨rfl, rot_same d (by omega)⟩, Lib.hid rfl⟩
          obtain ⟨w1, S3, HW⟩ : ∃ w1 : World, Hid (SWK (encC cls) 2 w0 blk off d1 w1) ∧ w1 = wr := ⟨wr, Lib.hid (by rw [HR.out.1]; exact S1.out), rfl⟩
          subst HW
          have HR := Lib.hid HR.out.2
          have HF := Lib.hid (found_at HFd.out (by omega) (by omega) HS1.out HS2.out (by omega) HR.out)
          obtain ⟨d2, HD, hz2⟩ : ∃ d2 : Array Int, Hid (d2 = d1 ∧ Done cls a mid d1 d2) ∧ Hid (d2.size = d.size) := ⟨d1, Lib.hid ⟨rfl, step_first HF.out.2.2 (by omega)⟩, hd1⟩
          obtain ⟨w2, S5, HW2⟩ : ∃ w2 : World, Hid (SWK (encC cls) 2 w0 blk off d2 w2) ∧ w2 = w1 := ⟨w1, Lib.hid (by rw [HD.out.1]; exact S3.out), rfl⟩
          subst HW2
          have HD := Lib.hid HD.out.2
          have HD3 := Lib.hid (step_second HF.out.2.2 HD.out (by omega))
          go_wp2_with fail
          go_end0
          exact ⟨rfl, d2, HF.out.2.2.done HF.out.1 HF.out.2.1 HD.out HD3.out (by omega) (by omega), S5.out⟩

/-- a merge, of whatever rows. -/
theorem symMerge (cls : Int → Int) (B blk off cap : Nat) (d0 : Array Int) (w0 : World) (R : RowK (encC cls) 2 w0 blk off d0) (C : CmpOK w0 blk B) (hsz : d0.size < 1000000) :
    ∀ (N a m b : Nat), b - a ≤ N → a < m → m < b → b ≤ d0.size → SymOK cls B blk off cap a m b d0 w0
  | 0, a, m, b, hN, h1, h2, _ => by omega
  | N + 1, a, m, b, hN, h1, h2, hb => by
    by_cases c1 : m = a + 1
    · subst c1; exact symA cls B blk off cap a b d0 w0 R C h2 hb hsz
    · by_cases c2 : b = m + 1
      · subst c2; exact symB cls B blk off cap a m d0 w0 R C (by omega) hb hsz
      · have ih : ∀ a' m' b', b' - a' < b - a → a' < m' → m' < b' → b' ≤ d0.size → SymOK cls B blk off cap a' m' b' d0 w0 := fun a' m' b' k1 k2 k3 k4 => symMerge cls B blk off cap d0 w0 R C hsz N a' m' b' (by omega) k2 k3 k4
        by_cases c3 : (a + b) / 2 < m
        · exact symC1 cls B blk off cap a m b ((a + b) / 2) d0 w0 R C (by omega) (by omega) hb hsz (by omega) (by omega) c3 ih
        · exact symC2 cls B blk off cap a m b ((a + b) / 2) d0 w0 R C (by omega) (by omega) hb hsz (by omega) (by omega) (by omega) ih
end Go.Proofs.YticjgmhgpeihjaaGreatDoor
