/-
  What a walk wants at the two recurring steps of the stable sort's family: a comparison of two elements, an exchange.
-/
import Derived.Test.YticjgmhgpeihjaaGreatDoorStabIns
import Derived.Test.YticjgmhgpeihjaaGreatDoorStabRot
namespace Go.Proofs.YticjgmhgpeihjaaGreatDoor
open Go.RowKit Go.Gz Go.Sort Go.Lib

theorem cmp_pack {cls : Int → Int} {w0 W : World} {blk off B : Nat} {d0 dk : Array Int} (S : SWK (encC cls) 2 w0 blk off dk W) (R : RowK (encC cls) 2 w0 blk off d0) (C : CmpOK w0 blk B) (hs : dk.size = d0.size) (i j : Nat) (hi : i < dk.size) (hj : j < dk.size) :
    ∃ x y cx cy : Int, Hid (dk[i]! = x ∧ cls dk[i]! = cx ∧ dk[j]! = y ∧ cls dk[j]! = cy) ∧
      (∀ n os, (grow (W.drewN n) os).cell? ⟨blk, off + i * 2, none⟩ = some (.int .i32 x)) ∧ (∀ n os, (grow (W.drewN n) os).cell? ⟨blk, off + i * 2 + 1, none⟩ = some (.int .i64 cx)) ∧
      (∀ n os, (grow (W.drewN n) os).cell? ⟨blk, off + j * 2, none⟩ = some (.int .i32 y)) ∧ (∀ n os, (grow (W.drewN n) os).cell? ⟨blk, off + j * 2 + 1, none⟩ = some (.int .i64 cy)) ∧
      Hid (∀ n os, Calls Tryz.prog 106 #[.agg #[.int .i32 x, .int .i64 cx], .agg #[.int .i32 y, .int .i64 cy], .pointer (some ⟨B, 0, none⟩)] (grow (W.drewN n) os) fun e w'' => e = .returned (.int .i64 (cmpI cx cy)) ∧ ∃ p : GrownBy, w'' = grow (W.drewN p.n) p.os) := by
  obtain ⟨⟨p1, _⟩, p3, _⟩ := cells2 S R hs i hi
  obtain ⟨⟨q1, _⟩, q3, _⟩ := cells2 S R hs j hj
  have hblk := S.lt R.hblk
  exact ⟨_, _, _, _, Lib.hid ⟨rfl, rfl, rfl, rfl⟩, cell_grown hblk p1, cell_grown (a := ⟨blk, off + i * 2 + 1, none⟩) hblk p3, cell_grown (a := ⟨blk, off + j * 2, none⟩) hblk q1, cell_grown (a := ⟨blk, off + j * 2 + 1, none⟩) hblk q3, Lib.hid (cmpK S C _ _)⟩

theorem swap_pack {cls : Int → Int} {w0 W : World} {blk off : Nat} {d0 dk : Array Int} (S : SWK (encC cls) 2 w0 blk off dk W) (R : RowK (encC cls) 2 w0 blk off d0) (hs : dk.size = d0.size) (i j : Nat) (hi : i < dk.size) (hj : j < dk.size) :
    ∃ x y cx cy : Int, (W.cell? ⟨blk, off + i * 2, none⟩ = some (.int .i32 x) ∧ W.frozen? ⟨blk, off + i * 2, none⟩ = false) ∧ (W.cell? ⟨blk, off + i * 2 + 1, none⟩ = some (.int .i64 cx) ∧ W.frozen? ⟨blk, off + i * 2 + 1, none⟩ = false) ∧
      (W.cell? ⟨blk, off + j * 2, none⟩ = some (.int .i32 y) ∧ W.frozen? ⟨blk, off + j * 2, none⟩ = false) ∧ (W.cell? ⟨blk, off + j * 2 + 1, none⟩ = some (.int .i64 cy) ∧ W.frozen? ⟨blk, off + j * 2 + 1, none⟩ = false) ∧
      Hid (SWK (encC cls) 2 w0 blk off (swp dk i j) ((((W.setCell ⟨blk, off + i * 2, none⟩ (.int .i32 y)).setCell ⟨blk, off + i * 2 + 1, none⟩ (.int .i64 cy)).setCell ⟨blk, off + j * 2, none⟩ (.int .i32 x)).setCell ⟨blk, off + j * 2 + 1, none⟩ (.int .i64 cx)).drew) := by
  obtain ⟨p1, p3⟩ := cells2 S R hs i hi
  obtain ⟨q1, q3⟩ := cells2 S R hs j hj
  exact ⟨_, _, _, _, p1, p3, q1, q3, Lib.hid (swapC S R i j hi hj)⟩

/-- a merge's contract. -/
def SymPost (cls : Int → Int) (blk off a b : Nat) (d : Array Int) (w0 : World) (e : Ending) (w' : World) : Prop := e = .returned (.tuple #[]) ∧ ∃ d', Done cls a b d d' ∧ SWK (encC cls) 2 w0 blk off d' w'
def SymOK (cls : Int → Int) (B blk off cap a m b : Nat) (d0 : Array Int) (w0 : World) : Prop :=
  ∀ (d : Array Int) (w : World), d.size = d0.size → SWK (encC cls) 2 w0 blk off d w → Srt cls d a m → Srt cls d m b →
    Calls Tryz.prog 112 #[.slice (some ⟨blk, off, none⟩) d.size cap, .int .i64 a, .int .i64 m, .int .i64 b, cmpV B] w (SymPost cls blk off a b d w0)

set_option maxHeartbeats 4000000 in
set_option maxRecDepth 1000000 in
/-- one element ahead. -/
theorem symA (cls : Int → Int) (B blk off cap a b : Nat) (d0 : Array Int) (w0 : World) (R : RowK (encC cls) 2 w0 blk off d0) (C : CmpOK w0 blk B) (hab : a + 1 < b) (hb : b ≤ d0.size) (hsz : d0.size < 1000000) : SymOK cls B blk off cap a (a + 1) b d0 w0 := by
  intro d w hs0 S hS1 hS2
  have hs := hs0.symm; clear hs0
  have S0 := Lib.hid S; clear S
  have HS := Lib.hid hS2; clear hS1 hS2
  have mx := mixed
  obtain ⟨m, hm⟩ : ∃ m, a + 1 = m := ⟨_, rfl⟩
  have e1 : ((m : Int) - (a : Int)) = 1 := by omega
  have ham : a < m := by omega
  have hmb : m < b := by omega
  rw [hm] at HS ⊢
  have HM := Lib.hid hm; clear hm
  go_enter Tryz.func112, Tryz.ntmps112
  go_wp2_with fail
  go_loopg [10, 11] (b - a) (fun g vi vj wr => ∃ (i j : Nat), vi = .int .i64 i ∧ vj = .int .i64 j ∧ m ≤ i ∧ i ≤ j ∧ j ≤ b ∧ j - i ≤ g ∧ Hid (SWK (encC cls) 2 w0 blk off d wr) ∧ Hid (∀ x, m ≤ x → x < i → cls d[x]! < cls d[a]!) ∧ Hid (∀ x, j ≤ x → x < b → cls d[a]! ≤ cls d[x]!))
  case atStart => exact ⟨m, b, rfl, rfl, Nat.le_refl _, by omega, Nat.le_refl _, by omega, S0, Lib.hid fun x h1 h2 => by omega, Lib.hid fun x h1 h2 => by omega⟩
  case round =>
    clear S0
    obtain ⟨i, j, rfl, rfl, hmi, hij, hjb, hg, S1, HL, HH⟩ := hrel
    by_cases hlt : i < j
    · have hltz : (i : Int) < (j : Int) := by omega
      obtain ⟨h, hih, hhj, ez⟩ : ∃ h : Nat, i ≤ h ∧ h < j ∧ ((i : Int) + (j : Int)) / 2 = (h : Int) := ⟨(i + j) / 2, (half i j hlt).1, (half i j hlt).2, by omega⟩
      obtain ⟨x, y, cx, cy, HE, f1, f2, f3, f4, hcmp⟩ := cmp_pack S1.out R C hs.symm h a (by omega) (by omega)
      have bz1 : (h : Int) < (d.size : Int) := by omega
      have bz2 : (a : Int) < (d.size : Int) := by omega
      by_cases hlv : cmpI cx cy < 0
      · go_wp2_with fail
        go_quiet_grown (first | (go_at_call 106; exact hcmp.out _ _))
        have S3 := Lib.hid (S1.out.grown nq osq)
        clear hcmp f1 f2 f3 f4
        go_wp2_with fail
        go_roundg (j - (h + 1))
        case measure => omega
        case rel =>
          have hk : cls d[h]! < cls d[a]! := by obtain ⟨_, h2, _, h4⟩ := HE.out; rw [h2, h4]; exact (cmpI_neg _ _).1 hlv
          exact ⟨h + 1, j, by go_num, rfl, by omega, by omega, hjb, by omega, S3, Lib.hid fun z z1 z2 => by
            by_cases c : z = h
            · rw [c]; exact hk
            · have := HS.out z h z1 (by omega) (by omega); omega, HH⟩
      · go_wp2_with fail
        go_quiet_grown (first | (go_at_call 106; exact hcmp.out _ _))
        have S3 := Lib.hid (S1.out.grown nq osq)
        clear hcmp f1 f2 f3 f4
        go_wp2_with fail
        go_roundg (h - i)
        case measure => omega
        case rel =>
          have hk : cls d[a]! ≤ cls d[h]! := by obtain ⟨_, h2, _, h4⟩ := HE.out; rw [h2, h4]; have := mt (cmpI_neg cx cy).2 (by omega); omega
          exact ⟨i, h, rfl, rfl, hmi, by omega, by omega, by omega, S3, HL, Lib.hid fun z z1 z2 => by
            by_cases c : z = h
            · rw [c]; exact hk
            · have := HS.out h z (by omega) (by omega) z2; omega⟩
    · obtain rfl : i = j := by omega
      have ei : (i : Int) - 1 = ((i - 1 : Nat) : Int) := by omega
      go_wp2_with fail
      go_loopg [13] (i - a) (fun g vk wr => ∃ (k : Nat) (dk : Array Int), vk = .int .i64 k ∧ a ≤ k ∧ k ≤ i - 1 ∧ i - 1 - k ≤ g ∧ Hid (SWK (encC cls) 2 w0 blk off dk wr) ∧ Hid (Up a k d dk) ∧ Hid (Stb cls d dk))
      case atStart => exact ⟨a, d, rfl, Nat.le_refl _, by omega, by omega, S1, Lib.hid (Up.refl a d), Lib.hid (Stb.refl d)⟩
      case round =>
        clear S1
        obtain ⟨k, dk, rfl, hak, hki, hg2, S2, HU, HT⟩ := hrel
        have hsk := HU.out.1
        by_cases hlt2 : k < i - 1
        · have hltz : (k : Int) < ((i - 1 : Nat) : Int) := by omega
          obtain ⟨x, y, cx, cy, ⟨p1, p2⟩, ⟨p3, p4⟩, ⟨q1, q2⟩, ⟨q3, q4⟩, S3⟩ := swap_pack S2.out R (by omega) k (k + 1) (by omega) (by omega)
          have jz : (k : Int) + 1 < (d.size : Int) := by omega
          have jz1 : (k : Int) < (d.size : Int) := by omega
          have p0 : (0 : Int) ≤ (k : Int) + 1 := by omega
          have e0 : ((k : Int) + 1).toNat = k + 1 := by omega
          go_wp2_with fail
          go_big_region
          go_wp2_with fail
          go_roundg (i - 1 - (k + 1))
          case measure => omega
          case rel =>
            have hk : cls dk[k + 1]! < cls dk[k]! := by rw [HU.out.2.1, HU.out.2.2.2 (k + 1) (by omega)]; exact HL.out (k + 1) (by omega) (by omega)
            exact ⟨k + 1, swp dk k (k + 1), by go_num, by omega, by omega, by omega, S3, Lib.hid (HU.out.step (by omega) hak), Lib.hid (HT.out.trans (stb_swp dk k (by omega) hk).1)⟩
        · obtain rfl : k = i - 1 := by omega
          go_wp2_with fail
          go_end0
          exact ⟨rfl, dk, up_done (by omega) hjb (by rw [HM.out]; exact HS.out) (fun z z1 z2 => HL.out z (by rw [← HM.out]; exact z1) z2) HH.out HU.out HT.out, S2.out⟩

set_option maxHeartbeats 4000000 in
set_option maxRecDepth 1000000 in
/-- one element behind. -/
theorem symB (cls : Int → Int) (B blk off cap a m : Nat) (d0 : Array Int) (w0 : World) (R : RowK (encC cls) 2 w0 blk off d0) (C : CmpOK w0 blk B) (ham : a + 1 < m) (hb : m + 1 ≤ d0.size) (hsz : d0.size < 1000000) : SymOK cls B blk off cap a m (m + 1) d0 w0 := by
  intro d w hs0 S hS1 hS2
  have hs := hs0.symm; clear hs0
  have S0 := Lib.hid S; clear S
  have HS := Lib.hid hS1; clear hS1 hS2
  have mx := mixed
  obtain ⟨b, hm⟩ : ∃ b, m + 1 = b := ⟨_, rfl⟩
  have e1 : ((b : Int) - (m : Int)) = 1 := by omega
  have e2 : IntKind.i64.wrap ((m : Int) - (a : Int)) = (m : Int) - (a : Int) := by rw [IntKind.wrap_i64]; omega
  have e3 : ((m : Int) - (a : Int) == 1) = false := by simp; omega
  have hmb : m < b := by omega
  have hb2 : b ≤ d0.size := by omega
  rw [hm]
  have HM := Lib.hid hm; clear hm
  go_enter Tryz.func112, Tryz.ntmps112
  go_wp2_with fail
  go_loopg [14, 15] (b - a) (fun g vi vj wr => ∃ (i j : Nat), vi = .int .i64 i ∧ vj = .int .i64 j ∧ a ≤ i ∧ i ≤ j ∧ j ≤ m ∧ j - i ≤ g ∧ Hid (SWK (encC cls) 2 w0 blk off d wr) ∧ Hid (∀ x, a ≤ x → x < i → cls d[x]! ≤ cls d[m]!) ∧ Hid (∀ x, j ≤ x → x < m → cls d[m]! < cls d[x]!))
  case atStart => exact ⟨a, m, rfl, rfl, Nat.le_refl _, by omega, Nat.le_refl _, by omega, S0, Lib.hid fun x h1 h2 => by omega, Lib.hid fun x h1 h2 => by omega⟩
  case round =>
    clear S0
    obtain ⟨i, j, rfl, rfl, hmi, hij, hjb, hg, S1, HL, HH⟩ := hrel
    by_cases hlt : i < j
    · have hltz : (i : Int) < (j : Int) := by omega
      obtain ⟨h, hih, hhj, ez⟩ : ∃ h : Nat, i ≤ h ∧ h < j ∧ ((i : Int) + (j : Int)) / 2 = (h : Int) := ⟨(i + j) / 2, (half i j hlt).1, (half i j hlt).2, by omega⟩
      obtain ⟨x, y, cx, cy, HE, f1, f2, f3, f4, hcmp⟩ := cmp_pack S1.out R C hs.symm m h (by omega) (by omega)
      have bz1 : (h : Int) < (d.size : Int) := by omega
      have bz2 : (m : Int) < (d.size : Int) := by omega
      by_cases hlv : cmpI cx cy < 0
      · go_wp2_with fail
        go_quiet_grown (first | (go_at_call 106; exact hcmp.out _ _))
        have S3 := Lib.hid (S1.out.grown nq osq)
        clear hcmp f1 f2 f3 f4
        go_wp2_with fail
        go_roundg (h - i)
        case measure => omega
        case rel =>
          have hk : cls d[m]! < cls d[h]! := by obtain ⟨_, h2, _, h4⟩ := HE.out; rw [h2, h4]; exact (cmpI_neg _ _).1 hlv
          exact ⟨i, h, rfl, rfl, hmi, by omega, by omega, by omega, S3, HL, Lib.hid fun z z1 z2 => by
            by_cases c : z = h
            · rw [c]; exact hk
            · have := HS.out h z (by omega) (by omega) z2; omega⟩
      · have hld : decide (cmpI cx cy < 0) = false := decide_eq_false hlv
        go_wp2_with fail
        go_quiet_grown (first | (go_at_call 106; exact hcmp.out _ _))
        have S3 := Lib.hid (S1.out.grown nq osq)
        clear hcmp f1 f2 f3 f4
        go_wp2_with fail
        go_roundg (j - (h + 1))
        case measure => omega
        case rel =>
          have hk : cls d[h]! ≤ cls d[m]! := by obtain ⟨_, h2, _, h4⟩ := HE.out; rw [h2, h4]; have := mt (cmpI_neg cx cy).2 (by omega); omega
          exact ⟨h + 1, j, by go_num, rfl, by omega, by omega, hjb, by omega, S3, Lib.hid fun z z1 z2 => by
            by_cases c : z = h
            · rw [c]; exact hk
            · have := HS.out z h z1 (by omega) (by omega); omega, HH⟩
    · obtain rfl : i = j := by omega
      go_wp2_with fail
      go_loopg [17] (m - i) (fun g vk wr => ∃ (k : Nat) (dk : Array Int), vk = .int .i64 k ∧ i ≤ k ∧ k ≤ m ∧ k - i ≤ g ∧ Hid (SWK (encC cls) 2 w0 blk off dk wr) ∧ Hid (Dn m k d dk) ∧ Hid (Stb cls d dk))
      case atStart => exact ⟨m, d, rfl, by omega, by omega, by omega, S1, Lib.hid (Dn.refl m d), Lib.hid (Stb.refl d)⟩
      case round =>
        clear S1
        obtain ⟨k, dk, rfl, hak, hki, hg2, S2, HU, HT⟩ := hrel
        have hsk := HU.out.1
        by_cases hlt2 : i < k
        · obtain ⟨kp, rfl⟩ : ∃ kp, k = kp + 1 := ⟨k - 1, by omega⟩
          have hltz : (i : Int) < (kp : Int) + 1 := by omega
          obtain ⟨x, y, cx, cy, ⟨p1, p2⟩, ⟨p3, p4⟩, ⟨q1, q2⟩, ⟨q3, q4⟩, S3⟩ := swap_pack S2.out R (by omega) (kp + 1) kp (by omega) (by omega)
          have jz : (kp : Int) + 1 < (d.size : Int) := by omega
          have jz1 : (kp : Int) < (d.size : Int) := by omega
          have p0 : (0 : Int) ≤ (kp : Int) + 1 := by omega
          have e0 : ((kp : Int) + 1).toNat = kp + 1 := by omega
          go_wp2_with fail
          go_big_region
          go_wp2_with fail
          go_roundg (kp - i)
          case measure => omega
          case rel =>
            have hk : cls dk[kp + 1]! < cls dk[kp]! := by rw [HU.out.2.1, HU.out.2.2.2 kp (by omega)]; exact HH.out kp (by omega) (by omega)
            exact ⟨kp, swp dk (kp + 1) kp, by first | rfl | go_num, by omega, by omega, by omega, S3, Lib.hid (HU.out.step (by omega) (by omega)), Lib.hid (HT.out.trans (stb_swp dk kp (by omega) hk).2)⟩
        · obtain rfl : k = i := by omega
          go_wp2_with fail
          go_end0
          exact ⟨rfl, dk, by rw [← HM.out]; exact dn_done (by omega) hjb HS.out HL.out HH.out HU.out HT.out, S2.out⟩
end Go.Proofs.YticjgmhgpeihjaaGreatDoor
