/-
  slices.insertionSortCmpFunc at lore's pairs: what stands from a up to b is sorted by class, stably.
-/
import Derived.Test.YticjgmhgpeihjaaGreatDoorStabCmp
namespace Go.Proofs.YticjgmhgpeihjaaGreatDoor
open Go.RowKit Go.Gz Go.Sort Go.Lib

theorem cmpI_neg (x y : Int) : cmpI x y < 0 ↔ x < y := by
  unfold cmpI
  split
  · simp_all
  · split <;> simp_all

/-- the comparison's function value: the closure, of captured in block B. -/
abbrev cmpV (B : Nat) : Value := .func (.func 106) #[] #[.pointer (some ⟨B, 0, none⟩)]
structure CmpOK (w0 : World) (blk B : Nat) : Prop where
  lt : B < w0.heap.size
  ne : B ≠ blk
  cell : w0.cell? ⟨B, 0, none⟩ = some (.func (.func 99) #[] #[])

theorem swk_other {enc : Int → List Value} {k : Nat} {w0 W : World} {blk off : Nat} {dk : Array Int} (S : SWK enc k w0 blk off dk W) (a : Addr) (hne : a.block ≠ blk) (hlt : a.block < w0.heap.size) : W.cell? a = w0.cell? a := by
  obtain ⟨n, os, rfl⟩ := S
  unfold sortWorldK
  rw [cell?_grow _ _ _ (by rw [size_putRowK]; exact hlt), cell?_putRowK_other _ _ _ _ _ _ _ hne]
  rfl

/-- the comparison, in every world of the region's class. -/
theorem cmpK {cls : Int → Int} {w0 W : World} {blk off B : Nat} {dk : Array Int} (S : SWK (encC cls) 2 w0 blk off dk W) (C : CmpOK w0 blk B) (x y : Int) (n : Nat) (os : Array Obj) :
    Calls Tryz.prog 106 #[.agg #[.int .i32 x, .int .i64 (cls x)], .agg #[.int .i32 y, .int .i64 (cls y)], .pointer (some ⟨B, 0, none⟩)] (grow (W.drewN n) os) fun e w'' => e = .returned (.int .i64 (cmpI (cls x) (cls y))) ∧ ∃ p : GrownBy, w'' = grow (W.drewN p.n) p.os := by
  have h1 : W.cell? ⟨B, 0, none⟩ = some (.func (.func 99) #[] #[]) := (swk_other S ⟨B, 0, none⟩ C.ne C.lt).trans C.cell
  have h2 : B < W.heap.size := Nat.lt_of_lt_of_le C.lt S.le
  refine Calls.grown_of (by_any x (cls x) y (cls y) B _ ?_ (cell_grown h2 h1 n os))
  rw [size_grow]
  show B < W.heap.size + os.size
  omega

set_option maxHeartbeats 4000000 in
set_option maxRecDepth 1000000 in
theorem insertion (cls : Int → Int) (B blk off cap a b : Nat) (d0 d : Array Int) (w0 w : World) (R : RowK (encC cls) 2 w0 blk off d0) (C : CmpOK w0 blk B) (hs : d0.size = d.size)
    (S : SWK (encC cls) 2 w0 blk off d w) (hab : a ≤ b) (hb : b ≤ d.size) (hsz : d.size < 1000000) :
    Calls Tryz.prog 111 #[.slice (some ⟨blk, off, none⟩) d.size cap, .int .i64 a, .int .i64 b, cmpV B] w fun e w' => e = .returned (.tuple #[]) ∧ ∃ d', Done cls a b d d' ∧ SWK (encC cls) 2 w0 blk off d' w' := by
  have S0 := Lib.hid S; clear S
  have mx := mixed
  go_enter Tryz.func111, Tryz.ntmps111
  go_wp2_with fail
  go_loopg [8] (b - a) (fun g1 vi wr => ∃ (i : Nat) (dk : Array Int), vi = .int .i64 i ∧ a < i ∧ (i ≤ b ∨ i = a + 1) ∧ b + 1 - i ≤ g1 + 1 ∧ Hid (SWK (encC cls) 2 w0 blk off dk wr) ∧ Hid (Chg a b d dk) ∧ Hid (Stb cls d dk) ∧ Hid (Srt cls dk a i))
  case atStart => exact ⟨a + 1, d, by go_num, by omega, Or.inr rfl, by omega, S0, Lib.hid (Chg.refl _ _ _), Lib.hid (Stb.refl _), Lib.hid fun x y h1 h2 h3 => by omega⟩
  case round =>
    clear S0
    obtain ⟨i, dk, rfl, hai, hib, hg1, S1, HC, HT, HS⟩ := hrel
    by_cases hlt : i < b
    · have hltz : (i : Int) < (b : Int) := by omega
      go_wp2_with fail
      go_loopg [9] i (fun g2 vj wr2 => ∃ (j : Nat) (dj : Array Int), vj = .int .i64 j ∧ a ≤ j ∧ j ≤ i ∧ j ≤ g2 ∧ Hid (SWK (encC cls) 2 w0 blk off dj wr2) ∧ Hid (Chg a b d dj) ∧ Hid (Stb cls d dj) ∧ Hid (Srtx cls dj a (i + 1) j))
      case atStart => exact ⟨i, dk, rfl, by omega, Nat.le_refl _, Nat.le_refl _, S1, HC, HT, Lib.hid HS.out.srtx⟩
      case round =>
        clear S1 HC HT HS dk
        obtain ⟨j, dj, rfl, haj, hji, hg2, S2, HC, HT, HX⟩ := hrel
        have hsj := HC.out.1
        by_cases hja : a < j
        · obtain ⟨jp, rfl⟩ : ∃ jp, j = jp + 1 := ⟨j - 1, by omega⟩
          have hjaz : (a : Int) < (jp : Int) + 1 := by omega
          obtain ⟨⟨p1, p2⟩, p3, p4⟩ := cells2 S2.out R (by omega) (jp + 1) (by omega)
          obtain ⟨⟨q1, q2⟩, q3, q4⟩ := cells2 S2.out R (by omega) jp (by omega)
          have hblk := S2.out.lt R.hblk
          have f1 := cell_grown hblk p1
          have f2 := cell_grown (a := ⟨blk, off + (jp + 1) * 2 + 1, none⟩) hblk p3
          have f3 := cell_grown (a := ⟨blk, off + jp * 2, none⟩) hblk q1
          have f4 := cell_grown (a := ⟨blk, off + jp * 2 + 1, none⟩) hblk q3
          have hcmp := Lib.hid (cmpK S2.out C dj[jp + 1]! dj[jp]!)
          have jz : (jp : Int) + 1 < (d.size : Int) := by omega
          have jz1 : (jp : Int) < (d.size : Int) := by omega
          have p0 : (0 : Int) ≤ (jp : Int) + 1 := by omega
          have e0 : ((jp : Int) + 1).toNat = jp + 1 := by omega
          have hwp : IntKind.i64.wrap (jp : Int) = (jp : Int) := by rw [IntKind.wrap_i64]; omega
          clear p1 p2 p3 p4 q1 q2 q3 q4
          obtain ⟨xj, hxj⟩ : ∃ x, dj[jp + 1]! = x := ⟨_, rfl⟩
          obtain ⟨xp, hxp⟩ : ∃ x, dj[jp]! = x := ⟨_, rfl⟩
          rw [hxj] at f1 f2 hcmp
          rw [hxp] at f3 f4 hcmp
          have XJ := Lib.hid hxj; clear hxj
          have XP := Lib.hid hxp; clear hxp
          obtain ⟨cj, hcj⟩ : ∃ x, cls xj = x := ⟨_, rfl⟩
          obtain ⟨cp, hcp⟩ : ∃ x, cls xp = x := ⟨_, rfl⟩
          rw [hcj] at f2 hcmp
          rw [hcp] at f4 hcmp
          have CJ := Lib.hid hcj; clear hcj
          have CP := Lib.hid hcp; clear hcp
          by_cases hlv : cmpI cj cp < 0
          · go_wp2_with fail
            go_quiet_grown (first | (go_at_call 106; exact hcmp.out _ _))
            clear f1 f2 f3 f4
            go_wp2_with fail
            have S3 := Lib.hid (S2.out.grown nq osq)
            clear hcmp
            generalize grow (wr.drewN nq) osq = wq2 at S3 ⊢
            obtain ⟨⟨p1, p2⟩, p3, p4⟩ := cells2 S3.out R (by omega) (jp + 1) (by omega)
            obtain ⟨⟨q1, q2⟩, q3, q4⟩ := cells2 S3.out R (by omega) jp (by omega)
            have S4 := Lib.hid (swapC S3.out R (jp + 1) jp (by omega) (by omega))
            rw [XJ.out, CJ.out] at p3
            rw [XJ.out] at p1
            rw [XP.out, CP.out] at q3
            rw [XP.out] at q1
            rw [XJ.out, XP.out, CJ.out, CP.out] at S4
            go_big_region
            go_wp2
            go_roundg jp
            case measure => omega
            case rel =>
              have hk : cls dj[jp + 1]! < cls dj[jp]! := by rw [XJ.out, XP.out, CJ.out, CP.out]; exact (cmpI_neg _ _).1 hlv
              exact ⟨jp, swp dj (jp + 1) jp, by first | rfl | go_num, by omega, by omega, by omega, S4, Lib.hid (HC.out.trans (chg_swp dj (by omega) (by omega) (by omega) (by omega) (by omega))), Lib.hid (HT.out.trans (stb_swp dj jp (by omega) hk).2), Lib.hid (HX.out.step (by omega) (by omega) (by omega) hk)⟩
          · go_wp2_with fail
            go_quiet_grown (first | (go_at_call 106; exact hcmp.out _ _))
            have S3 := Lib.hid (S2.out.grown nq osq)
            clear hcmp f1 f2 f3 f4
            go_wp2
            go_roundg (b - (i + 1))
            case measure => omega
            case rel =>
              have hk : cls dj[jp]! ≤ cls dj[jp + 1]! := by rw [XJ.out, XP.out, CJ.out, CP.out]; have := mt (cmpI_neg cj cp).2 (by omega); omega
              exact ⟨i + 1, dj, by go_num, by omega, by omega, by omega, S3, HC, HT, Lib.hid (HX.out.stop (by omega) hk)⟩
        · obtain rfl : j = a := by omega
          have hjaz : decide ((j : Int) > (j : Int)) = false := decide_eq_false (by omega)
          have hjaz' : ¬ (j : Int) < (j : Int) := by omega
          have S3 := Lib.hid S2.out.drew
          go_wp2_with fail
          go_big_region
          all_goals go_wp2
          go_roundg (b - (i + 1))
          case measure => omega
          case rel => exact ⟨i + 1, dj, by go_num, by omega, by omega, by omega, S3, HC, HT, Lib.hid HX.out.start⟩
    · have hltz : ¬ (i : Int) < (b : Int) := by omega
      go_wp2
      go_end0
      exact ⟨rfl, dk, ⟨HC.out, HT.out, fun x y h1 h2 h3 => HS.out x y h1 h2 (by omega)⟩, S1.out⟩
end Go.Proofs.YticjgmhgpeihjaaGreatDoor
