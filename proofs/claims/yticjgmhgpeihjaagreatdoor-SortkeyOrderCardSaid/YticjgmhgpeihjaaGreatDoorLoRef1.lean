/-
  The reference's small functions: May, find, Class.
-/
import Derived.Test.YticjgmhgpeihjaaGreatDoorLoLit
namespace Go.Proofs.YticjgmhgpeihjaaGreatDoor
open Go.RowKit Go.Gz Go.Sort

def rmB (r : Int) : Bool := decide (0 ≤ r) && (decide (r ≤ 1114111) && (decide (r < 55296) || decide (57343 < r)))

theorem refMay_any (r : Int) (w : World) : Calls Tryz.prog 24 #[.int .i32 r] w fun e w' => e = .returned (.bool (rmB r)) ∧ w = w' := by
  obtain ⟨bv, hbv⟩ : ∃ bv, rmB r = bv := ⟨_, rfl⟩
  rw [hbv]
  by_cases h1 : 0 ≤ r
  · by_cases h2 : r ≤ 1114111
    · by_cases h3 : r < 55296
      · obtain rfl : true = bv := by rw [← hbv]; simp [rmB, h1, h2, h3]
        clear hbv
        go_enter Tryz.func24, Tryz.ntmps24
        go_wp2
        go_ret
        exact ⟨rfl, rfl⟩
      · by_cases h4 : 57343 < r
        · obtain rfl : true = bv := by rw [← hbv]; simp [rmB, h1, h2, h4]
          clear hbv
          go_enter Tryz.func24, Tryz.ntmps24
          go_wp2
          go_ret
          exact ⟨rfl, rfl⟩
        · obtain rfl : false = bv := by rw [← hbv]; simp [rmB, h3, h4]
          clear hbv
          go_enter Tryz.func24, Tryz.ntmps24
          go_wp2
          go_ret
          exact ⟨rfl, rfl⟩
    · obtain rfl : false = bv := by rw [← hbv]; simp [rmB, h2]
      clear hbv
      go_enter Tryz.func24, Tryz.ntmps24
      go_wp2
      go_ret
      exact ⟨rfl, rfl⟩
  · obtain rfl : false = bv := by rw [← hbv]; simp [rmB, h1]
    clear hbv
    go_enter Tryz.func24, Tryz.ntmps24
    go_wp2
    go_ret
    exact ⟨rfl, rfl⟩

def FoundR (ls : List LR) (r : Int) (W : World) (e : Ending) (w' : World) : Prop :=
  w' = W ∧ ((∃ k : Nat, k < ls.length ∧ ls[k]!.r = r ∧ e = .returned (.int .i64 (k : Int))) ∨ ((∀ j, j < ls.length → ls[j]!.r ≠ r) ∧ e = .returned (.int .i64 (-1))))

set_option maxHeartbeats 1000000 in
theorem refFind_any (ls : List LR) (p : Option Addr) (cap : Nat) (r : Int) (W : World) (hl : Lores W p ls) (hsz : ls.length < 1000000) :
    Calls Tryz.prog 37 #[.slice p ls.length cap, .int .i32 r] W (FoundR ls r W) := by
  have HL := Lib.hid hl; clear hl
  go_enter Tryz.func37, Tryz.ntmps37
  go_wp2_with fail
  go_loop [5] (fun i => ∃ k : Nat, i = .int .i64 k ∧ k ≤ ls.length ∧ Hid (∀ j, j < k → ls[j]!.r ≠ r)) (fun i => ls.length - (intOf i).toNat)
  case atStart => exact ⟨0, rfl, Nat.zero_le _, Lib.hid fun j hj => by omega⟩
  case round =>
    obtain ⟨k, rfl, hk, HN⟩ := hrel
    by_cases hlt : k < ls.length
    · have hltz : (k : Int) < (ls.length : Int) := by omega
      obtain ⟨b, off, rfl, hbW, c1, _, _, _⟩ := HL.out.at_ (Below.refl _ _) hlt
      obtain ⟨x, hx⟩ : ∃ x, ls[k]!.r = x := ⟨_, rfl⟩
      rw [hx] at c1
      have HX := Lib.hid hx; clear hx
      by_cases he : x = r
      · have heb : ((x : Int) == r) = true := by simp [he]
        have HE := Lib.hid he; clear he
        go_wp2_with fail
        go_ret
        exact ⟨rfl, Or.inl ⟨k, hlt, by rw [HX.out, HE.out], rfl⟩⟩
      · have heb : ((x : Int) == r) = false := by simp [he]
        have HE := Lib.hid he; clear he
        go_wp2_with fail
        go_round
        case rel => exact ⟨k + 1, by go_num, by omega, Lib.hid fun j hj => by
          by_cases c : j = k
          · rw [c, HX.out]; exact HE.out
          · exact HN.out j (by omega)⟩
        case measure => simp [intOf]; omega
    · obtain rfl : k = ls.length := by omega
      go_wp2_with fail
      go_ret
      exact ⟨rfl, Or.inr ⟨HN.out, rfl⟩⟩

set_option maxHeartbeats 1000000 in
theorem refClass_any (ls : List LR) (hr : Rising ls) (p : Option Addr) (cap : Nat) (r : Int) (W : World) (hl : Lores W p ls) (hsz : ls.length < 1000000) :
    Calls Tryz.prog 41 #[.slice p ls.length cap, .int .i32 r] W fun e w' => e = .returned (.int .i64 (clsL ls r)) ∧ w' = W := by
  have hf := Lib.hid (refFind_any ls p cap r W hl hsz)
  have HL := Lib.hid hl; clear hl
  have HR := Lib.hid hr; clear hr
  go_enter Tryz.func41, Tryz.ntmps41
  go_wp2_with fail
  refine hf.out.mono ?_
  rintro e w1 ⟨rfl, ⟨k, hk, hkr, rfl⟩ | ⟨hno, rfl⟩⟩
  · clear hf
    have hkz : (k : Int) < (ls.length : Int) := by omega
    have hn0 : ¬ (k : Int) < 0 := by omega
    obtain ⟨b, off, rfl, hbW, _, c2, _, _⟩ := HL.out.at_ (Below.refl _ _) hk
    have hcl := find_at HR.out hk
    rw [hkr] at hcl
    obtain ⟨x, hx⟩ : ∃ x, ls[k]!.c = x := ⟨_, rfl⟩
    have HC := Lib.hid (show clsL ls r = x by unfold clsL; rw [hcl, hx])
    rw [hx] at c2
    clear hcl hkr hx
    go_wp2_with fail
    go_ret
    exact ⟨by rw [HC.out]; rfl, rfl⟩
  · clear hf
    have HC := Lib.hid (show clsL ls r = 0 by unfold clsL; rw [find_no hno]; rfl)
    clear hno
    go_wp2_with fail
    go_ret
    exact ⟨by rw [HC.out]; rfl, rfl⟩
end Go.Proofs.YticjgmhgpeihjaaGreatDoor
