/-
  slices.SortStableFunc's family at a struct of a rune and an int: the exchange of two ranges.
-/
import Derived.Test.YticjgmhgpeihjaaGreatDoorChecked
import Derived.Test.YticjgmhgpeihjaaGreatDoorStabMerge
import Derived.Shelf.SlSortCmp.KitK
import Derived.WalkKit
import Derived.Handy
import Derived.Below
import Derived.Lib.Hide
import Derived.BigRegion
import Derived.BigQuiet
import Derived.Deep.QuietTactic
import Derived.LoopTactic
import Derived.Deep.LoopGhost
namespace Go.Proofs.YticjgmhgpeihjaaGreatDoor
open Go.RowKit Go.Gz Go.Sort Go.Lib

/-- a rune with its class. -/
def encC (cls : Int → Int) (r : Int) : List Value := [.int .i32 r, .int .i64 (cls r)]

/-- n places from a on, n places from b on have changed places. -/
def Swd (a b n : Nat) (d d' : Array Int) : Prop :=
  d'.size = d.size ∧ ∀ x, (a ≤ x → x < a + n → d'[x]! = d[x + (b - a)]!) ∧ (b ≤ x → x < b + n → d'[x]! = d[x - (b - a)]!) ∧ (x < a ∨ (a + n ≤ x ∧ x < b) ∨ b + n ≤ x → d'[x]! = d[x]!)

theorem Swd.step {a b n : Nat} {d d' : Array Int} (h : Swd a b n d d') (hab : a + n < b) (hb : b + n < d.size) : Swd a b (n + 1) d (swp d' (a + n) (b + n)) := by
  obtain ⟨h1, h2⟩ := h
  have g : ∀ z, (swp d' (a + n) (b + n))[z]! = if z = b + n then d'[a + n]! else if z = a + n then d'[b + n]! else d'[z]! := fun z => by rw [swp_get d' (by omega) (by omega)]
  refine ⟨by rw [size_swp, h1], fun x => ⟨fun i1 i2 => ?_, fun i1 i2 => ?_, fun i => ?_⟩⟩
  · rw [g, if_neg (by omega)]
    by_cases c : x = a + n
    · rw [if_pos c, (h2 (b + n)).2.2 (by omega)]; congr 1; omega
    · rw [if_neg c]; exact (h2 x).1 i1 (by omega)
  · rw [g]
    by_cases c : x = b + n
    · rw [if_pos c, (h2 (a + n)).2.2 (by omega)]; congr 1; omega
    · rw [if_neg c, if_neg (by omega)]; exact (h2 x).2.1 i1 (by omega)
  · rw [g, if_neg (by omega), if_neg (by omega)]; exact (h2 x).2.2 (by omega)
theorem Swd.zero (a b : Nat) (d : Array Int) : Swd a b 0 d d := ⟨rfl, fun x => ⟨fun _ _ => by omega, fun _ _ => by omega, fun _ => rfl⟩⟩

/-- the two cells of the element at i. -/
theorem cells2 {cls : Int → Int} {w0 w : World} {blk off : Nat} {d0 dk : Array Int} (S : SWK (encC cls) 2 w0 blk off dk w) (R : RowK (encC cls) 2 w0 blk off d0) (hs : dk.size = d0.size) (i : Nat) (hi : i < dk.size) :
    (w.cell? ⟨blk, off + i * 2, none⟩ = some (.int .i32 dk[i]!) ∧ w.frozen? ⟨blk, off + i * 2, none⟩ = false) ∧ (w.cell? ⟨blk, off + i * 2 + 1, none⟩ = some (.int .i64 (cls dk[i]!)) ∧ w.frozen? ⟨blk, off + i * 2 + 1, none⟩ = false) := by
  have h := S.holds R.hblk R.hH hs
  have h0 := h.cell hi (show 0 < 2 by omega)
  have h1 := h.cell hi (show 1 < 2 by omega)
  rw [Nat.add_zero] at h0
  exact ⟨h0, h1⟩

/-- the exchange of two elements, as the walk leaves it. -/
theorem swapC {cls : Int → Int} {w0 w : World} {blk off : Nat} {d0 dk : Array Int} (S : SWK (encC cls) 2 w0 blk off dk w) (R : RowK (encC cls) 2 w0 blk off d0) (i j : Nat) (hi : i < dk.size) (hj : j < dk.size) :
    SWK (encC cls) 2 w0 blk off (swp dk i j) ((((w.setCell ⟨blk, off + i * 2, none⟩ (.int .i32 dk[j]!)).setCell ⟨blk, off + i * 2 + 1, none⟩ (.int .i64 (cls dk[j]!))).setCell ⟨blk, off + j * 2, none⟩ (.int .i32 dk[i]!)).setCell ⟨blk, off + j * 2 + 1, none⟩ (.int .i64 (cls dk[i]!))).drew :=
  S.swapped R i j hi hj

set_option maxHeartbeats 4000000 in
set_option maxRecDepth 1000000 in
theorem swapRange (cls : Int → Int) (fv : Value) (blk off cap a b n : Nat) (d0 d : Array Int) (w0 w : World)
    (R : RowK (encC cls) 2 w0 blk off d0) (hs : d0.size = d.size) (S : SWK (encC cls) 2 w0 blk off d w) (hab : a + n ≤ b) (hb : b + n ≤ d.size) (hsz : d.size < 1000000) :
    Calls Tryz.prog 117 #[.slice (some ⟨blk, off, none⟩) d.size cap, .int .i64 a, .int .i64 b, .int .i64 n, fv] w fun e w' => e = .returned (.tuple #[]) ∧ ∃ d', Swd a b n d d' ∧ SWK (encC cls) 2 w0 blk off d' w' := by
  have S0 := Lib.hid S; clear S
  go_enter Tryz.func117, Tryz.ntmps117
  go_wp2_with fail
  go_loopw [10] (fun i wr => ∃ (k : Nat) (dk : Array Int), k ≤ n ∧ i = .int .i64 k ∧ Swd a b k d dk ∧ Hid (SWK (encC cls) 2 w0 blk off dk wr)) (fun i _ => n - (intOf i).toNat)
  case atStart => exact ⟨0, d, Nat.zero_le _, rfl, Swd.zero _ _ _, S0⟩
  case round =>
    clear S0
    obtain ⟨k, dk, hk, rfl, hsw, S1⟩ := hrel
    have hdk := hsw.1
    have HSW := Lib.hid hsw; clear hsw
    by_cases hlt : k < n
    · have hltz : (k : Int) < (n : Int) := by omega
      have S2 := Lib.hid (swapC S1.out R (a + k) (b + k) (by omega) (by omega))
      obtain ⟨⟨p1, p2⟩, p3, p4⟩ := cells2 S1.out R (by omega) (a + k) (by omega)
      obtain ⟨⟨q1, q2⟩, q3, q4⟩ := cells2 S1.out R (by omega) (b + k) (by omega)
      generalize dk[a + k]! = xa at S2 p1 p3
      generalize dk[b + k]! = xb at S2 q1 q3
      generalize cls xa = ca at S2 p3
      generalize cls xb = cb at S2 q3
      have ea : ((a : Int) + (k : Int)).toNat = a + k := by omega
      have eb : ((b : Int) + (k : Int)).toNat = b + k := by omega
      have pa : (0 : Int) ≤ (a : Int) + (k : Int) := by omega
      have pb : (0 : Int) ≤ (b : Int) + (k : Int) := by omega
      have ba : (a : Int) + (k : Int) < (d.size : Int) := by omega
      have bb : (b : Int) + (k : Int) < (d.size : Int) := by omega
      have ra : IntKind.i64.wrap ((a : Int) + (k : Int)) = (a : Int) + (k : Int) := by rw [IntKind.wrap_i64]; omega
      have rb : IntKind.i64.wrap ((b : Int) + (k : Int)) = (b : Int) + (k : Int) := by rw [IntKind.wrap_i64]; omega
      clear S1
      go_wp2_with fail
      go_big_region
      go_wp2
      go_roundw
      case rel => exact ⟨k + 1, _, by omega, by go_num, HSW.out.step (by omega) (by omega), S2⟩
      case measure => simp [intOf]; omega
    · obtain rfl : k = n := by omega
      go_wp2
      go_end0
      exact ⟨rfl, dk, HSW.out, S1.out⟩
end Go.Proofs.YticjgmhgpeihjaaGreatDoor
