/-
  slices.rotateCmpFunc at lore's pairs.
-/
import Derived.Test.YticjgmhgpeihjaaGreatDoorStabSwap
namespace Go.Proofs.YticjgmhgpeihjaaGreatDoor
open Go.RowKit Go.Gz Go.Sort Go.Lib

/-- what the rotation lays at x. -/
def rotT (a m b : Nat) (d : Array Int) (x : Nat) : Int := if x < a ∨ b ≤ x then d[x]! else if x < a + (b - m) then d[x + (m - a)]! else d[x - (b - m)]!
structure RotI (a m b : Nat) (d : Array Int) (i j : Nat) (e : Array Int) : Prop where
  size : e.size = d.size
  i1 : 1 ≤ i
  j1 : 1 ≤ j
  i2 : i ≤ m - a
  j2 : j ≤ b - m
  out : ∀ x, x < m - i ∨ m + j ≤ x → rotT a m b d x = e[x]!
  fst : ∀ x, m - i ≤ x → x < m - i + j → rotT a m b d x = e[x + i]!
  snd : ∀ x, m - i + j ≤ x → x < m + j → rotT a m b d x = e[x - j]!

theorem RotI.start (a m b : Nat) (d : Array Int) (h1 : a < m) (h2 : m < b) : RotI a m b d (m - a) (b - m) d :=
  ⟨rfl, by omega, by omega, Nat.le_refl _, Nat.le_refl _, fun x hx => by unfold rotT; rw [if_pos (by omega)], fun x i1 i2 => by unfold rotT; rw [if_neg (by omega), if_pos (by omega)],
    fun x i1 i2 => by unfold rotT; rw [if_neg (by omega), if_neg (by omega)]⟩

theorem RotI.gt {a m b i j : Nat} {d e f : Array Int} (h : RotI a m b d i j e) (hij : j < i) (ham : a ≤ m) (hs : Swd (m - i) m j e f) : RotI a m b d (i - j) j f := by
  obtain ⟨h1, i1, j1, i2, j2, out, fst, snd⟩ := h
  obtain ⟨s1, s2⟩ := hs
  refine ⟨s1.trans h1, by omega, j1, by omega, j2, fun x hx => ?_, fun x x1 x2 => ?_, fun x x1 x2 => ?_⟩
  · by_cases c : m - i ≤ x ∧ x < m - i + j
    · rw [fst x c.1 c.2, (s2 x).1 c.1 c.2]; congr 1; omega
    · rw [out x (by omega), (s2 x).2.2 (by omega)]
  · rw [snd x (by omega) (by omega)]
    by_cases c : x + (i - j) < m
    · omega
    · rw [(s2 (x + (i - j))).2.1 (by omega) (by omega)]; congr 1; omega
  · rw [snd x (by omega) (by omega)]
    rw [(s2 (x - j)).2.2 (by omega)]

theorem RotI.lt {a m b i j : Nat} {d e f : Array Int} (h : RotI a m b d i j e) (hij : i < j) (ham : a ≤ m) (hs : Swd (m - i) (m + j - i) i e f) : RotI a m b d i (j - i) f := by
  obtain ⟨h1, i1, j1, i2, j2, out, fst, snd⟩ := h
  obtain ⟨s1, s2⟩ := hs
  refine ⟨s1.trans h1, i1, by omega, i2, by omega, fun x hx => ?_, fun x x1 x2 => ?_, fun x x1 x2 => ?_⟩
  · by_cases c : m + j - i ≤ x ∧ x < m + j
    · rw [snd x (by omega) c.2, (s2 x).2.1 c.1 (by omega)]; congr 1; omega
    · rw [out x (by omega), (s2 x).2.2 (by omega)]
  · rw [fst x x1 (by omega), (s2 (x + i)).2.2 (by omega)]
  · rw [fst x (by omega) (by omega)]
    rw [(s2 (x - (j - i))).1 (by omega) (by omega)]; congr 1; omega

theorem RotI.done {a m b i : Nat} {d e f : Array Int} (h : RotI a m b d i i e) (ham : a ≤ m) (hs : Swd (m - i) m i e f) : Rot a m b d f := by
  obtain ⟨h1, i1, j1, i2, j2, out, fst, snd⟩ := h
  obtain ⟨s1, s2⟩ := hs
  have key : ∀ x, f[x]! = rotT a m b d x := fun x => by
    by_cases c1 : m - i ≤ x ∧ x < m
    · rw [fst x c1.1 (by omega), (s2 x).1 c1.1 (by omega)]; congr 1; omega
    · by_cases c2 : m ≤ x ∧ x < m + i
      · rw [snd x (by omega) c2.2, (s2 x).2.1 c2.1 c2.2]; congr 1; omega
      · rw [out x (by omega), (s2 x).2.2 (by omega)]
  refine ⟨s1.trans h1, fun x => ⟨fun hx => ?_, fun x1 x2 => ?_, fun x1 x2 => ?_⟩⟩
  · rw [key]; unfold rotT; rw [if_pos hx]
  · rw [key]; unfold rotT
    by_cases c : b ≤ x
    · omega
    · rw [if_neg (by omega), if_pos x2]
  · rw [key]; unfold rotT; rw [if_neg (by omega), if_neg (by omega)]

set_option maxHeartbeats 4000000 in
set_option maxRecDepth 1000000 in
theorem rotate (cls : Int → Int) (fv : Value) (blk off cap a m b : Nat) (d0 d : Array Int) (w0 w : World) (R : RowK (encC cls) 2 w0 blk off d0) (hs : d0.size = d.size)
    (S : SWK (encC cls) 2 w0 blk off d w) (ham : a < m) (hmb : m < b) (hb : b ≤ d.size) (hsz : d.size < 1000000) :
    Calls Tryz.prog 115 #[.slice (some ⟨blk, off, none⟩) d.size cap, .int .i64 a, .int .i64 m, .int .i64 b, fv] w fun e w' => e = .returned (.tuple #[]) ∧ ∃ d', Rot a m b d d' ∧ SWK (encC cls) 2 w0 blk off d' w' := by
  have S0 := Lib.hid S; clear S
  have ea : (m : Int) - (a : Int) = ((m - a : Nat) : Int) := by omega
  have eb : (b : Int) - (m : Int) = ((b - m : Nat) : Int) := by omega
  have I0 := Lib.hid (RotI.start a m b d ham hmb)
  have wa : IntKind.i64.wrap ((m - a : Nat) : Int) = ((m - a : Nat) : Int) := by rw [IntKind.wrap_i64]; omega
  have wb : IntKind.i64.wrap ((b - m : Nat) : Int) = ((b - m : Nat) : Int) := by rw [IntKind.wrap_i64]; omega
  go_enter Tryz.func115, Tryz.ntmps115
  go_wp2_with fail
  go_loopg [10, 11] (b - a) (fun g vi vj wr => ∃ (i j : Nat) (dk : Array Int), vi = .int .i64 i ∧ vj = .int .i64 j ∧ i + j ≤ g ∧ Hid (RotI a m b d i j dk) ∧ Hid (SWK (encC cls) 2 w0 blk off dk wr))
  case atStart => exact ⟨m - a, b - m, d, by go_num, by go_num, by omega, I0, S0⟩
  case round =>
    clear S0 I0 ea eb wa wb
    obtain ⟨i, j, dk, rfl, rfl, hg, HI, S1⟩ := hrel
    have hdk := HI.out.size
    have i1 := HI.out.i1
    have j1 := HI.out.j1
    have i2 := HI.out.i2
    have j2 := HI.out.j2
    have hsub : (m : Int) - (i : Int) = ((m - i : Nat) : Int) := by omega
    by_cases hij : i = j
    · subst hij
      have hne : ((i : Int) != (i : Int)) = false := by simp
      have hc := Lib.hid (swapRange cls fv blk off cap (m - i) m i d0 dk w0 wr R (by omega) S1.out (by omega) (by omega) (by omega))
      rw [hdk] at hc
      go_wp2_with fail
      refine hc.out.mono ?_
      rintro e w' ⟨rfl, d', hd', S2⟩
      go_wp2
      go_end0
      exact ⟨rfl, d', HI.out.done (by omega) hd', S2⟩
    · have hne : ((i : Int) != (j : Int)) = true := by simp; omega
      have hne' : (i != j) = true := by simp; omega
      by_cases hlt : j < i
      · have hc := Lib.hid (swapRange cls fv blk off cap (m - i) m j d0 dk w0 wr R (by omega) S1.out (by omega) (by omega) (by omega))
        rw [hdk] at hc
        go_wp2_with fail
        refine hc.out.mono ?_
        rintro e w' ⟨rfl, d', hd', S2⟩
        have D2 := Lib.hid hd'; clear hd'
        have S3 := Lib.hid S2; clear S2
        go_wp2
        go_roundg (i - j + j)
        case measure => omega
        case rel => exact ⟨i - j, j, d', by congr 1; omega, rfl, by omega, Lib.hid (HI.out.gt hlt (by omega) D2.out), S3⟩
      · have hlt' : i < j := by omega
        have hc := Lib.hid (swapRange cls fv blk off cap (m - i) (m + j - i) i d0 dk w0 wr R (by omega) S1.out (by omega) (by omega) (by omega))
        rw [hdk] at hc
        have hsub2 : (m : Int) + (j : Int) - (i : Int) = ((m + j - i : Nat) : Int) := by omega
        go_wp2_with fail
        refine hc.out.mono ?_
        rintro e w' ⟨rfl, d', hd', S2⟩
        have D2 := Lib.hid hd'; clear hd'
        have S3 := Lib.hid S2; clear S2
        go_wp2
        go_roundg (i + (j - i))
        case measure => omega
        case rel => exact ⟨i, j - i, d', rfl, by congr 1; omega, by omega, Lib.hid (HI.out.lt hlt' (by omega) D2.out), S3⟩
end Go.Proofs.YticjgmhgpeihjaaGreatDoor
