/-
  slices.Grow of nothing, slices.Concat of two rows of bytes.
-/
import Derived.Test.YtkidahlhnhglfaaByBase
import Derived.Lib.AppendZerosOnto
import Derived.Lib.Walk
namespace Go.Proofs.Ytkidahlhnhglfaa
open Go.RowKit Go.Gz

set_option maxHeartbeats 1000000 in
theorem grow_pos (n : Nat) (h1 : 0 < n) (hn : n ≤ 1000000) (w : World) :
    Calls Try.prog 65 #[.slice none 0 0, .int .i64 n] w fun e w' => ∃ v, e = .returned v ∧ Own w' w.heap.size 5 .u8 v [] ∧ Below w.heap.size w w' := by
  obtain ⟨i0, hi, hz0, hz1, hz2⟩ := info_parts info_byte
  have hrz : ∀ ty, (Builtin.append_ #[25, 3] ty #[.slice none 0 0, .int .i64 (n : Int)]).run Try.prog w =
      .ok (.slice (some ⟨w.heap.size, 0, none⟩) n (grownCap w n 0 5)) (w.drew.alloc (.cells (#[] ++ Builtin.zeroCells (Value.int .u8 0).cells n ++ Builtin.zeroCells (Value.int .u8 0).cells (grownCap w n 0 5 - n)) 5)) := fun ty => by
    have h := Lib.run_append_grow_zeros (P := Try.prog) w 25 3 ty 5 i0 (.int .u8 0) .i64 .i64 Try.underlying25 Try.underlying3 hi hz0 none 0 0 [] (run_firstCells_none w.drew i0.size 0 0 0) n h1 (by rw [hz1]; decide) (by omega) (by omega) (by rw [hz2]; omega)
      (growslice_fits (by omega) (by rw [hz2]; omega))
    simpa only [Nat.zero_add] using h
  have hGn : n ≤ grownCap w n 0 5 := grownCap_ge w _ _ _
  have hGm := grownCap_le_maxLen w n 0 5 (by unfold maxLen; omega)
  obtain ⟨G, hG⟩ : ∃ G, grownCap w n 0 5 = G := ⟨_, rfl⟩
  rw [hG] at hrz hGn hGm
  obtain ⟨w1, hw1⟩ : ∃ w1, w.drew.alloc (.cells (#[] ++ Builtin.zeroCells (Value.int .u8 0).cells n ++ Builtin.zeroCells (Value.int .u8 0).cells (G - n)) 5) = w1 := ⟨_, rfl⟩
  have HB := Lib.hid (show Below w.heap.size w w1 from hw1 ▸ (Below.refl _ _).drew.alloc (Nat.le_refl _) _)
  have HO := Lib.hid (show Own w1 w.heap.size 5 .u8 (.slice (some ⟨w.heap.size, 0, none⟩) 0 G) [] from hw1 ▸ World.ownsRow_made w.drew _ G (Nat.le_refl _) hGm (by simp [size_zeroCells, Value.cells]; omega))
  simp only [hw1] at hrz
  have HF := Lib.hid (show ∀ v w', Own w' w.heap.size 5 .u8 v [] → Below w.heap.size w w' → ∃ v', Ending.returned v = .returned v' ∧ Own w' w.heap.size 5 .u8 v' [] ∧ Below w.heap.size w w' from fun v w' h1 h2 => ⟨v, rfl, h1, h2⟩)
  have hGz : (n : Int) ≤ (G : Int) := by omega
  have hnz : (0 : Int) < (n : Int) := by omega
  have hnb : (n : Int) ≤ 1000000 := by omega
  clear hi hz0 hz1 hz2 hG hw1 hGm hn
  go_enter Try.func65, Try.ntmps65
  go_wp2_with (at_builtin; refine Lib.wpList_append_run _ rfl _ _ _ _ rfl _ _ rfl rfl _ _ (hrz _) ?_)
  all_goals
    go_ret
    exact HF.out _ _ HO.out HB.out


theorem grow_none (w : World) :
    Calls Try.prog 65 #[.slice none 0 0, .int .i64 0] w fun e w' => e = .returned (.slice none 0 0) ∧ w = w' := by
  go_enter Try.func65, Try.ntmps65
  go_wp2_with fail
  go_ret
  exact ⟨rfl, rfl⟩
theorem grow_any (n : Nat) (hn : n ≤ 1000000) (w : World) :
    Calls Try.prog 65 #[.slice none 0 0, .int .i64 n] w fun e w' => ∃ v, e = .returned v ∧ Own w' w.heap.size 5 .u8 v [] ∧ Below w.heap.size w w' := by
  rcases Nat.eq_zero_or_pos n with rfl | h
  · refine (grow_none w).mono ?_
    rintro e w' ⟨rfl, rfl⟩
    exact ⟨_, rfl, Own.nil _ _ _ _, Below.refl _ _⟩
  · exact grow_pos n h hn w

def RetOwn (w : World) (l : List UInt8) (e : Ending) (w' : World) : Prop := ∃ v, e = .returned v ∧ Own w' w.heap.size 5 .u8 v (nums l) ∧ Below w.heap.size w w'
def CcR (A B : List UInt8) (k : Nat) (l : List UInt8) : Prop := (k = 0 ∧ l = []) ∨ (k = 1 ∧ l = A) ∨ (k = 2 ∧ l = A ++ B)

set_option maxHeartbeats 4000000 in
set_option maxRecDepth 1000000 in
theorem concat_any (A B : List UInt8) (hA1 : A.length ≤ 400000) (hB1 : B.length ≤ 400000) (p q : Option Addr) (ca cb X c : Nat) (w : World) (hp : Row w .u8 p (nums A)) (hq : Row w .u8 q (nums B)) (hpc : p = none → ca = 0) (hqc : q = none → cb = 0)
    (x0 : w.cell? ⟨X, 0, none⟩ = some (.slice p A.length ca)) (x1 : w.cell? ⟨X, 1, none⟩ = some (.slice q B.length cb)) :
    Calls Try.prog 51 #[.slice (some ⟨X, 0, none⟩) 2 c] w (RetOwn w (A ++ B)) := by
  have HX := Lib.hid (And.intro (World.block_lt_of_cell? w _ x0) (And.intro x0 x1))
  have HR := Lib.hid (And.intro (And.intro hp hpc) (And.intro hq hqc))
  have HL := Lib.hid (And.intro hA1 hB1)
  have C1 := Lib.hid (grow_any (A.length + B.length) (by omega) w)
  have HF := Lib.hid (show ∀ v w', Own w' w.heap.size 5 .u8 v (nums (A ++ B)) → Below w.heap.size w w' → RetOwn w (A ++ B) (.returned v) w' from fun v w' h1 h2 => ⟨v, rfl, h1, h2⟩)
  obtain ⟨na, hna⟩ : ∃ na, A.length = na := ⟨_, rfl⟩
  obtain ⟨nb, hnb⟩ : ∃ nb, B.length = nb := ⟨_, rfl⟩
  rw [hna] at x0 hA1 C1
  rw [hnb] at x1 hB1 C1
  have HN := Lib.hid (And.intro hna hnb)
  have haz : (na : Int) ≤ 400000 := by omega
  have hbz : (nb : Int) ≤ 400000 := by omega
  have hsz : ¬ (na : Int) < 0 := by omega
  have hsz2 : ¬ (na : Int) + (nb : Int) < 0 := by omega
  clear hp hq hpc hqc hA1 hB1 hna hnb
  go_enter Try.func51, Try.ntmps51
  go_wp2_with fail
  go_loop [3, 11] (fun s i => ∃ k z : Nat, i = .int .i64 k ∧ s = .int .i64 z ∧ ((k = 0 ∧ z = 0) ∨ (k = 1 ∧ z = na) ∨ (k = 2 ∧ z = na + nb))) (fun _ i => 2 - (intOf i).toNat)
  case atStart => exact ⟨0, 0, rfl, rfl, Or.inl ⟨rfl, rfl⟩⟩
  case round =>
    obtain ⟨k, z, rfl, rfl, h⟩ := hrel
    rcases h with ⟨rfl, rfl⟩ | ⟨rfl, rfl⟩ | ⟨rfl, rfl⟩
    · go_wp2_with fail
      go_round
      case rel => exact ⟨1, na, by go_num, by go_num, Or.inr (Or.inl ⟨rfl, rfl⟩)⟩
      case measure => simp [intOf]
    · go_wp2_with fail
      go_round
      case rel => exact ⟨2, z + nb, by go_num, by go_num, Or.inr (Or.inr ⟨rfl, rfl⟩)⟩
      case measure => simp [intOf]
    · have e : ((na + nb : Nat) : Int) = (na : Int) + (nb : Int) := by omega
      clear x0 x1
      go_wp2_with fail
      refine C1.out.mono ?_
      rintro e w1 ⟨v1, rfl, hown, hb⟩
      have HB1 := Lib.hid hb
      have HO1 := Lib.hid hown
      clear hown hb
      go_wp2_with fail
      go_loopw [6, 27] (fun v i wr => ∃ (k : Nat) (l : List UInt8), i = .int .i64 k ∧ CcR A B k l ∧ Hid (Own wr w.heap.size 5 .u8 v (nums l)) ∧ Hid (Below w.heap.size w wr)) (fun _ i _ => 2 - (intOf i).toNat)
      case atStart => exact ⟨0, [], rfl, Or.inl ⟨rfl, rfl⟩, HO1, HB1⟩
      case round =>
      obtain ⟨k, l, rfl, hcase, HAr, HBr⟩ := hrel
      have hzr := HBr.out.size
      rcases hcase with ⟨rfl, rfl⟩ | ⟨rfl, rfl⟩ | ⟨rfl, rfl⟩
      · have x0 : wr.cell? ⟨X, 0, none⟩ = some (.slice p na ca) := by
          rw [HBr.out.cell (p := ⟨X, 0, none⟩) HX.out.1, HX.out.2.1, HN.out.1]
        have HRr := Lib.hid (show Row wr .u8 p (nums A) from HR.out.1.1.below HBr.out)
        go_wp2_with (at_builtin; refine wpList_own_row rfl _ _ 25 rfl 5 .u8 1 Try.underlying25 info_byte (by decide) w.heap.size _ _ rfl HAr.out p ca (nums A) (by rw [nums_length, HN.out.1]; rfl) HRr.out HR.out.1.2 (by simp only [nums_length]; have := HL.out.1; simp; omega) HBr.out.size ?_)
        intro v2 w2 hown2 hgrow
        have HB2 := Lib.hid (HBr.out.grown hgrow HBr.out.size (fun g hg => HAr.out.lt g hg))
        have HO2 := Lib.hid (show Own w2 w.heap.size 5 .u8 v2 (nums A) from hown2)
        clear hown2 hgrow x0
        go_wp2_with fail
        go_roundw
        case rel => exact ⟨1, A, by go_num, Or.inr (Or.inl ⟨rfl, rfl⟩), HO2, HB2⟩
        case measure => simp [intOf]
      · have x0 : wr.cell? ⟨X, 1, none⟩ = some (.slice q nb cb) := by
          rw [HBr.out.cell (p := ⟨X, 1, none⟩) HX.out.1, HX.out.2.2, HN.out.2]
        have HRr := Lib.hid (show Row wr .u8 q (nums B) from HR.out.2.1.below HBr.out)
        go_wp2_with (at_builtin; refine wpList_own_row rfl _ _ 25 rfl 5 .u8 1 Try.underlying25 info_byte (by decide) w.heap.size _ _ rfl HAr.out q cb (nums B) (by rw [nums_length, HN.out.2]; rfl) HRr.out HR.out.2.2 (by simp only [nums_length]; have := HL.out.1; have := HL.out.2; omega) HBr.out.size ?_)
        intro v2 w2 hown2 hgrow
        have HB2 := Lib.hid (HBr.out.grown hgrow HBr.out.size (fun g hg => HAr.out.lt g hg))
        have HO2 := Lib.hid (show Own w2 w.heap.size 5 .u8 v2 (nums (l ++ B)) by rw [nums_append]; exact hown2)
        clear hown2 hgrow x0
        go_wp2_with fail
        go_roundw
        case rel => exact ⟨2, l ++ B, by go_num, Or.inr (Or.inr ⟨rfl, rfl⟩), HO2, HB2⟩
        case measure => simp [intOf]
      · go_wp2_with fail
        go_ret
        exact HF.out _ _ HAr.out HBr.out
end Go.Proofs.Ytkidahlhnhglfaa
