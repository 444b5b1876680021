/-
  Layer seal: Frame.
-/
import Derived.Test.YtkidahlhnhglfaaSlNum
import Derived.Laws.MakeOwn
namespace Go.Proofs.Ytkidahlhnhglfaa
open Go.RowKit

theorem make_cap (n : Nat) (hn : n ≤ 1000000) (w : World) : ∃ w', (Instr.makeSlice 25 (.int .i64 0) (.int .i64 (n : Int))).run Try.prog w = .ok (.slice (some ⟨w.heap.size, 0, none⟩) 0 n) w' ∧
    Own w' w.heap.size 5 .u8 (.slice (some ⟨w.heap.size, 0, none⟩) 0 n) [] ∧ w.grownBy w' none := by
  obtain ⟨i0, hi, hz0, hz1, hz2⟩ := info_parts info_byte
  exact run_make_own w w.heap.size 25 5 i0 (.int .u8 0) 1 Try.underlying25 hi hz0 hz1 .i64 .i64 n (by rw [hz2]; omega) (by unfold maxLen; omega) (Nat.le_refl _)

theorem frame_long (kind : UInt8) (n : Nat) (hn : 32768 < n) (p : Option Addr) (cap : Nat) (w : World) :
    Calls Try.prog 49 #[.int .u8 kind.toNat, .slice p n cap] w fun e w' => e = .returned (.tuple #[.slice none 0 0, .int .i64 3]) ∧ w = w' := by
  have hz : (32768 : Int) < (n : Int) := by omega
  go_enter Try.func49, Try.ntmps49
  go_wp2_with fail
  go_ret2
  exact ⟨rfl, rfl⟩

def RetFr (w : World) (l : List UInt8) (e : Ending) (w' : World) : Prop := ∃ v', e = .returned (.tuple #[v', .int .i64 0]) ∧ Own w' w.heap.size 5 .u8 v' (nums l) ∧ Below w.heap.size w w'

set_option maxHeartbeats 2000000 in
set_option maxRecDepth 100000 in
theorem frame_ok (kind : UInt8) (l : List UInt8) (hl : l.length ≤ 32768) (p : Option Addr) (cap : Nat) (w : World) (hp : Row w .u8 p (nums l)) (hcap : l.length ≤ cap) (hpc : p = none → cap = 0) :
    Calls Try.prog 49 #[.int .u8 kind.toNat, .slice p l.length cap] w (RetFr w (frameL kind l)) := by
  have HP := Lib.hid hp; clear hp
  obtain ⟨w1, hmk, hown, hgr⟩ := make_cap (7 + l.length) (by omega) w
  have hmk : (Instr.makeSlice 25 (.int .i64 0) (.int .i64 (7 + (l.length : Int)))).run Try.prog w = .ok (.slice (some ⟨w.heap.size, 0, none⟩) 0 (7 + l.length)) w1 := by rw [← hmk]; simp
  have HO1 := Lib.hid hown; clear hown
  have HB1 := Lib.hid ((Below.refl w.heap.size w).grown hgr (Nat.le_refl _) (fun g hg => by cases hg)); clear hgr
  have C1 := Lib.hid (app2_any l.length w.heap.size _ [] w1 HO1.out (by simp) HB1.out.size)
  have HL := Lib.hid (And.intro hl (And.intro hcap hpc))
  have hlz : ¬ (32768 : Int) < (l.length : Int) := by omega
  have hlz2 : (l.length : Int) ≤ 32768 := by omega
  clear hcap hpc
  go_enter Try.func49, Try.ntmps49
  go_wp2_with fail
  refine C1.out.mono ?_
  rintro e w2 ⟨v2, rfl, hown2, hb2⟩
  rw [List.nil_append] at hown2
  have HO2 := Lib.hid hown2
  have HB2 := Lib.hid (HB1.out.trans hb2); clear hown2 hb2 C1
  go_wp2_with (at_builtin; refine wpList_own_push rfl _ _ 25 rfl 5 .u8 1 Try.underlying25 info_byte (by decide) w.heap.size _ _ rfl (HO2.out.alloc _) w2.heap.size 1 1 [(kind.toNat : Int)] rfl rfl ?newCells (by simp [be2]) (by have := HB2.out.size; simp; omega) ?_)
  case newCells =>
    intro j hj
    obtain rfl : j = 0 := by omega
    simp
  intro v3 w3 hown3 hgrow
  have HB3 := Lib.hid ((HB2.out.alloc HB2.out.size (.cells #[.int .u8 (kind.toNat : Int)] 5)).grown hgrow (by have := HB2.out.size; simp; omega) (fun g hg => HO2.out.lt g hg))
  have hown3 : Own w3 w.heap.size 5 .u8 v3 (nums (headL kind l)) := by
    have e : nums (headL kind l) = nums (be2 l.length) ++ [(kind.toNat : Int)] := by unfold headL; rw [nums_append]; rfl
    rw [e]; exact hown3
  have HO3 := Lib.hid hown3
  obtain ⟨q, d, rfl, hd, hqd, hrow3⟩ := own_row hown3
  clear hown3 hgrow
  rw [nums_length] at hd HO3 ⊢
  obtain ⟨H, hH⟩ : ∃ H, headL kind l = H := ⟨_, rfl⟩
  have hH3 : H.length = 3 := by rw [← hH]; simp [headL, be2]
  have HF := Lib.hid (show frameL kind l = H ++ be4 (sumL (H ++ l)) ++ l by rw [← hH]; rfl)
  rw [hH] at hrow3 HO3 hd ⊢
  clear hH
  have C2 := Lib.hid (sumOf_any H l (by omega) (by omega) q p d cap w3 hrow3 (HP.out.below HB3.out) hd HL.out.2.1)
  have HQ := Lib.hid (And.intro hH3 (And.intro hd hqd))
  clear hH3 hd hqd hrow3
  go_wp2_with fail
  refine C2.out.mono ?_
  rintro e w4 ⟨rfl, hb4⟩
  have HB4 := Lib.hid (HB3.out.trans (hb4.mono HB3.out.size))
  have HO4 := Lib.hid (below_own HO3.out hb4)
  clear hb4 C2
  have C3 := Lib.hid (app4_any (sumL (H ++ l)) w.heap.size _ (nums H) w4 HO4.out (by rw [nums_length, HQ.out.1]; omega) HB4.out.size)
  go_wp2_with fail
  refine C3.out.mono ?_
  rintro e w5 ⟨v5, rfl, hown5, hb5⟩
  have HB5 := Lib.hid (HB4.out.trans hb5)
  have HO5 := Lib.hid hown5
  clear hown5 hb5 C3
  have hl5 : (nums H ++ nums (be4 (sumL (H ++ l)))).length = 7 := by rw [List.length_append, nums_length, nums_length, HQ.out.1]; rfl
  have HL5 := Lib.hid hl5; clear hl5
  have HR5 := Lib.hid (show Row w5 .u8 p (nums l) from HP.out.below HB5.out)
  go_wp2_with (at_builtin; refine wpList_own_row rfl _ _ 25 rfl 5 .u8 1 Try.underlying25 info_byte (by decide) w.heap.size _ _ rfl HO5.out p cap (nums l) (by rw [nums_length]; rfl) HR5.out HL.out.2.2 (by rw [HL5.out, nums_length]; have := HL.out.1; omega) HB5.out.size ?_)
  intro v6 w6 hown6 hgrow
  have HB6 := Lib.hid (HB5.out.grown hgrow HB5.out.size (fun g hg => HO5.out.lt g hg))
  have HO6 := Lib.hid (show Own w6 w.heap.size 5 .u8 v6 (nums (frameL kind l)) by rw [HF.out, nums_append, nums_append, List.append_assoc]; exact hown6)
  clear hown6 hgrow
  go_wp2_with fail
  go_ret2
  exact ⟨_, rfl, HO6.out, HB6.out⟩
end Go.Proofs.Ytkidahlhnhglfaa
