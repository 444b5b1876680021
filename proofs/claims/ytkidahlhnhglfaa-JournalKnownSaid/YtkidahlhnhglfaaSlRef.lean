/-
  Layer seal: the reference's Frame.
-/
import Derived.Test.YtkidahlhnhglfaaSlFrame
namespace Go.Proofs.Ytkidahlhnhglfaa
open Go.RowKit

theorem own_lit8 (w : World) (b : Nat) (B : Nat) (hB : B ≤ b) (xs : List Int) (h : w.heap[b]? = some (.cells (xs.map (Value.int .u8)).toArray 5 (0, 0))) (hl : xs.length ≤ 1000000) : Own w B 5 .u8 (.slice (some ⟨b, 0, none⟩) xs.length xs.length) xs :=
  ⟨by simp, Or.inr ⟨b, xs.length, (xs.map (Value.int .u8)).toArray, rfl, hB, h, Nat.le_refl _, by unfold maxLen; omega, by simp, by simp only [Nat.mul_one]; exact List.take_of_length_le (by simp)⟩⟩

theorem refFrame_long (kind : UInt8) (n : Nat) (hn : 32768 < n) (p : Option Addr) (cap : Nat) (w : World) :
    Calls Try.prog 22 #[.int .u8 kind.toNat, .slice p n cap] w fun e w' => e = .returned (.tuple #[.slice none 0 0, .int .i64 3]) ∧ w = w' := by
  have hz : (32768 : Int) < (n : Int) := by omega
  go_enter Try.func22, Try.ntmps22
  go_wp2_with fail
  go_ret2
  exact ⟨rfl, rfl⟩

set_option maxHeartbeats 2000000 in
set_option maxRecDepth 50000 in
theorem refFrame_ok (kind : UInt8) (l : List UInt8) (hl : l.length ≤ 32768) (p : Option Addr) (cap : Nat) (w : World) (hp : Row w .u8 p (nums l)) (hpc : p = none → cap = 0) :
    Calls Try.prog 22 #[.int .u8 kind.toNat, .slice p l.length cap] w (RetFr w (frameL kind l)) := by
  have HF := Lib.hid (show ∀ v w', Own w' w.heap.size 5 .u8 v (nums (frameL kind l)) → Below w.heap.size w w' → RetFr w (frameL kind l) (.returned (.tuple #[v, .int .i64 0])) w' from fun v w' h1 h2 => ⟨v, rfl, h1, h2⟩)
  obtain ⟨n, hn⟩ : ∃ n, l.length = n := ⟨_, rfl⟩
  obtain ⟨H, hH⟩ : ∃ H, headL kind l = H := ⟨_, rfl⟩
  have hHn : nums H = [(n : Int) / 256, (n : Int) % 256, (kind.toNat : Int)] := by
    rw [← hH, headL, nums_append, nums_be2, hn, show (n : Int) / 256 % 256 = (n : Int) / 256 by omega]; rfl
  have hH3 : H.length = 3 := by rw [← hH]; simp [headL, be2]
  have hfr : frameL kind l = H ++ be4 (sumL (H ++ l)) ++ l := by rw [← hH]; rfl
  have hS := sumL_lt (H ++ l)
  rw [hfr] at HF ⊢
  rw [hn] at hl ⊢
  have hlz2 : (n : Int) ≤ 32768 := by omega
  have HP := Lib.hid (And.intro hp hpc)
  have HN := Lib.hid hn
  have HL := Lib.hid hl
  have HH3 := Lib.hid hH3
  have HHN := Lib.hid hHn
  obtain ⟨w1, hw1⟩ : ∃ w1, w.alloc (.cells #[.int .u8 ((n : Int) / 256), .int .u8 ((n : Int) % 256), .int .u8 (kind.toNat : Int)] 5) = w1 := ⟨_, rfl⟩
  have HB1 := Lib.hid (show Below w.heap.size w w1 from hw1 ▸ (Below.refl _ _).alloc (Nat.le_refl _) _)
  have HO1 := Lib.hid (show Own w1 w.heap.size 5 .u8 (.slice (some ⟨w.heap.size, 0, none⟩) 3 3) (nums H) from by
    rw [hHn]
    exact own_lit8 w1 w.heap.size w.heap.size (Nat.le_refl _) [(n : Int) / 256, (n : Int) % 256, (kind.toNat : Int)] (by rw [← hw1]; show (w.heap.push _)[w.heap.size]? = _; simp) (by simp))
  clear hp hpc hn hH hHn hH3 hfr hl
  go_enter Try.func22, Try.ntmps22
  go_wp2_with (at_builtin; refine wpList_own_row rfl _ _ 25 rfl 5 .u8 1 Try.underlying25 info_byte (by decide) w1.heap.size _ [] rfl (Own.nil _ _ _ _) (some ⟨w.heap.size, 0, none⟩) 3 (nums H) (by rw [nums_length, HH3.out]; rfl) ?rowH (fun h => by cases h) (by rw [nums_length, HH3.out]; simp) (Nat.le_refl _) ?_)
  case rowH =>
    obtain ⟨q, d, e, _, _, h⟩ := own_row HO1.out
    injection e with e _ _
    rw [e]; exact h
  intro v2 w2 hown2 hgrow2
  have HB12 := Lib.hid ((Below.refl w1.heap.size w1).grown hgrow2 (Nat.le_refl _) (fun g hg => by cases hg))
  have HO2 := Lib.hid (show Own w2 w1.heap.size 5 .u8 v2 (nums H) from hown2)
  clear hown2 hgrow2 hw1
  go_wp2_with (at_builtin; refine wpList_own_row rfl _ _ 25 rfl 5 .u8 1 Try.underlying25 info_byte (by decide) w1.heap.size _ _ rfl HO2.out p cap (nums l) (by rw [nums_length, HN.out]; rfl) (HP.out.1.below (HB1.out.trans (HB12.out.mono HB1.out.size))) HP.out.2 (by rw [nums_length, nums_length, HH3.out, HN.out]; have := HL.out; omega) HB12.out.size ?_)
  intro v3 w3 hown3 hgrow3
  have HB13 := Lib.hid (HB12.out.grown hgrow3 HB12.out.size (fun g hg => HO2.out.lt g hg))
  have hown3' : Own w3 w1.heap.size 5 .u8 v3 (nums (H ++ l)) := by rw [nums_append]; exact hown3
  obtain ⟨q3, d3, rfl, -, -, hrow3⟩ := own_row hown3'
  rw [nums_length] at hown3' ⊢
  have CS := Lib.hid (refSum_any (H ++ l) (by rw [List.length_append, HH3.out, HN.out]; have := HL.out; omega) q3 d3 w3 hrow3)
  obtain ⟨n3, hn3⟩ : ∃ n3, (H ++ l).length = n3 := ⟨_, rfl⟩
  rw [hn3] at CS ⊢
  clear hown3 hown3' hgrow3 hrow3 HO2 HB12 hn3
  obtain ⟨S, hSS⟩ : ∃ S, sumL (H ++ l) = S := ⟨_, rfl⟩
  rw [hSS] at hS CS
  have HSS := Lib.hid hSS
  clear hSS
  have HBW := Lib.hid (HB1.out.trans (HB13.out.mono HB1.out.size))
  have HO3 := Lib.hid (below_own HO1.out HB13.out)
  clear hS
  go_wp2_with fail
  refine CS.out.mono ?_
  rintro e w4 ⟨rfl, rfl⟩
  go_wp2_with (at_builtin; refine wpList_own_push rfl _ _ 25 rfl 5 .u8 1 Try.underlying25 info_byte (by decide) w.heap.size _ _ rfl (HO3.out.alloc _) w3.heap.size 4 4 [(S : Int) / 16777216 % 256, (S : Int) / 65536 % 256, (S : Int) / 256 % 256, (S : Int) % 256] rfl rfl ?newCells (by rw [nums_length, HH3.out]; omega) (by have := HBW.out.size; simp; omega) ?_)
  case newCells =>
    intro j hj
    match j, hj with
    | 0, _ => simp
    | 1, _ => simp
    | 2, _ => simp
    | 3, _ => simp
  intro v5 w5 hown5 hgrow5
  have HB5 := Lib.hid ((HBW.out.alloc HBW.out.size (.cells #[.int .u8 ((S : Int) / 16777216 % 256), .int .u8 ((S : Int) / 65536 % 256), .int .u8 ((S : Int) / 256 % 256), .int .u8 ((S : Int) % 256)] 5)).grown hgrow5 (by have := HBW.out.size; simp; omega) (fun g hg => HO3.out.lt g hg))
  have HO5 := Lib.hid (show Own w5 w.heap.size 5 .u8 v5 (nums (H ++ be4 S)) by rw [nums_append, nums_be4]; exact hown5)
  clear hown5 hgrow5
  go_wp2_with (at_builtin; refine wpList_own_row rfl _ _ 25 rfl 5 .u8 1 Try.underlying25 info_byte (by decide) w.heap.size _ _ rfl HO5.out p cap (nums l) (by rw [nums_length, HN.out]; rfl) (HP.out.1.below HB5.out) HP.out.2 (by rw [nums_length, nums_length, List.length_append, HH3.out, HN.out]; have := HL.out; simp [be4]; omega) HB5.out.size ?_)
  intro v6 w6 hown6 hgrow6
  have HB6 := Lib.hid (HB5.out.grown hgrow6 HB5.out.size (fun g hg => HO5.out.lt g hg))
  have HO6 := Lib.hid (show Own w6 w.heap.size 5 .u8 v6 (nums (H ++ be4 S ++ l)) by rw [nums_append]; exact hown6)
  rw [← HSS.out] at HO6
  clear hown6 hgrow6
  go_wp2_with fail
  go_ret2
  exact HF.out _ _ HO6.out HB6.out
end Go.Proofs.Ytkidahlhnhglfaa
