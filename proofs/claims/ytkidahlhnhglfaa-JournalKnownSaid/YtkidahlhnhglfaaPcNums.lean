/-
  Layer parcel: numbers laid one behind the other.
-/
import Derived.Test.YtkidahlhnhglfaaPcPack
namespace Go.Proofs.Ytkidahlhnhglfaa
open Go.RowKit

def numsS (M : Nat) (st : Option (List UInt8)) (xs : List Int) : Option (List UInt8) := xs.foldl (numS M) st
theorem numS_none (M : Nat) (x : Int) : numS M none x = none := by
  unfold numS
  by_cases h : 0 ≤ x ∧ x ≤ 268435455
  · rw [if_pos h]; rfl
  · rw [if_neg h]
theorem numsS_none (M : Nat) : ∀ xs, numsS M none xs = none
  | [] => rfl
  | x :: xs => by
    show numsS M (numS M none x) xs = none
    rw [numS_none]; exact numsS_none M xs
theorem numsS_snoc (M : Nat) (st : Option (List UInt8)) (xs : List Int) (k : Nat) (h : k < xs.length) : numsS M st (xs.take (k + 1)) = numS M (numsS M st (xs.take k)) (xs.getD k 0) := by
  rw [List.take_succ_eq_append_getElem h]
  unfold numsS
  rw [List.foldl_append]
  simp [List.getD, h]
theorem numsS_bad (M : Nat) (st : Option (List UInt8)) (xs : List Int) (k : Nat) (h : k < xs.length) (hb : ¬ (0 ≤ xs.getD k 0 ∧ xs.getD k 0 ≤ 268435455)) : numsS M st xs = none := by
  have h1 : numsS M st (xs.take (k + 1)) = none := by rw [numsS_snoc M st xs k h]; exact if_neg hb
  have h2 : numsS M st xs = numsS M (numsS M st (xs.take (k + 1))) (xs.drop (k + 1)) := by
    show _ = List.foldl _ (List.foldl _ _ _) _
    rw [← List.foldl_append, List.take_append_drop]; rfl
  rw [h2, h1]; exact numsS_none M _
theorem layS_len (M : Nat) (st : Option (List UInt8)) (l : List UInt8) : ((layS M st l).getD []).length ≤ (st.getD []).length + l.length := by
  cases st with
  | none => simp [layS]
  | some b =>
    by_cases h : b.length + l.length ≤ M
    · rw [show layS M (some b) l = some (b ++ l) from if_pos h]; simp
    · rw [show layS M (some b) l = none from if_neg h]; simp
theorem numS_len (M : Nat) (st : Option (List UInt8)) (x : Int) : ((numS M st x).getD []).length ≤ (st.getD []).length + 4 := by
  unfold numS
  by_cases h : 0 ≤ x ∧ x ≤ 268435455
  · rw [if_pos h]; exact layS_len M st (be4 x.toNat)
  · rw [if_neg h]; simp
theorem numsS_len (M : Nat) : ∀ (xs : List Int) (st : Option (List UInt8)), ((numsS M st xs).getD []).length ≤ (st.getD []).length + 4 * xs.length
  | [], st => by simp [numsS]
  | x :: xs, st => by
    have h1 := numS_len M st x
    have h2 := numsS_len M xs (numS M st x)
    show ((numsS M (numS M st x) xs).getD []).length ≤ _
    rw [List.length_cons]; omega

theorem pcNums_be4 (n : Nat) : nums (be4 n) = [(n : Int) / 16777216 % 256, (n : Int) / 65536 % 256, (n : Int) / 256 % 256, (n : Int) % 256] := by
  simp [nums, be4]

theorem nums_be4s (n : Nat) (h : (n : Int) ≤ 268435455) : nums (be4 n) = [(n : Int) / 16777216, (n : Int) / 65536 % 256, (n : Int) / 256 % 256, (n : Int) % 256] := by
  rw [pcNums_be4, show (n : Int) / 16777216 % 256 = (n : Int) / 16777216 by omega]
theorem conv_be4 (n : Nat) (h : (n : Int) ≤ 268435455) (w : World) :
    (convert 25 9 (.slice (some ⟨w.heap.size, 0, none⟩) 4 4)).run Try.prog (w.alloc (.cells #[.int .u8 ((n : Int) / 16777216), .int .u8 ((n : Int) / 65536 % 256), .int .u8 ((n : Int) / 256 % 256), .int .u8 ((n : Int) % 256)] 5)) = .ok (.string (strB (be4 n))) (w.alloc (.cells #[.int .u8 ((n : Int) / 16777216), .int .u8 ((n : Int) / 65536 % 256), .int .u8 ((n : Int) / 256 % 256), .int .u8 ((n : Int) % 256)] 5)) := by
  have h1 := row_lit w .u8 5 (nums (be4 n))
  rw [nums_be4s n h] at h1
  exact run_string _ (be4 n) _ 4 (by rw [nums_be4s n h]; exact h1)

theorem ints_at (xs : List Int) (k : Nat) (h : k < xs.length) : ((xs.map (Value.int .i64)).toArray)[k]? = some (.int .i64 (xs.getD k 0)) := by
  simp [List.getD, h]
theorem int_packer : (3 : TypeId) ≠ 5 ∧ (3 : TypeId) ≠ 107 := by decide
theorem string_packer : (9 : TypeId) ≠ 5 ∧ (9 : TypeId) ≠ 107 := by decide

set_option maxHeartbeats 2000000 in
theorem numbers_any (w : World) (B g M b0 : Nat) (st : Option (List UInt8)) (xs : List Int) (hB : B ≤ w.heap.size) (h : PkAt w B g M st) (hM : M ≤ 9223372036854775807) (hr : M ≤ 1000000000000 ∨ (st.getD []).length + 4 * xs.length ≤ 1000000000000)
    (hx : w.heap[b0]? = some (.cells (xs.map (Value.int .i64)).toArray 3 (0, 0))) (hn : xs.length ≤ 1000000000000) :
    Calls Try.prog 40 #[.pointer (some ⟨g, 0, none⟩), .slice (some ⟨b0, 0, none⟩) xs.length xs.length] w fun e w' => e = .returned (.tuple #[]) ∧ Laid w B g M (numsS M st xs) w' := by
  have HH := Lib.hid h
  have HX := Lib.hid hx
  have CL := Lib.hid (fun w1 s l h1 h2 h3 => lay_any w1 B g M s l h1 h2 hM h3)
  have CR := Lib.hid (fun w1 s h1 => refuse_any w1 B g M s h1)
  obtain ⟨n, hN⟩ : ∃ n, xs.length = n := ⟨_, rfl⟩
  rw [hN] at hr hn ⊢
  have HN := Lib.hid hN
  have HR := Lib.hid hr
  clear h hx hr hN hM
  go_enter Try.func40, Try.ntmps40
  go_wp2_with fail
  go_loopw [8] (fun i wr => ∃ k : Nat, k ≤ n ∧ i = .int .i64 k ∧ Hid (Laid w B g M (numsS M st (xs.take k)) wr)) (fun i _ => n - (intOf i).toNat)
  case atStart => exact ⟨0, Nat.zero_le _, rfl, Lib.hid (Laid.refl HH.out)⟩
  case round =>
    obtain ⟨k, hk, rfl, HL⟩ := hrel
    by_cases hlt : k < n
    · have hltz : (k : Int) < (n : Int) := by omega
      have hblk := HL.out.fr.keep b0 _ _ _ HX.out int_packer.1 int_packer.2
      have hcell := (cell_at hblk k).trans (ints_at xs k (by rw [HN.out]; exact hlt))
      have HB := Lib.hid hblk
      obtain ⟨x, hx⟩ : ∃ x, xs.getD k 0 = x := ⟨_, rfl⟩
      rw [hx] at hcell
      have HXK := Lib.hid hx
      clear hx hblk
      by_cases hx0 : 0 ≤ x
      · have hneg : decide (x < 0) = false := by simp; omega
        by_cases hx1 : x ≤ 268435455
        · have hbig : decide (x > 268435455) = false := by simp; omega
          obtain ⟨y, rfl⟩ : ∃ y : Nat, x = y := ⟨x.toNat, by omega⟩
          have hblen : (xs.take k).length ≤ n := by rw [List.length_take, HN.out]; omega
          have hlen := numsS_len M (xs.take k) st
          have hconv := conv_be4 y hx1 wr
          have HK := Lib.hid (show M ≤ 1000000000000 ∨ ((numsS M st (xs.take k)).getD []).length + (be4 y).length ≤ 1000000000000 by
            have h4 : (be4 y).length = 4 := rfl
            rw [h4]
            rw [List.length_take, HN.out, Nat.min_eq_left (by omega)] at hlen
            have := HR.out
            omega)
          have HL1 := Lib.hid (HL.out.alloc hB (.cells #[.int .u8 ((y : Int) / 16777216), .int .u8 ((y : Int) / 65536 % 256), .int .u8 ((y : Int) / 256 % 256), .int .u8 ((y : Int) % 256)] 5))
          have HS := Lib.hid (show numsS M st (xs.take (k + 1)) = layS M (numsS M st (xs.take k)) (be4 y) by
            rw [numsS_snoc M st xs k (by rw [HN.out]; exact hlt), HXK.out]
            rw [show numS M (numsS M st (xs.take k)) (y : Int) = _ from if_pos ⟨hx0, hx1⟩, Int.toNat_natCast])
          clear hlen hblen
          go_wp2_with fail
          refine (CL.out _ _ (be4 y) (Nat.le_trans hB HL1.out.bl.size) HL1.out.pk HK.out).mono ?_
          rintro e w2 ⟨rfl, hl2⟩
          have HL2 := Lib.hid (show Laid w B g M (numsS M st (xs.take (k + 1))) w2 from HS.out ▸ HL1.out.trans hl2)
          clear hl2 hconv
          go_wp2_with fail
          go_roundw
          case rel => exact ⟨k + 1, by omega, by go_num, HL2⟩
          case measure => simp [intOf]; omega
        · have hbig : decide (x > 268435455) = true := by simp; omega
          go_wp2_with fail
          refine (CR.out wr _ HL.out.pk).mono ?_
          rintro e w2 ⟨rfl, hl2⟩
          have HL2 := Lib.hid (show Laid w B g M (numsS M st xs) w2 by
            rw [numsS_bad M st xs k (by rw [HN.out]; exact hlt) (by rw [HXK.out]; omega)]; exact HL.out.trans hl2)
          clear hl2
          go_wp2_with fail
          exact bodyPost_ret (v := .tuple #[]) (by simp [results, Try.results40]) rfl ⟨rfl, HL2.out⟩
      · have hneg : decide (x < 0) = true := by simp; omega
        go_wp2_with fail
        refine (CR.out wr _ HL.out.pk).mono ?_
        rintro e w2 ⟨rfl, hl2⟩
        have HL2 := Lib.hid (show Laid w B g M (numsS M st xs) w2 by
          rw [numsS_bad M st xs k (by rw [HN.out]; exact hlt) (by rw [HXK.out]; omega)]; exact HL.out.trans hl2)
        clear hl2
        go_wp2_with fail
        exact bodyPost_ret (v := .tuple #[]) (by simp [results, Try.results40]) rfl ⟨rfl, HL2.out⟩
    · obtain rfl : k = n := by omega
      have hltz : ¬ (k : Int) < (k : Int) := by omega
      have HL2 := Lib.hid (show Laid w B g M (numsS M st xs) wr by
        have := HL.out
        rwa [← HN.out, List.take_length] at this)
      go_wp2_with fail
      exact bodyPost_end (v := .tuple #[]) (by simp [results, Try.results40]) rfl ⟨rfl, HL2.out⟩
end Go.Proofs.Ytkidahlhnhglfaa
