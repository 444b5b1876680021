/-
  The library's bits.Len, for numbers below 65536: a number is below two to the power of its bits.
-/
import Derived.Test.YtaghflionakhhaaGvMem
namespace Go.Proofs.Ytaghflionakhhaa
open Go.RowKit

theorem tab_fin {s : ByteArray} {n : Nat} (h : n < s.size) (key : ((List.range 256).all fun i => decide (i < 2 ^ (s.data.toList.getD i 0).toNat) && decide ((s.data.toList.getD i 0).toNat ≤ 8)) = true) (hn : n < 256) : n < 2 ^ (s[n]'h).toNat ∧ (s[n]'h).toNat ≤ 8 := by
  have k := List.all_eq_true.mp key n (List.mem_range.mpr hn)
  rw [Bool.and_eq_true, decide_eq_true_eq, decide_eq_true_eq] at k
  have e : s.data.toList.getD n 0 = s[n]'h := by
    rw [List.getD_eq_getElem?_getD, List.getElem?_eq_getElem (by simpa using h), Option.getD_some]
    rfl
  rw [e] at k
  exact k
theorem len_fin {x : UInt8} {n : Nat} {w : World} (h : n < 2 ^ x.toNat ∧ x.toNat ≤ 8) : (∃ L : Nat, Ending.returned (.int .i64 (wrap64 (wrap64 (x.toNat : Int)))) = .returned (.int .i64 L) ∧ n < 2 ^ L ∧ L ≤ 16) ∧ w = w := by
  have e : wrap64 (x.toNat : Int) = (x.toNat : Int) := by unfold wrap64; omega
  exact ⟨⟨x.toNat, by rw [e, e], h.1, by omega⟩, rfl⟩
theorem len_fin8 {x : UInt8} {n m : Nat} {w : World} (hm : n / 256 = m) (h : m < 2 ^ x.toNat ∧ x.toNat ≤ 8) : (∃ L : Nat, Ending.returned (.int .i64 (wrap64 (8 + wrap64 (x.toNat : Int)))) = .returned (.int .i64 L) ∧ n < 2 ^ L ∧ L ≤ 16) ∧ w = w := by
  have e : wrap64 (x.toNat : Int) = (x.toNat : Int) := by unfold wrap64; omega
  have e2 : wrap64 (8 + (x.toNat : Int)) = ((8 + x.toNat : Nat) : Int) := by unfold wrap64; omega
  refine ⟨⟨8 + x.toNat, by rw [e, e2], ?_, by omega⟩, rfl⟩
  rw [Nat.pow_add]
  omega

set_option maxHeartbeats 1000000 in
set_option maxRecDepth 100000 in
theorem len64_any (n : Nat) (hn : n < 65536) (w : World) : Calls Try.prog 51 #[.int .u64 n] w fun e w' => (∃ L : Nat, e = .returned (.int .i64 L) ∧ n < 2 ^ L ∧ L ≤ 16) ∧ w = w' := by
  have h0 : ¬ (4294967296 : Int) ≤ (n : Int) := by omega
  have h1 : ¬ (65536 : Int) ≤ (n : Int) := by omega
  by_cases h2 : 256 ≤ n
  · have h2' : (256 : Int) ≤ (n : Int) := by omega
    obtain ⟨m, hm⟩ : ∃ m, n / 256 = m := ⟨_, rfl⟩
    have e8 : (n : Int) / 256 = (m : Int) := by omega
    have hm2 : (m : Int) < 256 := by omega
    have hm3 : m < 256 := by omega
    have HM := Lib.hid hm
    clear hm
    go_enter Try.func51, Try.ntmps51
    go_wp2_with fail
    go_ret
    exact len_fin8 HM.out (tab_fin _ (by decide +kernel) hm3)
  · have h2' : ¬ (256 : Int) ≤ (n : Int) := by omega
    go_enter Try.func51, Try.ntmps51
    go_wp2_with fail
    go_ret
    exact len_fin (tab_fin _ (by decide +kernel) (by omega))

theorem len_bits (n : Nat) (hn : n < 65536) (w : World) : Calls Try.prog 14 #[.int .u64 n] w fun e w' => (∃ L : Nat, e = .returned (.int .i64 L) ∧ n < 2 ^ L ∧ L ≤ 16) ∧ w = w' := by
  have C := Lib.hid (len64_any n hn w)
  clear hn
  go_enter Try.func14, Try.ntmps14
  go_wp2_with fail
  refine C.out.mono ?_
  rintro e w' ⟨⟨L, rfl, hL⟩, rfl⟩
  have HL := Lib.hid hL
  clear hL C
  go_wp2_with fail
  go_ret
  exact ⟨⟨L, rfl, HL.out⟩, rfl⟩
end Go.Proofs.Ytaghflionakhhaa
