/-
  Layer seal: the sums of a row, of an opening and its data; the reference's sum.
-/
import Derived.Test.YtkidahlhnhglfaaSlWith
import Derived.Laws.BitsLemmas
import Derived.Lib.EndianBits
namespace Go.Proofs.Ytkidahlhnhglfaa
open Go.RowKit

theorem nothing_any (w : World) : Calls Try.prog 74 #[] w fun e w' => e = .returned (.agg #[.int .u64 1, .int .u64 0]) ∧ Below w.heap.size w w' := by
  have hb : ∀ w : World, (Instr.build 128 #[(0, .int .u64 1)]).run Try.prog w = .ok (.agg #[.int .u64 1, .int .u64 0]) w := fun w => by kernel_rfl
  go_enter Try.func74, Try.ntmps74
  go_wp2_with fail
  refine bodyPost_ret (v := .agg #[.int .u64 1, .int .u64 0]) (by simp [results, Try.results74, go_sem]) rfl ⟨rfl, ?_⟩
  exact (Below.refl _ _).alloc (Nat.le_refl _) _

theorem or64 (a c : Nat) (ha : a < 65521) (hc : c < 65521) : bits .or .u64 ((c : Int) * 65536) a = ((c * 65536 + a : Nat) : Int) := by
  rw [bits_join .u64 64 (by decide) wraps_u64 16 ((c : Int) * 65536) a (by omega) (by omega) (by omega) (by omega) (by omega) (by omega)]
  omega
theorem or32 (a c : Nat) (ha : a < 65521) (hc : c < 65521) : bits .or .u32 ((c : Int) * 65536) a = ((c * 65536 + a : Nat) : Int) := by
  rw [bits_join .u32 32 (by decide) wraps_u32 16 ((c : Int) * 65536) a (by omega) (by omega) (by omega) (by omega) (by omega) (by omega)]
  omega

theorem joined_any (a c : Nat) (ha : a < 65521) (hc : c < 65521) (w : World) :
    Calls Try.prog 76 #[.agg #[.int .u64 a, .int .u64 c]] w fun e w' => e = .returned (.int .u32 ((c * 65536 + a : Nat) : Int)) ∧ Below w.heap.size w w' := by
  have ho := or64 a c ha hc
  have hs := Lib.hid (show c * 65536 + a < 4294967296 by omega)
  go_enter Try.func76, Try.ntmps76
  go_wp2_with fail
  go_ret
  exact ⟨ret_int (by omega), (Below.refl _ _).alloc (Nat.le_refl _) _⟩

theorem sumOf_any (l m : List UInt8) (hl : l.length ≤ 65536) (hm : m.length ≤ 65536) (p q : Option Addr) (cap caq : Nat) (w : World) (hp : Row w .u8 p (nums l)) (hq : Row w .u8 q (nums m)) (hcap : l.length ≤ cap) (hcaq : m.length ≤ caq) :
    Calls Try.prog 64 #[.slice p l.length cap, .slice q m.length caq] w fun e w' => e = .returned (.int .u32 (sumL (l ++ m) : Nat)) ∧ Below w.heap.size w w' := by
  have HP := Lib.hid (And.intro hp hq); clear hp hq
  have hlt := runR_lt l (1, 0) (by decide) (by decide)
  have hlt2 := runR_lt m (runR (1, 0) l) hlt.1 hlt.2
  have C1 := Lib.hid fun w1 (hb : Below w.heap.size w w1) => with_any 1 0 (by decide) (by decide) l hl p cap w1 (HP.out.1.below hb) hcap
  have hs : sumL (l ++ m) = (runR (runR (1, 0) l) m).2 * 65536 + (runR (runR (1, 0) l) m).1 := by unfold sumL; rw [runR_append]
  rw [hs]; clear hs
  generalize runR (1, 0) l = r at *
  obtain ⟨ra, rc⟩ := r
  simp only at hlt C1
  have C2 := Lib.hid fun w1 (hb : Below w.heap.size w w1) => with_any ra rc hlt.1 hlt.2 m hm q caq w1 (HP.out.2.below hb) hcaq
  generalize runR (ra, rc) m = r at *
  obtain ⟨sa, sc⟩ := r
  simp only at hlt2 C2 ⊢
  have C3 := Lib.hid fun w1 => joined_any sa sc hlt2.1 hlt2.2 w1
  clear hlt hlt2 hl hm hcap hcaq
  go_enter Try.func64, Try.ntmps64
  go_wp2_with fail
  refine (nothing_any _).mono ?_
  rintro e w1 ⟨rfl, hb1⟩
  go_wp2_with fail
  refine (C1.out w1 hb1).mono ?_
  rintro e w2 ⟨rfl, hb2⟩
  have hb02 := hb1.trans (hb2.mono hb1.size)
  go_wp2_with fail
  refine (C2.out w2 hb02).mono ?_
  rintro e w3 ⟨rfl, hb3⟩
  have hb03 := hb02.trans (hb3.mono hb02.size)
  go_wp2_with fail
  refine (C3.out w3).mono ?_
  rintro e w4 ⟨rfl, hb4⟩
  go_wp2_with fail
  go_ret
  exact ⟨rfl, hb03.trans (hb4.mono hb03.size)⟩

theorem refSum_any (l : List UInt8) (hl : l.length ≤ 65536) (p : Option Addr) (cap : Nat) (w : World) (hp : Row w .u8 p (nums l)) :
    Calls Try.prog 50 #[.slice p l.length cap] w fun e w' => e = .returned (.int .u32 (sumL l : Nat)) ∧ w = w' := by
  have HP := Lib.hid hp; clear hp
  obtain ⟨n, hn⟩ : ∃ n, l.length = n := ⟨_, rfl⟩
  rw [hn] at hl ⊢
  have HN := Lib.hid hn; clear hn
  obtain ⟨S, hS⟩ : ∃ S, sumL l = S := ⟨_, rfl⟩
  rw [hS]
  have HS := Lib.hid hS; clear hS
  go_enter Try.func50, Try.ntmps50
  go_wp2_with fail
  go_loop [3, 4, 5] (fun x y i => ∃ k : Nat, k ≤ n ∧ i = .int .i64 k ∧ x = .int .u32 (runR (1, 0) (l.take k)).1 ∧ y = .int .u32 (runR (1, 0) (l.take k)).2) (fun _ _ i => n - (intOf i).toNat)
  case atStart => exact ⟨0, Nat.zero_le _, rfl, rfl, rfl⟩
  case round =>
    obtain ⟨k, hk, rfl, rfl, rfl⟩ := hrel
    have hbd := runR_lt (l.take k) (1, 0) (by decide) (by decide)
    obtain ⟨A, hA⟩ : ∃ A, (runR (1, 0) (l.take k)).1 = A := ⟨_, rfl⟩
    obtain ⟨C, hC⟩ : ∃ C, (runR (1, 0) (l.take k)).2 = C := ⟨_, rfl⟩
    rw [hA, hC] at hbd ⊢
    have HA := Lib.hid (And.intro hA hC); clear hA hC
    by_cases hlt : k < n
    · obtain ⟨b, o, rfl, hbl, hcell⟩ := byte_cell HP.out (Below.refl _ _) (show k < l.length by rw [HN.out]; exact hlt)
      obtain ⟨x, hx⟩ : ∃ x, l.getD k 0 = x := ⟨_, rfl⟩
      rw [hx] at hcell
      have HX := Lib.hid hx; clear hx
      have hx8 : (x.toNat : Int) ≤ 255 := by have := u8_lt x; omega
      have hA1 : (A : Int) < 65521 := by omega
      have hC1 : (C : Int) < 65521 := by omega
      have hltz : (k : Int) < (n : Int) := by omega
      clear hbd
      go_wp2_with fail
      go_round
      case rel =>
        have hs : runR (1, 0) (l.take (k + 1)) = ((A + x.toNat) % 65521, (C + (A + x.toNat) % 65521) % 65521) := by
          rw [take_snoc8 l k (by rw [HN.out]; exact hlt), runR_snoc, HX.out, stR, HA.out.1, HA.out.2]
        exact ⟨k + 1, by omega, by go_num, by rw [hs]; simp, by rw [hs]; simp⟩
      case measure => simp [intOf]; omega
    · obtain rfl : k = n := by omega
      have hltz : ¬ (k : Int) < (k : Int) := by omega
      obtain rfl : S = C * 65536 + A := by
        have ht : l.take k = l := by rw [← HN.out, List.take_length]
        rw [ht] at HA
        rw [← HS.out]; unfold sumL; rw [HA.out.1, HA.out.2]
      have ho := or32 A C hbd.1 hbd.2
      go_wp2_with fail
      go_ret
      exact ⟨ret_int (by omega), rfl⟩
end Go.Proofs.Ytkidahlhnhglfaa
