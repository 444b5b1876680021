/-
  Layer seal: the sum of bytes.
-/
import Derived.Test.YtkidahlhnhglfaaSlBase
namespace Go.Proofs.Ytkidahlhnhglfaa
open Go.RowKit

set_option maxHeartbeats 1000000 in
set_option maxRecDepth 100000 in
theorem with_any (a c : Nat) (ha : a < 65521) (hc : c < 65521) (l : List UInt8) (hl : l.length ≤ 65536) (p : Option Addr) (cap : Nat) (w : World) (hp : Row w .u8 p (nums l)) (hcap : l.length ≤ cap) :
    Calls Try.prog 75 #[.agg #[.int .u64 a, .int .u64 c], .slice p l.length cap] w fun e w' => e = .returned (.agg #[.int .u64 (runR (a, c) l).1, .int .u64 (runR (a, c) l).2]) ∧ Below w.heap.size w w' := by
  have HP := Lib.hid hp; clear hp
  obtain ⟨n, hn⟩ : ∃ n, l.length = n := ⟨_, rfl⟩
  rw [hn] at hl hcap ⊢
  have HN := Lib.hid hn; clear hn
  obtain ⟨ra, hra⟩ : ∃ ra, (runR (a, c) l).1 = ra := ⟨_, rfl⟩
  obtain ⟨rc, hrc⟩ : ∃ rc, (runR (a, c) l).2 = rc := ⟨_, rfl⟩
  rw [hra, hrc]
  have HR := Lib.hid (And.intro hra hrc); clear hra hrc
  go_enter Try.func75, Try.ntmps75
  go_wp2_with fail
  go_loopw [1] (fun v wr => (v = .slice p n cap ∧ wr = (w.alloc (.cells #[.int .u64 a, .int .u64 c] 128)).alloc (.cells #[.int .u64 0, .int .u64 0] 128)) ∨ (∃ q d, v = .slice q 0 d ∧ wr = (w.alloc (.cells #[.int .u64 ra, .int .u64 rc] 128)).alloc (.cells #[.int .u64 0, .int .u64 0] 128))) (fun v _ => match v with | .slice _ k _ => k | _ => 0)
  case atStart => exact Or.inl ⟨rfl, rfl⟩
  case round =>
    rcases hrel with ⟨rfl, rfl⟩ | ⟨q, d, rfl, rfl⟩
    · by_cases h0 : n = 0
      · subst h0
        obtain rfl : l = [] := List.eq_nil_of_length_eq_zero HN.out
        obtain ⟨hra, hrc⟩ := HR.out
        simp only [runR, List.foldl] at hra hrc
        subst hra hrc
        go_wp2_with fail
        refine bodyPost_ret (v := .agg #[.int .u64 a, .int .u64 c]) (by simp [results, Try.results75, go_sem]) rfl ⟨rfl, ?_⟩
        exact ((Below.refl _ _).alloc (Nat.le_refl _) _).alloc (by simp) _
      · have hpos : (0 : Int) < (n : Int) := by omega
        have hmin : min (n : Int) 65536 = (n : Int) := by omega
        have hcz : (n : Int) ≤ (cap : Int) := by omega
        go_wp2_with fail
        go_loopw [18] (fun i wr => ∃ k : Nat, k ≤ n ∧ i = .int .i64 k ∧ wr = (w.alloc (.cells #[.int .u64 (runU (a, c) (l.take k)).1, .int .u64 (runU (a, c) (l.take k)).2] 128)).alloc (.cells #[.int .u64 0, .int .u64 0] 128)) (fun i _ => n - (intOf i).toNat)
        case atStart => exact ⟨0, Nat.zero_le _, rfl, rfl⟩
        case round =>
          obtain ⟨k, hk, rfl, rfl⟩ := hrel
          have hbd := runU_le (l.take k) 0 (a, c) (by rw [List.length_take]; have := HN.out; omega) (by simp only; omega) (by simp only; omega)
          rw [List.length_take] at hbd
          obtain ⟨A, hA⟩ : ∃ A, (runU (a, c) (l.take k)).1 = A := ⟨_, rfl⟩
          obtain ⟨C, hC⟩ : ∃ C, (runU (a, c) (l.take k)).2 = C := ⟨_, rfl⟩
          rw [hA, hC] at hbd ⊢
          have HA := Lib.hid (And.intro hA hC); clear hA hC
          have hA1 : (A : Int) ≤ 16777230 := by have := hbd.1; have := Nat.min_le_left k l.length; omega
          have hC1 : (C : Int) ≤ 1099511693360 := by have := hbd.2; have := Nat.min_le_left k l.length; omega
          clear hbd
          by_cases hlt : k < n
          · have HB := Lib.hid (show Below w.heap.size w ((w.alloc (.cells #[.int .u64 A, .int .u64 C] 128)).alloc (.cells #[.int .u64 0, .int .u64 0] 128)) from ((Below.refl _ _).alloc (Nat.le_refl _) _).alloc (by simp) _)
            obtain ⟨b, o, rfl, hbl, hcell⟩ := byte_cell HP.out HB.out (show k < l.length by rw [HN.out]; exact hlt)
            obtain ⟨x, hx⟩ : ∃ x, l.getD k 0 = x := ⟨_, rfl⟩
            rw [hx] at hcell
            have HX := Lib.hid hx; clear hx
            have hx8 : (x.toNat : Int) ≤ 255 := by have := u8_lt x; omega
            have hltz : (k : Int) < (n : Int) := by omega
            clear ha hc
            go_wp2_with fail
            go_roundw
            case rel =>
              refine ⟨k + 1, by omega, by go_num, ?_⟩
              have hs : runU (a, c) (l.take (k + 1)) = (A + x.toNat, C + (A + x.toNat)) := by
                rw [take_snoc8 l k (by rw [HN.out]; exact hlt), runU_snoc, HX.out, stU, HA.out.1, HA.out.2]
              rw [hs]
              simp
            case measure => simp [intOf]; omega
          · obtain rfl : k = n := by omega
            have hltz : ¬ (k : Int) < (k : Int) := by omega
            go_wp2_with fail
            go_roundw
            case rel =>
              have hs := mod_run (l.take k) (a, c)
              have ht : l.take k = l := by rw [← HN.out, List.take_length]
              rw [ht] at hs HA
              obtain ⟨h1, h2⟩ := HA.out
              obtain ⟨h3, h4⟩ := HR.out
              have hm : modP (a, c) = (a, c) := by simp only [modP]; rw [Nat.mod_eq_of_lt ha, Nat.mod_eq_of_lt hc]
              rw [hm] at hs
              have e1 : ra = A % 65521 := by rw [← h3, ← hs, ← h1]; rfl
              have e2 : rc = C % 65521 := by rw [← h4, ← hs, ← h2]; rfl
              rw [e1, e2]
              exact Or.inr ⟨_, _, rfl, by simp⟩
            case measure => show 0 < k; omega
    · go_wp2_with fail
      refine bodyPost_ret (v := .agg #[.int .u64 ra, .int .u64 rc]) (by simp [results, Try.results75, go_sem]) rfl ⟨rfl, ?_⟩
      exact ((Below.refl _ _).alloc (Nat.le_refl _) _).alloc (by simp) _
end Go.Proofs.Ytkidahlhnhglfaa
