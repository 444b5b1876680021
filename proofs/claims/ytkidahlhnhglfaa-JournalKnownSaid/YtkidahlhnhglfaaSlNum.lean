/-
  Layer seal: numbers of up to four bytes.
-/
import Derived.Test.YtkidahlhnhglfaaSlSum
namespace Go.Proofs.Ytkidahlhnhglfaa
open Go.RowKit

theorem numL_lt3 : ∀ (l : List UInt8), l.length ≤ 3 → numL l < 16777216
  | [], _ => by decide
  | [a], _ => by have := u8_lt a; simp only [numL, List.foldl]; omega
  | [a, b], _ => by have := u8_lt a; have := u8_lt b; simp only [numL, List.foldl]; omega
  | [a, b, c], _ => by have := u8_lt a; have := u8_lt b; have := u8_lt c; simp only [numL, List.foldl]; omega
  | _ :: _ :: _ :: _ :: _, h => by simp at h
theorem or8 (x y : Nat) (hx : x < 16777216) (hy : y ≤ 255) : bits .or .u32 ((x : Int) * 256) y = ((x * 256 + y : Nat) : Int) := by
  rw [bits_join .u32 32 (by decide) wraps_u32 8 ((x : Int) * 256) y (by omega) (by omega) (by omega) (by omega) (by omega) (by omega)]
  omega

set_option maxHeartbeats 400000 in
theorem number_any (l : List UInt8) (hl : l.length ≤ 4) (p : Option Addr) (cap : Nat) (w : World) (hp : Row w .u8 p (nums l)) :
    Calls Try.prog 82 #[.slice p l.length cap] w fun e w' => e = .returned (.int .u32 (numL l : Nat)) ∧ w = w' := by
  have HP := Lib.hid hp; clear hp
  obtain ⟨n, hn⟩ : ∃ n, l.length = n := ⟨_, rfl⟩
  rw [hn] at hl ⊢
  have HN := Lib.hid hn; clear hn
  obtain ⟨S, hS⟩ : ∃ S, numL l = S := ⟨_, rfl⟩
  rw [hS]
  have HS := Lib.hid hS; clear hS
  go_enter Try.func82, Try.ntmps82
  go_wp2_with fail
  go_loop [3, 8] (fun x i => ∃ k : Nat, k ≤ n ∧ i = .int .i64 k ∧ x = .int .u32 (numL (l.take k) : Nat)) (fun _ i => n - (intOf i).toNat)
  case atStart => exact ⟨0, Nat.zero_le _, rfl, rfl⟩
  case round =>
    obtain ⟨k, hk, rfl, rfl⟩ := hrel
    obtain ⟨A, hA⟩ : ∃ A, numL (l.take k) = A := ⟨_, rfl⟩
    rw [hA]
    have HA := Lib.hid hA; clear hA
    by_cases hlt : k < n
    · have hA3 : A < 16777216 := by rw [← HA.out]; exact numL_lt3 _ (by rw [List.length_take]; omega)
      obtain ⟨b, o, rfl, hbl, hcell⟩ := byte_cell HP.out (Below.refl _ _) (show k < l.length by rw [HN.out]; exact hlt)
      obtain ⟨x, hx⟩ : ∃ x, l.getD k 0 = x := ⟨_, rfl⟩
      rw [hx] at hcell
      have HX := Lib.hid hx; clear hx
      have hx8 : (x.toNat : Int) ≤ 255 := by have := u8_lt x; omega
      have ho := or8 A x.toNat hA3 (u8_lt x)
      have hA1 : (A : Int) < 16777216 := by omega
      have hltz : (k : Int) < (n : Int) := by omega
      clear hA3
      go_wp2_with fail
      go_round
      case rel =>
        have hs : numL (l.take (k + 1)) = A * 256 + x.toNat := by
          rw [take_snoc8 l k (by rw [HN.out]; exact hlt), numL_snoc, HX.out, HA.out]
        exact ⟨k + 1, by omega, by go_num, by rw [hs]; simp⟩
      case measure => simp [intOf]; omega
    · obtain rfl : k = n := by omega
      have hltz : ¬ (k : Int) < (k : Int) := by omega
      obtain rfl : S = A := by
        rw [← HS.out, ← HA.out, ← HN.out, List.take_length]
      go_wp2_with fail
      go_ret
      exact ⟨rfl, rfl⟩

theorem nums_be4 (n : Nat) : nums (be4 n) = [(n : Int) / 16777216 % 256, (n : Int) / 65536 % 256, (n : Int) / 256 % 256, (n : Int) % 256] := by
  simp [nums, be4]
theorem nums_be2 (n : Nat) : nums (be2 n) = [(n : Int) / 256 % 256, (n : Int) % 256] := by
  simp [nums, be2]
def AN4 (n : Int) (s : Int) (ys : List Int) : Prop := (s = 24 ∧ ys = []) ∨ (s = 16 ∧ ys = [n / 16777216 % 256]) ∨ (s = 8 ∧ ys = [n / 16777216 % 256, n / 65536 % 256]) ∨ (s = 0 ∧ ys = [n / 16777216 % 256, n / 65536 % 256, n / 256 % 256]) ∨ (s = -8 ∧ ys = [n / 16777216 % 256, n / 65536 % 256, n / 256 % 256, n % 256])

set_option maxHeartbeats 2000000 in
set_option maxRecDepth 100000 in
theorem app4_any (n : Nat) (B : Nat) (v : Value) (xs : List Int) (w : World) (hx : Own w B 5 .u8 v xs) (hl : xs.length ≤ 900000) (hB : B ≤ w.heap.size) :
    Calls Try.prog 63 #[v, .int .i64 4, .int .u32 n] w fun e w' => ∃ v', e = .returned v' ∧ Own w' B 5 .u8 v' (xs ++ nums (be4 n)) ∧ Below B w w' := by
  have HF := Lib.hid (show ∀ v' w', Own w' B 5 .u8 v' (xs ++ [(n : Int) / 16777216 % 256, n / 65536 % 256, n / 256 % 256, n % 256]) → Below B w w' → ∃ v'', Ending.returned v' = .returned v'' ∧ Own w' B 5 .u8 v'' (xs ++ nums (be4 n)) ∧ Below B w w' from fun v' w' h1 h2 => ⟨v', rfl, by rw [nums_be4]; exact h1, h2⟩)
  generalize nums (be4 n) = zs at HF ⊢
  have HO := Lib.hid hx; clear hx
  go_enter Try.func63, Try.ntmps63
  go_wp2_with fail
  go_loopw [0, 7] (fun u i wr => ∃ s ys, i = .int .i64 s ∧ AN4 n s ys ∧ Hid (Own wr B 5 .u8 u (xs ++ ys)) ∧ Hid (Below B w wr)) (fun _ i _ => (intOf i + 8).toNat)
  case atStart => exact ⟨24, [], rfl, Or.inl ⟨rfl, rfl⟩, by rw [List.append_nil]; exact HO, Lib.hid (Below.refl _ _)⟩
  case round =>
    obtain ⟨s, ys, rfl, hcase, HA, HB⟩ := hrel
    have hsz := HB.out.size
    rcases hcase with ⟨rfl, rfl⟩ | ⟨rfl, rfl⟩ | ⟨rfl, rfl⟩ | ⟨rfl, rfl⟩ | ⟨rfl, rfl⟩
    · go_wp2_with (at_builtin; refine wpList_own_push rfl _ _ 25 rfl 5 .u8 1 Try.underlying25 info_byte (by decide) B _ _ rfl (HA.out.alloc _) wr.heap.size 1 1 [(n : Int) / 16777216 % 256] rfl rfl ?newCells0 (by simp; omega) (by simp; omega) ?_)
      case newCells0 =>
        intro j hj
        obtain rfl : j = 0 := by omega
        simp
      intro v' w2 hown2 hgrow
      have HB2 := Lib.hid ((HB.out.alloc (by omega) (.cells #[.int .u8 (n / 16777216 % 256)] 5)).grown hgrow (by simp; omega) (fun g hg => HA.out.lt g hg))
      have HA2 := Lib.hid hown2; clear hown2 hgrow
      go_wp2_with fail
      go_roundw
      case rel => exact ⟨16, [n / 16777216 % 256], rfl, Or.inr <| Or.inl ⟨rfl, rfl⟩, HA2, HB2⟩
      case measure => simp [intOf]
    · go_wp2_with (at_builtin; refine wpList_own_push rfl _ _ 25 rfl 5 .u8 1 Try.underlying25 info_byte (by decide) B _ _ rfl (HA.out.alloc _) wr.heap.size 1 1 [(n : Int) / 65536 % 256] rfl rfl ?newCells1 (by simp; omega) (by simp; omega) ?_)
      case newCells1 =>
        intro j hj
        obtain rfl : j = 0 := by omega
        simp
      intro v' w2 hown2 hgrow
      have HB2 := Lib.hid ((HB.out.alloc (by omega) (.cells #[.int .u8 (n / 65536 % 256)] 5)).grown hgrow (by simp; omega) (fun g hg => HA.out.lt g hg))
      have HA2 := Lib.hid hown2; clear hown2 hgrow
      go_wp2_with fail
      go_roundw
      case rel => exact ⟨8, [n / 16777216 % 256, n / 65536 % 256], rfl, Or.inr <| Or.inr <| Or.inl ⟨rfl, rfl⟩, HA2, HB2⟩
      case measure => simp [intOf]
    · go_wp2_with (at_builtin; refine wpList_own_push rfl _ _ 25 rfl 5 .u8 1 Try.underlying25 info_byte (by decide) B _ _ rfl (HA.out.alloc _) wr.heap.size 1 1 [(n : Int) / 256 % 256] rfl rfl ?newCells2 (by simp; omega) (by simp; omega) ?_)
      case newCells2 =>
        intro j hj
        obtain rfl : j = 0 := by omega
        simp
      intro v' w2 hown2 hgrow
      have HB2 := Lib.hid ((HB.out.alloc (by omega) (.cells #[.int .u8 (n / 256 % 256)] 5)).grown hgrow (by simp; omega) (fun g hg => HA.out.lt g hg))
      have HA2 := Lib.hid hown2; clear hown2 hgrow
      go_wp2_with fail
      go_roundw
      case rel => exact ⟨0, [n / 16777216 % 256, n / 65536 % 256, n / 256 % 256], rfl, Or.inr <| Or.inr <| Or.inr <| Or.inl ⟨rfl, rfl⟩, HA2, HB2⟩
      case measure => simp [intOf]
    · go_wp2_with (at_builtin; refine wpList_own_push rfl _ _ 25 rfl 5 .u8 1 Try.underlying25 info_byte (by decide) B _ _ rfl (HA.out.alloc _) wr.heap.size 1 1 [(n : Int) % 256] rfl rfl ?newCells3 (by simp; omega) (by simp; omega) ?_)
      case newCells3 =>
        intro j hj
        obtain rfl : j = 0 := by omega
        simp
      intro v' w2 hown2 hgrow
      have HB2 := Lib.hid ((HB.out.alloc (by omega) (.cells #[.int .u8 (n % 256)] 5)).grown hgrow (by simp; omega) (fun g hg => HA.out.lt g hg))
      have HA2 := Lib.hid hown2; clear hown2 hgrow
      go_wp2_with fail
      go_roundw
      case rel => exact ⟨-8, [n / 16777216 % 256, n / 65536 % 256, n / 256 % 256, n % 256], rfl, Or.inr <| Or.inr <| Or.inr <| Or.inr <| ⟨rfl, rfl⟩, HA2, HB2⟩
      case measure => simp [intOf]
    · go_wp2_with fail
      go_ret
      exact HF.out _ _ HA.out HB.out

def AN2 (n : Int) (s : Int) (ys : List Int) : Prop := (s = 8 ∧ ys = []) ∨ (s = 0 ∧ ys = [n / 256 % 256]) ∨ (s = -8 ∧ ys = [n / 256 % 256, n % 256])

set_option maxHeartbeats 2000000 in
set_option maxRecDepth 100000 in
theorem app2_any (n : Nat) (B : Nat) (v : Value) (xs : List Int) (w : World) (hx : Own w B 5 .u8 v xs) (hl : xs.length ≤ 900000) (hB : B ≤ w.heap.size) :
    Calls Try.prog 63 #[v, .int .i64 2, .int .u32 n] w fun e w' => ∃ v', e = .returned v' ∧ Own w' B 5 .u8 v' (xs ++ nums (be2 n)) ∧ Below B w w' := by
  have HF := Lib.hid (show ∀ v' w', Own w' B 5 .u8 v' (xs ++ [(n : Int) / 256 % 256, n % 256]) → Below B w w' → ∃ v'', Ending.returned v' = .returned v'' ∧ Own w' B 5 .u8 v'' (xs ++ nums (be2 n)) ∧ Below B w w' from fun v' w' h1 h2 => ⟨v', rfl, by rw [nums_be2]; exact h1, h2⟩)
  generalize nums (be2 n) = zs at HF ⊢
  have HO := Lib.hid hx; clear hx
  go_enter Try.func63, Try.ntmps63
  go_wp2_with fail
  go_loopw [0, 7] (fun u i wr => ∃ s ys, i = .int .i64 s ∧ AN2 n s ys ∧ Hid (Own wr B 5 .u8 u (xs ++ ys)) ∧ Hid (Below B w wr)) (fun _ i _ => (intOf i + 8).toNat)
  case atStart => exact ⟨8, [], rfl, Or.inl ⟨rfl, rfl⟩, by rw [List.append_nil]; exact HO, Lib.hid (Below.refl _ _)⟩
  case round =>
    obtain ⟨s, ys, rfl, hcase, HA, HB⟩ := hrel
    have hsz := HB.out.size
    rcases hcase with ⟨rfl, rfl⟩ | ⟨rfl, rfl⟩ | ⟨rfl, rfl⟩
    · go_wp2_with (at_builtin; refine wpList_own_push rfl _ _ 25 rfl 5 .u8 1 Try.underlying25 info_byte (by decide) B _ _ rfl (HA.out.alloc _) wr.heap.size 1 1 [(n : Int) / 256 % 256] rfl rfl ?newCells0 (by simp; omega) (by simp; omega) ?_)
      case newCells0 =>
        intro j hj
        obtain rfl : j = 0 := by omega
        simp
      intro v' w2 hown2 hgrow
      have HB2 := Lib.hid ((HB.out.alloc (by omega) (.cells #[.int .u8 (n / 256 % 256)] 5)).grown hgrow (by simp; omega) (fun g hg => HA.out.lt g hg))
      have HA2 := Lib.hid hown2; clear hown2 hgrow
      go_wp2_with fail
      go_roundw
      case rel => exact ⟨0, [n / 256 % 256], rfl, Or.inr <| Or.inl ⟨rfl, rfl⟩, HA2, HB2⟩
      case measure => simp [intOf]
    · go_wp2_with (at_builtin; refine wpList_own_push rfl _ _ 25 rfl 5 .u8 1 Try.underlying25 info_byte (by decide) B _ _ rfl (HA.out.alloc _) wr.heap.size 1 1 [(n : Int) % 256] rfl rfl ?newCells1 (by simp; omega) (by simp; omega) ?_)
      case newCells1 =>
        intro j hj
        obtain rfl : j = 0 := by omega
        simp
      intro v' w2 hown2 hgrow
      have HB2 := Lib.hid ((HB.out.alloc (by omega) (.cells #[.int .u8 (n % 256)] 5)).grown hgrow (by simp; omega) (fun g hg => HA.out.lt g hg))
      have HA2 := Lib.hid hown2; clear hown2 hgrow
      go_wp2_with fail
      go_roundw
      case rel => exact ⟨-8, [n / 256 % 256, n % 256], rfl, Or.inr <| Or.inr <| ⟨rfl, rfl⟩, HA2, HB2⟩
      case measure => simp [intOf]
    · go_wp2_with fail
      go_ret
      exact HF.out _ _ HA.out HB.out

end Go.Proofs.Ytkidahlhnhglfaa
