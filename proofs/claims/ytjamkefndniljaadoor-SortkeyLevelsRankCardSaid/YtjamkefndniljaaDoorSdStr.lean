/-
  'string(b)' of a row of bytes.
-/
import Derived.Test.YtjamkefndniljaaDoorSdRead
namespace Go.Proofs.YtjamkefndniljaaDoor.Sc
open Go.RowKit Go.Gz

theorem enc_le4 : ∀ rs : List Int, (encAll rs).length ≤ 4 * rs.length
  | [] => Nat.le_refl _
  | r :: rs => by
    have := enc_le4 rs
    have := (enc_length r).2
    simp; omega

theorem take_more {rs : List Int} {k : Nat} {r : Int} (h : rs.drop k = r :: rs.drop (k + 1)) : rs.take (k + 1) = rs.take k ++ [r] := by
  have : rs[k]? = some r := by
    have := congrArg (·[0]?) h
    simpa using this
  rw [List.take_add_one, this]; rfl

theorem nums_one {r : Int} (h0 : 0 ≤ r) (h1 : r ≤ 127) : nums (enc r) = [r] := by
  rw [enc_one h0 h1]; simp only [nums, List.map_cons, List.map_nil]; rw [u8 _ (by omega) (by omega)]; simp; omega
theorem nums_two {r : Int} (h0 : 128 ≤ r) (h1 : r ≤ 2047) : nums (enc r) = [192 + r / 64, 128 + r % 64] := by
  rw [enc_two h0 h1]; simp only [nums, List.map_cons, List.map_nil]; rw [u8 _ (by omega) (by omega), u8 _ (by omega) (by omega)]
  rw [Int.toNat_of_nonneg (by omega), Int.toNat_of_nonneg (by omega)]
theorem nums_three {r : Int} (h : (2048 ≤ r ∧ r < 55296) ∨ (57343 < r ∧ r ≤ 65535)) : nums (enc r) = [224 + r / 4096, 128 + r / 64 % 64, 128 + r % 64] := by
  rw [enc_three h]; simp only [nums, List.map_cons, List.map_nil]; rw [u8 _ (by omega) (by omega), u8 _ (by omega) (by omega), u8 _ (by omega) (by omega)]
  rw [Int.toNat_of_nonneg (by omega), Int.toNat_of_nonneg (by omega), Int.toNat_of_nonneg (by omega)]
theorem nums_four {r : Int} (h0 : 65536 ≤ r) (h1 : r ≤ 1114111) : nums (enc r) = [240 + r / 262144, 128 + r / 4096 % 64, 128 + r / 64 % 64, 128 + r % 64] := by
  rw [enc_four h0 h1]; simp only [nums, List.map_cons, List.map_nil]; rw [u8 _ (by omega) (by omega), u8 _ (by omega) (by omega), u8 _ (by omega) (by omega), u8 _ (by omega) (by omega)]
  rw [Int.toNat_of_nonneg (by omega), Int.toNat_of_nonneg (by omega), Int.toNat_of_nonneg (by omega), Int.toNat_of_nonneg (by omega)]

/-- 'string(b)' of a row of bytes. -/
theorem run_string (w : World) (l : List UInt8) (p : Option Addr) (c : Nat) (hp : Row w .u8 p (nums l)) :
    (convert 44 9 (.slice p l.length c)).run Tryd.prog w = .ok (.string ⟨l.toArray⟩) w := by
  rcases hp with h | ⟨b, off, rfl, hlt, hc⟩
  · have : l = [] := by simpa [nums] using h
    subst this
    show (convert 44 9 (.slice p 0 c)).run Tryd.prog w = _
    rw [run_convert_bytes_string w 44 9 5 p 0 c Tryd.underlying44 Tryd.underlying5 Tryd.underlying9]
    cases p <;> simp [Conv.bytesToString, loadCells]
    all_goals rfl
  · exact run_convert_bytes_back w 44 9 5 ⟨b, off, none⟩ c l Tryd.underlying44 Tryd.underlying5 Tryd.underlying9 (fun j hj => by
      rw [Addr.add_lit, hc j (by simpa using hj), nums_getD _ _ hj]
      simp [List.getD, hj])
end Go.Proofs.YtjamkefndniljaaDoor.Sc
