/-
  Layer parcel, the law's parts: awake, and whether asks and replies are short.
-/
import Derived.Test.YtjlkfoaccllflaaPcEnc
namespace Go.Proofs.Ytjlkfoaccllflaa
open Go.RowKit

/-- a truth is answered, and where it is yes there are few records. -/
def RetSm (n : Nat) (w : World) (e : Ending) (w' : World) : Prop := ∃ b, e = .returned (.bool b) ∧ (b = true → n ≤ 300) ∧ Below w.heap.size w w'
set_option maxHeartbeats 2000000 in
theorem smallReply_any (r : RepL) (p : Option Addr) (cap : Nat) (w : World) (hl : r.ls.length ≤ 9223372036854775807) (hp : Recs w p r.ls) :
    Calls Try.prog 18 #[repV r p cap] w (RetSm r.ls.length w) := by
  obtain ⟨c, s, er, fd, v, ls, nx, mr⟩ := r
  unfold repV
  simp only at hl hp ⊢
  have HP := Lib.hid hp
  obtain ⟨n, hN⟩ : ∃ n, ls.length = n := ⟨_, rfl⟩
  rw [hN] at hl ⊢
  have HN := Lib.hid hN
  have hnz : (n : Int) ≤ 9223372036854775807 := by omega
  have HB := Lib.hid (show Below w.heap.size w (w.alloc (.cells #[.int .i64 c, .int .i64 s, .int .i64 er, .bool fd, .string (strB v), .slice p n cap, .string (strB nx), .bool mr] 33)) from (Below.refl _ _).alloc (Nat.le_refl _) _)
  have HC := Lib.hid (fun i => box_cells (Below.refl (w.heap.size + 1) (w.alloc (.cells #[.int .i64 c, .int .i64 s, .int .i64 er, .bool fd, .string (strB v), .slice p n cap, .string (strB nx), .bool mr] 33))) i)
  generalize strB v = v at HB HC ⊢
  generalize strB nx = nx at HB HC ⊢
  clear hp hN hl
  go_enter Try.func18, Try.ntmps18
  go_wp2_with fail
  obtain ⟨W, hW⟩ : ∃ W, w.alloc (.cells #[.int .i64 c, .int .i64 s, .int .i64 er, .bool fd, .string v, .slice p n cap, .string nx, .bool mr] 33) = W := ⟨_, rfl⟩
  rw [hW] at HB HC ⊢
  clear hW
  go_loopw [3, 4] (fun x i wr => ∃ (k : Nat) (z : Int), k ≤ n ∧ i = .int .i64 k ∧ x = .int .i64 z ∧ Hid (∃ m, wr = W.drewN m)) (fun _ i _ => n - (intOf i).toNat)
  case atStart => exact ⟨0, _, Nat.zero_le _, rfl, rfl, Lib.hid ⟨0, rfl⟩⟩
  case round =>
    obtain ⟨k, z, hk, rfl, rfl, HM⟩ := hrel
    obtain ⟨m, rfl⟩ := HM.out
    have c5 := HC.out 5
    by_cases hlt : k < n
    · have hltz : (k : Int) < (n : Int) := by omega
      obtain ⟨b, o, hpe, hbl, r1, r2⟩ := rec_cell HP.out HB.out (show k < ls.length by rw [HN.out]; exact hlt)
      subst hpe
      generalize strB (ls.getD k ([], [])).1 = s1 at r1
      generalize strB (ls.getD k ([], [])).2 = s2 at r2
      go_wp2_with fail
      go_quiet (fail)
      go_wp2_with fail
      go_roundw
      case rel => exact ⟨k + 1, _, by omega, by go_num, rfl, Lib.hid ⟨_, rfl⟩⟩
      case measure => simp [intOf]; omega
    · obtain rfl : k = n := by omega
      have hltz : ¬ (k : Int) < (k : Int) := by omega
      have HB2 := Lib.hid (below_drewN HB.out m)
      by_cases h3 : k ≤ 300
      · have h3z : decide ((k : Int) ≤ 300) = true := by simp; omega
        go_wp2_with fail
        go_ret
        exact ⟨_, rfl, fun _ => h3, HB2.out⟩
      · have h3z : decide ((k : Int) ≤ 300) = false := by simp; omega
        go_wp2_with fail
        go_ret
        exact ⟨_, rfl, (fun h => by cases h), HB2.out⟩
end Go.Proofs.Ytjlkfoaccllflaa
