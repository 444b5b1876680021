/-
  The law's Same: two rows of elements that read alike are the same.
-/
import Derived.Test.YtcocmmndonlhkaaWeElem
namespace Go.Proofs.Ytcocmmndonlhkaa
open Go.RowKit Go.Gz Go.Sort

set_option maxHeartbeats 1000000 in
theorem sameE_yes (xs : List EL) (p q : Option Addr) (c d : Nat) (w : World) (hn : xs.length ≤ 1000000) (hp : Els w p xs) (hq : Els w q xs) :
    Calls Try.prog 8 #[.slice p xs.length c, .slice q xs.length d] w fun e w' => e = .returned (.bool true) ∧ Below w.heap.size w w' := by
  have HP := Lib.hid hp; clear hp
  have HQ := Lib.hid hq; clear hq
  have hne : ((xs.length : Int) != (xs.length : Int)) = false := by simp
  go_enter Try.func8, Try.ntmps8
  go_wp2
  go_loopw [5] (fun i wr => ∃ k : Nat, k ≤ xs.length ∧ i = .int .i64 k ∧ Below w.heap.size w wr) (fun i _ => xs.length - (intOf i).toNat)
  case atStart => exact ⟨0, Nat.zero_le _, rfl, Below.refl _ _⟩
  case round =>
    obtain ⟨k, hk, rfl, hb⟩ := hrel
    by_cases hlt : k < xs.length
    · obtain ⟨b, o, rfl, hbl, c1, c2, c3⟩ := HP.out.at_ hb hlt
      obtain ⟨b', o', rfl, hbl', d1, d2, d3⟩ := HQ.out.at_ hb hlt
      have hlt' : (k : Int) < (xs.length : Int) := by omega
      obtain ⟨x, hx⟩ : ∃ x, xs[k]! = x := ⟨_, rfl⟩
      rw [hx] at c1 c2 c3 d1 d2 d3
      clear hx
      go_wp2
      go_quiet (fail)
      go_wp2
      go_roundw
      case rel => exact ⟨k + 1, by omega, by go_num, below_drewN hb _⟩
      case measure => simp [intOf]; omega
    · go_wp2
      go_ret
      exact ⟨rfl, hb⟩
end Go.Proofs.Ytcocmmndonlhkaa
