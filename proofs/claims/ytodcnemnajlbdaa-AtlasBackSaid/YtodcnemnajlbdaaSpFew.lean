/-
  Layer span: the law's Few, its example.
-/
import Derived.Test.YtodcnemnajlbdaaSpWhole
namespace Go.Proofs.Ytodcnemnajlbdaa
open Go.RowKit Go.Gz

def FewP (ls : List SP) (w : World) (e : Ending) (w' : World) : Prop := ∃ b : Bool, e = .returned (.bool b) ∧ (b = true → ls.length ≤ 60) ∧ Below w.heap.size w w'

set_option maxHeartbeats 1000000 in
theorem few_any (ls : List SP) (p : Option Addr) (c : Nat) (w : World) (hp : Spans w p ls) (hn : ls.length ≤ 9223372036854775807) :
    Calls Try.prog 27 #[.slice p ls.length c] w (FewP ls w) := by
  have mx := mixedSp
  have HP := Lib.hid hp; clear hp
  have HF := Lib.hid (show ∀ b : Bool, ∀ w', (b = true → ls.length ≤ 60) → Below w.heap.size w w' → FewP ls w (.returned (.bool b)) w' from fun b w' h1 h2 => ⟨b, rfl, h1, h2⟩)
  obtain ⟨n, hln⟩ : ∃ n, ls.length = n := ⟨_, rfl⟩
  have HN := Lib.hid hln
  rw [hln] at hn HF ⊢
  clear hln
  go_enter Try.func27, Try.ntmps27
  go_wp2_with fail
  go_loopg [3, 4] n (fun gg s3 s4 wr => ∃ (i : Nat) (x : Int), i ≤ n ∧ n - i ≤ gg ∧ s3 = .int .i64 x ∧ s4 = .int .i64 i ∧ Hid (Below w.heap.size w wr))
  case atStart => exact ⟨0, 0, by omega, by omega, rfl, rfl, Lib.hid (Below.refl _ _)⟩
  case round =>
    obtain ⟨i, x, hin, hg, rfl, rfl, BW⟩ := hrel
    by_cases hlt : i < n
    · have hltz : (i : Int) < (n : Int) := by omega
      obtain ⟨b, o, rfl, hbl, c1, c2⟩ := span_cell HP.out BW.out (show i < ls.length by rw [HN.out]; exact hlt)
      obtain ⟨f, hf⟩ : ∃ f, ls[i]!.f = f := ⟨_, rfl⟩
      obtain ⟨t, ht⟩ : ∃ t, ls[i]!.t = t := ⟨_, rfl⟩
      rw [hf] at c1
      rw [ht] at c2
      clear hf ht
      go_wp2_with fail
      go_quiet (fail)
      go_wp2_with fail
      go_roundg (n - (i + 1))
      case measure => omega
      case rel => exact ⟨i + 1, _, by omega, by omega, rfl, by go_num, Lib.hid (below_drewN BW.out _)⟩
    · have hltz : ¬ (i : Int) < (n : Int) := by omega
      by_cases h60 : n ≤ 60
      · have h60z : (n : Int) ≤ 60 := by omega
        go_wp2_with fail
        all_goals
          go_ret
          exact HF.out _ _ (fun _ => h60) BW.out
      · have h60z : ¬ (n : Int) ≤ 60 := by omega
        go_wp2_with fail
        go_ret
        exact HF.out _ _ (fun h => by cases h) BW.out
end Go.Proofs.Ytodcnemnajlbdaa
