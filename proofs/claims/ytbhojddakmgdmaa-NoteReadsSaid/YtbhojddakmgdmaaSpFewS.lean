/-
  Layer span: the law's Few, with what it sums.
-/
import Derived.Test.YtbhojddakmgdmaaMg13
import Derived.Test.YtbhojddakmgdmaaNtSum
namespace Go.Proofs.Ytbhojddakmgdmaa
open Go.RowKit Go.Gz

def FewSP (ls : List SP) (w : World) (e : Ending) (w' : World) : Prop := ∃ b : Bool, e = .returned (.bool b) ∧ (b = true → ls.length ≤ 60 ∧ wrap64 (sumZ szS ls) ≤ 3000) ∧ Below w.heap.size w w'

set_option maxHeartbeats 1000000 in
theorem fewS_any (ls : List SP) (p : Option Addr) (c : Nat) (w : World) (hp : Spans w p ls) (hn : ls.length ≤ 9223372036854775807) :
    Calls Try.prog 33 #[.slice p ls.length c] w (FewSP ls w) := by
  have mx := mixedSp
  have HP := Lib.hid hp; clear hp
  have HF := Lib.hid (show ∀ b : Bool, ∀ w', (b = true → ls.length ≤ 60 ∧ wrap64 (sumZ szS ls) ≤ 3000) → Below w.heap.size w w' → FewSP ls w (.returned (.bool b)) w' from fun b w' h1 h2 => ⟨b, rfl, h1, h2⟩)
  obtain ⟨n, hln⟩ : ∃ n, ls.length = n := ⟨_, rfl⟩
  have HN := Lib.hid hln
  rw [hln] at hn HF ⊢
  clear hln
  go_enter Try.func33, Try.ntmps33
  go_wp2_with fail
  go_loopg [3, 4] n (fun gg s3 s4 wr => ∃ (i : Nat) (x : Int), i ≤ n ∧ n - i ≤ gg ∧ s3 = .int .i64 x ∧ s4 = .int .i64 i ∧ Hid (x = wrap64 (sumZ szS (ls.take i))) ∧ Hid (Below w.heap.size w wr))
  case atStart => exact ⟨0, 0, by omega, by omega, rfl, rfl, Lib.hid (show (0 : Int) = wrap64 ((0 : Nat) : Int) from by unfold wrap64; omega), Lib.hid (Below.refl _ _)⟩
  case round =>
    obtain ⟨i, x, hin, hg, rfl, rfl, HX, BW⟩ := hrel
    by_cases hlt : i < n
    · have hltz : (i : Int) < (n : Int) := by omega
      obtain ⟨b, o, rfl, hbl, c1, c2⟩ := span_cell HP.out BW.out (show i < ls.length by rw [HN.out]; exact hlt)
      obtain ⟨f, hf⟩ : ∃ f, ls[i]!.f = f := ⟨_, rfl⟩
      obtain ⟨t, ht⟩ : ∃ t, ls[i]!.t = t := ⟨_, rfl⟩
      have HSU := Lib.hid (show wrap64 (wrap64 (x + f.size) + t.size) = wrap64 (sumZ szS (ls.take (i + 1))) from by
        rw [HX.out, sumZ_succ szS ls i (by rw [HN.out]; exact hlt)]
        show _ = wrap64 ((sumZ szS (ls.take i) + (ls[i]!.f.size + ls[i]!.t.size) : Nat) : Int)
        rw [hf, ht]
        exact wrap_two _ _ _)
      rw [hf] at c1
      rw [ht] at c2
      clear hf ht
      go_wp2_with fail
      go_quiet (fail)
      go_wp2_with fail
      go_roundg (n - (i + 1))
      case measure => omega
      case rel => exact ⟨i + 1, _, by omega, by omega, rfl, by go_num, HSU, Lib.hid (below_drewN BW.out _)⟩
    · have hltz : ¬ (i : Int) < (n : Int) := by omega
      obtain rfl : i = n := by omega
      have HXE := Lib.hid (show x = wrap64 (sumZ szS ls) by
        have := HX.out
        rwa [List.take_of_length_le (by rw [HN.out]; exact Nat.le_refl _)] at this)
      by_cases h60 : i ≤ 60
      · have h60z : (i : Int) ≤ 60 := by omega
        have h60d : decide ((i : Int) ≤ 60) = true := decide_eq_true h60z
        obtain ⟨b, hb⟩ : ∃ b : Bool, decide (x ≤ 3000) = b := ⟨_, rfl⟩
        have HQ := Lib.hid (HF.out b _ (fun h => ⟨h60, by
          have := HXE.out
          subst h
          have := of_decide_eq_true hb
          omega⟩) BW.out)
        go_wp2_with fail
        go_ret
        exact HQ.out
      · have h60z : ¬ (i : Int) ≤ 60 := by omega
        have h60d : decide ((i : Int) ≤ 60) = false := decide_eq_false h60z
        go_wp2_with fail
        go_ret
        exact HF.out _ _ (fun h => by cases h) BW.out
end Go.Proofs.Ytbhojddakmgdmaa
