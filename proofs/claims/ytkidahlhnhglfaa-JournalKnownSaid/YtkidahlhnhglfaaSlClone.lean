/-
  Layer seal: bytes.Clone, size; what the call owns, in a world that grows.
-/
import Derived.Test.YtkidahlhnhglfaaSlFirst
import Derived.Test.YtkidahlhnhglfaaRegMono
import Derived.Test.YtkidahlhnhglfaaByBase
namespace Go.Proofs.Ytkidahlhnhglfaa
open Go.RowKit Go.Gz

theorem clone_any (l : List UInt8) (hl : l.length ≤ 900000) (p : Option Addr) (cap : Nat) (w : World) (hp : Row w .u8 p (nums l)) (hpc : p = none → cap = 0) :
    Calls Try.prog 78 #[.slice p l.length cap] w fun e w' => ∃ v, e = .returned v ∧ Own w' w.heap.size 5 .u8 v (nums l) ∧ Below w.heap.size w w' := by
  have HF := Lib.hid (show ∀ v w', Own w' w.heap.size 5 .u8 v (nums l) → Below w.heap.size w w' → ∃ v', Ending.returned v = .returned v' ∧ Own w' w.heap.size 5 .u8 v' (nums l) ∧ Below w.heap.size w w' from fun v w' h1 h2 => ⟨v, rfl, h1, h2⟩)
  have HP := Lib.hid hp
  have HPC := Lib.hid hpc
  cases p with
  | none =>
    obtain rfl : l = [] := by
      rcases hp with h | ⟨b, o, h, _⟩
      · simpa [nums] using h
      · cases h
    obtain rfl := hpc rfl
    clear hp hpc
    have he := fun w : World => Lib.run_eql_slice_nil (P := Try.prog) w 25 5 none 0 0 0 0 Try.underlying25
    go_enter Try.func78, Try.ntmps78
    go_wp2_with fail
    go_ret
    exact HF.out _ _ (Own.nil _ _ _ _) (Below.refl _ _)
  | some a =>
    clear hp hpc
    have hlz := Lib.hid hl
    have he := fun w : World => Lib.run_eql_slice_nil (P := Try.prog) w 25 5 (some a) l.length cap 0 0 Try.underlying25
    go_enter Try.func78, Try.ntmps78
    go_wp2_with (at_builtin; refine wpList_own_row rfl _ _ 25 rfl 5 .u8 1 Try.underlying25 info_byte (by decide) w.heap.size _ [] rfl (own_empty8 _ _ (Nat.le_refl _)) (some a) cap (nums l) (by rw [nums_length]; rfl) (HP.out.below ((Below.refl _ _).alloc (Nat.le_refl _) _)) HPC.out (by rw [nums_length]; have := hlz.out; simp; omega) (by simp) ?_)
    intro v1 w1 hown1 hgrow
    have HB1 := Lib.hid (((Below.refl w.heap.size w).alloc (Nat.le_refl _) (.cells #[] 5)).grown hgrow (by simp) (fun g hg => by simp [Value.ownBlock] at hg; omega))
    have HO1 := Lib.hid hown1
    clear hown1 hgrow
    go_wp2_with fail
    go_ret
    exact HF.out _ _ HO1.out HB1.out

theorem size_any (x : Int) (q : Option Addr) (m d : Nat) (hm : m ≤ 1000000) (w : World) :
    Calls Try.prog 79 #[.agg #[.int .u8 x, .slice q m d]] w fun e w' => e = .returned (.int .i64 ((7 + m : Nat) : Int)) ∧ Below w.heap.size w w' := by
  have hmz : (m : Int) ≤ 1000000 := by omega
  go_enter Try.func79, Try.ntmps79
  go_wp2_with fail
  go_ret
  exact ⟨ret_int (by omega), (Below.refl _ _).alloc (Nat.le_refl _) _⟩
end Go.Proofs.Ytkidahlhnhglfaa
