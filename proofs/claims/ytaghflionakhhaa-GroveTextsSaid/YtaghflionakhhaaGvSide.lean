/-
  Layer grove: what hangs on no type: sideOf, other, calm.
-/
import Derived.Test.YtaghflionakhhaaGvMem
import Derived.Recover
import Derived.Tactics2
import Derived.Laws.EntriesVeiled
import Derived.WalkSpells
namespace Go.Proofs.Ytaghflionakhhaa
open Go.RowKit

theorem mixedS : Try.prog.follows .mixedOrders = true := by kernel_rfl

/-- the program's number of a side. -/
def sd (s : Bool) : Int := cond s 1 0

theorem sideOf_low (c : Int) (w : World) (h : c < 0) : Calls Try.prog 82 #[.int .i64 c] w fun e w' => e = .returned (.int .i64 0) ∧ w = w' := by
  go_enter Try.func82, Try.ntmps82
  go_wp2_with fail
  go_ret
  exact ⟨rfl, rfl⟩
theorem sideOf_high (c : Int) (w : World) (h : ¬ c < 0) : Calls Try.prog 82 #[.int .i64 c] w fun e w' => e = .returned (.int .i64 1) ∧ w = w' := by
  go_enter Try.func82, Try.ntmps82
  go_wp2_with fail
  go_ret
  exact ⟨rfl, rfl⟩
theorem other_low (w : World) : Calls Try.prog 84 #[.int .i64 0] w fun e w' => e = .returned (.int .i64 1) ∧ w = w' := by
  go_enter Try.func84, Try.ntmps84
  go_wp2_with fail
  go_ret
  exact ⟨rfl, rfl⟩
theorem other_high (w : World) : Calls Try.prog 84 #[.int .i64 1] w fun e w' => e = .returned (.int .i64 0) ∧ w = w' := by
  go_enter Try.func84, Try.ntmps84
  go_wp2_with fail
  go_ret
  exact ⟨rfl, rfl⟩

theorem catch_any (w : World) :
    CallsD Try.prog 80 #[] .returning w fun e u' w' => e = .returned (.tuple #[]) ∧ u' = .returning ∧ w' = w := by
  refine callsD_of_wpS Try.func80 rfl fun c₀ cs hu => ?_
  apply wpS_region
  simp [wpOpsS, go_sem, recoverD, hu, Try.ntmps80]
  cases c₀
  simp_all [bodyPostS, results, Try.results80]

/-- calm calls what was handed in, and does no more where that returns. -/
theorem calm_any (g : FuncId) (lb : Array Value) (eg : ∀ args w, (callFunc g args).run Try.prog w = .ok (.enter g args) w) (w : World) (Q : World → Prop)
    (h : Calls Try.prog g lb w fun e w' => e = .returned (.tuple #[]) ∧ Q w') : Calls Try.prog 42 #[.func (.func g) #[] lb] w fun e w' => e = .returned (.tuple #[]) ∧ Q w' := by
  have H := Lib.hid h
  clear h
  go_enter_defers Try.func42, Try.ntmps42
  go_wp2_with fail
  refine H.out.mono ?_
  rintro e w1 ⟨rfl, hq⟩
  have HQ := Lib.hid hq
  clear hq
  go_wp2_with fail
  refine leaves_cons (f := 80) (args := #[]) (by simp) (by simp [go_sem]) ?_
  refine (catch_any _).mono ?_
  rintro e u' w'' ⟨rfl, rfl, rfl⟩
  simp [Leaves, settle, results, Try.results42, go_sem]
  exact HQ.out
end Go.Proofs.Ytaghflionakhhaa
