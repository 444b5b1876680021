/-
  Layer span: Meet, Within.
-/
import Derived.Test.YtodcnemnajlbdaaSpHas
import Derived.Deep.RegionHeld3
namespace Go.Proofs.Ytodcnemnajlbdaa
open Go.RowKit Go.Gz

theorem mixedSp : Try.prog.follows .mixedOrders = true := by kernel_rfl

theorem eql_span (a b c d : ByteArray) (w : World) : (binOp .eql 38 (.agg #[.string a, .string b]) (.agg #[.string c, .string d])).run Try.prog w = .ok (.bool (decide ((⟨a, b⟩ : SP) = ⟨c, d⟩))) w := by
  have hl : ∀ x y : ByteArray, x.toList = y.toList → x = y := fun x y h => data_inj (by rw [← Lib.toList_data, ← Lib.toList_data]; exact h)
  by_cases h1 : a = c
  · by_cases h2 : b = d
    · subst h1; subst h2; simp [go_sem]
    · have h2' : ¬ b.toList = d.toList := fun h => h2 (hl _ _ h)
      simp [go_sem, h1, h2, h2']
  · have h1' : ¬ a.toList = c.toList := fun h => h1 (hl _ _ h)
    simp [go_sem, h1, h1']
end Go.Proofs.Ytodcnemnajlbdaa
